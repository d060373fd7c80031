/-
  FhistEqual: the walk.
-/
import Derived.Test.YtoaibabkkphlaaaGG
import Derived.Test.YtoaibabkkphlaaaGI
namespace Go.Proofs.Ytoaibabkkphlaaa
open Go.RowKit Mem Spans
set_option linter.unusedSimpArgs false
set_option linter.unusedVariables false
set_option maxRecDepth 100000


set_option maxHeartbeats 8000000 in
theorem hequals_walk (v0 : Value) (a : Fs) (v1 : Value) (b : Fs) (w : World) (w0 : FSrc w v0 a) (w1 : FSrc w v1 b) :
    Calls Try.prog 7 #[v0, v1] w fun e w' => e = .returned (.bool true) ∧ Below w.heap.size w w' := by
  have HA : Hid (∀ wx, Fr [] w wx → FSrc wx v0 a) := fun wx hx => w0.kept hx
  have HB : Hid (∀ wx, Fr [] w wx → FSrc wx v1 b) := fun wx hx => w1.kept hx
  obtain ⟨po, pc, no, nc, qo, qc, ro, rc, rfl, _⟩ := w0.opens
  obtain ⟨po2, pc2, no2, nc2, qo2, qc2, ro2, rc2, rfl, _⟩ := w1.opens
  clear w0 w1
  go_enter Try.func7, Try.ntmps7
  have HN : Hid (NineF ((w.alloc (.cells #[.int .i64 a.s, .int .u64 a.z, .int .u64 a.zc, .int .u64 a.c, .int .u64 a.sm, .slice po a.P.length pc, .slice no a.N.length nc, .slice qo a.pd.length qc, .slice ro a.nd.length rc] 26)).alloc (.cells #[.int .i64 b.s, .int .u64 b.z, .int .u64 b.zc, .int .u64 b.c, .int .u64 b.sm, .slice po2 b.P.length pc2, .slice no2 b.N.length nc2, .slice qo2 b.pd.length qc2, .slice ro2 b.nd.length rc2] 26)) w.heap.size #[.int .i64 a.s, .int .u64 a.z, .int .u64 a.zc, .int .u64 a.c, .int .u64 a.sm, .slice po a.P.length pc, .slice no a.N.length nc, .slice qo a.pd.length qc, .slice ro a.nd.length rc] ∧ NineF ((w.alloc (.cells #[.int .i64 a.s, .int .u64 a.z, .int .u64 a.zc, .int .u64 a.c, .int .u64 a.sm, .slice po a.P.length pc, .slice no a.N.length nc, .slice qo a.pd.length qc, .slice ro a.nd.length rc] 26)).alloc (.cells #[.int .i64 b.s, .int .u64 b.z, .int .u64 b.zc, .int .u64 b.c, .int .u64 b.sm, .slice po2 b.P.length pc2, .slice no2 b.N.length nc2, .slice qo2 b.pd.length qc2, .slice ro2 b.nd.length rc2] 26)) (w.heap.size + 1) #[.int .i64 b.s, .int .u64 b.z, .int .u64 b.zc, .int .u64 b.c, .int .u64 b.sm, .slice po2 b.P.length pc2, .slice no2 b.N.length nc2, .slice qo2 b.pd.length qc2, .slice ro2 b.nd.length rc2] ∧ Fr [] w ((w.alloc (.cells #[.int .i64 a.s, .int .u64 a.z, .int .u64 a.zc, .int .u64 a.c, .int .u64 a.sm, .slice po a.P.length pc, .slice no a.N.length nc, .slice qo a.pd.length qc, .slice ro a.nd.length rc] 26)).alloc (.cells #[.int .i64 b.s, .int .u64 b.z, .int .u64 b.zc, .int .u64 b.c, .int .u64 b.sm, .slice po2 b.P.length pc2, .slice no2 b.N.length nc2, .slice qo2 b.pd.length qc2, .slice ro2 b.nd.length rc2] 26))) := ⟨nineF_mid _ _ _, nineF_top _ _ _, ((Fr.refl [] w).alloc _).alloc _⟩
  go_wp2_with fail
  obtain ⟨hA3, hA6, hAF⟩ := HN.out
  clear HN
  generalize (w.alloc (.cells _ _)).alloc (.cells _ _) = wA at hA3 hA6 hAF ⊢
  refine (fsmall_any _ a wA (HA.out _ hAF)).mono ?_
  rintro e w1 ⟨r, rfl, hr, hf1⟩
  have HF1 : Hid (Fr [] w w1) := hAF.trans hf1 (by simp)
  have H3 : Hid (NineF w1 w.heap.size _) := hA3.kept hf1 (by simp)
  have H6 : Hid (NineF w1 (w.heap.size + 1) _) := hA6.kept hf1 (by simp)
  have HR : Hid (r = true → FewF a) := hr
  clear hf1 hr hA3 hA6 hAF
  cases r with
  | false =>
    go_wp2_with fail
    refine (awake10_any w1).mono ?_
    rintro e w2 ⟨rfl, hf2⟩
    have HF2 : Hid (Fr [] w w2) := HF1.out.trans hf2 (by simp)
    clear hf2
    go_wp2
    go_ret
    exact ⟨rfl, HF2.out.below (Nat.le_refl _) (by simp)⟩
  | true =>
    have HLA : Hid (a.P.length ≤ 1024 ∧ a.N.length ≤ 1024) := fewF_le (HR.out rfl)
    clear HR
    have d0 := H6.out.cell 0 rfl
    have d1 := H6.out.cell 1 rfl
    have d2 := H6.out.cell 2 rfl
    have d3 := H6.out.cell 3 rfl
    have d4 := H6.out.cell 4 rfl
    have d5 := H6.out.cell 5 rfl
    have d6 := H6.out.cell 6 rfl
    have d7 := H6.out.cell 7 rfl
    have d8 := H6.out.cell 8 rfl
    go_wp2_with fail
    refine (fsmall_any _ b w1 (HB.out _ HF1.out)).mono ?_
    rintro e w2 ⟨r2, rfl, hr, hf2⟩
    have HF2 : Hid (Fr [] w w2) := HF1.out.trans hf2 (by simp)
    have h3 := H3.out.kept hf2 (by simp)
    have h6 := H6.out.kept hf2 (by simp)
    have HR : Hid (r2 = true → FewF b) := hr
    clear hf2 hr H3 H6 HF1 d0 d1 d2 d3 d4 d5 d6 d7 d8
    cases r2 with
    | false =>
      clear h3 h6
      go_wp2_with fail
      refine (awake10_any w2).mono ?_
      rintro e w3 ⟨rfl, hf3⟩
      have HF3 : Hid (Fr [] w w3) := HF2.out.trans hf3 (by simp)
      clear hf3
      go_wp2
      go_ret
      exact ⟨rfl, HF3.out.below (Nat.le_refl _) (by simp)⟩
    | true =>
      have HLB : Hid (b.P.length ≤ 1024 ∧ b.N.length ≤ 1024) := fewF_le (HR.out rfl)
      have H3 : Hid (NineF w2 w.heap.size _) := h3
      have H6 : Hid (NineF w2 (w.heap.size + 1) _) := h6
      clear HR h3 h6
      have L0 : ∀ wx, Fr [] w2 wx → wx.cell? ⟨w.heap.size, 0, none⟩ = some (.int .i64 a.s) := fun wx hx => hx.cell_some (H3.out.cell 0 rfl) List.not_mem_nil
      have L1 : ∀ wx, Fr [] w2 wx → wx.cell? ⟨w.heap.size, 1, none⟩ = some (.int .u64 a.z) := fun wx hx => hx.cell_some (H3.out.cell 1 rfl) List.not_mem_nil
      have L2 : ∀ wx, Fr [] w2 wx → wx.cell? ⟨w.heap.size, 2, none⟩ = some (.int .u64 a.zc) := fun wx hx => hx.cell_some (H3.out.cell 2 rfl) List.not_mem_nil
      have L3 : ∀ wx, Fr [] w2 wx → wx.cell? ⟨w.heap.size, 3, none⟩ = some (.int .u64 a.c) := fun wx hx => hx.cell_some (H3.out.cell 3 rfl) List.not_mem_nil
      have L4 : ∀ wx, Fr [] w2 wx → wx.cell? ⟨w.heap.size, 4, none⟩ = some (.int .u64 a.sm) := fun wx hx => hx.cell_some (H3.out.cell 4 rfl) List.not_mem_nil
      have L5 : ∀ wx, Fr [] w2 wx → wx.cell? ⟨w.heap.size, 5, none⟩ = some (.slice po a.P.length pc) := fun wx hx => hx.cell_some (H3.out.cell 5 rfl) List.not_mem_nil
      have L6 : ∀ wx, Fr [] w2 wx → wx.cell? ⟨w.heap.size, 6, none⟩ = some (.slice no a.N.length nc) := fun wx hx => hx.cell_some (H3.out.cell 6 rfl) List.not_mem_nil
      have L7 : ∀ wx, Fr [] w2 wx → wx.cell? ⟨w.heap.size, 7, none⟩ = some (.slice qo a.pd.length qc) := fun wx hx => hx.cell_some (H3.out.cell 7 rfl) List.not_mem_nil
      have L8 : ∀ wx, Fr [] w2 wx → wx.cell? ⟨w.heap.size, 8, none⟩ = some (.slice ro a.nd.length rc) := fun wx hx => hx.cell_some (H3.out.cell 8 rfl) List.not_mem_nil
      have M0 : ∀ wx, Fr [] w2 wx → wx.cell? ⟨w.heap.size + 1, 0, none⟩ = some (.int .i64 b.s) := fun wx hx => hx.cell_some (H6.out.cell 0 rfl) List.not_mem_nil
      have M1 : ∀ wx, Fr [] w2 wx → wx.cell? ⟨w.heap.size + 1, 1, none⟩ = some (.int .u64 b.z) := fun wx hx => hx.cell_some (H6.out.cell 1 rfl) List.not_mem_nil
      have M2 : ∀ wx, Fr [] w2 wx → wx.cell? ⟨w.heap.size + 1, 2, none⟩ = some (.int .u64 b.zc) := fun wx hx => hx.cell_some (H6.out.cell 2 rfl) List.not_mem_nil
      have M3 : ∀ wx, Fr [] w2 wx → wx.cell? ⟨w.heap.size + 1, 3, none⟩ = some (.int .u64 b.c) := fun wx hx => hx.cell_some (H6.out.cell 3 rfl) List.not_mem_nil
      have M4 : ∀ wx, Fr [] w2 wx → wx.cell? ⟨w.heap.size + 1, 4, none⟩ = some (.int .u64 b.sm) := fun wx hx => hx.cell_some (H6.out.cell 4 rfl) List.not_mem_nil
      have M5 : ∀ wx, Fr [] w2 wx → wx.cell? ⟨w.heap.size + 1, 5, none⟩ = some (.slice po2 b.P.length pc2) := fun wx hx => hx.cell_some (H6.out.cell 5 rfl) List.not_mem_nil
      have M6 : ∀ wx, Fr [] w2 wx → wx.cell? ⟨w.heap.size + 1, 6, none⟩ = some (.slice no2 b.N.length nc2) := fun wx hx => hx.cell_some (H6.out.cell 6 rfl) List.not_mem_nil
      have M7 : ∀ wx, Fr [] w2 wx → wx.cell? ⟨w.heap.size + 1, 7, none⟩ = some (.slice qo2 b.pd.length qc2) := fun wx hx => hx.cell_some (H6.out.cell 7 rfl) List.not_mem_nil
      have M8 : ∀ wx, Fr [] w2 wx → wx.cell? ⟨w.heap.size + 1, 8, none⟩ = some (.slice ro2 b.nd.length rc2) := fun wx hx => hx.cell_some (H6.out.cell 8 rfl) List.not_mem_nil
      have HP1 : Hid (∀ wx, Fr [] w2 wx → Calls Try.prog 30 #[.agg #[.int .i64 a.s, .int .u64 a.z, .int .u64 a.zc, .int .u64 a.c, .int .u64 a.sm, .slice po a.P.length pc, .slice no a.N.length nc, .slice qo a.pd.length qc, .slice ro a.nd.length rc], .agg #[.int .i64 b.s, .int .u64 b.z, .int .u64 b.zc, .int .u64 b.c, .int .u64 b.sm, .slice po2 b.P.length pc2, .slice no2 b.N.length nc2, .slice qo2 b.pd.length qc2, .slice ro2 b.nd.length rc2]] wx fun e w' => e = .returned (.bool (feq a b)) ∧ Fr [] w2 w') := by
        intro wx hx
        refine (fequal_any _ _ a b wx (HA.out _ (HF2.out.trans hx (by simp))) (HB.out _ (HF2.out.trans hx (by simp)))).mono ?_
        rintro e w' ⟨rfl, hf⟩
        exact ⟨rfl, hx.trans hf (by simp)⟩
      have HP2 : Hid (∀ wx, Fr [] w2 wx → Calls Try.prog 16 #[.agg #[.int .i64 a.s, .int .u64 a.z, .int .u64 a.zc, .int .u64 a.c, .int .u64 a.sm, .slice po a.P.length pc, .slice no a.N.length nc, .slice qo a.pd.length qc, .slice ro a.nd.length rc]] wx fun e w' => ∃ u, e = .returned u ∧ FSrc w' u a ∧ Fr [] w2 w') := by
        intro wx hx
        refine (fref_any _ a wx (HA.out _ (HF2.out.trans hx (by simp))) HLA.out).mono ?_
        rintro e w' ⟨u, rfl, hu, hf⟩
        exact ⟨u, rfl, hu, hx.trans hf (by simp)⟩
      have HP3 : Hid (∀ wx, Fr [] w2 wx → Calls Try.prog 16 #[.agg #[.int .i64 b.s, .int .u64 b.z, .int .u64 b.zc, .int .u64 b.c, .int .u64 b.sm, .slice po2 b.P.length pc2, .slice no2 b.N.length nc2, .slice qo2 b.pd.length qc2, .slice ro2 b.nd.length rc2]] wx fun e w' => ∃ u, e = .returned u ∧ FSrc w' u b ∧ Fr [] wx w' ∧ Fr [] w2 w') := by
        intro wx hx
        refine (fref_any _ b wx (HB.out _ (HF2.out.trans hx (by simp))) HLB.out).mono ?_
        rintro e w' ⟨u, rfl, hu, hf⟩
        exact ⟨u, rfl, hu, hf, hx.trans hf (by simp)⟩
      have HP4 : Hid (∀ wx u u2, Fr [] w2 wx → FSrc wx u a → FSrc wx u2 b → Calls Try.prog 29 #[u, u2] wx fun e w' => e = .returned (.bool (feq a b)) ∧ Fr [] w2 w') := by
        intro wx u u2 hx hu hu2
        refine (lequal10_any _ _ a b wx hu hu2).mono ?_
        rintro e w' ⟨rfl, hf⟩
        exact ⟨by rw [freq_feq], hx.trans hf (by simp)⟩
      have HP5 : Hid (∀ wx, Fr [] w2 wx → Calls Try.prog 30 #[.agg #[.int .i64 b.s, .int .u64 b.z, .int .u64 b.zc, .int .u64 b.c, .int .u64 b.sm, .slice po2 b.P.length pc2, .slice no2 b.N.length nc2, .slice qo2 b.pd.length qc2, .slice ro2 b.nd.length rc2], .agg #[.int .i64 a.s, .int .u64 a.z, .int .u64 a.zc, .int .u64 a.c, .int .u64 a.sm, .slice po a.P.length pc, .slice no a.N.length nc, .slice qo a.pd.length qc, .slice ro a.nd.length rc]] wx fun e w' => e = .returned (.bool (feq a b)) ∧ Fr [] w2 w') := by
        intro wx hx
        refine (fequal_any _ _ b a wx (HB.out _ (HF2.out.trans hx (by simp))) (HA.out _ (HF2.out.trans hx (by simp)))).mono ?_
        rintro e w' ⟨rfl, hf⟩
        exact ⟨by rw [feq_comm], hx.trans hf (by simp)⟩
      have HP8 : Hid (∀ wx, Fr [] w2 wx → Calls Try.prog 13 #[] wx fun e w' => e = .returned (.bool true) ∧ Fr [] w2 w') := by
        intro wx hx
        refine (awake10_any wx).mono ?_
        rintro e w' ⟨rfl, hf⟩
        exact ⟨rfl, hx.trans hf (by simp)⟩
      generalize feq a b = R at *
      have F0 : Fr [] w2 w2.drew := (Fr.refl _ _).drew
      go_wp2_with fail
      go_region_held3 (fun w' => w'.cell? ⟨w.heap.size, 0, none⟩ = some (.int .i64 a.s) ∧ w'.cell? ⟨w.heap.size, 1, none⟩ = some (.int .u64 a.z) ∧ w'.cell? ⟨w.heap.size, 2, none⟩ = some (.int .u64 a.zc) ∧ w'.cell? ⟨w.heap.size, 3, none⟩ = some (.int .u64 a.c) ∧ w'.cell? ⟨w.heap.size, 4, none⟩ = some (.int .u64 a.sm) ∧ w'.cell? ⟨w.heap.size, 5, none⟩ = some (.slice po a.P.length pc) ∧ w'.cell? ⟨w.heap.size, 6, none⟩ = some (.slice no a.N.length nc) ∧ w'.cell? ⟨w.heap.size, 7, none⟩ = some (.slice qo a.pd.length qc) ∧ w'.cell? ⟨w.heap.size, 8, none⟩ = some (.slice ro a.nd.length rc) ∧ w'.cell? ⟨w.heap.size + 1, 0, none⟩ = some (.int .i64 b.s) ∧ w'.cell? ⟨w.heap.size + 1, 1, none⟩ = some (.int .u64 b.z) ∧ w'.cell? ⟨w.heap.size + 1, 2, none⟩ = some (.int .u64 b.zc) ∧ w'.cell? ⟨w.heap.size + 1, 3, none⟩ = some (.int .u64 b.c) ∧ w'.cell? ⟨w.heap.size + 1, 4, none⟩ = some (.int .u64 b.sm) ∧ w'.cell? ⟨w.heap.size + 1, 5, none⟩ = some (.slice po2 b.P.length pc2) ∧ w'.cell? ⟨w.heap.size + 1, 6, none⟩ = some (.slice no2 b.N.length nc2) ∧ w'.cell? ⟨w.heap.size + 1, 7, none⟩ = some (.slice qo2 b.pd.length qc2) ∧ w'.cell? ⟨w.heap.size + 1, 8, none⟩ = some (.slice ro2 b.nd.length rc2)) (go_keep) (first
        | (go_at_call 30; first
          | (with_reducible refine (HP1.out _ F0).mono ?_; rintro e wa ⟨rfl, hfa⟩)
          | (with_reducible refine (HP5.out _ hfd).mono ?_; rintro e we ⟨rfl, hfe⟩)
          | (with_reducible refine (HP1.out _ hfe).mono ?_; rintro e wf ⟨rfl, hff⟩))
        | (go_at_call 16; first
          | (with_reducible refine (HP2.out _ hfa).mono ?_; rintro e wb ⟨ub, rfl, hub, hfb⟩)
          | (with_reducible refine (HP3.out _ hfb).mono ?_; rintro e wc ⟨uc, rfl, huc, hfbc, hfc⟩))
        | (go_at_call 29; with_reducible refine (HP4.out _ _ _ hfc (hub.kept hfbc) huc).mono ?_; rintro e wd ⟨rfl, hfd⟩)
        | (go_at_call 13; with_reducible refine (HP8.out _ hff).mono ?_; rintro e wi ⟨rfl, hfi⟩))
      all_goals (go_wp2_with fail)
      all_goals (go_ret)
      all_goals exact ⟨rfl, (HF2.out.trans hfi (by simp)).below (Nat.le_refl _) (by simp)⟩
end Go.Proofs.Ytoaibabkkphlaaa
