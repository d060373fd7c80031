/-
  FhistChecks: the walk.
-/
import Derived.Test.YtoaibabkkphlaaaGF
namespace Go.Proofs.Ytoaibabkkphlaaa
open Go.RowKit Mem Spans
set_option linter.unusedSimpArgs false
set_option linter.unusedVariables false
set_option maxRecDepth 100000

theorem fewF_le {h : Fs} (k : FewF h) : h.P.length ≤ 1024 ∧ h.N.length ≤ 1024 := by obtain ⟨h1, h2, _⟩ := k; omega

set_option maxHeartbeats 4000000 in
theorem fchecks_walk (v0 : Value) (h : Fs) (v : Int) (w : World) (w0 : FSrc w v0 h) (w1 : (Lit.int .u64 v).wf = true) :
    Calls Try.prog 3 #[v0, .int .u64 v] w fun e w' => e = .returned (.bool true) ∧ Below w.heap.size w w' := by
  have HV : Hid (inu v) := of_wf w1
  have HH : Hid (∀ wx, Fr [] w wx → FSrc wx v0 h) := fun wx hx => w0.kept hx
  obtain ⟨po, pc, no, nc, qo, qc, ro, rc, rfl, _⟩ := w0.opens
  clear w0 w1
  go_enter Try.func3, Try.ntmps3
  have HN0 : Hid (NineF (w.alloc (.cells #[.int .i64 h.s, .int .u64 h.z, .int .u64 h.zc, .int .u64 h.c, .int .u64 h.sm, .slice po h.P.length pc, .slice no h.N.length nc, .slice qo h.pd.length qc, .slice ro h.nd.length rc] 26)) w.heap.size #[.int .i64 h.s, .int .u64 h.z, .int .u64 h.zc, .int .u64 h.c, .int .u64 h.sm, .slice po h.P.length pc, .slice no h.N.length nc, .slice qo h.pd.length qc, .slice ro h.nd.length rc]) := NineF.new _ _
  have HF0 : Hid (Fr [] w (w.alloc (.cells #[.int .i64 h.s, .int .u64 h.z, .int .u64 h.zc, .int .u64 h.c, .int .u64 h.sm, .slice po h.P.length pc, .slice no h.N.length nc, .slice qo h.pd.length qc, .slice ro h.nd.length rc] 26))) := (Fr.refl [] w).alloc _
  go_wp2_with fail
  refine (fsmall_any _ h _ (HH.out _ HF0.out)).mono ?_
  rintro e w1 ⟨r, rfl, hr, hf1⟩
  have HF1 : Hid (Fr [] w w1) := HF0.out.trans hf1 (by simp)
  have HN1 : Hid (NineF w1 w.heap.size _) := HN0.out.kept hf1 (by simp)
  have HR : Hid (r = true → FewF h) := hr
  clear hf1 hr HN0 HF0
  cases r with
  | false =>
    go_wp2_with fail
    refine (awake10_any w1).mono ?_
    rintro e w2 ⟨rfl, hf2⟩
    have HF2 : Hid (Fr [] w w2) := HF1.out.trans hf2 (by simp)
    clear hf2
    go_wp2
    go_ret
    exact ⟨rfl, HF2.out.below (Nat.le_refl _) (by simp)⟩
  | true =>
    have HL := fewF_le (HR.out rfl)
    have HLE : Hid (h.P.length ≤ 1024 ∧ h.N.length ≤ 1024) := HL
    clear HL HR
    have L0 : ∀ wx, Fr [] w1 wx → wx.cell? ⟨w.heap.size, 0, none⟩ = some (.int .i64 h.s) := fun wx hx => hx.cell_some (HN1.out.cell 0 rfl) List.not_mem_nil
    have L1 : ∀ wx, Fr [] w1 wx → wx.cell? ⟨w.heap.size, 1, none⟩ = some (.int .u64 h.z) := fun wx hx => hx.cell_some (HN1.out.cell 1 rfl) List.not_mem_nil
    have L2 : ∀ wx, Fr [] w1 wx → wx.cell? ⟨w.heap.size, 2, none⟩ = some (.int .u64 h.zc) := fun wx hx => hx.cell_some (HN1.out.cell 2 rfl) List.not_mem_nil
    have L3 : ∀ wx, Fr [] w1 wx → wx.cell? ⟨w.heap.size, 3, none⟩ = some (.int .u64 h.c) := fun wx hx => hx.cell_some (HN1.out.cell 3 rfl) List.not_mem_nil
    have L4 : ∀ wx, Fr [] w1 wx → wx.cell? ⟨w.heap.size, 4, none⟩ = some (.int .u64 h.sm) := fun wx hx => hx.cell_some (HN1.out.cell 4 rfl) List.not_mem_nil
    have L5 : ∀ wx, Fr [] w1 wx → wx.cell? ⟨w.heap.size, 5, none⟩ = some (.slice po h.P.length pc) := fun wx hx => hx.cell_some (HN1.out.cell 5 rfl) List.not_mem_nil
    have L6 : ∀ wx, Fr [] w1 wx → wx.cell? ⟨w.heap.size, 6, none⟩ = some (.slice no h.N.length nc) := fun wx hx => hx.cell_some (HN1.out.cell 6 rfl) List.not_mem_nil
    have L7 : ∀ wx, Fr [] w1 wx → wx.cell? ⟨w.heap.size, 7, none⟩ = some (.slice qo h.pd.length qc) := fun wx hx => hx.cell_some (HN1.out.cell 7 rfl) List.not_mem_nil
    have L8 : ∀ wx, Fr [] w1 wx → wx.cell? ⟨w.heap.size, 8, none⟩ = some (.slice ro h.nd.length rc) := fun wx hx => hx.cell_some (HN1.out.cell 8 rfl) List.not_mem_nil
    have HP1 : Hid (∀ wx, Fr [] w1 wx → Calls Try.prog 14 #[.agg #[.int .i64 h.s, .int .u64 h.z, .int .u64 h.zc, .int .u64 h.c, .int .u64 h.sm, .slice po h.P.length pc, .slice no h.N.length nc, .slice qo h.pd.length qc, .slice ro h.nd.length rc]] wx fun e w' => e = .returned (.int .i64 (fce h)) ∧ Fr [] w1 w') := by
      intro wx hx
      refine (fcheck_any _ h wx (HH.out _ (HF1.out.trans hx (by simp)))).mono ?_
      rintro e w' ⟨rfl, hf⟩
      exact ⟨rfl, hx.trans hf (by simp)⟩
    have HP2 : Hid (∀ wx, Fr [] w1 wx → Calls Try.prog 16 #[.agg #[.int .i64 h.s, .int .u64 h.z, .int .u64 h.zc, .int .u64 h.c, .int .u64 h.sm, .slice po h.P.length pc, .slice no h.N.length nc, .slice qo h.pd.length qc, .slice ro h.nd.length rc]] wx fun e w' => ∃ u, e = .returned u ∧ FSrc w' u h ∧ Fr [] w1 w') := by
      intro wx hx
      refine (fref_any _ h wx (HH.out _ (HF1.out.trans hx (by simp))) HLE.out).mono ?_
      rintro e w' ⟨u, rfl, hu, hf⟩
      exact ⟨u, rfl, hu, hx.trans hf (by simp)⟩
    have HP3 : Hid (∀ wx u, Fr [] w1 wx → FSrc wx u h → Calls Try.prog 15 #[u] wx fun e w' => e = .returned (.int .i64 (fce h)) ∧ Fr [] w1 w') := by
      intro wx u hx hu
      refine (lcheck10_any _ h wx hu).mono ?_
      rintro e w' ⟨rfl, hf⟩
      exact ⟨rfl, hx.trans hf (by simp)⟩
    have HP4 : Hid (∀ wx, Fr [] w1 wx → Calls Try.prog 13 #[] wx fun e w' => e = .returned (.bool true) ∧ Fr [] w1 w') := by
      intro wx hx
      refine (awake10_any wx).mono ?_
      rintro e w' ⟨rfl, hf⟩
      exact ⟨rfl, hx.trans hf (by simp)⟩
    have HP5 : Hid (∀ wx, Calls Try.prog 17 #[.int .u64 v] wx fun e w' => e = .returned (.bool (rgt v)) ∧ wx = w') := fun wx => right_any v wx
    have HP6 : Hid (∀ wx, Calls Try.prog 18 #[.int .u64 v] wx fun e w' => e = .returned (.bool (rgt v)) ∧ wx = w') := fun wx => lright10_any v wx
    generalize fce h = C at *
    generalize rgt v = NN at *
    have F0 : Fr [] w1 w1.drew := (Fr.refl _ _).drew
    go_wp2_with fail
    go_region_held3 (fun w' => w'.cell? ⟨w.heap.size, 0, none⟩ = some (.int .i64 h.s) ∧ w'.cell? ⟨w.heap.size, 1, none⟩ = some (.int .u64 h.z) ∧ w'.cell? ⟨w.heap.size, 2, none⟩ = some (.int .u64 h.zc) ∧ w'.cell? ⟨w.heap.size, 3, none⟩ = some (.int .u64 h.c) ∧ w'.cell? ⟨w.heap.size, 4, none⟩ = some (.int .u64 h.sm) ∧ w'.cell? ⟨w.heap.size, 5, none⟩ = some (.slice po h.P.length pc) ∧ w'.cell? ⟨w.heap.size, 6, none⟩ = some (.slice no h.N.length nc) ∧ w'.cell? ⟨w.heap.size, 7, none⟩ = some (.slice qo h.pd.length qc) ∧ w'.cell? ⟨w.heap.size, 8, none⟩ = some (.slice ro h.nd.length rc)) (go_keep) (first
      | (go_at_call 14; with_reducible refine (HP1.out _ F0).mono ?_; rintro e wa ⟨rfl, hfa⟩)
      | (go_at_call 16; with_reducible refine (HP2.out _ hfa).mono ?_; rintro e wb ⟨ub, rfl, hub, hfb⟩)
      | (go_at_call 15; with_reducible refine (HP3.out _ _ hfb hub).mono ?_; rintro e wc ⟨rfl, hfc⟩)
      | (go_at_call 17; with_reducible refine (HP5.out _).mono ?_; rintro e wd ⟨rfl, rfl⟩)
      | (go_at_call 18; with_reducible refine (HP6.out _).mono ?_; rintro e we ⟨rfl, rfl⟩)
      | (go_at_call 13; with_reducible refine (HP4.out _ hfc).mono ?_; rintro e wh ⟨rfl, hfh⟩))
    all_goals (go_wp2_with fail)
    all_goals (go_ret)
    all_goals exact ⟨rfl, (HF1.out.trans hfh (by simp)).below (Nat.le_refl _) (by simp)⟩
end Go.Proofs.Ytoaibabkkphlaaa
