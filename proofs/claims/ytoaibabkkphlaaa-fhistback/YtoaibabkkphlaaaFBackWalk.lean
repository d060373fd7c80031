/-
  FhistBack: the walk.
-/
import Derived.Test.YtoaibabkkphlaaaGG
import Derived.Test.YtoaibabkkphlaaaGJ
import Derived.Test.YtoaibabkkphlaaaGK
namespace Go.Proofs.Ytoaibabkkphlaaa
open Go.RowKit Mem Spans
set_option linter.unusedSimpArgs false
set_option linter.unusedVariables false
set_option maxRecDepth 100000

theorem fsrc4 {w : World} {h : Fs} {s z zc c sm : Value} {a1 a2 a3 a4 : Option Addr} {n1 n2 n3 n4 c1 c2 c3 c4 : Nat} (k : FSrc w (.agg #[s, z, zc, c, sm, .slice a1 n1 c1, .slice a2 n2 c2, .slice a3 n3 c3, .slice a4 n4 c4]) h) :
    SSrc w (.slice a1 n1 c1) h.P ∧ SSrc w (.slice a2 n2 c2) h.N ∧ USrc w (.slice a3 n3 c3) h.pd ∧ USrc w (.slice a4 n4 c4) h.nd := by
  obtain ⟨_, _, _, _, hv, _, _, k1, k2, k3, k4⟩ := k
  simp only [Value.agg.injEq, Array.mk.injEq, List.cons.injEq, and_true, true_and] at hv
  obtain ⟨rfl, rfl, rfl, rfl, rfl, h1, h2, h3, h4⟩ := hv
  exact ⟨h1 ▸ k1, h2 ▸ k2, h3 ▸ k3, h4 ▸ k4⟩

set_option maxHeartbeats 8000000 in
theorem fback_walk (v0 : Value) (h : Fs) (w : World) (w0 : FSrc w v0 h) :
    Calls Try.prog 11 #[v0] w fun e w' => e = .returned (.bool true) ∧ Below w.heap.size w w' := by
  have HH : Hid (∀ wx, Fr [] w wx → FSrc wx v0 h) := fun wx hx => w0.kept hx
  obtain ⟨po, pc, no, nc, qo, qc, ro, rc, rfl, _⟩ := w0.opens
  have HFI : Hid (fin9 h) := w0.fin
  have HINU : Hid (inu h.zc ∧ inu h.c) := by obtain ⟨_, _, _, _, _, _, _, _, _, hi, _⟩ := w0.opens; exact ⟨hi.2.2.1, hi.2.2.2.1⟩
  clear w0
  go_enter Try.func11, Try.ntmps11
  have HN0 : Hid (NineF (w.alloc (.cells #[.int .i64 h.s, .int .u64 h.z, .int .u64 h.zc, .int .u64 h.c, .int .u64 h.sm, .slice po h.P.length pc, .slice no h.N.length nc, .slice qo h.pd.length qc, .slice ro h.nd.length rc] 26)) w.heap.size #[.int .i64 h.s, .int .u64 h.z, .int .u64 h.zc, .int .u64 h.c, .int .u64 h.sm, .slice po h.P.length pc, .slice no h.N.length nc, .slice qo h.pd.length qc, .slice ro h.nd.length rc]) := NineF.new _ _
  have HF0 : Hid (Fr [] w (w.alloc (.cells #[.int .i64 h.s, .int .u64 h.z, .int .u64 h.zc, .int .u64 h.c, .int .u64 h.sm, .slice po h.P.length pc, .slice no h.N.length nc, .slice qo h.pd.length qc, .slice ro h.nd.length rc] 26))) := (Fr.refl [] w).alloc _
  go_wp2_with fail
  refine (fsmall_any _ h _ (HH.out _ HF0.out)).mono ?_
  rintro e w1 ⟨r, rfl, hr, hf1⟩
  have HF1 : Hid (Fr [] w w1) := HF0.out.trans hf1 (by simp)
  have HN1 : Hid (NineF w1 w.heap.size _) := HN0.out.kept hf1 (by simp)
  have HR : Hid (r = true → FewF h) := hr
  clear hf1 hr HN0 HF0
  cases r with
  | false =>
    go_wp2_with fail
    refine (awake10_any w1).mono ?_
    rintro e w2 ⟨rfl, hf2⟩
    have HF2 : Hid (Fr [] w w2) := HF1.out.trans hf2 (by simp)
    clear hf2
    go_wp2
    go_ret
    exact ⟨rfl, HF2.out.below (Nat.le_refl _) (by simp)⟩
  | true =>
    have HFEW : Hid (FewF h) := HR.out rfl
    clear HR
    have q0 := HN1.out.cell 0 rfl
    have q1 := HN1.out.cell 1 rfl
    have q2 := HN1.out.cell 2 rfl
    have q3 := HN1.out.cell 3 rfl
    have q4 := HN1.out.cell 4 rfl
    have q5 := HN1.out.cell 5 rfl
    have q6 := HN1.out.cell 6 rfl
    have q7 := HN1.out.cell 7 rfl
    have q8 := HN1.out.cell 8 rfl
    go_wp2_with fail
    refine (back_any _ h w1 (HH.out _ HF1.out)).mono ?_
    rintro e w2 ⟨u, rfl, hu, hf2⟩
    have HBH : Hid (bkh h = if bke h = 0 then bks h else hzero) := rfl
    generalize bkh h = c at hu HBH
    obtain ⟨ca1, cc1, ca2, cc2, ca3, cc3, ca4, cc4, rfl, -⟩ := hu.src.opens
    have HNA : Hid (Nine (w2.alloc (.cells #[.int .i64 c.s, .int .u64 c.z, .int .u64 c.zc, .int .u64 c.c, .int .u64 c.sm, .slice ca1 c.P.length cc1, .slice ca2 c.N.length cc2, .slice ca3 c.pd.length cc3, .slice ca4 c.nd.length cc4] 70)) w2.heap.size #[.int .i64 c.s, .int .u64 c.z, .int .u64 c.zc, .int .u64 c.c, .int .u64 c.sm, .slice ca1 c.P.length cc1, .slice ca2 c.N.length cc2, .slice ca3 c.pd.length cc3, .slice ca4 c.nd.length cc4]) := Nine.new _ _
    have HWA : Hid (Fr [] w (w2.alloc (.cells #[.int .i64 c.s, .int .u64 c.z, .int .u64 c.zc, .int .u64 c.c, .int .u64 c.sm, .slice ca1 c.P.length cc1, .slice ca2 c.N.length cc2, .slice ca3 c.pd.length cc3, .slice ca4 c.nd.length cc4] 70)) ∧ Fr [] w1 (w2.alloc (.cells #[.int .i64 c.s, .int .u64 c.z, .int .u64 c.zc, .int .u64 c.c, .int .u64 c.sm, .slice ca1 c.P.length cc1, .slice ca2 c.N.length cc2, .slice ca3 c.pd.length cc3, .slice ca4 c.nd.length cc4] 70))) := ⟨(HF1.out.trans hf2 (by simp)).alloc _, hf2.alloc _⟩
    have HCA : Hid (HSrc (w2.alloc (.cells #[.int .i64 c.s, .int .u64 c.z, .int .u64 c.zc, .int .u64 c.c, .int .u64 c.sm, .slice ca1 c.P.length cc1, .slice ca2 c.N.length cc2, .slice ca3 c.pd.length cc3, .slice ca4 c.nd.length cc4] 70)) (.agg #[.int .i64 c.s, .int .u64 c.z, .int .u64 c.zc, .int .u64 c.c, .int .u64 c.sm, .slice ca1 c.P.length cc1, .slice ca2 c.N.length cc2, .slice ca3 c.pd.length cc3, .slice ca4 c.nd.length cc4]) c) := hu.src.kept ((Fr.refl [] _).alloc _)
    clear hu hf2 q0 q1 q2 q3 q4 q5 q6 q7 q8
    go_upto_region 4 with fail
    generalize w2.alloc (.cells _ _) = wA at HNA HWA HCA ⊢
    generalize w2.heap.size = G3 at HNA ⊢
    have HF2 : Hid (Fr [] w wA) := HWA.out.1
    have HN2 : Hid (NineF wA w.heap.size #[.int .i64 h.s, .int .u64 h.z, .int .u64 h.zc, .int .u64 h.c, .int .u64 h.sm, .slice po h.P.length pc, .slice no h.N.length nc, .slice qo h.pd.length qc, .slice ro h.nd.length rc]) := HN1.out.kept HWA.out.2 (by simp)
    clear HWA HN1 HF1
    have HLE : Hid (h.P.length ≤ 1024 ∧ h.N.length ≤ 1024) := fewF_le HFEW.out
    have q0 := HN2.out.cell 0 rfl
    have q1 := HN2.out.cell 1 rfl
    have q2 := HN2.out.cell 2 rfl
    have q3 := HN2.out.cell 3 rfl
    have q4 := HN2.out.cell 4 rfl
    have q5 := HN2.out.cell 5 rfl
    have q6 := HN2.out.cell 6 rfl
    have q7 := HN2.out.cell 7 rfl
    have q8 := HN2.out.cell 8 rfl
    go_wp2_with fail
    refine (fref_any _ h wA (HH.out _ HF2.out) HLE.out).mono ?_
    rintro e w3 ⟨u3, rfl, hu3, hf3⟩
    have HU3 : Hid (FSrc w3 u3 h) := hu3
    have HFA3 : Hid (Fr [] wA w3) := hf3
    clear hu3 hf3 q0 q1 q2 q3 q4 q5 q6 q7 q8
    go_wp2_with fail
    refine (lcheck10_any _ h w3 HU3.out).mono ?_
    rintro e w4 ⟨rfl, hf4⟩
    have HFA4 : Hid (Fr [] wA w4) := HFA3.out.trans hf4 (by simp)
    have HF4 : Hid (Fr [] w w4) := HF2.out.trans HFA4.out (by simp)
    have HN4 : Hid (NineF w4 w.heap.size #[.int .i64 h.s, .int .u64 h.z, .int .u64 h.zc, .int .u64 h.c, .int .u64 h.sm, .slice po h.P.length pc, .slice no h.N.length nc, .slice qo h.pd.length qc, .slice ro h.nd.length rc]) := HN2.out.kept HFA4.out (by simp)
    have HG4 : Hid (Nine w4 G3 #[.int .i64 c.s, .int .u64 c.z, .int .u64 c.zc, .int .u64 c.c, .int .u64 c.sm, .slice ca1 c.P.length cc1, .slice ca2 c.N.length cc2, .slice ca3 c.pd.length cc3, .slice ca4 c.nd.length cc4]) := HNA.out.kept HFA4.out (by simp)
    have HC4 : Hid (HSrc w4 (.agg #[.int .i64 c.s, .int .u64 c.z, .int .u64 c.zc, .int .u64 c.c, .int .u64 c.sm, .slice ca1 c.P.length cc1, .slice ca2 c.N.length cc2, .slice ca3 c.pd.length cc3, .slice ca4 c.nd.length cc4]) c) := HCA.out.kept HFA4.out
    clear hf4 HFA3 HFA4 HU3 HF2 HN2 HNA HCA
    by_cases hk : fce h = 0
    case neg =>
      have he : bke h = fce h := by unfold bke; rw [if_neg hk]
      have hb : (fce h != 0) = true := by simpa using hk
      rw [he]
      clear he
      generalize fce h = C at *
      go_wp2_with fail
      refine (awake10_any w4).mono ?_
      rintro e w6 ⟨rfl, hf6⟩
      have HF6 : Hid (Fr [] w w6) := HF4.out.trans hf6 (by simp)
      clear hf6
      go_wp2
      go_ret
      exact ⟨rfl, HF6.out.below (Nat.le_refl _) (by simp)⟩
    have HK : Hid (fce h = 0) := hk
    rw [hk]
    clear hk
    have q0 := HN4.out.cell 0 rfl
    have q1 := HN4.out.cell 1 rfl
    have q2 := HN4.out.cell 2 rfl
    have q3 := HN4.out.cell 3 rfl
    have q4 := HN4.out.cell 4 rfl
    have q5 := HN4.out.cell 5 rfl
    have q6 := HN4.out.cell 6 rfl
    have q7 := HN4.out.cell 7 rfl
    have q8 := HN4.out.cell 8 rfl
    obtain ⟨hsc3, hsc4⟩ : USrc w4 (.slice qo h.pd.length qc) h.pd ∧ USrc w4 (.slice ro h.nd.length rc) h.nd := by
      obtain ⟨_, _, _, _, hv, _, _, k1, k2, k3, k4⟩ := HH.out _ HF4.out
      simp only [Value.agg.injEq, Array.mk.injEq, List.cons.injEq, and_true, true_and] at hv
      obtain ⟨rfl, rfl, rfl, rfl⟩ := hv
      exact ⟨k3, k4⟩
    have HSC : Hid (USrc w4 (.slice qo h.pd.length qc) h.pd ∧ USrc w4 (.slice ro h.nd.length rc) h.nd) := ⟨hsc3, hsc4⟩
    clear hsc3 hsc4
    have ne0 : w.heap.size ≠ w4.heap.size := by have := HN4.out.lt; omega
    have ne1 : w4.heap.size ≠ w.heap.size := fun h => ne0 h.symm
    have F0 : Fr [] w4 w4.drew := (Fr.refl _ _).drew
    have FL : Fr [] w4 (World.drew (w4.alloc (.cells #[.int .u64 h.zc, .int .u64 h.c] 22))) := ((Fr.refl _ _).alloc _).drew
    have OL : Hid (OU w4.heap.size (World.drew (w4.alloc (.cells #[.int .u64 h.zc, .int .u64 h.c] 22))) (.slice (some ⟨w4.heap.size, 0, none⟩) 2 2) [h.zc, h.c]) := (OU.lit w4 [h.zc, h.c] (Nat.le_refl _) (by unfold maxLen; simp)).kept (Fr.refl _ _).drew
    have L2 : ∀ wx, Fr [] w4 wx → wx.cell? ⟨w.heap.size, 2, none⟩ = some (.int .u64 h.zc) := fun wx hx => hx.cell_some (HN4.out.cell 2 rfl) List.not_mem_nil
    have L3 : ∀ wx, Fr [] w4 wx → wx.cell? ⟨w.heap.size, 3, none⟩ = some (.int .u64 h.c) := fun wx hx => hx.cell_some (HN4.out.cell 3 rfl) List.not_mem_nil
    have L7 : ∀ wx, Fr [] w4 wx → wx.cell? ⟨w.heap.size, 7, none⟩ = some (.slice qo h.pd.length qc) := fun wx hx => hx.cell_some (HN4.out.cell 7 rfl) List.not_mem_nil
    have L8 : ∀ wx, Fr [] w4 wx → wx.cell? ⟨w.heap.size, 8, none⟩ = some (.slice ro h.nd.length rc) := fun wx hx => hx.cell_some (HN4.out.cell 8 rfl) List.not_mem_nil
    have hl0 : [h.zc, h.c].length + h.pd.length ≤ 1000000 := by have := HFEW.out.2.2.1; simp; omega
    obtain ⟨D, hD⟩ : ∃ D, D = [h.zc, h.c] ++ h.pd := ⟨_, rfl⟩
    obtain ⟨A, hA⟩ : ∃ A, A = D ++ h.nd := ⟨_, rfl⟩
    have HDE : Hid (D = [h.zc, h.c] ++ h.pd) := hD
    have HAE : Hid (A = D ++ h.nd) := hA
    have hl1 : D.length + h.nd.length ≤ 1000000 := by have := HFEW.out.2.2.1; have := HFEW.out.2.2.2; rw [hD, List.length_append]; simp; omega
    clear hD hA q0 q1 q2 q3 q4 q5 q6 q7 q8
    go_wp2_with fail
    go_region_held3 (fun w' => w'.cell? ⟨w.heap.size, 2, none⟩ = some (.int .u64 h.zc) ∧ w'.cell? ⟨w.heap.size, 3, none⟩ = some (.int .u64 h.c) ∧ w'.cell? ⟨w.heap.size, 7, none⟩ = some (.slice qo h.pd.length qc) ∧ w'.cell? ⟨w.heap.size, 8, none⟩ = some (.slice ro h.nd.length rc)) (go_keep) (first
      | (refine step_append_us rfl _ _ rfl (xs := [h.zc, h.c]) (ys := h.pd) rfl rfl OL.out (HSC.out.1.kept FL) FL.size hl0 ?_
         intro va wa hva hba
         have hfa : Fr [] w4 wa := Fr.ofBelow (((FL).below (Nat.le_refl _) (by simp)).trans hba)
         have OA0 : OU w4.heap.size wa va D := by rw [HDE.out]; exact hva
         have OA : Hid (OU w4.heap.size wa va D) := OA0
         have ka2 := hfa.cell_some (L2 _ (Fr.refl _ _)) (by simp)
         have ka3 := hfa.cell_some (L3 _ (Fr.refl _ _)) (by simp)
         have ka7 := hfa.cell_some (L7 _ (Fr.refl _ _)) (by simp)
         have ka8 := hfa.cell_some (L8 _ (Fr.refl _ _)) (by simp)
         clear hva hba OA0)
      | (refine step_append_us rfl _ _ rfl (xs := D) (ys := h.nd) rfl rfl OA.out (HSC.out.2.kept hfa) hfa.size hl1 ?_
         intro vb wb hvb hbb
         have hfb : Fr [] w4 wb := Fr.ofBelow ((hfa.below (Nat.le_refl _) (by simp)).trans hbb)
         have OB0 : OU w4.heap.size wb vb A := by rw [HAE.out]; exact hvb
         have OB : Hid (OU w4.heap.size wb vb A) := OB0
         have kb2 := hfb.cell_some (L2 _ (Fr.refl _ _)) (by simp)
         have kb3 := hfb.cell_some (L3 _ (Fr.refl _ _)) (by simp)
         have kb7 := hfb.cell_some (L7 _ (Fr.refl _ _)) (by simp)
         have kb8 := hfb.cell_some (L8 _ (Fr.refl _ _)) (by simp)
         obtain ⟨vba, vbc, rfl⟩ := OB.out.val
         clear hvb hbb OB0))
    have HFB : Hid (Fr [] w4 wb) := hfb
    clear hfa hfb ka2 ka3 ka7 ka8 kb2 kb3 kb7 kb8 OA OL FL F0 L2 L3 L7 L8 ne0 ne1
    have HUB : Hid (USrc wb (.slice vba A.length vbc) A) := OB.out.src (by
      intro z hz
      have hi := HFI.out
      have hu := HINU.out
      rw [HAE.out, HDE.out] at hz
      simp only [List.mem_append, List.mem_cons, List.not_mem_nil, or_false] at hz
      rcases hz with (h1 | h1) | h1
      · rcases h1 with rfl | rfl
        · exact hu.1
        · exact hu.2
      · exact hi.2.2.1 z h1
      · exact hi.2.2.2 z h1)
    have HLL : Hid (A.length ≤ 1000) := by have := HFEW.out.2.2.1; have := HFEW.out.2.2.2; rw [Hid, HAE.out, HDE.out, List.length_append, List.length_append]; simp; omega
    have HMEM : Hid (∀ z, z ∈ A ↔ z ∈ h.zc :: h.c :: (h.pd ++ h.nd)) := fun z => by rw [HAE.out, HDE.out]; simp [or_assoc]
    have HTL : Hid (∀ k z, A[k]? = some z → 1 < k → z ∈ h.pd ++ h.nd) := fun k z hk h1 => by
      rw [HAE.out, HDE.out, List.append_assoc] at hk
      rw [List.getElem?_append_right (by simp; omega)] at hk
      exact List.mem_of_getElem? hk
    have HTT : Hid (∀ z ∈ h.pd ++ h.nd, ∃ k : Nat, A[k]? = some z ∧ 1 < k) := fun z hz => by
      obtain ⟨k, hk⟩ := List.mem_iff_getElem?.1 hz
      refine ⟨k + 2, ?_, by omega⟩
      rw [HAE.out, HDE.out, List.append_assoc, List.getElem?_append_right (by simp)]
      simpa using hk
    have HIU : Hid (∀ z ∈ A, inu z) := by obtain ⟨_, _, _, _, _, h64, _⟩ := HUB.out; exact h64
    obtain ⟨_, _, hv, _, _, _, b, off, ha, hc⟩ := HUB.out
    simp only [Value.slice.injEq] at hv
    obtain ⟨rfl, _, rfl⟩ := hv
    have HC : Hid (∀ j s, A[j]? = some s → wb.cell? ⟨b, off + j, none⟩ = some (.int .u64 s)) := hc
    have HA : Hid (0 < A.length → vba = some ⟨b, off, none⟩) := ha
    have hml : A.length ≤ 9223372036854775807 := by have := HLL.out; omega
    clear ha hc HUB OB hl0 hl1
    go_wp2
    go_loopw [6, 45] (fun f i wr => ∃ (k : Nat) (bb : Bool), k ≤ A.length ∧ i = .int .i64 (k : Int) ∧ f = .bool bb ∧ (bb = true → ∃ z ∈ h.pd ++ h.nd, 9223372036854775807 < wvI z) ∧ (bb = false → ∀ j z, j < k → 1 < j → A[j]? = some z → wvI z ≤ 9223372036854775807) ∧ (∀ j z, j < k → A[j]? = some z → wbI z = true) ∧ Fr [] wb wr) (fun _ i _ => A.length - (intOf i).toNat)
    case atStart => exact ⟨0, false, by omega, rfl, rfl, (fun k => by cases k), (fun _ j z hj => by omega), (fun j z hj => by omega), Fr.refl _ _⟩
    case round =>
      obtain ⟨k, bb, hk, rfl, rfl, hb1, hb2, hw, hf⟩ := hrel
      have HF : Hid (Fr [] wb wr) := hf
      have HB1 : Hid (bb = true → ∃ z ∈ h.pd ++ h.nd, 9223372036854775807 < wvI z) := hb1
      have HB2 : Hid (bb = false → ∀ j z, j < k → 1 < j → A[j]? = some z → wvI z ≤ 9223372036854775807) := hb2
      have HW : Hid (∀ j z, j < k → A[j]? = some z → wbI z = true) := hw
      clear hf hb1 hb2 hw
      by_cases hlt : k < A.length
      · obtain rfl := HA.out (by omega)
        obtain ⟨z, hz⟩ := at_lt hlt
        have c0 := HF.out.cell_some (HC.out k z hz) (by simp)
        have HZ : Hid (A[k]? = some z) := hz
        have HZM : Hid (z ∈ A) := List.mem_of_getElem? hz
        clear hz
        go_wp2_with fail
        refine (lwholeI_any z wr (HIU.out z HZM.out)).mono ?_
        rintro e wx ⟨rfl, hfx⟩
        have HFX : Hid (Fr [] wb wx) := HF.out.trans hfx (by simp)
        clear hfx
        rcases w1_cases z with ⟨hw, h1⟩ | ⟨hw, h1⟩
        · have HW2 : Hid (∀ j y, j < k + 1 → A[j]? = some y → wbI y = true) := fun j y hj hy => by
            by_cases hjk : j = k
            · subst hjk
              rw [HZ.out] at hy
              cases hy
              exact hw
            · exact HW.out j y (by omega) hy
          rw [h1]
          clear h1 hw HW
          cases bb with
          | true =>
            go_wp2
            go_roundw
            case rel => exact ⟨k + 1, true, by omega, by go_num, rfl, (fun _ => HB1.out trivial), (fun k => by cases k), HW2.out, HFX.out⟩
            case measure => simp [intOf]; omega
          | false =>
            by_cases hk1 : (1 : Int) < (k : Int)
            · have HM : Hid (z ∈ h.pd ++ h.nd) := HTL.out k z HZ.out (by omega)
              by_cases hbig : 9223372036854775807 < wvI z
              · have HE : Hid (∃ z ∈ h.pd ++ h.nd, 9223372036854775807 < wvI z) := ⟨z, HM.out, hbig⟩
                generalize wvI z = W at *
                go_wp2
                go_roundw
                case rel => exact ⟨k + 1, true, by omega, by go_num, rfl, (fun _ => HE.out), (fun k => by cases k), HW2.out, HFX.out⟩
                case measure => simp [intOf]; omega
              · have HB3 : Hid (∀ j y, j < k + 1 → 1 < j → A[j]? = some y → wvI y ≤ 9223372036854775807) := fun j y hj hj1 hy => by
                  by_cases hjk : j = k
                  · subst hjk
                    rw [HZ.out] at hy
                    cases hy
                    omega
                  · exact HB2.out rfl j y (by omega) hj1 hy
                generalize wvI z = W at hbig ⊢
                go_wp2
                go_roundw
                case rel => exact ⟨k + 1, false, by omega, by go_num, congrArg Value.bool (decide_eq_false (by omega)), (fun k => by cases k), (fun _ => HB3.out), HW2.out, HFX.out⟩
                case measure => simp [intOf]; omega
            · have HB3 : Hid (∀ j y, j < k + 1 → 1 < j → A[j]? = some y → wvI y ≤ 9223372036854775807) := fun j y hj hj1 hy => by
                have : j < k := by omega
                exact HB2.out rfl j y this hj1 hy
              go_wp2
              go_roundw
              case rel => exact ⟨k + 1, false, by omega, by go_num, rfl, (fun k => by cases k), (fun _ => HB3.out), HW2.out, HFX.out⟩
              case measure => simp [intOf]; omega
        · have hbk : bke h = 10 := bke_form2 HK.out ((HMEM.out z).1 HZM.out) hw
          rw [h1, hbk]
          clear h1 hw hbk
          generalize wvI z = W
          go_wp2_with fail
          refine (awake10_any wx).mono ?_
          rintro e wy ⟨rfl, hfy⟩
          have HFY : Hid (Fr [] w wy) := ((HF4.out.trans HFB.out (by simp)).trans HFX.out (by simp)).trans hfy (by simp)
          clear hfy
          go_wp2
          go_ret
          exact ⟨rfl, HFY.out.below (Nat.le_refl _) (by simp)⟩
      · have HALL : Hid (∀ z ∈ h.zc :: h.c :: (h.pd ++ h.nd), wbI z = true) := fun z hz => by
          obtain ⟨j, hj⟩ := List.mem_iff_getElem?.1 ((HMEM.out z).2 hz)
          have := (List.getElem?_eq_some_iff.1 hj).1
          exact HW.out j z (by omega) hj
        have HFR : Hid (Fr [] w4 wr) := HFB.out.trans HF.out (by simp)
        have HF6 : Hid (Fr [] w wr) := HF4.out.trans HFR.out (by simp)
        have HN6 : Hid (NineF wr w.heap.size #[.int .i64 h.s, .int .u64 h.z, .int .u64 h.zc, .int .u64 h.c, .int .u64 h.sm, .slice po h.P.length pc, .slice no h.N.length nc, .slice qo h.pd.length qc, .slice ro h.nd.length rc]) := HN4.out.kept HFR.out (by simp)
        have HG6 : Hid (Nine wr G3 #[.int .i64 c.s, .int .u64 c.z, .int .u64 c.zc, .int .u64 c.c, .int .u64 c.sm, .slice ca1 c.P.length cc1, .slice ca2 c.N.length cc2, .slice ca3 c.pd.length cc3, .slice ca4 c.nd.length cc4]) := HG4.out.kept HFR.out (by simp)
        have HC6 : Hid (HSrc wr (.agg #[.int .i64 c.s, .int .u64 c.z, .int .u64 c.zc, .int .u64 c.c, .int .u64 c.sm, .slice ca1 c.P.length cc1, .slice ca2 c.N.length cc2, .slice ca3 c.pd.length cc3, .slice ca4 c.nd.length cc4]) c) := HC4.out.kept HFR.out
        clear HN4 HG4 HC4 HFB HF4 HF HFR HC HA HW
        cases bb with
        | true =>
          obtain ⟨z, hz, hbig⟩ := HB1.out rfl
          have hbk := (bke_over HK.out HALL.out hz hbig).1
          rw [hbk]
          clear hz hbig hbk z
          go_wp2_with fail
          refine (awake10_any wr).mono ?_
          rintro e wy ⟨rfl, hfy⟩
          have HFY : Hid (Fr [] w wy) := HF6.out.trans hfy (by simp)
          clear hfy
          go_wp2
          go_ret
          exact ⟨rfl, HFY.out.below (Nat.le_refl _) (by simp)⟩
        | false =>
          have hg := bke_good HFI.out HINU.out HK.out HALL.out (fun z hz => by
            obtain ⟨j, hj, hj1⟩ := HTT.out z hz
            have := (List.getElem?_eq_some_iff.1 hj).1
            exact HB2.out rfl j z (by omega) hj1 hj)
          have hbh := HBH.out
          clear HB1 HB2 HALL HTT HTL HMEM HIU
          rcases hg.2.1 with hg0 | hg0
          case inr =>
            have hbk : bke h = 22 := by rw [hg.1, hg0]
            have hcz : c = hzero := by rw [hbh, if_neg (by rw [hbk]; decide)]
            rw [hbk]
            have g3 : wr.cell? ⟨G3, 3, none⟩ = some (.int .u64 0) := by have := HG6.out.cell 3 rfl; rw [hcz] at this; exact this
            clear hg hg0 hbh hbk hcz
            go_wp2_with fail
            refine (awake10_any wr).mono ?_
            rintro e wy ⟨rfl, hfy⟩
            have HFY : Hid (Fr [] w wy) := HF6.out.trans hfy (by simp)
            clear hfy g3
            go_wp2
            go_ret
            exact ⟨rfl, HFY.out.below (Nat.le_refl _) (by simp)⟩
          have hbk : bke h = 0 := by rw [hg.1, hg0]
          have hcb : c = bks h := by rw [hbh, if_pos hbk]
          have HCE : Hid (che c = 0 ∧ frh c = h) := by
            rw [hcb]
            unfold Hid frh
            rw [if_pos hg0]
            exact ⟨hg0, hg.2.2⟩
          rw [hbk]
          clear hg hg0 hbh hbk hcb
          have g0 := HG6.out.cell 0 rfl
          have g1 := HG6.out.cell 1 rfl
          have g2 := HG6.out.cell 2 rfl
          have g3 := HG6.out.cell 3 rfl
          have g4 := HG6.out.cell 4 rfl
          have g5 := HG6.out.cell 5 rfl
          have g6 := HG6.out.cell 6 rfl
          have g7 := HG6.out.cell 7 rfl
          have g8 := HG6.out.cell 8 rfl
          go_wp2_with fail
          refine (ffrom_any _ c wr HC6.out).mono ?_
          rintro e w7 ⟨x, rfl, hx, hf7⟩
          rw [HCE.out.1]
          rw [HCE.out.2] at hx
          obtain ⟨xa1, xc1, xa2, xc2, xa3, xc3, xa4, xc4, rfl, -⟩ := hx.src.opens
          have HNX : Hid (NineF (w7.alloc (.cells #[.int .i64 h.s, .int .u64 h.z, .int .u64 h.zc, .int .u64 h.c, .int .u64 h.sm, .slice xa1 h.P.length xc1, .slice xa2 h.N.length xc2, .slice xa3 h.pd.length xc3, .slice xa4 h.nd.length xc4] 26)) w7.heap.size #[.int .i64 h.s, .int .u64 h.z, .int .u64 h.zc, .int .u64 h.c, .int .u64 h.sm, .slice xa1 h.P.length xc1, .slice xa2 h.N.length xc2, .slice xa3 h.pd.length xc3, .slice xa4 h.nd.length xc4]) := NineF.new _ _
          have HWX : Hid (Fr [] wr (w7.alloc (.cells #[.int .i64 h.s, .int .u64 h.z, .int .u64 h.zc, .int .u64 h.c, .int .u64 h.sm, .slice xa1 h.P.length xc1, .slice xa2 h.N.length xc2, .slice xa3 h.pd.length xc3, .slice xa4 h.nd.length xc4] 26))) := hf7.alloc _
          have HXX : Hid (FSrc (w7.alloc (.cells #[.int .i64 h.s, .int .u64 h.z, .int .u64 h.zc, .int .u64 h.c, .int .u64 h.sm, .slice xa1 h.P.length xc1, .slice xa2 h.N.length xc2, .slice xa3 h.pd.length xc3, .slice xa4 h.nd.length xc4] 26)) (.agg #[.int .i64 h.s, .int .u64 h.z, .int .u64 h.zc, .int .u64 h.c, .int .u64 h.sm, .slice xa1 h.P.length xc1, .slice xa2 h.N.length xc2, .slice xa3 h.pd.length xc3, .slice xa4 h.nd.length xc4]) h) := hx.src.kept ((Fr.refl [] _).alloc _)
          clear hx hf7 g0 g1 g2 g3 g4 g5 g6 g7 g8
          go_upto_region 21 with fail
          generalize w7.alloc (.cells _ _) = w8 at HNX HWX HXX ⊢
          generalize w7.heap.size = G7 at HNX ⊢
          have HF8 : Hid (Fr [] w w8) := HF6.out.trans HWX.out (by simp)
          have HN8 : Hid (NineF w8 w.heap.size #[.int .i64 h.s, .int .u64 h.z, .int .u64 h.zc, .int .u64 h.c, .int .u64 h.sm, .slice po h.P.length pc, .slice no h.N.length nc, .slice qo h.pd.length qc, .slice ro h.nd.length rc]) := HN6.out.kept HWX.out (by simp)
          have HX8 : Hid (NineF w8 G7 #[.int .i64 h.s, .int .u64 h.z, .int .u64 h.zc, .int .u64 h.c, .int .u64 h.sm, .slice xa1 h.P.length xc1, .slice xa2 h.N.length xc2, .slice xa3 h.pd.length xc3, .slice xa4 h.nd.length xc4]) := HNX.out
          have HS8 : Hid (FSrc w8 (.agg #[.int .i64 h.s, .int .u64 h.z, .int .u64 h.zc, .int .u64 h.c, .int .u64 h.sm, .slice xa1 h.P.length xc1, .slice xa2 h.N.length xc2, .slice xa3 h.pd.length xc3, .slice xa4 h.nd.length xc4]) h) := HXX.out
          have HR8 : Hid (FSrc w8 (.agg #[.int .i64 h.s, .int .u64 h.z, .int .u64 h.zc, .int .u64 h.c, .int .u64 h.sm, .slice po h.P.length pc, .slice no h.N.length nc, .slice qo h.pd.length qc, .slice ro h.nd.length rc]) h) := HH.out _ HF8.out
          clear HWX HN6 HF6 HNX HXX HG6 HC6
          have q0 := HN8.out.cell 0 rfl
          have q1 := HN8.out.cell 1 rfl
          have q2 := HN8.out.cell 2 rfl
          have q3 := HN8.out.cell 3 rfl
          have q4 := HN8.out.cell 4 rfl
          have q5 := HN8.out.cell 5 rfl
          have q6 := HN8.out.cell 6 rfl
          have q7 := HN8.out.cell 7 rfl
          have q8 := HN8.out.cell 8 rfl
          have g0 := HX8.out.cell 0 rfl
          have g1 := HX8.out.cell 1 rfl
          have g2 := HX8.out.cell 2 rfl
          have g3 := HX8.out.cell 3 rfl
          have g4 := HX8.out.cell 4 rfl
          have g5 := HX8.out.cell 5 rfl
          have g6 := HX8.out.cell 6 rfl
          have g7 := HX8.out.cell 7 rfl
          have g8 := HX8.out.cell 8 rfl
          go_wp2_with fail
          refine (numbers10_any _ _ h h w8 HS8.out HR8.out ⟨rfl, rfl, rfl, rfl, rfl⟩).mono ?_
          rintro e w9 ⟨rfl, hf9⟩
          have HF9 : Hid (Fr [] w w9) := HF8.out.trans hf9 (by simp)
          have HN9 : Hid (NineF w9 w.heap.size #[.int .i64 h.s, .int .u64 h.z, .int .u64 h.zc, .int .u64 h.c, .int .u64 h.sm, .slice po h.P.length pc, .slice no h.N.length nc, .slice qo h.pd.length qc, .slice ro h.nd.length rc]) := HN8.out.kept hf9 (by simp)
          have HX9 : Hid (NineF w9 G7 #[.int .i64 h.s, .int .u64 h.z, .int .u64 h.zc, .int .u64 h.c, .int .u64 h.sm, .slice xa1 h.P.length xc1, .slice xa2 h.N.length xc2, .slice xa3 h.pd.length xc3, .slice xa4 h.nd.length xc4]) := HX8.out.kept hf9 (by simp)
          have HS9 : Hid (FSrc w9 (.agg #[.int .i64 h.s, .int .u64 h.z, .int .u64 h.zc, .int .u64 h.c, .int .u64 h.sm, .slice xa1 h.P.length xc1, .slice xa2 h.N.length xc2, .slice xa3 h.pd.length xc3, .slice xa4 h.nd.length xc4]) h) := HS8.out.kept hf9
          have HR9 : Hid (FSrc w9 (.agg #[.int .i64 h.s, .int .u64 h.z, .int .u64 h.zc, .int .u64 h.c, .int .u64 h.sm, .slice po h.P.length pc, .slice no h.N.length nc, .slice qo h.pd.length qc, .slice ro h.nd.length rc]) h) := HR8.out.kept hf9
          clear HF8 HN8 HX8 HS8 HR8 hf9 q0 q1 q2 q3 q4 q5 q6 q7 q8 g0 g1 g2 g3 g4 g5 g6 g7 g8
          have q0 := HN9.out.cell 0 rfl
          have q1 := HN9.out.cell 1 rfl
          have q2 := HN9.out.cell 2 rfl
          have q3 := HN9.out.cell 3 rfl
          have q4 := HN9.out.cell 4 rfl
          have q5 := HN9.out.cell 5 rfl
          have q6 := HN9.out.cell 6 rfl
          have q7 := HN9.out.cell 7 rfl
          have q8 := HN9.out.cell 8 rfl
          have g0 := HX9.out.cell 0 rfl
          have g1 := HX9.out.cell 1 rfl
          have g2 := HX9.out.cell 2 rfl
          have g3 := HX9.out.cell 3 rfl
          have g4 := HX9.out.cell 4 rfl
          have g5 := HX9.out.cell 5 rfl
          have g6 := HX9.out.cell 6 rfl
          have g7 := HX9.out.cell 7 rfl
          have g8 := HX9.out.cell 8 rfl
          go_wp2_with fail
          refine (sameU10_any _ _ h.pd w9 (fsrc4 HS9.out).2.2.1 (fsrc4 HR9.out).2.2.1).mono ?_
          rintro e w10 ⟨rfl, hf10⟩
          have HF10 : Hid (Fr [] w w10) := HF9.out.trans hf10 (by simp)
          have HN10 : Hid (NineF w10 w.heap.size #[.int .i64 h.s, .int .u64 h.z, .int .u64 h.zc, .int .u64 h.c, .int .u64 h.sm, .slice po h.P.length pc, .slice no h.N.length nc, .slice qo h.pd.length qc, .slice ro h.nd.length rc]) := HN9.out.kept hf10 (by simp)
          have HX10 : Hid (NineF w10 G7 #[.int .i64 h.s, .int .u64 h.z, .int .u64 h.zc, .int .u64 h.c, .int .u64 h.sm, .slice xa1 h.P.length xc1, .slice xa2 h.N.length xc2, .slice xa3 h.pd.length xc3, .slice xa4 h.nd.length xc4]) := HX9.out.kept hf10 (by simp)
          have HS10 : Hid (FSrc w10 (.agg #[.int .i64 h.s, .int .u64 h.z, .int .u64 h.zc, .int .u64 h.c, .int .u64 h.sm, .slice xa1 h.P.length xc1, .slice xa2 h.N.length xc2, .slice xa3 h.pd.length xc3, .slice xa4 h.nd.length xc4]) h) := HS9.out.kept hf10
          have HR10 : Hid (FSrc w10 (.agg #[.int .i64 h.s, .int .u64 h.z, .int .u64 h.zc, .int .u64 h.c, .int .u64 h.sm, .slice po h.P.length pc, .slice no h.N.length nc, .slice qo h.pd.length qc, .slice ro h.nd.length rc]) h) := HR9.out.kept hf10
          clear HF9 HN9 HX9 HS9 HR9 hf10 q0 q1 q2 q3 q4 q5 q6 q7 q8 g0 g1 g2 g3 g4 g5 g6 g7 g8
          have q0 := HN10.out.cell 0 rfl
          have q1 := HN10.out.cell 1 rfl
          have q2 := HN10.out.cell 2 rfl
          have q3 := HN10.out.cell 3 rfl
          have q4 := HN10.out.cell 4 rfl
          have q5 := HN10.out.cell 5 rfl
          have q6 := HN10.out.cell 6 rfl
          have q7 := HN10.out.cell 7 rfl
          have q8 := HN10.out.cell 8 rfl
          have g0 := HX10.out.cell 0 rfl
          have g1 := HX10.out.cell 1 rfl
          have g2 := HX10.out.cell 2 rfl
          have g3 := HX10.out.cell 3 rfl
          have g4 := HX10.out.cell 4 rfl
          have g5 := HX10.out.cell 5 rfl
          have g6 := HX10.out.cell 6 rfl
          have g7 := HX10.out.cell 7 rfl
          have g8 := HX10.out.cell 8 rfl
          go_wp2_with fail
          refine (sameU10_any _ _ h.nd w10 (fsrc4 HS10.out).2.2.2 (fsrc4 HR10.out).2.2.2).mono ?_
          rintro e w11 ⟨rfl, hf11⟩
          have HF11 : Hid (Fr [] w w11) := HF10.out.trans hf11 (by simp)
          have HN11 : Hid (NineF w11 w.heap.size #[.int .i64 h.s, .int .u64 h.z, .int .u64 h.zc, .int .u64 h.c, .int .u64 h.sm, .slice po h.P.length pc, .slice no h.N.length nc, .slice qo h.pd.length qc, .slice ro h.nd.length rc]) := HN10.out.kept hf11 (by simp)
          have HX11 : Hid (NineF w11 G7 #[.int .i64 h.s, .int .u64 h.z, .int .u64 h.zc, .int .u64 h.c, .int .u64 h.sm, .slice xa1 h.P.length xc1, .slice xa2 h.N.length xc2, .slice xa3 h.pd.length xc3, .slice xa4 h.nd.length xc4]) := HX10.out.kept hf11 (by simp)
          have HS11 : Hid (FSrc w11 (.agg #[.int .i64 h.s, .int .u64 h.z, .int .u64 h.zc, .int .u64 h.c, .int .u64 h.sm, .slice xa1 h.P.length xc1, .slice xa2 h.N.length xc2, .slice xa3 h.pd.length xc3, .slice xa4 h.nd.length xc4]) h) := HS10.out.kept hf11
          have HR11 : Hid (FSrc w11 (.agg #[.int .i64 h.s, .int .u64 h.z, .int .u64 h.zc, .int .u64 h.c, .int .u64 h.sm, .slice po h.P.length pc, .slice no h.N.length nc, .slice qo h.pd.length qc, .slice ro h.nd.length rc]) h) := HR10.out.kept hf11
          clear HF10 HN10 HX10 HS10 HR10 hf11 q0 q1 q2 q3 q4 q5 q6 q7 q8 g0 g1 g2 g3 g4 g5 g6 g7 g8
          have q0 := HN11.out.cell 0 rfl
          have q1 := HN11.out.cell 1 rfl
          have q2 := HN11.out.cell 2 rfl
          have q3 := HN11.out.cell 3 rfl
          have q4 := HN11.out.cell 4 rfl
          have q5 := HN11.out.cell 5 rfl
          have q6 := HN11.out.cell 6 rfl
          have q7 := HN11.out.cell 7 rfl
          have q8 := HN11.out.cell 8 rfl
          have g0 := HX11.out.cell 0 rfl
          have g1 := HX11.out.cell 1 rfl
          have g2 := HX11.out.cell 2 rfl
          have g3 := HX11.out.cell 3 rfl
          have g4 := HX11.out.cell 4 rfl
          have g5 := HX11.out.cell 5 rfl
          have g6 := HX11.out.cell 6 rfl
          have g7 := HX11.out.cell 7 rfl
          have g8 := HX11.out.cell 8 rfl
          go_wp2_with fail
          refine (alike10_any _ _ h.P w11 (fsrc4 HS11.out).1 (fsrc4 HR11.out).1).mono ?_
          rintro e w12 ⟨rfl, hf12⟩
          have HF12 : Hid (Fr [] w w12) := HF11.out.trans hf12 (by simp)
          have HN12 : Hid (NineF w12 w.heap.size #[.int .i64 h.s, .int .u64 h.z, .int .u64 h.zc, .int .u64 h.c, .int .u64 h.sm, .slice po h.P.length pc, .slice no h.N.length nc, .slice qo h.pd.length qc, .slice ro h.nd.length rc]) := HN11.out.kept hf12 (by simp)
          have HX12 : Hid (NineF w12 G7 #[.int .i64 h.s, .int .u64 h.z, .int .u64 h.zc, .int .u64 h.c, .int .u64 h.sm, .slice xa1 h.P.length xc1, .slice xa2 h.N.length xc2, .slice xa3 h.pd.length xc3, .slice xa4 h.nd.length xc4]) := HX11.out.kept hf12 (by simp)
          have HS12 : Hid (FSrc w12 (.agg #[.int .i64 h.s, .int .u64 h.z, .int .u64 h.zc, .int .u64 h.c, .int .u64 h.sm, .slice xa1 h.P.length xc1, .slice xa2 h.N.length xc2, .slice xa3 h.pd.length xc3, .slice xa4 h.nd.length xc4]) h) := HS11.out.kept hf12
          have HR12 : Hid (FSrc w12 (.agg #[.int .i64 h.s, .int .u64 h.z, .int .u64 h.zc, .int .u64 h.c, .int .u64 h.sm, .slice po h.P.length pc, .slice no h.N.length nc, .slice qo h.pd.length qc, .slice ro h.nd.length rc]) h) := HR11.out.kept hf12
          clear HF11 HN11 HX11 HS11 HR11 hf12 q0 q1 q2 q3 q4 q5 q6 q7 q8 g0 g1 g2 g3 g4 g5 g6 g7 g8
          have q0 := HN12.out.cell 0 rfl
          have q1 := HN12.out.cell 1 rfl
          have q2 := HN12.out.cell 2 rfl
          have q3 := HN12.out.cell 3 rfl
          have q4 := HN12.out.cell 4 rfl
          have q5 := HN12.out.cell 5 rfl
          have q6 := HN12.out.cell 6 rfl
          have q7 := HN12.out.cell 7 rfl
          have q8 := HN12.out.cell 8 rfl
          have g0 := HX12.out.cell 0 rfl
          have g1 := HX12.out.cell 1 rfl
          have g2 := HX12.out.cell 2 rfl
          have g3 := HX12.out.cell 3 rfl
          have g4 := HX12.out.cell 4 rfl
          have g5 := HX12.out.cell 5 rfl
          have g6 := HX12.out.cell 6 rfl
          have g7 := HX12.out.cell 7 rfl
          have g8 := HX12.out.cell 8 rfl
          go_wp2_with fail
          refine (alike10_any _ _ h.N w12 (fsrc4 HS12.out).2.1 (fsrc4 HR12.out).2.1).mono ?_
          rintro e w13 ⟨rfl, hf13⟩
          have HF13 : Hid (Fr [] w w13) := HF12.out.trans hf13 (by simp)
          have HN13 : Hid (NineF w13 w.heap.size #[.int .i64 h.s, .int .u64 h.z, .int .u64 h.zc, .int .u64 h.c, .int .u64 h.sm, .slice po h.P.length pc, .slice no h.N.length nc, .slice qo h.pd.length qc, .slice ro h.nd.length rc]) := HN12.out.kept hf13 (by simp)
          have HX13 : Hid (NineF w13 G7 #[.int .i64 h.s, .int .u64 h.z, .int .u64 h.zc, .int .u64 h.c, .int .u64 h.sm, .slice xa1 h.P.length xc1, .slice xa2 h.N.length xc2, .slice xa3 h.pd.length xc3, .slice xa4 h.nd.length xc4]) := HX12.out.kept hf13 (by simp)
          have HS13 : Hid (FSrc w13 (.agg #[.int .i64 h.s, .int .u64 h.z, .int .u64 h.zc, .int .u64 h.c, .int .u64 h.sm, .slice xa1 h.P.length xc1, .slice xa2 h.N.length xc2, .slice xa3 h.pd.length xc3, .slice xa4 h.nd.length xc4]) h) := HS12.out.kept hf13
          have HR13 : Hid (FSrc w13 (.agg #[.int .i64 h.s, .int .u64 h.z, .int .u64 h.zc, .int .u64 h.c, .int .u64 h.sm, .slice po h.P.length pc, .slice no h.N.length nc, .slice qo h.pd.length qc, .slice ro h.nd.length rc]) h) := HR12.out.kept hf13
          clear HF12 HN12 HX12 HS12 HR12 hf13 q0 q1 q2 q3 q4 q5 q6 q7 q8 g0 g1 g2 g3 g4 g5 g6 g7 g8
          go_wp2_with fail
          refine (awake10_any w13).mono ?_
          rintro e w14 ⟨rfl, hf14⟩
          have HF14 : Hid (Fr [] w w14) := HF13.out.trans hf14 (by simp)
          clear hf14
          go_wp2
          go_ret
          exact ⟨rfl, HF14.out.below (Nat.le_refl _) (by simp)⟩
end Go.Proofs.Ytoaibabkkphlaaa
