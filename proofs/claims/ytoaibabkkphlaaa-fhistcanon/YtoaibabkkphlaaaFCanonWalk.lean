/-
  FhistCanon: the walk.
-/
import Derived.Test.YtoaibabkkphlaaaGG
import Derived.Test.YtoaibabkkphlaaaGJ
namespace Go.Proofs.Ytoaibabkkphlaaa
open Go.RowKit Mem Spans
set_option linter.unusedSimpArgs false
set_option linter.unusedVariables false
set_option maxRecDepth 100000


theorem fah_in (h : Fs) (k : fin9 h) : fin9 (fah h) := by
  unfold fah
  split
  · exact mfh_in _ _ _ (wioU_in (fdp_in h k)) (wioU_in (fdn_in h k))
  · unfold fin9 fzero; simp
theorem fce_len {h : Fs} (k : fce h = 0) : h.P.length ≤ 1024 ∧ h.N.length ≤ 1024 := by
  have kz := fce_zero.1 k
  exact ⟨(chk_zero.1 (fsd_zero.1 kz.2.1).1).1, (chk_zero.1 (fsd_zero.1 kz.2.2).1).1⟩

set_option maxHeartbeats 8000000 in
theorem fcanon_walk (v0 : Value) (h : Fs) (w : World) (w0 : FSrc w v0 h) :
    Calls Try.prog 6 #[v0] w fun e w' => e = .returned (.bool true) ∧ Below w.heap.size w w' := by
  have HH : Hid (∀ wx, Fr [] w wx → FSrc wx v0 h) := fun wx hx => w0.kept hx
  obtain ⟨po, pc, no, nc, qo, qc, ro, rc, rfl, _⟩ := w0.opens
  have HFI : Hid (fin9 h) := w0.fin
  clear w0
  go_enter Try.func6, Try.ntmps6
  have HN0 : Hid (NineF (w.alloc (.cells #[.int .i64 h.s, .int .u64 h.z, .int .u64 h.zc, .int .u64 h.c, .int .u64 h.sm, .slice po h.P.length pc, .slice no h.N.length nc, .slice qo h.pd.length qc, .slice ro h.nd.length rc] 26)) w.heap.size #[.int .i64 h.s, .int .u64 h.z, .int .u64 h.zc, .int .u64 h.c, .int .u64 h.sm, .slice po h.P.length pc, .slice no h.N.length nc, .slice qo h.pd.length qc, .slice ro h.nd.length rc]) := NineF.new _ _
  have HF0 : Hid (Fr [] w (w.alloc (.cells #[.int .i64 h.s, .int .u64 h.z, .int .u64 h.zc, .int .u64 h.c, .int .u64 h.sm, .slice po h.P.length pc, .slice no h.N.length nc, .slice qo h.pd.length qc, .slice ro h.nd.length rc] 26))) := (Fr.refl [] w).alloc _
  go_wp2_with fail
  refine (fsmall_any _ h _ (HH.out _ HF0.out)).mono ?_
  rintro e w1 ⟨r, rfl, hr, hf1⟩
  have HF1 : Hid (Fr [] w w1) := HF0.out.trans hf1 (by simp)
  have HN1 : Hid (NineF w1 w.heap.size _) := HN0.out.kept hf1 (by simp)
  have HR : Hid (r = true → FewF h) := hr
  clear hf1 hr HN0 HF0
  cases r with
  | false =>
    go_wp2_with fail
    refine (awake10_any w1).mono ?_
    rintro e w2 ⟨rfl, hf2⟩
    have HF2 : Hid (Fr [] w w2) := HF1.out.trans hf2 (by simp)
    clear hf2
    go_wp2
    go_ret
    exact ⟨rfl, HF2.out.below (Nat.le_refl _) (by simp)⟩
  | true =>
    have HFEW : Hid (FewF h) := HR.out rfl
    clear HR
    have q0 := HN1.out.cell 0 rfl
    have q1 := HN1.out.cell 1 rfl
    have q2 := HN1.out.cell 2 rfl
    have q3 := HN1.out.cell 3 rfl
    have q4 := HN1.out.cell 4 rfl
    have q5 := HN1.out.cell 5 rfl
    have q6 := HN1.out.cell 6 rfl
    have q7 := HN1.out.cell 7 rfl
    have q8 := HN1.out.cell 8 rfl
    go_wp2_with fail
    refine (fcanon_any _ h w1 (HH.out _ HF1.out)).mono ?_
    rintro e w2 ⟨u, rfl, hu, hf2⟩
    have HCO : Hid (fce h = 0 → fae h = 0 ∧ freq (fah h) h = true ∧ fce (fah h) = 0 ∧ cnn (fah h).P = true ∧ cnn (fah h).N = true ∧ ((∀ z ∈ (fah h).pd, z ≠ 0) ∧ (∀ z ∈ (fah h).nd, z ≠ 0) ∧ (fah h).pd.length ≤ 300 ∧ (fah h).nd.length ≤ 300)) := by
      intro k
      have c := canonF_ok k ⟨HFEW.out.2.2.1, HFEW.out.2.2.2⟩
      refine ⟨c.1, by rw [freq_feq]; exact canonF_eq k ⟨HFEW.out.2.2.1, HFEW.out.2.2.2⟩, ?_, ?_, ?_, canonF_full k ⟨HFEW.out.2.2.1, HFEW.out.2.2.2⟩⟩
      · rw [c.2.1]; exact c.2.2.2.2.1
      · rw [c.2.1]; exact c.2.2.2.2.2.2.2.1
      · rw [c.2.1]; exact c.2.2.2.2.2.2.2.2
    have HNC : Hid (fce h ≠ 0 → fae h = fce h ∧ fah h = fzero) := fun k => by unfold fae fah; rw [if_neg k, if_neg k]; exact ⟨rfl, rfl⟩
    have HIN : Hid (fin9 (fah h)) := fah_in h HFI.out
    generalize fah h = c at hu HCO HNC HIN
    obtain ⟨ca1, cc1, ca2, cc2, ca3, cc3, ca4, cc4, rfl⟩ := hu.form
    have HNA : Hid (NineF (w2.alloc (.cells #[.int .i64 c.s, .int .u64 c.z, .int .u64 c.zc, .int .u64 c.c, .int .u64 c.sm, .slice ca1 c.P.length cc1, .slice ca2 c.N.length cc2, .slice ca3 c.pd.length cc3, .slice ca4 c.nd.length cc4] 26)) w2.heap.size #[.int .i64 c.s, .int .u64 c.z, .int .u64 c.zc, .int .u64 c.c, .int .u64 c.sm, .slice ca1 c.P.length cc1, .slice ca2 c.N.length cc2, .slice ca3 c.pd.length cc3, .slice ca4 c.nd.length cc4]) := NineF.new _ _
    have HWA : Hid (Fr [] w (w2.alloc (.cells #[.int .i64 c.s, .int .u64 c.z, .int .u64 c.zc, .int .u64 c.c, .int .u64 c.sm, .slice ca1 c.P.length cc1, .slice ca2 c.N.length cc2, .slice ca3 c.pd.length cc3, .slice ca4 c.nd.length cc4] 26)) ∧ Fr [] w1 (w2.alloc (.cells #[.int .i64 c.s, .int .u64 c.z, .int .u64 c.zc, .int .u64 c.c, .int .u64 c.sm, .slice ca1 c.P.length cc1, .slice ca2 c.N.length cc2, .slice ca3 c.pd.length cc3, .slice ca4 c.nd.length cc4] 26))) := ⟨(HF1.out.trans hf2 (by simp)).alloc _, hf2.alloc _⟩
    have HCA : Hid (FSrc (w2.alloc (.cells #[.int .i64 c.s, .int .u64 c.z, .int .u64 c.zc, .int .u64 c.c, .int .u64 c.sm, .slice ca1 c.P.length cc1, .slice ca2 c.N.length cc2, .slice ca3 c.pd.length cc3, .slice ca4 c.nd.length cc4] 26)) (.agg #[.int .i64 c.s, .int .u64 c.z, .int .u64 c.zc, .int .u64 c.c, .int .u64 c.sm, .slice ca1 c.P.length cc1, .slice ca2 c.N.length cc2, .slice ca3 c.pd.length cc3, .slice ca4 c.nd.length cc4]) c) := (hu.src HIN.out).kept ((Fr.refl [] _).alloc _)
    clear hu hf2 q0 q1 q2 q3 q4 q5 q6 q7 q8
    go_upto_region 4 with fail
    generalize w2.alloc (.cells _ _) = wA at HNA HWA HCA ⊢
    generalize w2.heap.size = G3 at HNA ⊢
    have HF2 : Hid (Fr [] w wA) := HWA.out.1
    have HN2 : Hid (NineF wA w.heap.size _) := HN1.out.kept HWA.out.2 (by simp)
    clear HWA HN1 HF1
    have HLE : Hid (h.P.length ≤ 1024 ∧ h.N.length ≤ 1024) := fewF_le HFEW.out
    have q0 := HN2.out.cell 0 rfl
    have q1 := HN2.out.cell 1 rfl
    have q2 := HN2.out.cell 2 rfl
    have q3 := HN2.out.cell 3 rfl
    have q4 := HN2.out.cell 4 rfl
    have q5 := HN2.out.cell 5 rfl
    have q6 := HN2.out.cell 6 rfl
    have q7 := HN2.out.cell 7 rfl
    have q8 := HN2.out.cell 8 rfl
    go_wp2_with fail
    refine (fref_any _ h wA (HH.out _ HF2.out) HLE.out).mono ?_
    rintro e w3 ⟨u3, rfl, hu3, hf3⟩
    have HU3 : Hid (FSrc w3 u3 h) := hu3
    have HFA3 : Hid (Fr [] wA w3) := hf3
    clear hu3 hf3 q0 q1 q2 q3 q4 q5 q6 q7 q8
    go_wp2_with fail
    refine (lcheck10_any _ h w3 HU3.out).mono ?_
    rintro e w4 ⟨rfl, hf4⟩
    have HFA4 : Hid (Fr [] wA w4) := HFA3.out.trans hf4 (by simp)
    have HF4 : Hid (Fr [] w w4) := HF2.out.trans HFA4.out (by simp)
    have HN4 : Hid (NineF w4 w.heap.size _) := HN2.out.kept HFA4.out (by simp)
    have HG4 : Hid (NineF w4 G3 #[.int .i64 c.s, .int .u64 c.z, .int .u64 c.zc, .int .u64 c.c, .int .u64 c.sm, .slice ca1 c.P.length cc1, .slice ca2 c.N.length cc2, .slice ca3 c.pd.length cc3, .slice ca4 c.nd.length cc4]) := HNA.out.kept HFA4.out (by simp)
    have HC4 : Hid (FSrc w4 (.agg #[.int .i64 c.s, .int .u64 c.z, .int .u64 c.zc, .int .u64 c.c, .int .u64 c.sm, .slice ca1 c.P.length cc1, .slice ca2 c.N.length cc2, .slice ca3 c.pd.length cc3, .slice ca4 c.nd.length cc4]) c) := HCA.out.kept HFA4.out
    clear hf4 HFA3 HFA4 HU3 HF2 HN2 HNA HCA
    by_cases hk : fce h = 0
    case neg =>
      have he := HNC.out hk
      have hb : (fce h != 0) = true := by simpa using hk
      rw [he.1]
      have HCZ : Hid (FSrc w4 (.agg #[.int .i64 c.s, .int .u64 c.z, .int .u64 c.zc, .int .u64 c.c, .int .u64 c.sm, .slice ca1 c.P.length cc1, .slice ca2 c.N.length cc2, .slice ca3 c.pd.length cc3, .slice ca4 c.nd.length cc4]) fzero) := by have := HC4.out; rw [he.2] at this ⊢; exact this
      clear he HNC HCO
      have g0 := HG4.out.cell 0 rfl
      have g1 := HG4.out.cell 1 rfl
      have g2 := HG4.out.cell 2 rfl
      have g3 := HG4.out.cell 3 rfl
      have g4 := HG4.out.cell 4 rfl
      have g5 := HG4.out.cell 5 rfl
      have g6 := HG4.out.cell 6 rfl
      have g7 := HG4.out.cell 7 rfl
      have g8 := HG4.out.cell 8 rfl
      generalize fce h = C at *
      go_wp2_with fail
      refine (empty10_any _ w4 HCZ.out).mono ?_
      rintro e w5 ⟨rfl, hf5⟩
      have HF5 : Hid (Fr [] w w5) := HF4.out.trans hf5 (by simp)
      clear hf5 g0 g1 g2 g3 g4 g5 g6 g7 g8
      go_wp2_with fail
      refine (awake10_any w5).mono ?_
      rintro e w6 ⟨rfl, hf6⟩
      have HF6 : Hid (Fr [] w w6) := HF5.out.trans hf6 (by simp)
      clear hf6
      go_wp2
      go_ret
      exact ⟨rfl, HF6.out.below (Nat.le_refl _) (by simp)⟩
    have HE : Hid (fae h = 0 ∧ freq c h = true ∧ fce c = 0 ∧ cnn c.P = true ∧ cnn c.N = true ∧ ((∀ z ∈ c.pd, z ≠ 0) ∧ (∀ z ∈ c.nd, z ≠ 0) ∧ c.pd.length ≤ 300 ∧ c.nd.length ≤ 300)) := HCO.out hk
    rw [hk, HE.out.1]
    clear hk HNC HCO
    have g7 := HG4.out.cell 7 rfl
    have g8 := HG4.out.cell 8 rfl
    obtain ⟨hsc1, hsc2, hsc3, hsc4⟩ : SSrc w4 (.slice ca1 c.P.length cc1) c.P ∧ SSrc w4 (.slice ca2 c.N.length cc2) c.N ∧ USrc w4 (.slice ca3 c.pd.length cc3) c.pd ∧ USrc w4 (.slice ca4 c.nd.length cc4) c.nd := by
      obtain ⟨_, _, _, _, hv, _, _, k1, k2, k3, k4⟩ := HC4.out
      simp only [Value.agg.injEq, Array.mk.injEq, List.cons.injEq, and_true, true_and] at hv
      obtain ⟨rfl, rfl, rfl, rfl⟩ := hv
      exact ⟨k1, k2, k3, k4⟩
    have HSC : Hid (SSrc w4 (.slice ca1 c.P.length cc1) c.P ∧ SSrc w4 (.slice ca2 c.N.length cc2) c.N ∧ USrc w4 (.slice ca3 c.pd.length cc3) c.pd ∧ USrc w4 (.slice ca4 c.nd.length cc4) c.nd) := ⟨hsc1, hsc2, hsc3, hsc4⟩
    clear hsc1 hsc2 hsc3 hsc4
    have hlp : c.pd.length ≤ 300 := HE.out.2.2.2.2.2.2.2.1
    have hln : c.nd.length ≤ 300 := HE.out.2.2.2.2.2.2.2.2
    have FL : Fr [] w4 (World.drew (w4.alloc (.cells #[] 22))) := ((Fr.refl _ _).alloc _).drew
    have OL : Hid (OU w4.heap.size (World.drew (w4.alloc (.cells #[] 22))) (.slice (some ⟨w4.heap.size, 0, none⟩) 0 0) []) := (OU.lit w4 [] (Nat.le_refl _) (by unfold maxLen; simp)).kept (Fr.refl _ _).drew
    have HLN : Hid (c.pd.length ≤ 300 ∧ c.nd.length ≤ 300) := ⟨hlp, hln⟩
    have hl0 : ([] : List Int).length + c.pd.length ≤ 1000000 := by simp; omega
    have hl1 : c.pd.length + c.nd.length ≤ 1000000 := by omega
    obtain ⟨A, hA⟩ : ∃ A, A = c.pd ++ c.nd := ⟨_, rfl⟩
    have HAE : Hid (A = c.pd ++ c.nd) := hA
    clear hlp hln hA
    go_wp2_with fail
    go_region_held3 (fun w' => w'.cell? ⟨G3, 7, none⟩ = some (.slice ca3 c.pd.length cc3) ∧ w'.cell? ⟨G3, 8, none⟩ = some (.slice ca4 c.nd.length cc4)) (go_keep) (first
      | (refine step_append_us rfl _ _ rfl (xs := []) (ys := c.pd) rfl rfl OL.out (HSC.out.2.2.1.kept FL) FL.size hl0 ?_
         intro va wa hva hba
         have hfa : Fr [] w4 wa := Fr.ofBelow (((FL).below (Nat.le_refl _) (by simp)).trans hba)
         have OA : Hid (OU w4.heap.size wa va c.pd) := hva
         have ka7 := hfa.cell_some g7 (by simp)
         have ka8 := hfa.cell_some g8 (by simp)
         clear hva hba)
      | (refine step_append_us rfl _ _ rfl (xs := c.pd) (ys := c.nd) rfl rfl OA.out (HSC.out.2.2.2.kept hfa) hfa.size hl1 ?_
         intro vb wb hvb hbb
         have hfb : Fr [] w4 wb := Fr.ofBelow ((hfa.below (Nat.le_refl _) (by simp)).trans hbb)
         have OB0 : OU w4.heap.size wb vb A := by rw [HAE.out]; exact hvb
         have OB : Hid (OU w4.heap.size wb vb A) := OB0
         have kb7 := hfb.cell_some g7 (by simp)
         have kb8 := hfb.cell_some g8 (by simp)
         obtain ⟨vba, vbc, rfl⟩ := OB.out.val
         clear hvb hbb OB0))
    have HFB : Hid (Fr [] w4 wb) := hfb
    clear hfa hfb ka7 ka8 kb7 kb8 OA OL FL g7 g8
    have HUB : Hid (USrc wb (.slice vba A.length vbc) A) := OB.out.src (by
      intro z hz
      have hi := HIN.out
      rw [HAE.out] at hz
      rcases List.mem_append.1 hz with h1 | h1
      · exact hi.2.2.1 z h1
      · exact hi.2.2.2 z h1)
    have HNZ : Hid (∀ z ∈ A, z ≠ 0) := by
      intro z hz
      rw [HAE.out] at hz
      rcases List.mem_append.1 hz with h1 | h1
      · exact HE.out.2.2.2.2.2.1 z h1
      · exact HE.out.2.2.2.2.2.2.1 z h1
    have HLL : Hid (A.length ≤ 600) := by have := HLN.out; rw [Hid, HAE.out, List.length_append]; omega
    obtain ⟨_, _, hv, _, _, _, b, off, ha, hc⟩ := HUB.out
    simp only [Value.slice.injEq] at hv
    obtain ⟨rfl, _, rfl⟩ := hv
    have HC : Hid (∀ j s, A[j]? = some s → wb.cell? ⟨b, off + j, none⟩ = some (.int .u64 s)) := hc
    have HA : Hid (0 < A.length → vba = some ⟨b, off, none⟩) := ha
    have hml : A.length ≤ 9223372036854775807 := by have := HLL.out; omega
    clear ha hc HUB OB
    go_wp2
    go_loopw [40] (fun i wr => ∃ (k : Nat), k ≤ A.length ∧ i = .int .i64 (k : Int) ∧ wr = wb) (fun i _ => A.length - (intOf i).toNat)
    case atStart => exact ⟨0, by omega, rfl, rfl⟩
    case round =>
      obtain ⟨k, hk, rfl, rfl⟩ := hrel
      by_cases hlt : k < A.length
      · obtain rfl := HA.out (by omega)
        obtain ⟨s, hs⟩ := at_lt hlt
        have c0 := HC.out k s hs
        have hs0 : (s == 0) = false := by have := HNZ.out s (List.mem_of_getElem? hs); simpa using this
        clear hs
        go_wp2
        go_roundw
        case rel => exact ⟨k + 1, by omega, by go_num, by trivial⟩
        case measure => simp [intOf]; omega
      · have HF6 : Hid (Fr [] w wr) := HF4.out.trans HFB.out (by simp)
        have HN6 : Hid (NineF wr w.heap.size #[.int .i64 h.s, .int .u64 h.z, .int .u64 h.zc, .int .u64 h.c, .int .u64 h.sm, .slice po h.P.length pc, .slice no h.N.length nc, .slice qo h.pd.length qc, .slice ro h.nd.length rc]) := HN4.out.kept HFB.out (by simp)
        have HG6 : Hid (NineF wr G3 #[.int .i64 c.s, .int .u64 c.z, .int .u64 c.zc, .int .u64 c.c, .int .u64 c.sm, .slice ca1 c.P.length cc1, .slice ca2 c.N.length cc2, .slice ca3 c.pd.length cc3, .slice ca4 c.nd.length cc4]) := HG4.out.kept HFB.out (by simp)
        have HC6 : Hid (FSrc wr (.agg #[.int .i64 c.s, .int .u64 c.z, .int .u64 c.zc, .int .u64 c.c, .int .u64 c.sm, .slice ca1 c.P.length cc1, .slice ca2 c.N.length cc2, .slice ca3 c.pd.length cc3, .slice ca4 c.nd.length cc4]) c) := HC4.out.kept HFB.out
        have HS6 : Hid (SSrc wr (.slice ca1 c.P.length cc1) c.P ∧ SSrc wr (.slice ca2 c.N.length cc2) c.N) := ⟨HSC.out.1.kept HFB.out, HSC.out.2.1.kept HFB.out⟩
        have HLC : Hid (c.P.length ≤ 1024 ∧ c.N.length ≤ 1024) := fce_len HE.out.2.2.1
        clear HN4 HG4 HC4 HSC HFB HF4 HC HA
        have L0 : ∀ wx, Fr [] wr wx → wx.cell? ⟨w.heap.size, 0, none⟩ = some (.int .i64 h.s) := fun wx hx => hx.cell_some (HN6.out.cell 0 rfl) List.not_mem_nil
        have L1 : ∀ wx, Fr [] wr wx → wx.cell? ⟨w.heap.size, 1, none⟩ = some (.int .u64 h.z) := fun wx hx => hx.cell_some (HN6.out.cell 1 rfl) List.not_mem_nil
        have L2 : ∀ wx, Fr [] wr wx → wx.cell? ⟨w.heap.size, 2, none⟩ = some (.int .u64 h.zc) := fun wx hx => hx.cell_some (HN6.out.cell 2 rfl) List.not_mem_nil
        have L3 : ∀ wx, Fr [] wr wx → wx.cell? ⟨w.heap.size, 3, none⟩ = some (.int .u64 h.c) := fun wx hx => hx.cell_some (HN6.out.cell 3 rfl) List.not_mem_nil
        have L4 : ∀ wx, Fr [] wr wx → wx.cell? ⟨w.heap.size, 4, none⟩ = some (.int .u64 h.sm) := fun wx hx => hx.cell_some (HN6.out.cell 4 rfl) List.not_mem_nil
        have L5 : ∀ wx, Fr [] wr wx → wx.cell? ⟨w.heap.size, 5, none⟩ = some (.slice po h.P.length pc) := fun wx hx => hx.cell_some (HN6.out.cell 5 rfl) List.not_mem_nil
        have L6 : ∀ wx, Fr [] wr wx → wx.cell? ⟨w.heap.size, 6, none⟩ = some (.slice no h.N.length nc) := fun wx hx => hx.cell_some (HN6.out.cell 6 rfl) List.not_mem_nil
        have L7 : ∀ wx, Fr [] wr wx → wx.cell? ⟨w.heap.size, 7, none⟩ = some (.slice qo h.pd.length qc) := fun wx hx => hx.cell_some (HN6.out.cell 7 rfl) List.not_mem_nil
        have L8 : ∀ wx, Fr [] wr wx → wx.cell? ⟨w.heap.size, 8, none⟩ = some (.slice ro h.nd.length rc) := fun wx hx => hx.cell_some (HN6.out.cell 8 rfl) List.not_mem_nil
        have M0 : ∀ wx, Fr [] wr wx → wx.cell? ⟨G3, 0, none⟩ = some (.int .i64 c.s) := fun wx hx => hx.cell_some (HG6.out.cell 0 rfl) List.not_mem_nil
        have M1 : ∀ wx, Fr [] wr wx → wx.cell? ⟨G3, 1, none⟩ = some (.int .u64 c.z) := fun wx hx => hx.cell_some (HG6.out.cell 1 rfl) List.not_mem_nil
        have M2 : ∀ wx, Fr [] wr wx → wx.cell? ⟨G3, 2, none⟩ = some (.int .u64 c.zc) := fun wx hx => hx.cell_some (HG6.out.cell 2 rfl) List.not_mem_nil
        have M3 : ∀ wx, Fr [] wr wx → wx.cell? ⟨G3, 3, none⟩ = some (.int .u64 c.c) := fun wx hx => hx.cell_some (HG6.out.cell 3 rfl) List.not_mem_nil
        have M4 : ∀ wx, Fr [] wr wx → wx.cell? ⟨G3, 4, none⟩ = some (.int .u64 c.sm) := fun wx hx => hx.cell_some (HG6.out.cell 4 rfl) List.not_mem_nil
        have M5 : ∀ wx, Fr [] wr wx → wx.cell? ⟨G3, 5, none⟩ = some (.slice ca1 c.P.length cc1) := fun wx hx => hx.cell_some (HG6.out.cell 5 rfl) List.not_mem_nil
        have M6 : ∀ wx, Fr [] wr wx → wx.cell? ⟨G3, 6, none⟩ = some (.slice ca2 c.N.length cc2) := fun wx hx => hx.cell_some (HG6.out.cell 6 rfl) List.not_mem_nil
        have M7 : ∀ wx, Fr [] wr wx → wx.cell? ⟨G3, 7, none⟩ = some (.slice ca3 c.pd.length cc3) := fun wx hx => hx.cell_some (HG6.out.cell 7 rfl) List.not_mem_nil
        have M8 : ∀ wx, Fr [] wr wx → wx.cell? ⟨G3, 8, none⟩ = some (.slice ca4 c.nd.length cc4) := fun wx hx => hx.cell_some (HG6.out.cell 8 rfl) List.not_mem_nil
        have F0 : Fr [] wr wr.drew := (Fr.refl _ _).drew
        have HP1 : Hid (∀ wx, Fr [] wr wx → Calls Try.prog 16 #[.agg #[.int .i64 c.s, .int .u64 c.z, .int .u64 c.zc, .int .u64 c.c, .int .u64 c.sm, .slice ca1 c.P.length cc1, .slice ca2 c.N.length cc2, .slice ca3 c.pd.length cc3, .slice ca4 c.nd.length cc4]] wx fun e w' => ∃ u, e = .returned u ∧ FSrc w' u c ∧ Fr [] wr w') := by
          intro wx hx
          refine (fref_any _ c wx (HC6.out.kept hx) HLC.out).mono ?_
          rintro e w' ⟨u, rfl, hu, hf⟩
          exact ⟨u, rfl, hu, hx.trans hf (by simp)⟩
        have HP2 : Hid (∀ wx, Fr [] wr wx → Calls Try.prog 16 #[.agg #[.int .i64 h.s, .int .u64 h.z, .int .u64 h.zc, .int .u64 h.c, .int .u64 h.sm, .slice po h.P.length pc, .slice no h.N.length nc, .slice qo h.pd.length qc, .slice ro h.nd.length rc]] wx fun e w' => ∃ u, e = .returned u ∧ FSrc w' u h ∧ Fr [] wx w' ∧ Fr [] wr w') := by
          intro wx hx
          refine (fref_any _ h wx (HH.out _ (HF6.out.trans hx (by simp))) HLE.out).mono ?_
          rintro e w' ⟨u, rfl, hu, hf⟩
          exact ⟨u, rfl, hu, hf, hx.trans hf (by simp)⟩
        have HP3 : Hid (∀ wx u u2, Fr [] wr wx → FSrc wx u c → FSrc wx u2 h → Calls Try.prog 29 #[u, u2] wx fun e w' => e = .returned (.bool true) ∧ Fr [] wr w') := by
          intro wx u u2 hx hu hu2
          refine (lequal10_any _ _ c h wx hu hu2).mono ?_
          rintro e w' ⟨rfl, hf⟩
          exact ⟨by rw [HE.out.2.1], hx.trans hf (by simp)⟩
        have HP4 : Hid (∀ wx, Fr [] wr wx → Calls Try.prog 27 #[.slice ca1 c.P.length cc1] wx fun e w' => e = .returned (.bool true) ∧ Fr [] wr w') := by
          intro wx hx
          refine (canonical_any _ c.P wx (HS6.out.1.kept hx)).mono ?_
          rintro e w' ⟨rfl, hf⟩
          exact ⟨by rw [HE.out.2.2.2.1], hx.trans hf (by simp)⟩
        have HP5 : Hid (∀ wx, Fr [] wr wx → Calls Try.prog 27 #[.slice ca2 c.N.length cc2] wx fun e w' => e = .returned (.bool true) ∧ Fr [] wr w') := by
          intro wx hx
          refine (canonical_any _ c.N wx (HS6.out.2.kept hx)).mono ?_
          rintro e w' ⟨rfl, hf⟩
          exact ⟨by rw [HE.out.2.2.2.2.1], hx.trans hf (by simp)⟩
        have HP6 : Hid (∀ wx, Fr [] wr wx → Calls Try.prog 13 #[] wx fun e w' => e = .returned (.bool true) ∧ Fr [] wr w') := by
          intro wx hx
          refine (awake10_any wx).mono ?_
          rintro e w' ⟨rfl, hf⟩
          exact ⟨rfl, hx.trans hf (by simp)⟩
        go_wp2_with fail
        go_region_held3 (fun w' => w'.cell? ⟨w.heap.size, 0, none⟩ = some (.int .i64 h.s) ∧ w'.cell? ⟨w.heap.size, 1, none⟩ = some (.int .u64 h.z) ∧ w'.cell? ⟨w.heap.size, 2, none⟩ = some (.int .u64 h.zc) ∧ w'.cell? ⟨w.heap.size, 3, none⟩ = some (.int .u64 h.c) ∧ w'.cell? ⟨w.heap.size, 4, none⟩ = some (.int .u64 h.sm) ∧ w'.cell? ⟨w.heap.size, 5, none⟩ = some (.slice po h.P.length pc) ∧ w'.cell? ⟨w.heap.size, 6, none⟩ = some (.slice no h.N.length nc) ∧ w'.cell? ⟨w.heap.size, 7, none⟩ = some (.slice qo h.pd.length qc) ∧ w'.cell? ⟨w.heap.size, 8, none⟩ = some (.slice ro h.nd.length rc) ∧ w'.cell? ⟨G3, 0, none⟩ = some (.int .i64 c.s) ∧ w'.cell? ⟨G3, 1, none⟩ = some (.int .u64 c.z) ∧ w'.cell? ⟨G3, 2, none⟩ = some (.int .u64 c.zc) ∧ w'.cell? ⟨G3, 3, none⟩ = some (.int .u64 c.c) ∧ w'.cell? ⟨G3, 4, none⟩ = some (.int .u64 c.sm) ∧ w'.cell? ⟨G3, 5, none⟩ = some (.slice ca1 c.P.length cc1) ∧ w'.cell? ⟨G3, 6, none⟩ = some (.slice ca2 c.N.length cc2) ∧ w'.cell? ⟨G3, 7, none⟩ = some (.slice ca3 c.pd.length cc3) ∧ w'.cell? ⟨G3, 8, none⟩ = some (.slice ca4 c.nd.length cc4)) (go_keep) (first
          | (go_at_call 16; first
            | (with_reducible refine (HP1.out _ F0).mono ?_; rintro e wa ⟨ua, rfl, hua, hfa⟩)
            | (with_reducible refine (HP2.out _ hfa).mono ?_; rintro e wc ⟨uc, rfl, huc, hfac, hfc⟩))
          | (go_at_call 29; with_reducible refine (HP3.out _ _ _ hfc (hua.kept hfac) huc).mono ?_; rintro e wd ⟨rfl, hfd⟩)
          | (go_at_call 27; first
            | (with_reducible refine (HP4.out _ hfd).mono ?_; rintro e we ⟨rfl, hfe⟩)
            | (with_reducible refine (HP5.out _ hfe).mono ?_; rintro e wf ⟨rfl, hff⟩))
          | (go_at_call 13; with_reducible refine (HP6.out _ hff).mono ?_; rintro e wg ⟨rfl, hfg⟩))
        all_goals (go_wp2_with fail)
        all_goals (go_ret)
        all_goals exact ⟨rfl, (HF6.out.trans hfg (by simp)).below (Nat.le_refl _) (by simp)⟩
end Go.Proofs.Ytoaibabkkphlaaa
