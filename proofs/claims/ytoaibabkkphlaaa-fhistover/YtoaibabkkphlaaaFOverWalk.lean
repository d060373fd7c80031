/-
  FhistOver: the walk.
-/
import Derived.Test.YtoaibabkkphlaaaWithin10
namespace Go.Proofs.Ytoaibabkkphlaaa
open Go.RowKit Mem Spans
set_option linter.unusedSimpArgs false
set_option linter.unusedVariables false
set_option maxRecDepth 100000


set_option maxHeartbeats 8000000 in
theorem fover_walk (v0 : Value) (h : Fs) (a1 : Option Addr) (len1 l1 : Nat) (p : List Sp) (a2 : Option Addr) (len2 l2 : Nat) (n : List Sp) (w : World) (w0 : FSrc w v0 h) (w1 : IsSpans w a1 len1 l1 p) (w2 : IsSpans w a2 len2 l2 n) :
    Calls Try.prog 8 #[v0, .slice a1 len1 l1, .slice a2 len2 l2] w fun e w' => e = .returned (.bool true) ∧ Below w.heap.size w w' := by
  obtain ⟨rfl, hs1⟩ := w1
  obtain ⟨rfl, hs2⟩ := w2
  have HP : Hid (∀ wx, Fr [] w wx → SSrc wx (.slice a1 p.length l1) p) := fun wx hx => hs1.kept hx
  have HQ : Hid (∀ wx, Fr [] w wx → SSrc wx (.slice a2 n.length l2) n) := fun wx hx => hs2.kept hx
  have HH : Hid (∀ wx, Fr [] w wx → FSrc wx v0 h) := fun wx hx => w0.kept hx
  obtain ⟨po, pc, no, nc, qo, qc, ro, rc, rfl, _, hsr, _⟩ := w0.opens
  have HSR : Hid (∀ wx, Fr [] w wx → SSrc wx (.slice po h.P.length pc) h.P ∧ SSrc wx (.slice no h.N.length nc) h.N) := fun wx hx => ⟨hsr.1.kept hx, hsr.2.1.kept hx⟩
  clear w0 hs1 hs2 hsr
  go_enter Try.func8, Try.ntmps8
  have HN0 : Hid (NineF (w.alloc (.cells #[.int .i64 h.s, .int .u64 h.z, .int .u64 h.zc, .int .u64 h.c, .int .u64 h.sm, .slice po h.P.length pc, .slice no h.N.length nc, .slice qo h.pd.length qc, .slice ro h.nd.length rc] 26)) w.heap.size #[.int .i64 h.s, .int .u64 h.z, .int .u64 h.zc, .int .u64 h.c, .int .u64 h.sm, .slice po h.P.length pc, .slice no h.N.length nc, .slice qo h.pd.length qc, .slice ro h.nd.length rc]) := NineF.new _ _
  have HF0 : Hid (Fr [] w (w.alloc (.cells #[.int .i64 h.s, .int .u64 h.z, .int .u64 h.zc, .int .u64 h.c, .int .u64 h.sm, .slice po h.P.length pc, .slice no h.N.length nc, .slice qo h.pd.length qc, .slice ro h.nd.length rc] 26))) := (Fr.refl [] w).alloc _
  go_wp2_with fail
  refine (fsmall_any _ h _ (HH.out _ HF0.out)).mono ?_
  rintro e w1 ⟨r, rfl, hr, hf1⟩
  have HF1 : Hid (Fr [] w w1) := HF0.out.trans hf1 (by simp)
  have HN1 : Hid (NineF w1 w.heap.size #[.int .i64 h.s, .int .u64 h.z, .int .u64 h.zc, .int .u64 h.c, .int .u64 h.sm, .slice po h.P.length pc, .slice no h.N.length nc, .slice qo h.pd.length qc, .slice ro h.nd.length rc]) := HN0.out.kept hf1 (by simp)
  have HR : Hid (r = true → FewF h) := hr
  clear hf1 hr HN0 HF0
  cases r with
  | false =>
    go_wp2_with fail
    refine (awake10_any w1).mono ?_
    rintro e w2 ⟨rfl, hf2⟩
    have HF2 : Hid (Fr [] w w2) := HF1.out.trans hf2 (by simp)
    clear hf2
    go_wp2
    go_ret
    exact ⟨rfl, HF2.out.below (Nat.le_refl _) (by simp)⟩
  | true =>
    have HFEW : Hid (FewF h) := HR.out rfl
    clear HR
    go_wp2_with fail
    refine (few10_any _ p w1 (HP.out _ HF1.out)).mono ?_
    rintro e w2 ⟨r2, rfl, hr, hf2⟩
    have HF2 : Hid (Fr [] w w2) := HF1.out.trans hf2 (by simp)
    have HN2 : Hid (NineF w2 w.heap.size #[.int .i64 h.s, .int .u64 h.z, .int .u64 h.zc, .int .u64 h.c, .int .u64 h.sm, .slice po h.P.length pc, .slice no h.N.length nc, .slice qo h.pd.length qc, .slice ro h.nd.length rc]) := HN1.out.kept hf2 (by simp)
    have HR : Hid (r2 = true → p.length ≤ 400) := hr
    clear hf2 hr HN1 HF1
    cases r2 with
    | false =>
      go_wp2_with fail
      refine (awake10_any w2).mono ?_
      rintro e w3 ⟨rfl, hf3⟩
      have HF3 : Hid (Fr [] w w3) := HF2.out.trans hf3 (by simp)
      clear hf3
      go_wp2
      go_ret
      exact ⟨rfl, HF3.out.below (Nat.le_refl _) (by simp)⟩
    | true =>
      have HLP : Hid (p.length ≤ 1024) := by have := HR.out rfl; rw [Hid]; omega
      clear HR
      go_wp2_with fail
      refine (few10_any _ n w2 (HQ.out _ HF2.out)).mono ?_
      rintro e w3 ⟨r3, rfl, hr, hf3⟩
      have HF3 : Hid (Fr [] w w3) := HF2.out.trans hf3 (by simp)
      have HN3 : Hid (NineF w3 w.heap.size #[.int .i64 h.s, .int .u64 h.z, .int .u64 h.zc, .int .u64 h.c, .int .u64 h.sm, .slice po h.P.length pc, .slice no h.N.length nc, .slice qo h.pd.length qc, .slice ro h.nd.length rc]) := HN2.out.kept hf3 (by simp)
      have HR : Hid (r3 = true → n.length ≤ 400) := hr
      clear hf3 hr HN2 HF2
      cases r3 with
      | false =>
        go_wp2_with fail
        refine (awake10_any w3).mono ?_
        rintro e w4 ⟨rfl, hf4⟩
        have HF4 : Hid (Fr [] w w4) := HF3.out.trans hf4 (by simp)
        clear hf4
        go_wp2
        go_ret
        exact ⟨rfl, HF4.out.below (Nat.le_refl _) (by simp)⟩
      | true =>
        have HLN : Hid (n.length ≤ 1024) := by have := HR.out rfl; rw [Hid]; omega
        clear HR
        have HLE : Hid (h.P.length ≤ 1024 ∧ h.N.length ≤ 1024) := fewF_le HFEW.out
        have HSPp : Hid (∀ wx, Fr [] w wx → Calls Try.prog 34 #[.slice a1 p.length l1] wx fun e w' => ∃ u, e = .returned u ∧ SSrc w' u p ∧ Fr [] wx w') := by
          intro wx hx
          have hs := HP.out _ hx
          refine (spans10_any _ p wx hs HLP.out).mono ?_
          rintro e w' ⟨u, rfl, hu, hf⟩
          exact ⟨u, rfl, hu.src (by obtain ⟨_, _, _, _, _, h64, _⟩ := hs; exact h64), hf⟩
        have HSPn : Hid (∀ wx, Fr [] w wx → Calls Try.prog 34 #[.slice a2 n.length l2] wx fun e w' => ∃ u, e = .returned u ∧ SSrc w' u n ∧ Fr [] wx w') := by
          intro wx hx
          have hs := HQ.out _ hx
          refine (spans10_any _ n wx hs HLN.out).mono ?_
          rintro e w' ⟨u, rfl, hu, hf⟩
          exact ⟨u, rfl, hu.src (by obtain ⟨_, _, _, _, _, h64, _⟩ := hs; exact h64), hf⟩
        have HSPP : Hid (∀ wx, Fr [] w wx → Calls Try.prog 34 #[.slice po h.P.length pc] wx fun e w' => ∃ u, e = .returned u ∧ SSrc w' u h.P ∧ Fr [] wx w') := by
          intro wx hx
          have hs := (HSR.out _ hx).1
          refine (spans10_any _ h.P wx hs HLE.out.1).mono ?_
          rintro e w' ⟨u, rfl, hu, hf⟩
          exact ⟨u, rfl, hu.src (by obtain ⟨_, _, _, _, _, h64, _⟩ := hs; exact h64), hf⟩
        have HSPN : Hid (∀ wx, Fr [] w wx → Calls Try.prog 34 #[.slice no h.N.length nc] wx fun e w' => ∃ u, e = .returned u ∧ SSrc w' u h.N ∧ Fr [] wx w') := by
          intro wx hx
          have hs := (HSR.out _ hx).2
          refine (spans10_any _ h.N wx hs HLE.out.2).mono ?_
          rintro e w' ⟨u, rfl, hu, hf⟩
          exact ⟨u, rfl, hu.src (by obtain ⟨_, _, _, _, _, h64, _⟩ := hs; exact h64), hf⟩
        have q0 := HN3.out.cell 0 rfl
        have q1 := HN3.out.cell 1 rfl
        have q2 := HN3.out.cell 2 rfl
        have q3 := HN3.out.cell 3 rfl
        have q4 := HN3.out.cell 4 rfl
        have q5 := HN3.out.cell 5 rfl
        have q6 := HN3.out.cell 6 rfl
        have q7 := HN3.out.cell 7 rfl
        have q8 := HN3.out.cell 8 rfl
        go_wp2_with fail
        refine (fover_any _ _ _ h p n w3 (HH.out _ HF3.out) (HP.out _ HF3.out) (HQ.out _ HF3.out)).mono ?_
        rintro e w4 ⟨u, rfl, hu, hf4⟩
        have HE1 : Hid (fce h ≠ 0 → fove h p n = fce h ∧ fovh h p n = fzero) := fun k => by
          have e : fove h p n = fce h := by unfold fove; rw [if_neg k]
          exact ⟨e, by unfold fovh; rw [if_neg (by rw [e]; exact k)]⟩
        have HE2 : Hid (fce h = 0 → chk p ≠ 0 → fove h p n = chk p ∧ fovh h p n = fzero) := fun k k2 => by
          have e : fove h p n = chk p := by unfold fove; rw [if_pos k, if_neg k2]
          exact ⟨e, by unfold fovh; rw [if_neg (by rw [e]; exact k2)]⟩
        have HE3 : Hid (fce h = 0 → chk p = 0 → chk n ≠ 0 → fove h p n = chk n ∧ fovh h p n = fzero) := fun k k2 k3 => by
          have e : fove h p n = chk n := by unfold fove; rw [if_pos k, if_pos k2, if_neg k3]
          exact ⟨e, by unfold fovh; rw [if_neg (by rw [e]; exact k3)]⟩
        have HE4 : Hid (fce h = 0 → chk p = 0 → chk n = 0 → ¬ (spb (fdp h) p = true ∧ spb (fdn h) n = true) → fove h p n = 23 ∧ fovh h p n = fzero) := fun k k2 k3 k4 => by
          have e : fove h p n = 23 := by
            unfold fove; rw [if_pos k, if_pos k2, if_pos k3]
            by_cases h1 : spb (fdp h) p = true
            · rw [if_pos h1, if_neg (fun h2 => k4 ⟨h1, h2⟩)]
            · rw [if_neg h1]
          exact ⟨e, by unfold fovh; rw [if_neg (by rw [e]; decide)]⟩
        have HE5 : Hid (fce h = 0 → chk p = 0 → chk n = 0 → spb (fdp h) p = true → spb (fdn h) n = true → fove h p n = 0 ∧ (fovh h p n).P = p ∧ (fovh h p n).N = n ∧ fce (fovh h p n) = 0 ∧ feq (fovh h p n) h = true) := fun k k2 k3 k4 k5 => by
          have e : fove h p n = 0 := by unfold fove; rw [if_pos k, if_pos k2, if_pos k3, if_pos k4, if_pos k5]
          have e2 : fovh h p n = fovs h p n := by unfold fovh; rw [if_pos e]
          have ho := overF_ok k k2 k3 k4 k5
          rw [e2]
          exact ⟨e, rfl, rfl, ho.1, ho.2⟩
        have HOL := fovh_len (h := h) HLP.out HLN.out
        have HLC : Hid ((fovh h p n).P.length ≤ 1024 ∧ (fovh h p n).N.length ≤ 1024) := HOL
        clear HOL
        generalize fovh h p n = c at hu HE1 HE2 HE3 HE4 HE5 HLC
        generalize fove h p n = E at HE1 HE2 HE3 HE4 HE5 ⊢
        obtain ⟨ca1, cc1, ca2, cc2, ca3, cc3, ca4, cc4, rfl, _⟩ := hu.src.opens
        have HNA : Hid (NineF (w4.alloc (.cells #[.int .i64 c.s, .int .u64 c.z, .int .u64 c.zc, .int .u64 c.c, .int .u64 c.sm, .slice ca1 c.P.length cc1, .slice ca2 c.N.length cc2, .slice ca3 c.pd.length cc3, .slice ca4 c.nd.length cc4] 26)) w4.heap.size #[.int .i64 c.s, .int .u64 c.z, .int .u64 c.zc, .int .u64 c.c, .int .u64 c.sm, .slice ca1 c.P.length cc1, .slice ca2 c.N.length cc2, .slice ca3 c.pd.length cc3, .slice ca4 c.nd.length cc4]) := NineF.new _ _
        have HWA : Hid (Fr [] w3 (w4.alloc (.cells #[.int .i64 c.s, .int .u64 c.z, .int .u64 c.zc, .int .u64 c.c, .int .u64 c.sm, .slice ca1 c.P.length cc1, .slice ca2 c.N.length cc2, .slice ca3 c.pd.length cc3, .slice ca4 c.nd.length cc4] 26))) := hf4.alloc _
        have HCA : Hid (FSrc (w4.alloc (.cells #[.int .i64 c.s, .int .u64 c.z, .int .u64 c.zc, .int .u64 c.c, .int .u64 c.sm, .slice ca1 c.P.length cc1, .slice ca2 c.N.length cc2, .slice ca3 c.pd.length cc3, .slice ca4 c.nd.length cc4] 26)) (.agg #[.int .i64 c.s, .int .u64 c.z, .int .u64 c.zc, .int .u64 c.c, .int .u64 c.sm, .slice ca1 c.P.length cc1, .slice ca2 c.N.length cc2, .slice ca3 c.pd.length cc3, .slice ca4 c.nd.length cc4]) c) := hu.src.kept ((Fr.refl [] _).alloc _)
        clear hu hf4 q0 q1 q2 q3 q4 q5 q6 q7 q8
        go_upto_region 4 with fail
        generalize w4.alloc (.cells _ _) = w5 at HNA HWA HCA ⊢
        generalize w4.heap.size = G7 at HNA ⊢
        have HF5 : Hid (Fr [] w w5) := HF3.out.trans HWA.out (by simp)
        have HN5 : Hid (NineF w5 w.heap.size #[.int .i64 h.s, .int .u64 h.z, .int .u64 h.zc, .int .u64 h.c, .int .u64 h.sm, .slice po h.P.length pc, .slice no h.N.length nc, .slice qo h.pd.length qc, .slice ro h.nd.length rc]) := HN3.out.kept HWA.out (by simp)
        have HG5 : Hid (NineF w5 G7 #[.int .i64 c.s, .int .u64 c.z, .int .u64 c.zc, .int .u64 c.c, .int .u64 c.sm, .slice ca1 c.P.length cc1, .slice ca2 c.N.length cc2, .slice ca3 c.pd.length cc3, .slice ca4 c.nd.length cc4]) := HNA.out
        have HO5 : Hid (FSrc w5 (.agg #[.int .i64 c.s, .int .u64 c.z, .int .u64 c.zc, .int .u64 c.c, .int .u64 c.sm, .slice ca1 c.P.length cc1, .slice ca2 c.N.length cc2, .slice ca3 c.pd.length cc3, .slice ca4 c.nd.length cc4]) c) := HCA.out
        clear HWA HN3 HF3 HNA HCA
        have q0 := HN5.out.cell 0 rfl
        have q1 := HN5.out.cell 1 rfl
        have q2 := HN5.out.cell 2 rfl
        have q3 := HN5.out.cell 3 rfl
        have q4 := HN5.out.cell 4 rfl
        have q5 := HN5.out.cell 5 rfl
        have q6 := HN5.out.cell 6 rfl
        have q7 := HN5.out.cell 7 rfl
        have q8 := HN5.out.cell 8 rfl
        go_wp2_with fail
        refine (fref_any _ h w5 (HH.out _ HF5.out) HLE.out).mono ?_
        rintro e w6 ⟨u6, rfl, hu6, hf6⟩
        have HU6 : Hid (FSrc w6 u6 h) := hu6
        clear hu6 q0 q1 q2 q3 q4 q5 q6 q7 q8
        have HF6 : Hid (Fr [] w w6) := HF5.out.trans hf6 (by simp)
        have HN6 : Hid (NineF w6 w.heap.size #[.int .i64 h.s, .int .u64 h.z, .int .u64 h.zc, .int .u64 h.c, .int .u64 h.sm, .slice po h.P.length pc, .slice no h.N.length nc, .slice qo h.pd.length qc, .slice ro h.nd.length rc]) := HN5.out.kept hf6 (by simp)
        have HG6 : Hid (NineF w6 G7 #[.int .i64 c.s, .int .u64 c.z, .int .u64 c.zc, .int .u64 c.c, .int .u64 c.sm, .slice ca1 c.P.length cc1, .slice ca2 c.N.length cc2, .slice ca3 c.pd.length cc3, .slice ca4 c.nd.length cc4]) := HG5.out.kept hf6 (by simp)
        have HO6 : Hid (FSrc w6 (.agg #[.int .i64 c.s, .int .u64 c.z, .int .u64 c.zc, .int .u64 c.c, .int .u64 c.sm, .slice ca1 c.P.length cc1, .slice ca2 c.N.length cc2, .slice ca3 c.pd.length cc3, .slice ca4 c.nd.length cc4]) c) := HO5.out.kept hf6
        clear HF5 HN5 HG5 HO5 hf6
        go_wp2_with fail
        refine (lcheck10_any _ h w6 HU6.out).mono ?_
        rintro e w7 ⟨rfl, hf7⟩
        clear HU6
        have HF7 : Hid (Fr [] w w7) := HF6.out.trans hf7 (by simp)
        have HN7 : Hid (NineF w7 w.heap.size #[.int .i64 h.s, .int .u64 h.z, .int .u64 h.zc, .int .u64 h.c, .int .u64 h.sm, .slice po h.P.length pc, .slice no h.N.length nc, .slice qo h.pd.length qc, .slice ro h.nd.length rc]) := HN6.out.kept hf7 (by simp)
        have HG7 : Hid (NineF w7 G7 #[.int .i64 c.s, .int .u64 c.z, .int .u64 c.zc, .int .u64 c.c, .int .u64 c.sm, .slice ca1 c.P.length cc1, .slice ca2 c.N.length cc2, .slice ca3 c.pd.length cc3, .slice ca4 c.nd.length cc4]) := HG6.out.kept hf7 (by simp)
        have HO7 : Hid (FSrc w7 (.agg #[.int .i64 c.s, .int .u64 c.z, .int .u64 c.zc, .int .u64 c.c, .int .u64 c.sm, .slice ca1 c.P.length cc1, .slice ca2 c.N.length cc2, .slice ca3 c.pd.length cc3, .slice ca4 c.nd.length cc4]) c) := HO6.out.kept hf7
        clear HF6 HN6 HG6 HO6 hf7
        by_cases hk : fce h = 0
        case neg =>
          have hb0 : (fce h == 0) = false := by simpa using hk
          have hb1 : (fce h != 0) = true := by simpa using hk
          have he := HE1.out hk
          rw [he.1]
          have HCZ : Hid (FSrc w7 (.agg #[.int .i64 c.s, .int .u64 c.z, .int .u64 c.zc, .int .u64 c.c, .int .u64 c.sm, .slice ca1 c.P.length cc1, .slice ca2 c.N.length cc2, .slice ca3 c.pd.length cc3, .slice ca4 c.nd.length cc4]) fzero) := by have := HO7.out; rw [he.2] at this ⊢; exact this
          clear he HE1 HE2 HE3 HE4 HE5
          have g0 := HG7.out.cell 0 rfl
          have g1 := HG7.out.cell 1 rfl
          have g2 := HG7.out.cell 2 rfl
          have g3 := HG7.out.cell 3 rfl
          have g4 := HG7.out.cell 4 rfl
          have g5 := HG7.out.cell 5 rfl
          have g6 := HG7.out.cell 6 rfl
          have g7 := HG7.out.cell 7 rfl
          have g8 := HG7.out.cell 8 rfl
          generalize fce h = C at *
          go_wp2_with fail
          refine (empty10_any _ w7 HCZ.out).mono ?_
          rintro e w70 ⟨rfl, hf70⟩
          have HF70 : Hid (Fr [] w w70) := HF7.out.trans hf70 (by simp)
          clear hf70 g0 g1 g2 g3 g4 g5 g6 g7 g8
          go_wp2_with fail
          refine (awake10_any w70).mono ?_
          rintro e w701 ⟨rfl, hf701⟩
          have HF701 : Hid (Fr [] w w701) := HF70.out.trans hf701 (by simp)
          clear hf701
          go_wp2
          go_ret
          exact ⟨rfl, HF701.out.below (Nat.le_refl _) (by simp)⟩
        have HK : Hid (fce h = 0) := hk
        rw [hk]
        clear hk
        go_wp2_with fail
        refine (HSPp.out w7 HF7.out).mono ?_
        rintro e w8 ⟨u8, rfl, hu8, hf8⟩
        have HU8 : Hid (SSrc w8 u8 p) := hu8
        clear hu8
        have HF8 : Hid (Fr [] w w8) := HF7.out.trans hf8 (by simp)
        have HN8 : Hid (NineF w8 w.heap.size #[.int .i64 h.s, .int .u64 h.z, .int .u64 h.zc, .int .u64 h.c, .int .u64 h.sm, .slice po h.P.length pc, .slice no h.N.length nc, .slice qo h.pd.length qc, .slice ro h.nd.length rc]) := HN7.out.kept hf8 (by simp)
        have HG8 : Hid (NineF w8 G7 #[.int .i64 c.s, .int .u64 c.z, .int .u64 c.zc, .int .u64 c.c, .int .u64 c.sm, .slice ca1 c.P.length cc1, .slice ca2 c.N.length cc2, .slice ca3 c.pd.length cc3, .slice ca4 c.nd.length cc4]) := HG7.out.kept hf8 (by simp)
        have HO8 : Hid (FSrc w8 (.agg #[.int .i64 c.s, .int .u64 c.z, .int .u64 c.zc, .int .u64 c.c, .int .u64 c.sm, .slice ca1 c.P.length cc1, .slice ca2 c.N.length cc2, .slice ca3 c.pd.length cc3, .slice ca4 c.nd.length cc4]) c) := HO7.out.kept hf8
        clear HF7 HN7 HG7 HO7 hf8
        go_wp2_with fail
        refine (lcheck_any _ p w8 HU8.out).mono ?_
        rintro e w9 ⟨rfl, hf9⟩
        clear HU8
        have HF9 : Hid (Fr [] w w9) := HF8.out.trans hf9 (by simp)
        have HN9 : Hid (NineF w9 w.heap.size #[.int .i64 h.s, .int .u64 h.z, .int .u64 h.zc, .int .u64 h.c, .int .u64 h.sm, .slice po h.P.length pc, .slice no h.N.length nc, .slice qo h.pd.length qc, .slice ro h.nd.length rc]) := HN8.out.kept hf9 (by simp)
        have HG9 : Hid (NineF w9 G7 #[.int .i64 c.s, .int .u64 c.z, .int .u64 c.zc, .int .u64 c.c, .int .u64 c.sm, .slice ca1 c.P.length cc1, .slice ca2 c.N.length cc2, .slice ca3 c.pd.length cc3, .slice ca4 c.nd.length cc4]) := HG8.out.kept hf9 (by simp)
        have HO9 : Hid (FSrc w9 (.agg #[.int .i64 c.s, .int .u64 c.z, .int .u64 c.zc, .int .u64 c.c, .int .u64 c.sm, .slice ca1 c.P.length cc1, .slice ca2 c.N.length cc2, .slice ca3 c.pd.length cc3, .slice ca4 c.nd.length cc4]) c) := HO8.out.kept hf9
        clear HF8 HN8 HG8 HO8 hf9
        by_cases hk : chk p = 0
        case neg =>
          have hb0 : (chk p == 0) = false := by simpa using hk
          have hb1 : (chk p != 0) = true := by simpa using hk
          have he := HE2.out HK.out hk
          rw [he.1]
          have HCZ : Hid (FSrc w9 (.agg #[.int .i64 c.s, .int .u64 c.z, .int .u64 c.zc, .int .u64 c.c, .int .u64 c.sm, .slice ca1 c.P.length cc1, .slice ca2 c.N.length cc2, .slice ca3 c.pd.length cc3, .slice ca4 c.nd.length cc4]) fzero) := by have := HO9.out; rw [he.2] at this ⊢; exact this
          clear he HE1 HE2 HE3 HE4 HE5
          have g0 := HG9.out.cell 0 rfl
          have g1 := HG9.out.cell 1 rfl
          have g2 := HG9.out.cell 2 rfl
          have g3 := HG9.out.cell 3 rfl
          have g4 := HG9.out.cell 4 rfl
          have g5 := HG9.out.cell 5 rfl
          have g6 := HG9.out.cell 6 rfl
          have g7 := HG9.out.cell 7 rfl
          have g8 := HG9.out.cell 8 rfl
          generalize chk p = C at *
          go_wp2_with fail
          refine (empty10_any _ w9 HCZ.out).mono ?_
          rintro e w90 ⟨rfl, hf90⟩
          have HF90 : Hid (Fr [] w w90) := HF9.out.trans hf90 (by simp)
          clear hf90 g0 g1 g2 g3 g4 g5 g6 g7 g8
          go_wp2_with fail
          refine (awake10_any w90).mono ?_
          rintro e w901 ⟨rfl, hf901⟩
          have HF901 : Hid (Fr [] w w901) := HF90.out.trans hf901 (by simp)
          clear hf901
          go_wp2
          go_ret
          exact ⟨rfl, HF901.out.below (Nat.le_refl _) (by simp)⟩
        have HK1 : Hid (chk p = 0) := hk
        rw [hk]
        clear hk
        go_wp2_with fail
        refine (HSPn.out w9 HF9.out).mono ?_
        rintro e w10 ⟨u10, rfl, hu10, hf10⟩
        have HU10 : Hid (SSrc w10 u10 n) := hu10
        clear hu10
        have HF10 : Hid (Fr [] w w10) := HF9.out.trans hf10 (by simp)
        have HN10 : Hid (NineF w10 w.heap.size #[.int .i64 h.s, .int .u64 h.z, .int .u64 h.zc, .int .u64 h.c, .int .u64 h.sm, .slice po h.P.length pc, .slice no h.N.length nc, .slice qo h.pd.length qc, .slice ro h.nd.length rc]) := HN9.out.kept hf10 (by simp)
        have HG10 : Hid (NineF w10 G7 #[.int .i64 c.s, .int .u64 c.z, .int .u64 c.zc, .int .u64 c.c, .int .u64 c.sm, .slice ca1 c.P.length cc1, .slice ca2 c.N.length cc2, .slice ca3 c.pd.length cc3, .slice ca4 c.nd.length cc4]) := HG9.out.kept hf10 (by simp)
        have HO10 : Hid (FSrc w10 (.agg #[.int .i64 c.s, .int .u64 c.z, .int .u64 c.zc, .int .u64 c.c, .int .u64 c.sm, .slice ca1 c.P.length cc1, .slice ca2 c.N.length cc2, .slice ca3 c.pd.length cc3, .slice ca4 c.nd.length cc4]) c) := HO9.out.kept hf10
        clear HF9 HN9 HG9 HO9 hf10
        go_wp2_with fail
        refine (lcheck_any _ n w10 HU10.out).mono ?_
        rintro e w11 ⟨rfl, hf11⟩
        clear HU10
        have HF11 : Hid (Fr [] w w11) := HF10.out.trans hf11 (by simp)
        have HN11 : Hid (NineF w11 w.heap.size #[.int .i64 h.s, .int .u64 h.z, .int .u64 h.zc, .int .u64 h.c, .int .u64 h.sm, .slice po h.P.length pc, .slice no h.N.length nc, .slice qo h.pd.length qc, .slice ro h.nd.length rc]) := HN10.out.kept hf11 (by simp)
        have HG11 : Hid (NineF w11 G7 #[.int .i64 c.s, .int .u64 c.z, .int .u64 c.zc, .int .u64 c.c, .int .u64 c.sm, .slice ca1 c.P.length cc1, .slice ca2 c.N.length cc2, .slice ca3 c.pd.length cc3, .slice ca4 c.nd.length cc4]) := HG10.out.kept hf11 (by simp)
        have HO11 : Hid (FSrc w11 (.agg #[.int .i64 c.s, .int .u64 c.z, .int .u64 c.zc, .int .u64 c.c, .int .u64 c.sm, .slice ca1 c.P.length cc1, .slice ca2 c.N.length cc2, .slice ca3 c.pd.length cc3, .slice ca4 c.nd.length cc4]) c) := HO10.out.kept hf11
        clear HF10 HN10 HG10 HO10 hf11
        by_cases hk : chk n = 0
        case neg =>
          have hb0 : (chk n == 0) = false := by simpa using hk
          have hb1 : (chk n != 0) = true := by simpa using hk
          have he := HE3.out HK.out HK1.out hk
          rw [he.1]
          have HCZ : Hid (FSrc w11 (.agg #[.int .i64 c.s, .int .u64 c.z, .int .u64 c.zc, .int .u64 c.c, .int .u64 c.sm, .slice ca1 c.P.length cc1, .slice ca2 c.N.length cc2, .slice ca3 c.pd.length cc3, .slice ca4 c.nd.length cc4]) fzero) := by have := HO11.out; rw [he.2] at this ⊢; exact this
          clear he HE1 HE2 HE3 HE4 HE5
          have g0 := HG11.out.cell 0 rfl
          have g1 := HG11.out.cell 1 rfl
          have g2 := HG11.out.cell 2 rfl
          have g3 := HG11.out.cell 3 rfl
          have g4 := HG11.out.cell 4 rfl
          have g5 := HG11.out.cell 5 rfl
          have g6 := HG11.out.cell 6 rfl
          have g7 := HG11.out.cell 7 rfl
          have g8 := HG11.out.cell 8 rfl
          generalize chk n = C at *
          go_wp2_with fail
          refine (empty10_any _ w11 HCZ.out).mono ?_
          rintro e w110 ⟨rfl, hf110⟩
          have HF110 : Hid (Fr [] w w110) := HF11.out.trans hf110 (by simp)
          clear hf110 g0 g1 g2 g3 g4 g5 g6 g7 g8
          go_wp2_with fail
          refine (awake10_any w110).mono ?_
          rintro e w1101 ⟨rfl, hf1101⟩
          have HF1101 : Hid (Fr [] w w1101) := HF110.out.trans hf1101 (by simp)
          clear hf1101
          go_wp2
          go_ret
          exact ⟨rfl, HF1101.out.below (Nat.le_refl _) (by simp)⟩
        have HK2 : Hid (chk n = 0) := hk
        rw [hk]
        clear hk
        have HSD : Hid (fsd h.P h.pd = 0 ∧ fsd h.N h.nd = 0) := ⟨(fce_zero.1 HK.out).2.1, (fce_zero.1 HK.out).2.2⟩
        have HSB : Hid (spb (fdp h) p = wth (pls h.P) (pls p) ∧ spb (fdn h) n = wth (pls h.N) (pls n)) := by
          have e1 : fdp h = fsl h.P h.pd ∧ fdn h = fsl h.N h.nd := by unfold fdp fdn; rw [if_pos HK.out, if_pos HK.out]; exact ⟨rfl, rfl⟩
          rw [Hid, e1.1, e1.2, spb_wthF HSD.out.1, spb_wthF HSD.out.2]
          exact ⟨rfl, rfl⟩
        have HCK : Hid (chk h.P = 0 ∧ chk h.N = 0) := ⟨(fsd_zero.1 HSD.out.1).1, (fsd_zero.1 HSD.out.2).1⟩
        have q5 := HN11.out.cell 5 rfl
        have q6 := HN11.out.cell 6 rfl
        go_wp2_with fail
        refine (within10_any _ _ h.P p w11 (HSR.out _ HF11.out).1 (HP.out _ HF11.out) HCK.out.1 HK1.out).mono ?_
        rintro e w15 ⟨rfl, hf15⟩
        clear q5 q6
        have HF15 : Hid (Fr [] w w15) := HF11.out.trans hf15 (by simp)
        have HN15 : Hid (NineF w15 w.heap.size #[.int .i64 h.s, .int .u64 h.z, .int .u64 h.zc, .int .u64 h.c, .int .u64 h.sm, .slice po h.P.length pc, .slice no h.N.length nc, .slice qo h.pd.length qc, .slice ro h.nd.length rc]) := HN11.out.kept hf15 (by simp)
        have HG15 : Hid (NineF w15 G7 #[.int .i64 c.s, .int .u64 c.z, .int .u64 c.zc, .int .u64 c.c, .int .u64 c.sm, .slice ca1 c.P.length cc1, .slice ca2 c.N.length cc2, .slice ca3 c.pd.length cc3, .slice ca4 c.nd.length cc4]) := HG11.out.kept hf15 (by simp)
        have HO15 : Hid (FSrc w15 (.agg #[.int .i64 c.s, .int .u64 c.z, .int .u64 c.zc, .int .u64 c.c, .int .u64 c.sm, .slice ca1 c.P.length cc1, .slice ca2 c.N.length cc2, .slice ca3 c.pd.length cc3, .slice ca4 c.nd.length cc4]) c) := HO11.out.kept hf15
        clear HF11 HN11 HG11 HO11 hf15
        by_cases hb1 : wth (pls h.P) (pls p) = true
        case neg =>
          have hb1' : wth (pls h.P) (pls p) = false := by simpa using hb1
          rw [hb1']
          have HNO : Hid (¬ (spb (fdp h) p = true ∧ spb (fdn h) n = true)) := fun k => hb1 (by rw [← HSB.out.1]; exact k.1)
          clear hb1 hb1'
          have he := HE4.out HK.out HK1.out HK2.out HNO.out
          rw [he.1]
          have HCZ : Hid (FSrc w15 (.agg #[.int .i64 c.s, .int .u64 c.z, .int .u64 c.zc, .int .u64 c.c, .int .u64 c.sm, .slice ca1 c.P.length cc1, .slice ca2 c.N.length cc2, .slice ca3 c.pd.length cc3, .slice ca4 c.nd.length cc4]) fzero) := by have := HO15.out; rw [he.2] at this ⊢; exact this
          clear he HE1 HE2 HE3 HE4 HE5
          have g0 := HG15.out.cell 0 rfl
          have g1 := HG15.out.cell 1 rfl
          have g2 := HG15.out.cell 2 rfl
          have g3 := HG15.out.cell 3 rfl
          have g4 := HG15.out.cell 4 rfl
          have g5 := HG15.out.cell 5 rfl
          have g6 := HG15.out.cell 6 rfl
          have g7 := HG15.out.cell 7 rfl
          have g8 := HG15.out.cell 8 rfl
          go_wp2_with fail
          refine (empty10_any _ w15 HCZ.out).mono ?_
          rintro e w150 ⟨rfl, hf150⟩
          have HF150 : Hid (Fr [] w w150) := HF15.out.trans hf150 (by simp)
          clear hf150 g0 g1 g2 g3 g4 g5 g6 g7 g8
          go_wp2_with fail
          refine (awake10_any w150).mono ?_
          rintro e w1501 ⟨rfl, hf1501⟩
          have HF1501 : Hid (Fr [] w w1501) := HF150.out.trans hf1501 (by simp)
          clear hf1501
          go_wp2
          go_ret
          exact ⟨rfl, HF1501.out.below (Nat.le_refl _) (by simp)⟩
        have HB1 : Hid (wth (pls h.P) (pls p) = true) := hb1
        rw [hb1]
        clear hb1
        have q6 := HN15.out.cell 6 rfl
        go_wp2_with fail
        refine (within10_any _ _ h.N n w15 (HSR.out _ HF15.out).2 (HQ.out _ HF15.out) HCK.out.2 HK2.out).mono ?_
        rintro e w18 ⟨rfl, hf18⟩
        clear q6
        have HF18 : Hid (Fr [] w w18) := HF15.out.trans hf18 (by simp)
        have HN18 : Hid (NineF w18 w.heap.size #[.int .i64 h.s, .int .u64 h.z, .int .u64 h.zc, .int .u64 h.c, .int .u64 h.sm, .slice po h.P.length pc, .slice no h.N.length nc, .slice qo h.pd.length qc, .slice ro h.nd.length rc]) := HN15.out.kept hf18 (by simp)
        have HG18 : Hid (NineF w18 G7 #[.int .i64 c.s, .int .u64 c.z, .int .u64 c.zc, .int .u64 c.c, .int .u64 c.sm, .slice ca1 c.P.length cc1, .slice ca2 c.N.length cc2, .slice ca3 c.pd.length cc3, .slice ca4 c.nd.length cc4]) := HG15.out.kept hf18 (by simp)
        have HO18 : Hid (FSrc w18 (.agg #[.int .i64 c.s, .int .u64 c.z, .int .u64 c.zc, .int .u64 c.c, .int .u64 c.sm, .slice ca1 c.P.length cc1, .slice ca2 c.N.length cc2, .slice ca3 c.pd.length cc3, .slice ca4 c.nd.length cc4]) c) := HO15.out.kept hf18
        clear HF15 HN15 HG15 HO15 hf18
        by_cases hb2 : wth (pls h.N) (pls n) = true
        case neg =>
          have hb2' : wth (pls h.N) (pls n) = false := by simpa using hb2
          rw [hb2']
          have HNO : Hid (¬ (spb (fdp h) p = true ∧ spb (fdn h) n = true)) := fun k => hb2 (by rw [← HSB.out.2]; exact k.2)
          clear hb2 hb2'
          have he := HE4.out HK.out HK1.out HK2.out HNO.out
          rw [he.1]
          have HCZ : Hid (FSrc w18 (.agg #[.int .i64 c.s, .int .u64 c.z, .int .u64 c.zc, .int .u64 c.c, .int .u64 c.sm, .slice ca1 c.P.length cc1, .slice ca2 c.N.length cc2, .slice ca3 c.pd.length cc3, .slice ca4 c.nd.length cc4]) fzero) := by have := HO18.out; rw [he.2] at this ⊢; exact this
          clear he HE1 HE2 HE3 HE4 HE5
          have g0 := HG18.out.cell 0 rfl
          have g1 := HG18.out.cell 1 rfl
          have g2 := HG18.out.cell 2 rfl
          have g3 := HG18.out.cell 3 rfl
          have g4 := HG18.out.cell 4 rfl
          have g5 := HG18.out.cell 5 rfl
          have g6 := HG18.out.cell 6 rfl
          have g7 := HG18.out.cell 7 rfl
          have g8 := HG18.out.cell 8 rfl
          go_wp2_with fail
          refine (empty10_any _ w18 HCZ.out).mono ?_
          rintro e w180 ⟨rfl, hf180⟩
          have HF180 : Hid (Fr [] w w180) := HF18.out.trans hf180 (by simp)
          clear hf180 g0 g1 g2 g3 g4 g5 g6 g7 g8
          go_wp2_with fail
          refine (awake10_any w180).mono ?_
          rintro e w1801 ⟨rfl, hf1801⟩
          have HF1801 : Hid (Fr [] w w1801) := HF180.out.trans hf1801 (by simp)
          clear hf1801
          go_wp2
          go_ret
          exact ⟨rfl, HF1801.out.below (Nat.le_refl _) (by simp)⟩
        have HE : Hid (E = 0 ∧ c.P = p ∧ c.N = n ∧ fce c = 0 ∧ feq c h = true) := HE5.out HK.out HK1.out HK2.out (by rw [HSB.out.1]; exact HB1.out) (by rw [HSB.out.2]; exact hb2)
        rw [hb2, HE.out.1]
        clear hb2 HE1 HE2 HE3 HE4 HE5
        have HSO : Hid (SSrc w18 (.slice ca1 c.P.length cc1) p ∧ SSrc w18 (.slice ca2 c.N.length cc2) n) := by
          obtain ⟨_, _, _, _, hv, _, _, k1, k2, k3, k4⟩ := HO18.out
          simp only [Value.agg.injEq, Array.mk.injEq, List.cons.injEq, and_true, true_and] at hv
          obtain ⟨rfl, rfl, rfl, rfl⟩ := hv
          rw [HE.out.2.1] at k1
          rw [HE.out.2.2.1] at k2
          rw [Hid, HE.out.2.1, HE.out.2.2.1]
          exact ⟨k1, k2⟩
        have L0 : ∀ wx, Fr [] w18 wx → wx.cell? ⟨w.heap.size, 0, none⟩ = some (.int .i64 h.s) := fun wx hx => hx.cell_some (HN18.out.cell 0 rfl) List.not_mem_nil
        have L1 : ∀ wx, Fr [] w18 wx → wx.cell? ⟨w.heap.size, 1, none⟩ = some (.int .u64 h.z) := fun wx hx => hx.cell_some (HN18.out.cell 1 rfl) List.not_mem_nil
        have L2 : ∀ wx, Fr [] w18 wx → wx.cell? ⟨w.heap.size, 2, none⟩ = some (.int .u64 h.zc) := fun wx hx => hx.cell_some (HN18.out.cell 2 rfl) List.not_mem_nil
        have L3 : ∀ wx, Fr [] w18 wx → wx.cell? ⟨w.heap.size, 3, none⟩ = some (.int .u64 h.c) := fun wx hx => hx.cell_some (HN18.out.cell 3 rfl) List.not_mem_nil
        have L4 : ∀ wx, Fr [] w18 wx → wx.cell? ⟨w.heap.size, 4, none⟩ = some (.int .u64 h.sm) := fun wx hx => hx.cell_some (HN18.out.cell 4 rfl) List.not_mem_nil
        have L5 : ∀ wx, Fr [] w18 wx → wx.cell? ⟨w.heap.size, 5, none⟩ = some (.slice po h.P.length pc) := fun wx hx => hx.cell_some (HN18.out.cell 5 rfl) List.not_mem_nil
        have L6 : ∀ wx, Fr [] w18 wx → wx.cell? ⟨w.heap.size, 6, none⟩ = some (.slice no h.N.length nc) := fun wx hx => hx.cell_some (HN18.out.cell 6 rfl) List.not_mem_nil
        have L7 : ∀ wx, Fr [] w18 wx → wx.cell? ⟨w.heap.size, 7, none⟩ = some (.slice qo h.pd.length qc) := fun wx hx => hx.cell_some (HN18.out.cell 7 rfl) List.not_mem_nil
        have L8 : ∀ wx, Fr [] w18 wx → wx.cell? ⟨w.heap.size, 8, none⟩ = some (.slice ro h.nd.length rc) := fun wx hx => hx.cell_some (HN18.out.cell 8 rfl) List.not_mem_nil
        have M0 : ∀ wx, Fr [] w18 wx → wx.cell? ⟨G7, 0, none⟩ = some (.int .i64 c.s) := fun wx hx => hx.cell_some (HG18.out.cell 0 rfl) List.not_mem_nil
        have M1 : ∀ wx, Fr [] w18 wx → wx.cell? ⟨G7, 1, none⟩ = some (.int .u64 c.z) := fun wx hx => hx.cell_some (HG18.out.cell 1 rfl) List.not_mem_nil
        have M2 : ∀ wx, Fr [] w18 wx → wx.cell? ⟨G7, 2, none⟩ = some (.int .u64 c.zc) := fun wx hx => hx.cell_some (HG18.out.cell 2 rfl) List.not_mem_nil
        have M3 : ∀ wx, Fr [] w18 wx → wx.cell? ⟨G7, 3, none⟩ = some (.int .u64 c.c) := fun wx hx => hx.cell_some (HG18.out.cell 3 rfl) List.not_mem_nil
        have M4 : ∀ wx, Fr [] w18 wx → wx.cell? ⟨G7, 4, none⟩ = some (.int .u64 c.sm) := fun wx hx => hx.cell_some (HG18.out.cell 4 rfl) List.not_mem_nil
        have M5 : ∀ wx, Fr [] w18 wx → wx.cell? ⟨G7, 5, none⟩ = some (.slice ca1 c.P.length cc1) := fun wx hx => hx.cell_some (HG18.out.cell 5 rfl) List.not_mem_nil
        have M6 : ∀ wx, Fr [] w18 wx → wx.cell? ⟨G7, 6, none⟩ = some (.slice ca2 c.N.length cc2) := fun wx hx => hx.cell_some (HG18.out.cell 6 rfl) List.not_mem_nil
        have M7 : ∀ wx, Fr [] w18 wx → wx.cell? ⟨G7, 7, none⟩ = some (.slice ca3 c.pd.length cc3) := fun wx hx => hx.cell_some (HG18.out.cell 7 rfl) List.not_mem_nil
        have M8 : ∀ wx, Fr [] w18 wx → wx.cell? ⟨G7, 8, none⟩ = some (.slice ca4 c.nd.length cc4) := fun wx hx => hx.cell_some (HG18.out.cell 8 rfl) List.not_mem_nil
        have F0 : Fr [] w18 w18.drew := (Fr.refl _ _).drew
        have HP1 : Hid (∀ wx, Fr [] w18 wx → Calls Try.prog 36 #[.slice ca1 c.P.length cc1, .slice a1 p.length l1] wx fun e w' => e = .returned (.bool true) ∧ Fr [] w18 w') := by
          intro wx hx
          refine (alike10_any _ _ p wx (HSO.out.1.kept hx) (HP.out _ (HF18.out.trans hx (by simp)))).mono ?_
          rintro e w' ⟨rfl, hf⟩
          exact ⟨rfl, hx.trans hf (by simp)⟩
        have HP2 : Hid (∀ wx, Fr [] w18 wx → Calls Try.prog 36 #[.slice ca2 c.N.length cc2, .slice a2 n.length l2] wx fun e w' => e = .returned (.bool true) ∧ Fr [] w18 w') := by
          intro wx hx
          refine (alike10_any _ _ n wx (HSO.out.2.kept hx) (HQ.out _ (HF18.out.trans hx (by simp)))).mono ?_
          rintro e w' ⟨rfl, hf⟩
          exact ⟨rfl, hx.trans hf (by simp)⟩
        have HP3 : Hid (∀ wx, Fr [] w18 wx → Calls Try.prog 16 #[.agg #[.int .i64 c.s, .int .u64 c.z, .int .u64 c.zc, .int .u64 c.c, .int .u64 c.sm, .slice ca1 c.P.length cc1, .slice ca2 c.N.length cc2, .slice ca3 c.pd.length cc3, .slice ca4 c.nd.length cc4]] wx fun e w' => ∃ u, e = .returned u ∧ FSrc w' u c ∧ Fr [] w18 w') := by
          intro wx hx
          refine (fref_any _ c wx (HO18.out.kept hx) HLC.out).mono ?_
          rintro e w' ⟨u, rfl, hu, hf⟩
          exact ⟨u, rfl, hu, hx.trans hf (by simp)⟩
        have HP4 : Hid (∀ wx, Fr [] w18 wx → Calls Try.prog 16 #[.agg #[.int .i64 h.s, .int .u64 h.z, .int .u64 h.zc, .int .u64 h.c, .int .u64 h.sm, .slice po h.P.length pc, .slice no h.N.length nc, .slice qo h.pd.length qc, .slice ro h.nd.length rc]] wx fun e w' => ∃ u, e = .returned u ∧ FSrc w' u h ∧ Fr [] wx w' ∧ Fr [] w18 w') := by
          intro wx hx
          refine (fref_any _ h wx (HH.out _ (HF18.out.trans hx (by simp))) HLE.out).mono ?_
          rintro e w' ⟨u, rfl, hu, hf⟩
          exact ⟨u, rfl, hu, hf, hx.trans hf (by simp)⟩
        have HP5 : Hid (∀ wx u u2, Fr [] w18 wx → FSrc wx u c → FSrc wx u2 h → Calls Try.prog 29 #[u, u2] wx fun e w' => e = .returned (.bool true) ∧ Fr [] w18 w') := by
          intro wx u u2 hx hu hu2
          refine (lequal10_any _ _ c h wx hu hu2).mono ?_
          rintro e w' ⟨rfl, hf⟩
          exact ⟨by rw [freq_feq, HE.out.2.2.2.2], hx.trans hf (by simp)⟩
        have HP6 : Hid (∀ wx, Fr [] w18 wx → Calls Try.prog 13 #[] wx fun e w' => e = .returned (.bool true) ∧ Fr [] w18 w') := by
          intro wx hx
          refine (awake10_any wx).mono ?_
          rintro e w' ⟨rfl, hf⟩
          exact ⟨rfl, hx.trans hf (by simp)⟩
        go_wp2_with fail
        go_region_held3 (fun w' => w'.cell? ⟨w.heap.size, 0, none⟩ = some (.int .i64 h.s) ∧ w'.cell? ⟨w.heap.size, 1, none⟩ = some (.int .u64 h.z) ∧ w'.cell? ⟨w.heap.size, 2, none⟩ = some (.int .u64 h.zc) ∧ w'.cell? ⟨w.heap.size, 3, none⟩ = some (.int .u64 h.c) ∧ w'.cell? ⟨w.heap.size, 4, none⟩ = some (.int .u64 h.sm) ∧ w'.cell? ⟨w.heap.size, 5, none⟩ = some (.slice po h.P.length pc) ∧ w'.cell? ⟨w.heap.size, 6, none⟩ = some (.slice no h.N.length nc) ∧ w'.cell? ⟨w.heap.size, 7, none⟩ = some (.slice qo h.pd.length qc) ∧ w'.cell? ⟨w.heap.size, 8, none⟩ = some (.slice ro h.nd.length rc) ∧ w'.cell? ⟨G7, 0, none⟩ = some (.int .i64 c.s) ∧ w'.cell? ⟨G7, 1, none⟩ = some (.int .u64 c.z) ∧ w'.cell? ⟨G7, 2, none⟩ = some (.int .u64 c.zc) ∧ w'.cell? ⟨G7, 3, none⟩ = some (.int .u64 c.c) ∧ w'.cell? ⟨G7, 4, none⟩ = some (.int .u64 c.sm) ∧ w'.cell? ⟨G7, 5, none⟩ = some (.slice ca1 c.P.length cc1) ∧ w'.cell? ⟨G7, 6, none⟩ = some (.slice ca2 c.N.length cc2) ∧ w'.cell? ⟨G7, 7, none⟩ = some (.slice ca3 c.pd.length cc3) ∧ w'.cell? ⟨G7, 8, none⟩ = some (.slice ca4 c.nd.length cc4)) (go_keep) (first
          | (go_at_call 36; first
            | (with_reducible refine (HP1.out _ F0).mono ?_; rintro e wa ⟨rfl, hfa⟩)
            | (with_reducible refine (HP2.out _ hfa).mono ?_; rintro e wb ⟨rfl, hfb⟩))
          | (go_at_call 16; first
            | (with_reducible refine (HP3.out _ hfb).mono ?_; rintro e wc ⟨uc, rfl, huc, hfc⟩)
            | (with_reducible refine (HP4.out _ hfc).mono ?_; rintro e wd ⟨ud, rfl, hud, hfcd, hfd⟩))
          | (go_at_call 29; with_reducible refine (HP5.out _ _ _ hfd (huc.kept hfcd) hud).mono ?_; rintro e we ⟨rfl, hfe⟩)
          | (go_at_call 13; with_reducible refine (HP6.out _ hfe).mono ?_; rintro e wg ⟨rfl, hfg⟩))
        all_goals (go_wp2_with fail)
        all_goals (go_ret)
        all_goals exact ⟨rfl, (HF18.out.trans hfg (by simp)).below (Nat.le_refl _) (by simp)⟩
end Go.Proofs.Ytoaibabkkphlaaa
