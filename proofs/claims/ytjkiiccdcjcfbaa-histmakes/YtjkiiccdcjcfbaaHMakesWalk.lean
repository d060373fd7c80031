/-
  HistMakes: the walk.
-/
import Derived.Test.YtjkiiccdcjcfbaaLApart9
import Derived.Test.YtjkiiccdcjcfbaaHCanonWalk
namespace Go.Proofs.Ytjkiiccdcjcfbaa
open Go.RowKit Mem Spans
set_option linter.unusedSimpArgs false
set_option linter.unusedVariables false
set_option maxRecDepth 100000

set_option maxHeartbeats 8000000 in
theorem hmakes_walk (v0 : Value) (h : Hs) (a1 : Option Addr) (len1 l1 : Nat) (p : List Sp) (a2 : Option Addr) (len2 l2 : Nat) (n : List Sp) (w : World) (w0 : HSrc w v0 h) (w1 : IsSpans w a1 len1 l1 p) (w2 : IsSpans w a2 len2 l2 n) :
    Calls Try.prog 5 #[v0, .slice a1 len1 l1, .slice a2 len2 l2] w fun e w' => e = .returned (.bool true) ∧ Below w.heap.size w w' := by
  obtain ⟨rfl, hs1⟩ := w1
  obtain ⟨rfl, hs2⟩ := w2
  have HP : Hid (∀ wx, Fr [] w wx → SSrc wx (.slice a1 p.length l1) p) := fun wx hx => hs1.kept hx
  have HQ : Hid (∀ wx, Fr [] w wx → SSrc wx (.slice a2 n.length l2) n) := fun wx hx => hs2.kept hx
  have HH : Hid (∀ wx, Fr [] w wx → HSrc wx v0 h) := fun wx hx => w0.kept hx
  have HS : Hid (mke h p n = 0 → che (mks h p n) = 0 ∧ sdp (mks h p n) = p ∧ sdn (mks h p n) = n ∧ cnn (aps p) = true ∧ cnn (aps n) = true) := mks_sd (by obtain ⟨_, _, _, _, _, h64, _⟩ := hs1; exact h64) (by obtain ⟨_, _, _, _, _, h64, _⟩ := hs2; exact h64)
  obtain ⟨po, pc, no, nc, qo, qc, ro, rc, rfl, _⟩ := w0.opens
  clear w0 hs1 hs2
  go_enter Try.func5, Try.ntmps5
  have HN0 : Hid (Nine (w.alloc (.cells #[.int .i64 h.s, .int .u64 h.z, .int .u64 h.zc, .int .u64 h.c, .int .u64 h.sm, .slice po h.P.length pc, .slice no h.N.length nc, .slice qo h.pd.length qc, .slice ro h.nd.length rc] 26)) w.heap.size #[.int .i64 h.s, .int .u64 h.z, .int .u64 h.zc, .int .u64 h.c, .int .u64 h.sm, .slice po h.P.length pc, .slice no h.N.length nc, .slice qo h.pd.length qc, .slice ro h.nd.length rc]) := Nine.new _ _
  have HF0 : Hid (Fr [] w (w.alloc (.cells #[.int .i64 h.s, .int .u64 h.z, .int .u64 h.zc, .int .u64 h.c, .int .u64 h.sm, .slice po h.P.length pc, .slice no h.N.length nc, .slice qo h.pd.length qc, .slice ro h.nd.length rc] 26))) := (Fr.refl [] w).alloc _
  generalize hW0 : w.alloc (.cells #[.int .i64 h.s, .int .u64 h.z, .int .u64 h.zc, .int .u64 h.c, .int .u64 h.sm, .slice po h.P.length pc, .slice no h.N.length nc, .slice qo h.pd.length qc, .slice ro h.nd.length rc] 26) = wz at *
  by_cases hlp : p.length ≤ 300
  case neg =>
    go_wp2_with fail
    refine (awake9_any _).mono ?_
    rintro e w2 ⟨rfl, hf2⟩
    have HF2 : Hid (Fr [] w w2) := HF0.out.trans hf2 (by simp)
    clear hf2
    go_wp2
    go_ret
    exact ⟨rfl, HF2.out.below (Nat.le_refl _) (by simp)⟩
  by_cases hln : n.length ≤ 300
  case neg =>
    go_wp2_with fail
    refine (awake9_any _).mono ?_
    rintro e w2 ⟨rfl, hf2⟩
    have HF2 : Hid (Fr [] w w2) := HF0.out.trans hf2 (by simp)
    clear hf2
    go_wp2
    go_ret
    exact ⟨rfl, HF2.out.below (Nat.le_refl _) (by simp)⟩
  have HL : Hid (p.length ≤ 300 ∧ n.length ≤ 300) := ⟨hlp, hln⟩
  have q0 := HN0.out.cell 0 rfl
  have q1 := HN0.out.cell 1 rfl
  have q2 := HN0.out.cell 2 rfl
  have q3 := HN0.out.cell 3 rfl
  have q4 := HN0.out.cell 4 rfl
  have q5 := HN0.out.cell 5 rfl
  have q6 := HN0.out.cell 6 rfl
  have q7 := HN0.out.cell 7 rfl
  have q8 := HN0.out.cell 8 rfl
  go_wp2_with fail
  refine (make_any _ _ _ h p n _ (HH.out _ HF0.out) (HP.out _ HF0.out) (HQ.out _ HF0.out) (by have := HL.out.1; omega) (by have := HL.out.2; omega)).mono ?_
  rintro e w2 ⟨u, rfl, hu, hf2⟩
  have HKZ : Hid (mke h p n = 0 → mkh h p n = mks h p n) := fun k => by unfold mkh; rw [if_pos k]
  have HKN : Hid (mke h p n ≠ 0 → mkh h p n = hzero) := fun k => by unfold mkh; rw [if_neg k]
  have HIN : Hid (hin (mkh h p n)) := mkh_in _ _ _
  generalize mkh h p n = c at hu HKZ HKN HIN
  obtain ⟨ca1, cc1, ca2, cc2, ca3, cc3, ca4, cc4, rfl⟩ := hu.form
  have HNA : Hid (Nine (w2.alloc (.cells #[.int .i64 c.s, .int .u64 c.z, .int .u64 c.zc, .int .u64 c.c, .int .u64 c.sm, .slice ca1 c.P.length cc1, .slice ca2 c.N.length cc2, .slice ca3 c.pd.length cc3, .slice ca4 c.nd.length cc4] 26)) w2.heap.size #[.int .i64 c.s, .int .u64 c.z, .int .u64 c.zc, .int .u64 c.c, .int .u64 c.sm, .slice ca1 c.P.length cc1, .slice ca2 c.N.length cc2, .slice ca3 c.pd.length cc3, .slice ca4 c.nd.length cc4]) := Nine.new _ _
  have HWA : Hid (Fr [] w (w2.alloc (.cells #[.int .i64 c.s, .int .u64 c.z, .int .u64 c.zc, .int .u64 c.c, .int .u64 c.sm, .slice ca1 c.P.length cc1, .slice ca2 c.N.length cc2, .slice ca3 c.pd.length cc3, .slice ca4 c.nd.length cc4] 26)) ∧ Fr [] wz (w2.alloc (.cells #[.int .i64 c.s, .int .u64 c.z, .int .u64 c.zc, .int .u64 c.c, .int .u64 c.sm, .slice ca1 c.P.length cc1, .slice ca2 c.N.length cc2, .slice ca3 c.pd.length cc3, .slice ca4 c.nd.length cc4] 26))) := ⟨(HF0.out.trans hf2 (by simp)).alloc _, hf2.alloc _⟩
  have HCA : Hid (HSrc (w2.alloc (.cells #[.int .i64 c.s, .int .u64 c.z, .int .u64 c.zc, .int .u64 c.c, .int .u64 c.sm, .slice ca1 c.P.length cc1, .slice ca2 c.N.length cc2, .slice ca3 c.pd.length cc3, .slice ca4 c.nd.length cc4] 26)) (.agg #[.int .i64 c.s, .int .u64 c.z, .int .u64 c.zc, .int .u64 c.c, .int .u64 c.sm, .slice ca1 c.P.length cc1, .slice ca2 c.N.length cc2, .slice ca3 c.pd.length cc3, .slice ca4 c.nd.length cc4]) c) := (hu.src HIN.out).kept ((Fr.refl [] _).alloc _)
  clear hu hf2 q0 q1 q2 q3 q4 q5 q6 q7 q8
  go_upto_region 4 with fail
  generalize w2.alloc (.cells _ _) = wA at HNA HWA HCA ⊢
  generalize w2.heap.size = G3 at HNA ⊢
  have HFA : Hid (Fr [] w wA) := HWA.out.1
  have HN2 : Hid (Nine wA w.heap.size #[.int .i64 h.s, .int .u64 h.z, .int .u64 h.zc, .int .u64 h.c, .int .u64 h.sm, .slice po h.P.length pc, .slice no h.N.length nc, .slice qo h.pd.length qc, .slice ro h.nd.length rc]) := HN0.out.kept HWA.out.2 (by simp)
  clear HWA HN0 HF0
  have q0 := HN2.out.cell 0 rfl
  have q1 := HN2.out.cell 1 rfl
  have q2 := HN2.out.cell 2 rfl
  have q3 := HN2.out.cell 3 rfl
  have q4 := HN2.out.cell 4 rfl
  have q5 := HN2.out.cell 5 rfl
  have q6 := HN2.out.cell 6 rfl
  have q7 := HN2.out.cell 7 rfl
  have q8 := HN2.out.cell 8 rfl
  go_wp2_with fail
  refine (makes_any _ _ _ h p n wA (HH.out _ HFA.out) (HP.out _ HFA.out) (HQ.out _ HFA.out) HL.out.1 HL.out.2).mono ?_
  rintro e w3 ⟨rfl, hf3⟩
  have HF3 : Hid (Fr [] wA w3) := hf3
  clear hf3 q0 q1 q2 q3 q4 q5 q6 q7 q8
  have g0 : w3.cell? ⟨G3, 0, none⟩ = some (.int .i64 c.s) := HF3.out.cell_some (HNA.out.cell 0 rfl) List.not_mem_nil
  have g1 : w3.cell? ⟨G3, 1, none⟩ = some (.int .u64 c.z) := HF3.out.cell_some (HNA.out.cell 1 rfl) List.not_mem_nil
  have g2 : w3.cell? ⟨G3, 2, none⟩ = some (.int .u64 c.zc) := HF3.out.cell_some (HNA.out.cell 2 rfl) List.not_mem_nil
  have g3 : w3.cell? ⟨G3, 3, none⟩ = some (.int .u64 c.c) := HF3.out.cell_some (HNA.out.cell 3 rfl) List.not_mem_nil
  have g4 : w3.cell? ⟨G3, 4, none⟩ = some (.int .u64 c.sm) := HF3.out.cell_some (HNA.out.cell 4 rfl) List.not_mem_nil
  have g5 : w3.cell? ⟨G3, 5, none⟩ = some (.slice ca1 c.P.length cc1) := HF3.out.cell_some (HNA.out.cell 5 rfl) List.not_mem_nil
  have g6 : w3.cell? ⟨G3, 6, none⟩ = some (.slice ca2 c.N.length cc2) := HF3.out.cell_some (HNA.out.cell 6 rfl) List.not_mem_nil
  have g7 : w3.cell? ⟨G3, 7, none⟩ = some (.slice ca3 c.pd.length cc3) := HF3.out.cell_some (HNA.out.cell 7 rfl) List.not_mem_nil
  have g8 : w3.cell? ⟨G3, 8, none⟩ = some (.slice ca4 c.nd.length cc4) := HF3.out.cell_some (HNA.out.cell 8 rfl) List.not_mem_nil
  by_cases hk : mke h p n = 0
  case neg =>
    have HCZ : Hid (HSrc w3 (.agg #[.int .i64 c.s, .int .u64 c.z, .int .u64 c.zc, .int .u64 c.c, .int .u64 c.sm, .slice ca1 c.P.length cc1, .slice ca2 c.N.length cc2, .slice ca3 c.pd.length cc3, .slice ca4 c.nd.length cc4]) hzero) := by
      have := HCA.out.kept HF3.out
      rw [HKN.out hk] at this ⊢
      exact this
    have HC3 : Hid (Fr [] w w3) := HFA.out.trans HF3.out (by simp)
    clear HKN HKZ HS HCA HNA HN2 HF3
    generalize mke h p n = C at *
    go_wp2_with fail
    refine (empty_any _ w3 HCZ.out).mono ?_
    rintro e w5 ⟨rfl, hf5⟩
    have HF5 : Hid (Fr [] w w5) := HC3.out.trans hf5 (by simp)
    clear hf5 g0 g1 g2 g3 g4 g5 g6 g7 g8
    go_wp2_with fail
    refine (awake9_any w5).mono ?_
    rintro e w6 ⟨rfl, hf6⟩
    have HF6 : Hid (Fr [] w w6) := HF5.out.trans hf6 (by simp)
    clear hf6
    go_wp2
    go_ret
    exact ⟨rfl, HF6.out.below (Nat.le_refl _) (by simp)⟩
  have HE : Hid (c = mks h p n ∧ che c = 0 ∧ sdp c = p ∧ sdn c = n ∧ cnn c.P = true ∧ cnn c.N = true) := by
    have e1 := HKZ.out hk
    have e2 := HS.out hk
    rw [Hid, e1]
    exact ⟨rfl, e2⟩
  have HSM : Hid (c.s = h.s ∧ c.z = h.z ∧ c.zc = h.zc ∧ c.c = h.c ∧ c.sm = h.sm) := by rw [Hid, HE.out.1]; exact ⟨rfl, rfl, rfl, rfl, rfl⟩
  rw [hk]
  clear hk HKN HKZ HS
  obtain ⟨hsc1, hsc2⟩ : SSrc wA (.slice ca1 c.P.length cc1) c.P ∧ SSrc wA (.slice ca2 c.N.length cc2) c.N := by
    obtain ⟨_, _, _, _, hv, _, _, k1, k2, k3, k4⟩ := HCA.out
    simp only [Value.agg.injEq, Array.mk.injEq, List.cons.injEq, and_true, true_and] at hv
    obtain ⟨rfl, rfl, rfl, rfl⟩ := hv
    exact ⟨k1, k2⟩
  have HSC : Hid (SSrc wA (.slice ca1 c.P.length cc1) c.P ∧ SSrc wA (.slice ca2 c.N.length cc2) c.N) := ⟨hsc1, hsc2⟩
  clear hsc1 hsc2
  go_wp2_with fail
  refine (hcheck_any _ c w3 (HCA.out.kept HF3.out)).mono ?_
  rintro e w4 ⟨rfl, hf4⟩
  rw [HE.out.2.1]
  have HF4 : Hid (Fr [] wA w4) := HF3.out.trans hf4 (by simp)
  clear hf4 HF3 g0 g1 g2 g3 g4 g5 g6 g7 g8
  have g0 : w4.cell? ⟨G3, 0, none⟩ = some (.int .i64 c.s) := HF4.out.cell_some (HNA.out.cell 0 rfl) List.not_mem_nil
  have q0 : w4.cell? ⟨w.heap.size, 0, none⟩ = some (.int .i64 h.s) := HF4.out.cell_some (HN2.out.cell 0 rfl) List.not_mem_nil
  have g1 : w4.cell? ⟨G3, 1, none⟩ = some (.int .u64 c.z) := HF4.out.cell_some (HNA.out.cell 1 rfl) List.not_mem_nil
  have q1 : w4.cell? ⟨w.heap.size, 1, none⟩ = some (.int .u64 h.z) := HF4.out.cell_some (HN2.out.cell 1 rfl) List.not_mem_nil
  have g2 : w4.cell? ⟨G3, 2, none⟩ = some (.int .u64 c.zc) := HF4.out.cell_some (HNA.out.cell 2 rfl) List.not_mem_nil
  have q2 : w4.cell? ⟨w.heap.size, 2, none⟩ = some (.int .u64 h.zc) := HF4.out.cell_some (HN2.out.cell 2 rfl) List.not_mem_nil
  have g3 : w4.cell? ⟨G3, 3, none⟩ = some (.int .u64 c.c) := HF4.out.cell_some (HNA.out.cell 3 rfl) List.not_mem_nil
  have q3 : w4.cell? ⟨w.heap.size, 3, none⟩ = some (.int .u64 h.c) := HF4.out.cell_some (HN2.out.cell 3 rfl) List.not_mem_nil
  have g4 : w4.cell? ⟨G3, 4, none⟩ = some (.int .u64 c.sm) := HF4.out.cell_some (HNA.out.cell 4 rfl) List.not_mem_nil
  have q4 : w4.cell? ⟨w.heap.size, 4, none⟩ = some (.int .u64 h.sm) := HF4.out.cell_some (HN2.out.cell 4 rfl) List.not_mem_nil
  have g5 : w4.cell? ⟨G3, 5, none⟩ = some (.slice ca1 c.P.length cc1) := HF4.out.cell_some (HNA.out.cell 5 rfl) List.not_mem_nil
  have q5 : w4.cell? ⟨w.heap.size, 5, none⟩ = some (.slice po h.P.length pc) := HF4.out.cell_some (HN2.out.cell 5 rfl) List.not_mem_nil
  have g6 : w4.cell? ⟨G3, 6, none⟩ = some (.slice ca2 c.N.length cc2) := HF4.out.cell_some (HNA.out.cell 6 rfl) List.not_mem_nil
  have q6 : w4.cell? ⟨w.heap.size, 6, none⟩ = some (.slice no h.N.length nc) := HF4.out.cell_some (HN2.out.cell 6 rfl) List.not_mem_nil
  have g7 : w4.cell? ⟨G3, 7, none⟩ = some (.slice ca3 c.pd.length cc3) := HF4.out.cell_some (HNA.out.cell 7 rfl) List.not_mem_nil
  have q7 : w4.cell? ⟨w.heap.size, 7, none⟩ = some (.slice qo h.pd.length qc) := HF4.out.cell_some (HN2.out.cell 7 rfl) List.not_mem_nil
  have g8 : w4.cell? ⟨G3, 8, none⟩ = some (.slice ca4 c.nd.length cc4) := HF4.out.cell_some (HNA.out.cell 8 rfl) List.not_mem_nil
  have q8 : w4.cell? ⟨w.heap.size, 8, none⟩ = some (.slice ro h.nd.length rc) := HF4.out.cell_some (HN2.out.cell 8 rfl) List.not_mem_nil
  go_wp2_with fail
  refine (numbers_any _ _ c h w4 (HCA.out.kept HF4.out) (HH.out _ (HFA.out.trans HF4.out (by simp))) HSM.out).mono ?_
  rintro e w5 ⟨rfl, hf5⟩
  have HF5 : Hid (Fr [] wA w5) := HF4.out.trans hf5 (by simp)
  clear hf5 HF4 g0 g1 g2 g3 g4 g5 g6 g7 g8 q0 q1 q2 q3 q4 q5 q6 q7 q8
  have g5 : w5.cell? ⟨G3, 5, none⟩ = some (.slice ca1 c.P.length cc1) := HF5.out.cell_some (HNA.out.cell 5 rfl) List.not_mem_nil
  go_wp2_with fail
  refine (canonical_any _ c.P w5 (HSC.out.1.kept HF5.out)).mono ?_
  rintro e w6 ⟨rfl, hf6⟩
  rw [HE.out.2.2.2.2.1]
  have HF6 : Hid (Fr [] wA w6) := HF5.out.trans hf6 (by simp)
  clear hf6 HF5 g5
  have g6 : w6.cell? ⟨G3, 6, none⟩ = some (.slice ca2 c.N.length cc2) := HF6.out.cell_some (HNA.out.cell 6 rfl) List.not_mem_nil
  go_wp2_with fail
  refine (canonical_any _ c.N w6 (HSC.out.2.kept HF6.out)).mono ?_
  rintro e w7 ⟨rfl, hf7⟩
  rw [HE.out.2.2.2.2.2]
  have HF7 : Hid (Fr [] wA w7) := HF6.out.trans hf7 (by simp)
  clear hf7 HF6 g6
  have g0 : w7.cell? ⟨G3, 0, none⟩ = some (.int .i64 c.s) := HF7.out.cell_some (HNA.out.cell 0 rfl) List.not_mem_nil
  have g1 : w7.cell? ⟨G3, 1, none⟩ = some (.int .u64 c.z) := HF7.out.cell_some (HNA.out.cell 1 rfl) List.not_mem_nil
  have g2 : w7.cell? ⟨G3, 2, none⟩ = some (.int .u64 c.zc) := HF7.out.cell_some (HNA.out.cell 2 rfl) List.not_mem_nil
  have g3 : w7.cell? ⟨G3, 3, none⟩ = some (.int .u64 c.c) := HF7.out.cell_some (HNA.out.cell 3 rfl) List.not_mem_nil
  have g4 : w7.cell? ⟨G3, 4, none⟩ = some (.int .u64 c.sm) := HF7.out.cell_some (HNA.out.cell 4 rfl) List.not_mem_nil
  have g5 : w7.cell? ⟨G3, 5, none⟩ = some (.slice ca1 c.P.length cc1) := HF7.out.cell_some (HNA.out.cell 5 rfl) List.not_mem_nil
  have g6 : w7.cell? ⟨G3, 6, none⟩ = some (.slice ca2 c.N.length cc2) := HF7.out.cell_some (HNA.out.cell 6 rfl) List.not_mem_nil
  have g7 : w7.cell? ⟨G3, 7, none⟩ = some (.slice ca3 c.pd.length cc3) := HF7.out.cell_some (HNA.out.cell 7 rfl) List.not_mem_nil
  have g8 : w7.cell? ⟨G3, 8, none⟩ = some (.slice ca4 c.nd.length cc4) := HF7.out.cell_some (HNA.out.cell 8 rfl) List.not_mem_nil
  go_wp2_with fail
  refine (hpairs_any _ c 0 w7 (HCA.out.kept HF7.out)).mono ?_
  rintro e w8 ⟨x, rfl, hx, hf8⟩
  have HX : Hid (SOwn 72 w7.heap.size w8 x p) := by
    have e1 : prl c 0 = p := by unfold prl; rw [if_pos rfl, HE.out.2.2.1]
    rw [e1] at hx; exact hx
  have hp0 : pre c 0 = 0 := by unfold pre; rw [if_pos (Or.inl rfl), HE.out.2.1]
  rw [hp0]
  have HF8 : Hid (Fr [] wA w8) := HF7.out.trans hf8 (by simp)
  obtain ⟨xa, xc, rfl⟩ := HX.out.val
  clear hf8 hx hp0 HF7 g0 g1 g2 g3 g4 g5 g6 g7 g8
  have g0 : w8.cell? ⟨G3, 0, none⟩ = some (.int .i64 c.s) := HF8.out.cell_some (HNA.out.cell 0 rfl) List.not_mem_nil
  have g1 : w8.cell? ⟨G3, 1, none⟩ = some (.int .u64 c.z) := HF8.out.cell_some (HNA.out.cell 1 rfl) List.not_mem_nil
  have g2 : w8.cell? ⟨G3, 2, none⟩ = some (.int .u64 c.zc) := HF8.out.cell_some (HNA.out.cell 2 rfl) List.not_mem_nil
  have g3 : w8.cell? ⟨G3, 3, none⟩ = some (.int .u64 c.c) := HF8.out.cell_some (HNA.out.cell 3 rfl) List.not_mem_nil
  have g4 : w8.cell? ⟨G3, 4, none⟩ = some (.int .u64 c.sm) := HF8.out.cell_some (HNA.out.cell 4 rfl) List.not_mem_nil
  have g5 : w8.cell? ⟨G3, 5, none⟩ = some (.slice ca1 c.P.length cc1) := HF8.out.cell_some (HNA.out.cell 5 rfl) List.not_mem_nil
  have g6 : w8.cell? ⟨G3, 6, none⟩ = some (.slice ca2 c.N.length cc2) := HF8.out.cell_some (HNA.out.cell 6 rfl) List.not_mem_nil
  have g7 : w8.cell? ⟨G3, 7, none⟩ = some (.slice ca3 c.pd.length cc3) := HF8.out.cell_some (HNA.out.cell 7 rfl) List.not_mem_nil
  have g8 : w8.cell? ⟨G3, 8, none⟩ = some (.slice ca4 c.nd.length cc4) := HF8.out.cell_some (HNA.out.cell 8 rfl) List.not_mem_nil
  go_wp2_with fail
  refine (hpairs_any _ c 1 w8 (HCA.out.kept HF8.out)).mono ?_
  rintro e w9 ⟨y, rfl, hy, hf9⟩
  have HY : Hid (SOwn 72 w8.heap.size w9 y n) := by
    have e1 : prl c 1 = n := by unfold prl; rw [if_neg (by decide), if_pos rfl, HE.out.2.2.2.1]
    rw [e1] at hy; exact hy
  have hp0 : pre c 1 = 0 := by unfold pre; rw [if_pos (Or.inr rfl), HE.out.2.1]
  rw [hp0]
  have HF9 : Hid (Fr [] wA w9) := HF8.out.trans hf9 (by simp)
  have HX9 : Hid (SOwn 72 w7.heap.size w9 (.slice xa p.length xc) p) := HX.out.kept hf9
  obtain ⟨ya, yc, rfl⟩ := HY.out.val
  clear hf9 hy hp0 HF8 HX g0 g1 g2 g3 g4 g5 g6 g7 g8
  have HXI : Hid ((∀ s ∈ p, in64 s.1 ∧ in64 s.2) ∧ (∀ s ∈ n, in64 s.1 ∧ in64 s.2)) := by
    constructor
    · obtain ⟨_, _, _, _, _, h64, _⟩ := HP.out _ (Fr.refl _ _); exact h64
    · obtain ⟨_, _, _, _, _, h64, _⟩ := HQ.out _ (Fr.refl _ _); exact h64
  go_wp2_with fail
  refine (pequal_any _ _ p p w9 (HX9.out.src HXI.out.1) (HP.out _ (HFA.out.trans HF9.out (by simp)))).mono ?_
  rintro e w10 ⟨rfl, hf10⟩
  rw [decide_eq_true rfl]
  have HF10 : Hid (Fr [] wA w10) := HF9.out.trans hf10 (by simp)
  have HY10 : Hid (SOwn 72 w8.heap.size w10 (.slice ya n.length yc) n) := HY.out.kept hf10
  clear hf10 HF9
  go_wp2_with fail
  refine (pequal_any _ _ n n w10 (HY10.out.src HXI.out.2) (HQ.out _ (HFA.out.trans HF10.out (by simp)))).mono ?_
  rintro e w11 ⟨rfl, hf11⟩
  rw [decide_eq_true rfl]
  have HF11 : Hid (Fr [] wA w11) := HF10.out.trans hf11 (by simp)
  clear hf11 HF10
  go_wp2_with fail
  refine (awake9_any w11).mono ?_
  rintro e w12 ⟨rfl, hf12⟩
  have HF12 : Hid (Fr [] wA w12) := HF11.out.trans hf12 (by simp)
  clear hf12
  go_wp2
  go_ret
  exact ⟨rfl, (HFA.out.trans HF12.out (by simp)).below (Nat.le_refl _) (by simp)⟩
end Go.Proofs.Ytjkiiccdcjcfbaa
