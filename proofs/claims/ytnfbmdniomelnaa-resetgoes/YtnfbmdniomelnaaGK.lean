/-
  RPure4, RPure5.
-/
import Derived.Test.YtnfbmdniomelnaaGF
import Derived.Test.YtnfbmdniomelnaaGH
/-
  What goes on from what: nothing resets itself; two that don't reset, one behind the other; empty places play no part.
-/
namespace Go.Proofs.Ytnfbmdniomelnaa
open Go.RowKit Mem Spans
set_option linter.unusedSimpArgs false
set_option linter.unusedVariables false

theorem vat_in (b : List Sp) (p : Int) : (vat b p = 0 ∧ ∀ t ∈ b, t.1 ≠ p) ∨ ∃ t ∈ b, t.1 = p ∧ vat b p = t.2 := by
  induction b with
  | nil => exact .inl ⟨rfl, by simp⟩
  | cons x t ih =>
    by_cases h : x.1 = p
    · exact .inr ⟨x, by simp, h, by rw [vat, if_pos h]⟩
    · rw [vat, if_neg h]
      rcases ih with ⟨h1, h2⟩ | ⟨y, hy, h1, h2⟩
      · refine .inl ⟨h1, fun s hs => ?_⟩
        rcases List.mem_cons.1 hs with rfl | hs
        · exact h
        · exact h2 s hs
      · exact .inr ⟨y, by simp [hy], h1, h2⟩
theorem vat_mem {b : List Sp} {s : Sp} (hb : rsg b) (hs : s ∈ b) : vat b s.1 = s.2 := by
  induction b with
  | nil => cases hs
  | cons x t ih =>
    unfold rsg at hb
    rw [List.pairwise_cons] at hb
    rcases List.mem_cons.1 hs with rfl | hs
    · rw [vat, if_pos rfl]
    · have := hb.1 s hs
      rw [vat, if_neg (by omega)]
      exact ih hb.2 hs
theorem vat_pos {b : List Sp} (h : ∀ s ∈ b, 0 ≤ s.2) (p : Int) : 0 ≤ vat b p := by
  rcases vat_in b p with h1 | ⟨t, ht, _, h2⟩
  · omega
  · rw [h2]; exact h t ht
theorem fal_self {b : List Sp} (hb : rsg b) : fal b b = none := by
  rw [fal_none]
  intro s hs
  rw [vat_mem hb hs]
  exact Int.le_refl _
theorem fal_trans {a b c : List Sp} (h1 : fal a b = none) (h2 : fal b c = none) (hc : ∀ s ∈ c, 0 ≤ s.2) : fal a c = none := by
  rw [fal_none] at h1 h2 ⊢
  intro s hs
  have k1 := h1 s hs
  rcases vat_in b s.1 with ⟨h, _⟩ | ⟨t, ht, e, h⟩
  · have := vat_pos hc s.1
    omega
  · have k2 := h2 t ht
    rw [e] at k2
    omega
theorem vnm_zero {a b : Ct} : vnm a b = 0 ↔ b.s = a.s ∧ b.z = a.z ∧ a.c ≤ b.c ∧ a.k ≤ b.k := by
  unfold vnm
  constructor
  · intro h
    split at h
    · cases h
    split at h
    · cases h
    split at h
    · cases h
    split at h
    · cases h
    refine ⟨?_, ?_, ?_, ?_⟩ <;> omega
  · rintro ⟨h1, h2, h3, h4⟩
    rw [if_neg (by simp [h1]), if_neg (by simp [h2]), if_neg (by omega), if_neg (by omega)]
theorem vrd_zero {a b : Ct} : (vrd a b).1 = 0 ↔ vnm a b = 0 ∧ fal a.p b.p = none ∧ fal a.n b.n = none := by
  unfold vrd
  by_cases h : vnm a b = 0
  · rw [if_pos h]
    cases h1 : fal a.p b.p with
    | some x => simp
    | none =>
      cases h2 : fal a.n b.n with
      | some x => simp
      | none => simp [h]
  · rw [if_neg h]
    simp [h]
theorem vrd_none {a b : Ct} (h : (vrd a b).1 = 0) : vrd a b = (0, 0) := by
  obtain ⟨h1, h2, h3⟩ := vrd_zero.1 h
  unfold vrd
  rw [if_pos h1, h2, h3]
/-- A right counter: places that rise, no count below 0. -/
def Rgt (c : Ct) : Prop := rsg c.p ∧ rsg c.n ∧ (∀ s ∈ c.p, 0 ≤ s.2) ∧ (∀ s ∈ c.n, 0 ≤ s.2)
theorem vrd_self {a : Ct} (h : Rgt a) : vrd a a = (0, 0) :=
  vrd_none (vrd_zero.2 ⟨vnm_zero.2 ⟨rfl, rfl, Int.le_refl _, Int.le_refl _⟩, fal_self h.1, fal_self h.2.1⟩)
theorem vrd_trans {a b c : Ct} (hc : Rgt c) (h1 : (vrd a b).1 = 0) (h2 : (vrd b c).1 = 0) : (vrd a c).1 = 0 := by
  obtain ⟨a1, a2, a3⟩ := vrd_zero.1 h1
  obtain ⟨b1, b2, b3⟩ := vrd_zero.1 h2
  have x := vnm_zero.1 a1
  have y := vnm_zero.1 b1
  refine vrd_zero.2 ⟨vnm_zero.2 ⟨by rw [y.1, x.1], by rw [y.2.1, x.2.1], by omega, by omega⟩, fal_trans a2 b2 hc.2.2.1, fal_trans a3 b3 hc.2.2.2⟩
theorem sdp_pos {h : Hs} (k : che h = 0) : (∀ s ∈ sdp h, 0 ≤ s.2) ∧ (∀ s ∈ sdn h, 0 ≤ s.2) := by
  have kz := che_zero.1 k
  have e1 : sdp h = sdl h.P h.pd := by unfold sdp; rw [if_pos k]
  have e2 : sdn h = sdl h.N h.nd := by unfold sdn; rw [if_pos k]
  rw [e1, e2]
  constructor
  · intro s hs
    exact nng_iff.1 (sde_zero.1 kz.2.1).2.2.2 s.2 (by rw [← (sdl_zip kz.2.1).2.2]; exact List.mem_map.2 ⟨s, hs, rfl⟩)
  · intro s hs
    exact nng_iff.1 (sde_zero.1 kz.2.2.1).2.2.2 s.2 (by rw [← (sdl_zip kz.2.2.1).2.2]; exact List.mem_map.2 ⟨s, hs, rfl⟩)
theorem ctI_rgt (h : Hs) : Rgt (ctI h) := by
  unfold ctI
  split
  · rename_i k
    exact ⟨sdp_rsg h, sdn_rsg h, (sdp_pos k).1, (sdp_pos k).2⟩
  · exact ⟨List.Pairwise.nil, List.Pairwise.nil, by simp [czero], by simp [czero]⟩
theorem self_none (a : Hs) : riv a a = (0, 0) ∧ rie a a = che a := by
  have e : rie a a = che a := by unfold rie; split <;> rfl
  refine ⟨?_, e⟩
  unfold riv
  split
  · exact vrd_self (ctI_rgt a)
  · rfl
theorem rie_zero {a b : Hs} : rie a b = 0 ↔ che a = 0 ∧ che b = 0 := by
  unfold rie
  split
  · rename_i h; simp [h]
  · rename_i h; simp [h]
theorem goes_on {a b c : Hs} (h1 : rie a b = 0) (h2 : rie b c = 0) (k1 : (riv a b).1 = 0) (k2 : (riv b c).1 = 0) : rie a c = 0 ∧ (riv a c).1 = 0 := by
  have x := rie_zero.1 h1
  have y := rie_zero.1 h2
  have e := rie_zero.2 ⟨x.1, y.2⟩
  refine ⟨e, ?_⟩
  unfold riv at k1 k2 ⊢
  rw [if_pos h1] at k1
  rw [if_pos h2] at k2
  rw [if_pos e]
  exact vrd_trans (ctI_rgt c) k1 k2
end Go.Proofs.Ytnfbmdniomelnaa

/-
  Empty places play no part in what resets what.
-/
namespace Go.Proofs.Ytnfbmdniomelnaa
open Go.RowKit Mem Spans
set_option linter.unusedSimpArgs false
set_option linter.unusedVariables false

theorem vat_wio {q : List Sp} (h : rsg q) (p : Int) : vat (wio q 0) p = vat q p := by
  induction q with
  | nil => rfl
  | cons x t ih =>
    unfold rsg at h
    rw [List.pairwise_cons] at h
    have k := ih h.2
    have e : wio (x :: t) 0 = if x.2 = 0 then wio t 0 else x :: wio t 0 := by
      unfold wio
      rw [List.filter_cons]
      by_cases hx : x.2 = 0
      · simp [hx]
      · simp [hx]
    rw [e]
    by_cases hx : x.2 = 0
    · rw [if_pos hx]
      by_cases hp : x.1 = p
      · rw [vat, if_pos hp, hx, k]
        exact vat_no (fun s hs => by have := h.1 s hs; omega)
      · rw [vat, if_neg hp]; exact k
    · rw [if_neg hx]
      by_cases hp : x.1 = p
      · rw [vat, if_pos hp, vat, if_pos hp]
      · rw [vat, if_neg hp, vat, if_neg hp]; exact k
theorem fal_left {p q : List Sp} (hq : ∀ s ∈ q, 0 ≤ s.2) : fal (wio p 0) q = fal p q := by
  induction p with
  | nil => rfl
  | cons x t ih =>
    have e : wio (x :: t) 0 = if x.2 = 0 then wio t 0 else x :: wio t 0 := by
      unfold wio
      rw [List.filter_cons]
      by_cases hx : x.2 = 0
      · simp [hx]
      · simp [hx]
    rw [e]
    have hv := vat_pos hq x.1
    unfold fal at ih ⊢
    by_cases hx : x.2 = 0
    · rw [if_pos hx, ih, List.find?_cons, decide_eq_false (by omega)]
    · rw [if_neg hx, List.find?_cons, List.find?_cons, ih]
theorem fal_right {p q : List Sp} (hq : rsg q) : fal p (wio q 0) = fal p q := by
  unfold fal
  congr 1
  funext s
  rw [vat_wio hq]
/-- A counter without its empty places. -/
def Bare (a b : Ct) : Prop := b.s = a.s ∧ b.z = a.z ∧ b.c = a.c ∧ b.k = a.k ∧ b.p = wio a.p 0 ∧ b.n = wio a.n 0
theorem vrd_left {a a' b : Ct} (h : Bare a a') (hb : Rgt b) : vrd a' b = vrd a b := by
  obtain ⟨h1, h2, h3, h4, h5, h6⟩ := h
  have e : vnm a' b = vnm a b := by unfold vnm; rw [h1, h2, h3, h4]
  unfold vrd
  rw [e, h5, h6, fal_left hb.2.2.1, fal_left hb.2.2.2]
theorem vrd_right {a b b' : Ct} (h : Bare b b') (hb : Rgt b) : vrd a b' = vrd a b := by
  obtain ⟨h1, h2, h3, h4, h5, h6⟩ := h
  have e : vnm a b' = vnm a b := by unfold vnm; rw [h1, h2, h3, h4]
  unfold vrd
  rw [e, h5, h6, fal_right hb.1, fal_right hb.2.1]
theorem cae_zero {h : Hs} (hl : h.pd.length ≤ 300 ∧ h.nd.length ≤ 300) : (che h = 0 → cae h = 0 ∧ che (cah h) = 0 ∧ Bare (ctI h) (ctI (cah h))) ∧ (che h ≠ 0 → cae h = che h) := by
  constructor
  · intro k
    obtain ⟨h1, h2, h3, h4, h5, _⟩ := canon_ok k hl
    have k' : che (cah h) = 0 := by rw [h2]; exact h3
    refine ⟨h1, k', ?_⟩
    unfold ctI
    rw [if_pos k, if_pos k']
    rw [h2]
    exact ⟨rfl, rfl, rfl, rfl, h4, h5⟩
  · intro k
    unfold cae
    rw [if_neg k]
theorem lays_same {a b : Hs} (ka : che a = 0) (kb : che b = 0) (la : a.pd.length ≤ 300 ∧ a.nd.length ≤ 300) (lb : b.pd.length ≤ 300 ∧ b.nd.length ≤ 300) :
    riv (cah a) (cah b) = riv a b ∧ rie (cah a) (cah b) = 0 ∧ riv (cah a) b = riv a b ∧ rie (cah a) b = 0 ∧ rie a b = 0 := by
  have x := (cae_zero la).1 ka
  have y := (cae_zero lb).1 kb
  have e1 := rie_zero.2 ⟨ka, kb⟩
  have e2 := rie_zero.2 ⟨x.2.1, kb⟩
  have e3 := rie_zero.2 ⟨x.2.1, y.2.1⟩
  refine ⟨?_, e3, ?_, e2, e1⟩
  · unfold riv
    rw [if_pos e3, if_pos e1, vrd_right y.2.2 (ctI_rgt b), vrd_left x.2.2 (ctI_rgt b)]
  · unfold riv
    rw [if_pos e2, if_pos e1, vrd_left x.2.2 (ctI_rgt b)]
theorem cah_in11 (h : Hs) : hin (cah h) := by
  unfold cah
  split
  · exact mkh_in _ _ _
  · unfold hin hzero; simp
theorem HOwn.opensX {B : Nat} {w : World} {v : Value} {h : Hs} (k : HOwn B w v h) (i : hin h) : ∃ a1 c1 a2 c2 a3 c3 a4 c4, v = .agg #[.int .i64 h.s, .int .u64 h.z, .int .u64 h.zc, .int .u64 h.c, .int .u64 h.sm, .slice a1 h.P.length c1, .slice a2 h.N.length c2, .slice a3 h.pd.length c3, .slice a4 h.nd.length c4] ∧ HSrc w v h := by
  obtain ⟨a1, c1, a2, c2, a3, c3, a4, c4, e⟩ := k.form
  exact ⟨a1, c1, a2, c2, a3, c3, a4, c4, e, k.src i⟩
end Go.Proofs.Ytnfbmdniomelnaa
