/-
  Inserts, without any program: which may be, what they make of values; which ones lead from one rising list of places to another; sums and differences modulo 2^64.
-/
import Derived.Test.YtakjfggkfhjeaaaSpans
namespace Go.Proofs.Ytakjfggkfhjeaaa.Spans
open Go.RowKit
set_option linter.unusedSimpArgs false
set_option linter.unusedVariables false

/-- May inserts be? (a: the At ahead, room: how many may still come, n: how many values.) -/
def rgtB (a room n : Int) : List Sp → Bool
  | [] => true
  | s :: r => decide (a < s.1) && decide (s.1 ≤ n) && decide (1 ≤ s.2) && decide (s.2 ≤ room) && rgtB s.1 (room - s.2) n r
/-- They rise by At, each N is above 0. -/
def asc (a n : Int) : List Sp → Prop
  | [] => True
  | s :: r => a < s.1 ∧ s.1 ≤ n ∧ 1 ≤ s.2 ∧ asc s.1 n r
/-- All N together. -/
def smN : List Sp → Int
  | [] => 0
  | s :: r => s.2 + smN r
theorem smN_nonneg {a n : Int} {l : List Sp} (h : asc a n l) : 0 ≤ smN l := by
  induction l generalizing a with
  | nil => simp [smN]
  | cons s r ih => have := ih h.2.2.2; have := h.2.2.1; simp only [smN]; omega
theorem rgtB_iff {a room n : Int} {l : List Sp} (h0 : 0 ≤ room) : rgtB a room n l = true ↔ asc a n l ∧ smN l ≤ room := by
  induction l generalizing a room with
  | nil => simp [rgtB, asc, smN, h0]
  | cons s r ih =>
    simp only [rgtB, asc, smN, Bool.and_eq_true, decide_eq_true_eq]
    constructor
    · rintro ⟨⟨⟨⟨h1, h2⟩, h3⟩, h4⟩, h5⟩
      have := (ih (by omega)).1 h5
      exact ⟨⟨h1, h2, h3, this.1⟩, by omega⟩
    · rintro ⟨⟨h1, h2, h3, h4⟩, h5⟩
      have := smN_nonneg h4
      exact ⟨⟨⟨⟨h1, h2⟩, h3⟩, by omega⟩, (ih (by omega)).2 ⟨h4, by omega⟩⟩
theorem asc_mono {a n m : Int} {l : List Sp} (h : asc a n l) (hm : n ≤ m) : asc a m l := by
  induction l generalizing a with
  | nil => trivial
  | cons s r ih => exact ⟨h.1, by have := h.2.1; omega, h.2.2.1, ih h.2.2.2⟩
theorem asc_snoc {a n : Int} {l : List Sp} {s : Sp} (h : asc a n l) (ha : a < s.1) (hl : ∀ t ∈ l, t.1 < s.1) (h1 : s.1 ≤ n) (h2 : 1 ≤ s.2) : asc a n (l ++ [s]) := by
  induction l generalizing a with
  | nil => exact ⟨ha, h1, h2, trivial⟩
  | cons t r ih => exact ⟨h.1, h.2.1, h.2.2.1, ih h.2.2.2 (hl t (by simp)) (fun x hx => hl x (by simp [hx]))⟩
theorem asc_init {a n : Int} {l : List Sp} {s : Sp} (h : asc a n (l ++ [s])) : asc a n l ∧ a < s.1 ∧ (∀ t ∈ l, t.1 < s.1) ∧ s.1 ≤ n ∧ 1 ≤ s.2 := by
  induction l generalizing a with
  | nil => exact ⟨trivial, h.1, by simp, h.2.1, h.2.2.1⟩
  | cons t r ih =>
    obtain ⟨i1, i2, i3, i4, i5⟩ := ih h.2.2.2
    have := h.1
    refine ⟨⟨h.1, h.2.1, h.2.2.1, i1⟩, by omega, fun x hx => ?_, i4, i5⟩
    rcases List.mem_cons.1 hx with rfl | hx
    · exact i2
    · exact i3 x hx
theorem asc_le {a n : Int} {l : List Sp} (h : asc a n l) : ∀ t ∈ l, a < t.1 ∧ t.1 ≤ n := by
  induction l generalizing a with
  | nil => simp
  | cons s r ih =>
    intro t ht
    rcases List.mem_cons.1 ht with rfl | ht
    · exact ⟨h.1, h.2.1⟩
    · have := ih h.2.2.2 t ht
      have := h.1
      omega
theorem smN_append (l m : List Sp) : smN (l ++ m) = smN l + smN m := by
  induction l with
  | nil => simp [smN]
  | cons s r ih => simp only [List.cons_append, smN, ih]; omega

/-- The values from number t on, with zeros where l says. -/
def exf (z : Int) (vs : List Int) (t : Nat) : List Sp → List Int
  | [] => vs.drop t
  | s :: r => (vs.take s.1.toNat).drop t ++ (List.replicate s.2.toNat z ++ exf z vs s.1.toNat r)
theorem exf_mem {z : Int} {vs : List Int} {t : Nat} {l : List Sp} : ∀ x ∈ exf z vs t l, x = z ∨ x ∈ vs := by
  induction l generalizing t with
  | nil => intro x hx; exact .inr (List.mem_of_mem_drop hx)
  | cons s r ih =>
    intro x hx
    simp only [exf, List.mem_append] at hx
    rcases hx with h | h | h
    · exact .inr (List.mem_of_mem_take (List.mem_of_mem_drop h))
    · exact .inl (List.eq_of_mem_replicate h)
    · exact ih x h
theorem exf_length {z : Int} {vs : List Int} {t : Nat} {a : Int} {l : List Sp} (h : asc a vs.length l) (ht : (t : Int) ≤ a + 1) (ha : -1 ≤ a) (hn : t ≤ vs.length) : ((exf z vs t l).length : Int) = vs.length - t + smN l := by
  induction l generalizing t a with
  | nil => simp only [exf, List.length_drop, smN]; omega
  | cons s r ih =>
    obtain ⟨h1, h2, h3, h4⟩ := h
    have := ih (t := s.1.toNat) h4 (by omega) (by omega) (by omega)
    simp only [exf, List.length_append, List.length_drop, List.length_take, List.length_replicate, smN]
    omega
/-- One value more, behind all. -/
theorem exf_value {z x : Int} {vs : List Int} {t : Nat} {l : List Sp} (hl : ∀ s ∈ l, s.1 ≤ vs.length) (ht : t ≤ vs.length) : exf z (vs ++ [x]) t l = exf z vs t l ++ [x] := by
  induction l generalizing t with
  | nil => simp only [exf]; rw [List.drop_append_of_le_length ht]
  | cons s r ih =>
    have h1 := hl s (by simp)
    simp only [exf]
    rw [ih (fun y hy => hl y (by simp [hy])) (by omega), List.take_append_of_le_length (by omega)]
    simp
/-- Some zeros more, behind all. -/
theorem exf_zeros {z : Int} {vs : List Int} {t : Nat} {l : List Sp} {a m : Int} (ha : a = vs.length) (hl : ∀ s ∈ l, s.1 ≤ vs.length) (ht : t ≤ vs.length) : exf z vs t (l ++ [(a, m)]) = exf z vs t l ++ List.replicate m.toNat z := by
  induction l generalizing t with
  | nil =>
    subst ha
    simp only [List.nil_append, exf, Int.toNat_natCast]
    rw [List.take_length, List.drop_length, List.append_nil]
  | cons s r ih =>
    have h1 := hl s (by simp)
    simp only [List.cons_append, exf]
    rw [ih (fun y hy => hl y (by simp [hy])) (by omega)]
    simp

/-- One place more: which number of own's comes next, and the inserts as yet. -/
def mst (own : List Int) (st : Nat × List Sp) (p : Int) : Nat × List Sp :=
  if own[st.1]? = some p then (st.1 + 1, st.2)
  else match st.2.getLast? with
    | some s => if s.1 = (st.1 : Int) then (st.1, st.2.dropLast ++ [(s.1, s.2 + 1)]) else (st.1, st.2 ++ [((st.1 : Int), 1)])
    | none => (st.1, st.2 ++ [((st.1 : Int), 1)])
def mss (own all : List Int) : Nat × List Sp := all.foldl (mst own) (0, [])
/-- The inserts by which own's values become all's. -/
def mis (own all : List Int) : List Sp := (mss own all).2
theorem mss_snoc (own pre : List Int) (p : Int) : mss own (pre ++ [p]) = mst own (mss own pre) p := by simp [mss]

theorem mst_new {own : List Int} {A : Nat} {ls : List Sp} {p : Int} (h : ¬ own[A]? = some p) (hl : ls = [] ∨ ∃ l0 s, ls = l0 ++ [s] ∧ ¬ s.1 = (A : Int)) : mst own (A, ls) p = (A, ls ++ [((A : Int), 1)]) := by
  unfold mst
  simp only [if_neg h]
  rcases hl with rfl | ⟨l0, s, rfl, hs⟩
  · rfl
  · simp [hs]
theorem mst_more {own : List Int} {A : Nat} {l0 : List Sp} {s : Sp} {p : Int} (h : ¬ own[A]? = some p) (hs : s.1 = (A : Int)) : mst own (A, l0 ++ [s]) p = (A, l0 ++ [(s.1, s.2 + 1)]) := by
  unfold mst
  simp only [if_neg h]
  simp [hs]

/-- What every step keeps, whatever the places are. -/
theorem mss_frame (own all : List Int) : (mss own all).1 ≤ own.length ∧ asc (-1) (mss own all).1 (mss own all).2 ∧ smN (mss own all).2 + (mss own all).1 = all.length ∧ (mss own all).2.length ≤ all.length := by
  suffices H : ∀ k, k ≤ all.length → (mss own (all.take k)).1 ≤ own.length ∧ asc (-1) (mss own (all.take k)).1 (mss own (all.take k)).2 ∧ smN (mss own (all.take k)).2 + (mss own (all.take k)).1 = k ∧ (mss own (all.take k)).2.length ≤ k by
    have := H all.length (Nat.le_refl _)
    rw [List.take_length] at this
    exact this
  intro k
  induction k with
  | zero => intro _; simp [mss, asc, smN]
  | succ k ih =>
    intro hk
    obtain ⟨i1, i2, i3, i4⟩ := ih (by omega)
    have hk' : k < all.length := by omega
    rw [List.take_succ_eq_append_getElem hk', mss_snoc]
    generalize mss own (all.take k) = st at i1 i2 i3 i4
    obtain ⟨at_, l⟩ := st
    simp only at i1 i2 i3 i4
    unfold mst
    simp only
    split
    · rename_i hat
      have := (List.getElem?_eq_some_iff.1 hat).1
      exact ⟨by simp only; omega, asc_mono i2 (by simp only; omega), by simp only; omega, by simp only; omega⟩
    · have new : (∀ t ∈ l, t.1 < (at_ : Int)) → at_ ≤ own.length ∧ asc (-1) at_ (l ++ [((at_ : Int), 1)]) ∧ smN (l ++ [((at_ : Int), 1)]) + at_ = ((k + 1 : Nat) : Int) ∧ (l ++ [((at_ : Int), 1)]).length ≤ k + 1 := by
        intro hlt
        refine ⟨i1, asc_snoc i2 (by simp only; omega) hlt (by simp only; omega) (by simp only; omega), ?_, by simp; omega⟩
        rw [smN_append]; simp only [smN]; omega
      cases hg : l.getLast? with
      | none =>
        have : l = [] := by simpa using hg
        subst this
        exact new (by simp)
      | some s =>
        obtain ⟨l0, rfl⟩ : ∃ l0, l = l0 ++ [s] := List.getLast?_eq_some_iff.1 hg
        obtain ⟨j1, j2, j3, j4, j5⟩ := asc_init i2
        simp only
        split
        · rename_i he
          rw [List.dropLast_concat]
          rw [smN_append] at i3
          simp only [smN] at i3
          refine ⟨i1, asc_snoc j1 j2 j3 j4 (by simp only; omega), ?_, by simpa using by simp at i4; omega⟩
          rw [smN_append]; simp only [smN]; omega
        · rename_i he
          refine new (fun t ht => ?_)
          rcases List.mem_append.1 ht with h | h
          · have := j3 t h; omega
          · have : t = s := by simpa using h
            subst this
            omega

/-- By them own's values, whatever they are, are all's: f tells them place by place. -/
theorem mss_ok {own all : List Int} (ho : own.Pairwise (· < ·)) (ha : all.Pairwise (· < ·)) (hsub : ∀ x ∈ own, x ∈ all) (z : Int) (vs : List Int) (hv : vs.length = own.length) (f : Int → Int)
    (hf1 : ∀ (k : Nat) p x, own[k]? = some p → vs[k]? = some x → f p = x) (hf2 : ∀ p, p ∉ own → f p = z) :
    (mss own all).1 = own.length ∧ exf z vs 0 (mis own all) = all.map f := by
  suffices H : ∀ k, k ≤ all.length → (∀ x ∈ own.drop (mss own (all.take k)).1, x ∈ all.drop k) ∧ (∀ x ∈ own.take (mss own (all.take k)).1, x ∈ all.take k) ∧ exf z (vs.take (mss own (all.take k)).1) 0 (mss own (all.take k)).2 = (all.take k).map f by
    obtain ⟨h1, h2, h3⟩ := H all.length (Nat.le_refl _)
    rw [List.take_length] at h1 h2 h3
    rw [List.drop_length] at h1
    have hle := (mss_frame own all).1
    have e : (mss own all).1 = own.length := by
      by_cases hlt : (mss own all).1 < own.length
      · exact absurd (h1 (own[(mss own all).1]) (by rw [List.drop_eq_getElem_cons hlt]; exact List.mem_cons_self)) (by simp)
      · omega
    refine ⟨e, ?_⟩
    rw [e, List.take_of_length_le (by omega)] at h3
    exact h3
  intro k
  induction k with
  | zero => intro _; refine ⟨fun x hx => ?_, by simp [mss], by simp [mss, exf]⟩; simp [mss] at hx ⊢; exact hsub x hx
  | succ k ih =>
    intro hk
    obtain ⟨i1, i2, i3⟩ := ih (by omega)
    have hfr := mss_frame own (all.take k)
    have hk' : k < all.length := by omega
    rw [List.take_succ_eq_append_getElem hk', mss_snoc]
    rw [List.drop_eq_getElem_cons hk'] at i1
    generalize hp : all[k] = p at *
    have hlt : ∀ x ∈ all.take k, x < p := by
      intro x hx
      obtain ⟨j, hj, rfl⟩ := List.mem_iff_getElem.1 hx
      rw [List.getElem_take, ← hp]
      simp at hj
      exact List.pairwise_iff_getElem.1 ha j k (by omega) hk' (by omega)
    have hgt : ∀ x ∈ all.drop (k + 1), p < x := by
      intro x hx
      obtain ⟨j, hj, rfl⟩ := List.mem_iff_getElem.1 hx
      rw [List.getElem_drop, ← hp]
      simp at hj
      exact List.pairwise_iff_getElem.1 ha k (k + 1 + j) hk' (by omega) (by omega)
    generalize mss own (all.take k) = st at i1 i2 i3 hfr
    obtain ⟨at_, l⟩ := st
    simp only at i1 i2 i3 hfr
    obtain ⟨g1, g2, g3, g4⟩ := hfr
    have hll : ∀ s ∈ l, s.1 ≤ ((vs.take at_).length : Int) := by
      intro s hs
      have := (asc_le g2 s hs).2
      rw [List.length_take]
      omega
    unfold mst
    simp only
    split
    · rename_i hat
      have hal := (List.getElem?_eq_some_iff.1 hat).1
      have hae := (List.getElem?_eq_some_iff.1 hat).2
      simp only
      refine ⟨fun x hx => ?_, fun x hx => ?_, ?_⟩
      · have h1 := i1 x (by rw [List.drop_eq_getElem_cons hal]; exact List.mem_cons_of_mem _ hx)
        rcases List.mem_cons.1 h1 with h | h
        · exfalso
          obtain ⟨j, hj, hjx⟩ := List.mem_iff_getElem.1 hx
          rw [List.getElem_drop] at hjx
          simp at hj
          have := List.pairwise_iff_getElem.1 ho at_ (at_ + 1 + j) hal (by omega) (by omega)
          omega
        · exact h
      · rw [List.take_succ_eq_append_getElem hal] at hx
        rcases List.mem_append.1 hx with h | h
        · exact List.mem_append.2 (.inl (i2 x h))
        · rw [hae] at h
          exact List.mem_append.2 (.inr h)
      · have hvl : at_ < vs.length := by omega
        rw [List.take_succ_eq_append_getElem hvl, exf_value hll (by omega), i3]
        rw [List.map_append, List.map_singleton, hf1 at_ p vs[at_] hat (List.getElem?_eq_getElem hvl)]
    · rename_i hat
      have hno : p ∉ own := by
        intro hm
        obtain ⟨j, hj, hjp⟩ := List.mem_iff_getElem.1 hm
        rcases Nat.lt_trichotomy j at_ with h | h | h
        · have := hlt p (i2 p (by rw [← hjp]; exact List.mem_iff_getElem.2 ⟨j, by simp; omega, by simp⟩))
          omega
        · subst h
          exact hat (by rw [List.getElem?_eq_getElem hj, hjp])
        · have hal : at_ < own.length := by omega
          have h1 := List.pairwise_iff_getElem.1 ho at_ j hal hj h
          have h2 := i1 own[at_] (by rw [List.drop_eq_getElem_cons hal]; exact List.mem_cons_self)
          rcases List.mem_cons.1 h2 with h3 | h3
          · omega
          · have := hgt _ h3
            omega
      have key : ∀ l', exf z (vs.take at_) 0 l' = exf z (vs.take at_) 0 l ++ [z] → (∀ x ∈ own.drop at_, x ∈ all.drop (k + 1)) ∧ (∀ x ∈ own.take at_, x ∈ all.take k ++ [p]) ∧ exf z (vs.take at_) 0 l' = (all.take k ++ [p]).map f := by
        intro l' he
        refine ⟨fun x hx => ?_, fun x hx => List.mem_append.2 (.inl (i2 x hx)), ?_⟩
        · rcases List.mem_cons.1 (i1 x hx) with h | h
          · exact absurd (h ▸ List.mem_of_mem_drop hx) hno
          · exact h
        · rw [he, i3, List.map_append, List.map_singleton, hf2 p hno]
      have hlen : ((vs.take at_).length : Int) = at_ := by rw [List.length_take]; omega
      have new : exf z (vs.take at_) 0 (l ++ [((at_ : Int), 1)]) = exf z (vs.take at_) 0 l ++ [z] := by
        rw [exf_zeros hlen.symm hll (by omega)]; rfl
      cases hg : l.getLast? with
      | none => exact key _ new
      | some s =>
        obtain ⟨l0, rfl⟩ : ∃ l0, l = l0 ++ [s] := List.getLast?_eq_some_iff.1 hg
        simp only
        split
        · rename_i he
          rw [List.dropLast_concat]
          refine key _ ?_
          have hl0 : ∀ t ∈ l0, t.1 ≤ ((vs.take at_).length : Int) := fun t ht => hll t (by simp [ht])
          have hs2 := (asc_init g2).2.2.2.2
          rw [exf_zeros (by rw [he, hlen]) hl0 (by omega)]
          obtain ⟨s1, s2⟩ := s
          simp only at he hs2 ⊢
          rw [exf_zeros (by rw [he, hlen]) hl0 (by omega), List.append_assoc]
          congr 1
          obtain ⟨m, rfl⟩ : ∃ m : Nat, s2 = (m : Int) := ⟨s2.toNat, by omega⟩
          rw [show ((m : Int) + 1).toNat = m + 1 from by omega, Int.toNat_natCast, List.replicate_succ']
        · exact key _ new

theorem mis_self {own : List Int} (ho : own.Pairwise (· < ·)) : mis own own = [] := by
  obtain ⟨h1, _⟩ := mss_ok ho ho (fun x hx => hx) 0 (List.replicate own.length 0) (by simp) (fun _ => 0)
    (fun k p x _ hx => by
      have := List.mem_of_getElem? hx
      exact (List.eq_of_mem_replicate this).symm) (fun _ _ => rfl)
  obtain ⟨_, h2, h3, _⟩ := mss_frame own own
  rw [h1] at h3
  show (mss own own).2 = []
  cases hl : (mss own own).2 with
  | nil => rfl
  | cons s r =>
    rw [hl] at h2 h3
    have := smN_nonneg h2.2.2.2
    have := h2.2.2.1
    simp only [smN] at h3
    omega

/-- Sums, and differences, from a on, modulo 2^64. -/
def wsm (a : Int) : List Int → List Int
  | [] => []
  | d :: r => wrap64 (a + d) :: wsm (wrap64 (a + d)) r
def wdf (a : Int) : List Int → List Int
  | [] => []
  | v :: r => wrap64 (v - a) :: wdf v r
theorem wsm_length (a : Int) (l : List Int) : (wsm a l).length = l.length := by
  induction l generalizing a with
  | nil => rfl
  | cons d r ih => simp [wsm, ih]
theorem wdf_length (a : Int) (l : List Int) : (wdf a l).length = l.length := by
  induction l generalizing a with
  | nil => rfl
  | cons d r ih => simp [wdf, ih]
theorem wrap_back {a v : Int} (h : -9223372036854775808 ≤ v ∧ v ≤ 9223372036854775807) : wrap64 (a + wrap64 (v - a)) = v := by
  unfold wrap64; omega
theorem wsm_wdf {a : Int} {l : List Int} (h : ∀ v ∈ l, -9223372036854775808 ≤ v ∧ v ≤ 9223372036854775807) : wsm a (wdf a l) = l := by
  induction l generalizing a with
  | nil => rfl
  | cons v r ih =>
    simp only [wdf, wsm]
    rw [wrap_back (h v (by simp)), ih (fun x hx => h x (by simp [hx]))]
theorem wrap_in (z : Int) : -9223372036854775808 ≤ wrap64 z ∧ wrap64 z ≤ 9223372036854775807 := by
  unfold wrap64; omega
theorem wsm_in (a : Int) (l : List Int) : ∀ v ∈ wsm a l, -9223372036854775808 ≤ v ∧ v ≤ 9223372036854775807 := by
  induction l generalizing a with
  | nil => simp [wsm]
  | cons d r ih =>
    intro v hv
    rcases List.mem_cons.1 hv with rfl | hv
    · exact wrap_in _
    · exact ih _ v hv
theorem wdf_in (a : Int) (l : List Int) : ∀ v ∈ wdf a l, -9223372036854775808 ≤ v ∧ v ≤ 9223372036854775807 := by
  induction l generalizing a with
  | nil => simp [wdf]
  | cons d r ih =>
    intro v hv
    rcases List.mem_cons.1 hv with rfl | hv
    · exact wrap_in _
    · exact ih _ v hv

/-- Goes through the values one by one: what comes at number i. -/
theorem exf_at {z : Int} {vs : List Int} {i : Nat} {s : Sp} {r : List Sp} (h : s.1 = (i : Int)) : exf z vs i (s :: r) = List.replicate s.2.toNat z ++ exf z vs i r := by
  simp only [exf, h, Int.toNat_natCast]
  rw [List.drop_of_length_le (by rw [List.length_take]; omega), List.nil_append]
theorem exf_next {z : Int} {vs : List Int} {i : Nat} {x : Int} {l : List Sp} (h : asc i vs.length l) (hi : vs[i]? = some x) : exf z vs i l = x :: exf z vs (i + 1) l := by
  obtain ⟨hl, rfl⟩ := List.getElem?_eq_some_iff.1 hi
  cases l with
  | nil => simp only [exf]; rw [List.drop_eq_getElem_cons hl]
  | cons s r =>
    have h1 := h.1
    simp only [exf]
    rw [List.drop_eq_getElem_cons (by rw [List.length_take]; omega)]
    simp
theorem exf_over {z : Int} {vs : List Int} {i : Nat} {l : List Sp} (h : asc i vs.length l) (hi : vs.length ≤ i) : exf z vs i l = [] := by
  cases l with
  | nil => simp only [exf]; exact List.drop_of_length_le hi
  | cons s r => have := h.1; have := h.2.1; omega

/-- What the document's Expand has at a place: the last value whose place it is. -/
def lvl (v : Int) : List Int → List Int → Int → Int
  | o :: os, x :: xs, p => lvl (if o = p then x else v) os xs p
  | _, _, _ => v
theorem lvl_not {v : Int} {os xs : List Int} {p : Int} (h : p ∉ os) : lvl v os xs p = v := by
  induction os generalizing v xs with
  | nil => rfl
  | cons o os ih =>
    cases xs with
    | nil => rfl
    | cons x xs =>
      simp only [lvl]
      rw [if_neg (by intro e; exact h (by simp [e])), ih (by intro hm; exact h (by simp [hm]))]
theorem lvl_at {v : Int} {os xs : List Int} {p x : Int} {k : Nat} (ho : os.Pairwise (· < ·)) (h : os[k]? = some p) (hx : xs[k]? = some x) : lvl v os xs p = x := by
  induction os generalizing v xs k with
  | nil => simp at h
  | cons o os ih =>
    rw [List.pairwise_cons] at ho
    cases xs with
    | nil => simp at hx
    | cons y xs =>
      simp only [lvl]
      cases k with
      | zero =>
        have e1 : o = p := by simpa using h
        have e2 : y = x := by simpa using hx
        rw [if_pos e1, lvl_not (by intro hm; have := ho.1 p hm; omega), e2]
      | succ k => exact ih ho.2 (by simpa using h) (by simpa using hx)
theorem uni_self {a : List Int} (ha : a.Pairwise (· < ·)) : uni a a = a := rising_ext (uni_pair ha ha) ha (fun x => by rw [uni_mem]; simp)
theorem uni_sub {a b : List Int} (ha : a.Pairwise (· < ·)) (hb : b.Pairwise (· < ·)) : uni a b = a ↔ ∀ x ∈ b, x ∈ a := by
  constructor
  · intro h x hx
    rw [← h, uni_mem]
    exact .inr hx
  · intro h
    refine rising_ext (uni_pair ha hb) ha (fun x => ?_)
    rw [uni_mem]
    exact ⟨fun hx => hx.elim id (h x), .inl⟩
end Go.Proofs.Ytakjfggkfhjeaaa.Spans
