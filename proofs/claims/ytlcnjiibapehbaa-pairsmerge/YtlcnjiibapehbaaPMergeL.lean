/-
  What the merged list of two rising lists is: each place with its value, or both joined.
-/
import Derived.Test.YtlcnjiibapehbaaPMerge
import Derived.Test.YtlcnjiibapehbaaRefF7
namespace Go.Proofs.Ytlcnjiibapehbaa
open Go.RowKit Mem Spans
set_option linter.unusedSimpArgs false
set_option linter.unusedVariables false

def asc (l : List Sp) : Prop := l.Pairwise fun s t => s.1 < t.1
theorem asc_iff (l : List Sp) : risB l = true ↔ asc l := by
  induction l with
  | nil => simp [risB, asc]
  | cons a r ih =>
    cases r with
    | nil => simp [risB, asc]
    | cons b r =>
      simp only [risB, Bool.and_eq_true, decide_eq_true_eq, ih]
      constructor
      · rintro ⟨h1, h2⟩
        refine List.pairwise_cons.2 ⟨fun s hs => ?_, h2⟩
        rcases List.mem_cons.1 hs with rfl | hs
        · exact h1
        · have := (List.pairwise_cons.1 h2).1 s hs
          omega
      · intro h
        have h' := List.pairwise_cons.1 h
        exact ⟨h'.1 b (by simp), h'.2⟩
/-- What a place has, by the first pair with it. -/
def lk : List Sp → Int → Option Int
  | [], _ => none
  | s :: r, p => if s.1 = p then some s.2 else lk r p
theorem lk_fdx (l : List Sp) (p : Int) : lk l p = (l[fdx l p]?).map (fun s => s.2) := by
  induction l with
  | nil => rfl
  | cons s r ih =>
    simp only [lk, fdx]
    split
    · simp
    · rw [ih]; simp
theorem lk_none {l : List Sp} {p : Int} (h : ∀ s ∈ l, s.1 ≠ p) : lk l p = none := by
  induction l with
  | nil => rfl
  | cons s r ih => rw [lk, if_neg (h s (by simp)), ih (fun t ht => h t (by simp [ht]))]
theorem lk_mem {l : List Sp} {p v : Int} (h : lk l p = some v) : (p, v) ∈ l := by
  induction l with
  | nil => cases h
  | cons s r ih =>
    simp only [lk] at h
    split at h
    · rename_i h1
      cases h
      subst h1
      simp
    · exact List.mem_cons_of_mem _ (ih h)
theorem lk_ne {s : Sp} {r : List Sp} {p : Int} (h : s.1 ≠ p) : lk (s :: r) p = lk r p := by rw [lk, if_neg h]
theorem lk_eq {s : Sp} {r : List Sp} : lk (s :: r) s.1 = some s.2 := by rw [lk, if_pos rfl]
theorem lk_asc {l : List Sp} (h : asc l) {s : Sp} (hs : s ∈ l) : lk l s.1 = some s.2 := by
  induction l with
  | nil => cases hs
  | cons t r ih =>
    have h' := List.pairwise_cons.1 h
    rcases List.mem_cons.1 hs with rfl | hs
    · exact lk_eq
    · have := h'.1 s hs
      rw [lk_ne (by omega), ih h'.2 hs]

/-- What a place of either is to have. -/
def wnt (f : Int → Int → Int) (a b : List Sp) (p : Int) : Option Int :=
  match lk a p, lk b p with
  | some x, some y => some (f x y)
  | some x, none => some x
  | none, some y => some y
  | none, none => none
def inB (a b : List Sp) (s : Sp) : Bool := (lk a s.1).isSome && (lk b s.1).isSome
def bth (a b m : List Sp) : Nat := (m.filter (inB a b)).length
def MOk (f : Int → Int → Int) (a b m : List Sp) : Prop := asc m ∧ (∀ s ∈ m, wnt f a b s.1 = some s.2) ∧ m.length + bth a b m = a.length + b.length

theorem wnt_some {f : Int → Int → Int} {a b : List Sp} {p v : Int} (h : wnt f a b p = some v) : (∃ x, (p, x) ∈ a) ∨ (∃ y, (p, y) ∈ b) := by
  unfold wnt at h
  cases ha : lk a p with
  | some x => exact .inl ⟨x, lk_mem ha⟩
  | none =>
    cases hb : lk b p with
    | some y => exact .inr ⟨y, lk_mem hb⟩
    | none => rw [ha, hb] at h; cases h
theorem bth_congr {a b a' b' m : List Sp} (h : ∀ s ∈ m, lk a s.1 = lk a' s.1 ∧ lk b s.1 = lk b' s.1) : bth a b m = bth a' b' m := by
  unfold bth
  rw [List.filter_congr]
  intro s hs
  unfold inB
  rw [(h s hs).1, (h s hs).2]
theorem bth_cons (a b : List Sp) (s : Sp) (m : List Sp) : bth a b (s :: m) = (if inB a b s = true then 1 else 0) + bth a b m := by
  unfold bth
  rw [List.filter_cons]
  split
  · rw [List.length_cons]; omega
  · omega

theorem mok_left (f : Int → Int → Int) {b : List Sp} (h : asc b) : MOk f [] b b := by
  refine ⟨h, fun s hs => ?_, ?_⟩
  · unfold wnt
    rw [lk_asc h hs]
    rfl
  · have : bth [] b b = 0 := by
      unfold bth
      rw [List.filter_eq_nil_iff.2]
      · rfl
      · intro s _; simp [inB, lk]
    simp [this]
theorem mok_right (f : Int → Int → Int) {a : List Sp} (h : asc a) : MOk f a [] a := by
  refine ⟨h, fun s hs => ?_, ?_⟩
  · unfold wnt
    rw [lk_asc h hs]
    rfl
  · have : bth a [] a = 0 := by
      unfold bth
      rw [List.filter_eq_nil_iff.2]
      · rfl
      · intro s _; simp [inB, lk]
    simp [this]

/-- A pair set ahead of what is right for the rest. -/
theorem mok_step (f : Int → Int → Int) {a b a' b' m : List Sp} {s : Sp} (h : MOk f a' b' m)
    (hlow : (∀ x ∈ a', s.1 < x.1) ∧ (∀ x ∈ b', s.1 < x.1)) (hlk : ∀ p, s.1 < p → lk a p = lk a' p ∧ lk b p = lk b' p)
    (hs : wnt f a b s.1 = some s.2) (hc : 1 + (if inB a b s = true then 1 else 0) + (a'.length + b'.length) = a.length + b.length) : MOk f a b (s :: m) := by
  obtain ⟨h1, h2, h3⟩ := h
  have hm : ∀ t ∈ m, s.1 < t.1 := by
    intro t ht
    rcases wnt_some (h2 t ht) with ⟨x, hx⟩ | ⟨x, hx⟩
    · exact hlow.1 (t.1, x) hx
    · exact hlow.2 (t.1, x) hx
  refine ⟨List.pairwise_cons.2 ⟨hm, h1⟩, fun t ht => ?_, ?_⟩
  · rcases List.mem_cons.1 ht with rfl | ht
    · exact hs
    · rw [← h2 t ht]
      have := hlk t.1 (hm t ht)
      unfold wnt
      rw [this.1, this.2]
  · rw [bth_cons, bth_congr (a' := a') (b' := b') (fun t ht => hlk t.1 (hm t ht)), List.length_cons]
    omega

theorem mgp_ok (f : Int → Int → Int) : ∀ (n : Nat) (a b : List Sp), a.length + b.length ≤ n → asc a → asc b → MOk f a b (mgp f n a b) := by
  intro n
  induction n with
  | zero =>
    intro a b hl ha hb
    have e1 : a = [] := List.eq_nil_of_length_eq_zero (by omega)
    have e2 : b = [] := List.eq_nil_of_length_eq_zero (by omega)
    subst e1 e2
    exact mok_left f hb
  | succ n ih =>
    intro a b hl ha hb
    match a, b with
    | [], b => rw [mgp_nil (.inl rfl)]; exact mok_left f hb
    | s :: ra, [] => rw [mgp_nil (.inr rfl), List.append_nil]; exact mok_right f ha
    | s :: ra, t :: rb =>
      have ha' := List.pairwise_cons.1 ha
      have hb' := List.pairwise_cons.1 hb
      simp only [List.length_cons] at hl
      rw [show mgp f (n + 1) (s :: ra) (t :: rb) = if s.1 < t.1 then s :: mgp f n ra (t :: rb) else if t.1 < s.1 then t :: mgp f n (s :: ra) rb else (s.1, f s.2 t.2) :: mgp f n ra rb from rfl]
      by_cases h1 : s.1 < t.1
      · rw [if_pos h1]
        have hn : lk (t :: rb) s.1 = none := lk_none (fun x hx => by
          rcases List.mem_cons.1 hx with rfl | hx
          · omega
          · have := hb'.1 x hx; omega)
        refine mok_step f (ih ra (t :: rb) (by simp; omega) ha'.2 hb) ⟨ha'.1, fun x hx => ?_⟩ (fun p hp => ⟨lk_ne (by omega), rfl⟩) ?_ ?_
        · rcases List.mem_cons.1 hx with rfl | hx
          · exact h1
          · have := hb'.1 x hx; omega
        · unfold wnt
          rw [lk_eq, hn]
        · unfold inB
          rw [hn]
          simp
          omega
      · rw [if_neg h1]
        by_cases h2 : t.1 < s.1
        · rw [if_pos h2]
          have hn : lk (s :: ra) t.1 = none := lk_none (fun x hx => by
            rcases List.mem_cons.1 hx with rfl | hx
            · omega
            · have := ha'.1 x hx; omega)
          refine mok_step f (ih (s :: ra) rb (by simp; omega) ha hb'.2) ⟨fun x hx => ?_, hb'.1⟩ (fun p hp => ⟨rfl, lk_ne (by omega)⟩) ?_ ?_
          · rcases List.mem_cons.1 hx with rfl | hx
            · exact h2
            · have := ha'.1 x hx; omega
          · unfold wnt
            rw [lk_eq, hn]
          · unfold inB
            rw [hn]
            simp
            omega
        · rw [if_neg h2]
          have e : s.1 = t.1 := by omega
          have l2 : lk (t :: rb) s.1 = some t.2 := by rw [e]; exact lk_eq
          refine mok_step (s := (s.1, f s.2 t.2)) f (ih ra rb (by omega) ha'.2 hb'.2) ⟨ha'.1, fun x hx => ?_⟩ (fun p hp => ⟨lk_ne ?_, lk_ne ?_⟩) ?_ ?_
          · have := hb'.1 x hx; simp only; omega
          · simp only at hp; omega
          · simp only at hp; omega
          · unfold wnt
            simp only [lk_eq, l2]
          · unfold inB
            simp only [lk_eq, l2]
            simp
            omega
theorem mrp_ok (f : Int → Int → Int) {a b : List Sp} (ha : asc a) (hb : asc b) : MOk f a b (mrp f a b) := mgp_ok f _ a b (Nat.le_refl _) ha hb
theorem mok_in {f : Int → Int → Int} {a b m : List Sp} (h : MOk f a b m) (ha : ∀ s ∈ a, in64 s.1 ∧ in64 s.2) (hb : ∀ s ∈ b, in64 s.1 ∧ in64 s.2) (hf : ∀ x y, in64 (f x y)) : ∀ s ∈ m, in64 s.1 ∧ in64 s.2 := by
  intro s hs
  have hw := h.2.1 s hs
  refine ⟨?_, ?_⟩
  · rcases wnt_some hw with ⟨x, hx⟩ | ⟨x, hx⟩
    · exact (ha _ hx).1
    · exact (hb _ hx).1
  · unfold wnt at hw
    cases h1 : lk a s.1 with
    | some x =>
      cases h2 : lk b s.1 with
      | some y => rw [h1, h2] at hw; rw [← Option.some.inj hw]; exact hf x y
      | none => rw [h1, h2] at hw; rw [← Option.some.inj hw]; exact (ha _ (lk_mem h1)).2
    | none =>
      cases h2 : lk b s.1 with
      | some y => rw [h1, h2] at hw; rw [← Option.some.inj hw]; exact (hb _ (lk_mem h2)).2
      | none => rw [h1, h2] at hw; cases hw
end Go.Proofs.Ytlcnjiibapehbaa
