/-
  The chain of an error that is wrapped place by place.
-/
import Derived.Test.YtobhpachigagkaaDoorAwake
namespace Go.Proofs.YtobhpachigagkaaDoor
open Go.RowKit Go.Extern.Stop Go.Stop Go.Extern Mem
set_option linter.unusedSimpArgs false
set_option linter.unusedVariables false
set_option maxRecDepth 100000

/-- What a *fail.Error bears. -/
def nd (n : Node) : Int × ByteArray × Int := (n.c, n.p, n.a)
/-- What the error of a place bears. -/
def wd (c : Int) (x : Wp) : Int × ByteArray × Int := (c, x.1, x.2)
theorem part_nd (l : List Node) : l.map part = ((l.map nd).map Prod.snd).map partW := by
  rw [List.map_map, List.map_map]; rfl
theorem atOf_nd (name : ByteArray) (l : List Node) : atOf name l = atW name ((l.map nd).map Prod.snd) := by
  induction l with
  | nil => rfl
  | cons n r ih => rw [atOf, ih]; rfl
theorem codeOf_nd (last : Value) (l : List Node) (x : Int × ByteArray × Int) (D : List (Int × ByteArray × Int)) (h : l.map nd = x :: D) : codeOf last l = x.1 := by
  rcases l with _ | ⟨n, r⟩
  · simp at h
  · simp at h; rw [codeOf, ← h.1]; rfl
theorem snd_wd (c : Int) (y : List Wp) : (y.map (wd c)).map Prod.snd = y := by
  rw [List.map_map]
  induction y with
  | nil => rfl
  | cons x y ih => rw [List.map_cons, ih]; rfl
theorem fits_nd (l : List Node) (D : List (Int × ByteArray × Int)) (h : l.map nd = D) (hl : D.length ≤ 1000) (hD : ∀ x ∈ D, x.2.1.size ≤ 1000 ∧ -9223372036854775808 ≤ x.2.2 ∧ x.2.2 ≤ 9223372036854775807 ∧ -9223372036854775808 ≤ x.1 ∧ x.1 ≤ 9223372036854775807) : Fits l := by
  refine ⟨by rw [← h] at hl; simpa using hl, fun n hn => ?_⟩
  exact hD (nd n) (by rw [← h]; exact List.mem_map_of_mem hn)

/-- The error's chain behind the first k wraps. -/
def Built (c : Int) (base : List (Int × ByteArray × Int)) (last : Value) (z : List Wp) (k : Nat) (w : World) (v : Value) : Prop :=
  ∃ l, Chain w last l v ∧ l.map nd = ((z.take k).reverse.map (wd c)) ++ base
theorem Built.kept {c : Int} {base : List (Int × ByteArray × Int)} {last : Value} {z : List Wp} {k : Nat} {w w' : World} {v : Value} (h : Built c base last z k w v) (f : Fr [] w w') : Built c base last z k w' v := by
  obtain ⟨l, h1, h2⟩ := h; exact ⟨l, h1.kept0 f, h2⟩
theorem take_rev (z : List Wp) (k : Nat) (h : k < z.length) (c : Int) : (z.take (k + 1)).reverse.map (wd c) = wd c z[k] :: (z.take k).reverse.map (wd c) := by
  rw [List.take_succ_eq_append_getElem h, List.reverse_append, List.map_append]; rfl

/-- The code that all of them have. -/
def Begun (c : Int) (base : List (Int × ByteArray × Int)) (last : Value) : Prop := (∃ p a r, base = (c, p, a) :: r) ∨ (base = [] ∧ (if endsB last then (10 : Int) else 0) = c)
theorem built_code {c : Int} {base : List (Int × ByteArray × Int)} {last : Value} (hb : Begun c base last) (y : List Wp) (l : List Node) (h : l.map nd = y.map (wd c) ++ base) : codeOf last l = c := by
  rcases y with _ | ⟨x, y⟩
  · rcases hb with ⟨p, a, r, rfl⟩ | ⟨rfl, hc⟩
    · exact codeOf_nd last l _ _ h
    · rcases l with _ | ⟨n, r⟩
      · exact hc
      · simp at h
  · exact codeOf_nd last l _ _ h

/-- One wrap more. -/
theorem built_step (sa : Addr) {c : Int} {base : List (Int × ByteArray × Int)} {last : Value} (z : List Wp) (k : Nat) (h : k < z.length) (hb : Begun c base last) (t : TypeId) (x : Value) (w : World) (hE : Env sa w) (hl : IsLast sa last) (hB : Built c base last z k w (.iface t x)) :
    Calls Tryd.prog 9 #[.iface t x, .string (z[k]).1, .int .i64 (z[k]).2] w fun e w' => ∃ b, e = .returned (errOf b) ∧ Fr [] w w' ∧ Built c base last z (k + 1) w' (errOf b) := by
  obtain ⟨l, hc, hn⟩ := hB
  refine (wrap_some sa last l t x _ _ w hE hl hc).mono ?_
  rintro e w' ⟨b, rfl, _, f, c'⟩
  refine ⟨b, rfl, f, _, c', ?_⟩
  rw [List.map_cons, hn, take_rev z k h, List.cons_append, built_code hb _ l hn]
  rfl
end Go.Proofs.YtobhpachigagkaaDoor
