/-
  Slices of numbers and of spans in memory: wherever they lie, and in rows of the call's own.
-/
import Derived.Test.YtkphonepblkcdaaGreatDoorRows
import Derived.Test.YtkphonepblkcdaaGreatDoorSpans
import Derived.Test.YtkphonepblkcdaaGreatDoorWorld
import Derived.WalkKit
import Derived.WalkSpells
import Derived.WalkLawsBesides
import Derived.BigQuiet
import Derived.Deep.QuietTactic
namespace Go.Proofs.YtkphonepblkcdaaGreatDoor
open Go.RowKit Mem Spans
open Classical
set_option linter.unusedSimpArgs false
set_option linter.unusedVariables false

def in64 (z : Int) : Prop := -9223372036854775808 ≤ z ∧ z ≤ 9223372036854775807
/-- A slice of numbers, wherever it lies. -/
def ISrc (w : World) (v : Value) (zs : List Int) : Prop :=
  ∃ ao cap, v = .slice ao zs.length cap ∧ zs.length ≤ cap ∧ cap ≤ maxLen ∧ (∀ z ∈ zs, in64 z) ∧
    ∃ b off, (0 < zs.length → ao = some ⟨b, off, none⟩) ∧ ∀ j x, zs[j]? = some x → w.cell? ⟨b, off + j, none⟩ = some (.int .i64 x)
/-- A slice of spans, wherever it lies. -/
def SSrc (w : World) (v : Value) (l : List Sp) : Prop :=
  ∃ ao cap, v = .slice ao l.length cap ∧ l.length ≤ cap ∧ cap ≤ maxLen ∧ (∀ s ∈ l, in64 s.1 ∧ in64 s.2) ∧
    ∃ b off, (0 < l.length → ao = some ⟨b, off, none⟩) ∧ ∀ j s, l[j]? = some s → w.cell? ⟨b, off + j * 2, none⟩ = some (.int .i64 s.1) ∧ w.cell? ⟨b, off + j * 2 + 1, none⟩ = some (.int .i64 s.2)
theorem ISrc.kept {w w' : World} {v : Value} {zs : List Int} (h : ISrc w v zs) (f : Fr [] w w') : ISrc w' v zs := by
  obtain ⟨ao, cap, h1, h2, h3, h4, b, off, h5, h6⟩ := h
  exact ⟨ao, cap, h1, h2, h3, h4, b, off, h5, fun j x hj => f.cell_some (h6 j x hj) (by simp)⟩
theorem SSrc.kept {w w' : World} {v : Value} {l : List Sp} (h : SSrc w v l) (f : Fr [] w w') : SSrc w' v l := by
  obtain ⟨ao, cap, h1, h2, h3, h4, b, off, h5, h6⟩ := h
  exact ⟨ao, cap, h1, h2, h3, h4, b, off, h5, fun j x hj => ⟨f.cell_some (h6 j x hj).1 (by simp), f.cell_some (h6 j x hj).2 (by simp)⟩⟩
theorem ISrc.nil (w : World) : ISrc w (.slice none 0 0) [] := ⟨none, 0, rfl, Nat.le_refl _, Nat.zero_le _, by simp, 0, 0, fun h => by simp at h, fun j x hj => by simp at hj⟩
theorem SSrc.nil (w : World) : SSrc w (.slice none 0 0) [] := ⟨none, 0, rfl, Nat.le_refl _, Nat.zero_le _, by simp, 0, 0, fun h => by simp at h, fun j x hj => by simp at hj⟩

/-- The cells of numbers, of spans. -/
def inCells (zs : List Int) : List Value := zs.map (Value.int .i64)
def spCells (l : List Sp) : List Value := l.flatMap fun s => [.int .i64 s.1, .int .i64 s.2]
theorem spCells_length (l : List Sp) : (spCells l).length = l.length * 2 := by
  induction l with
  | nil => rfl
  | cons x y ih => rw [spCells, List.flatMap_cons, List.length_append, ← spCells, ih]; simp; omega
theorem spCells_append (l m : List Sp) : spCells (l ++ m) = spCells l ++ spCells m := by simp [spCells]
theorem spCells_at (l : List Sp) (j : Nat) (s : Sp) (h : l[j]? = some s) : (spCells l)[j * 2]? = some (.int .i64 s.1) ∧ (spCells l)[j * 2 + 1]? = some (.int .i64 s.2) := by
  induction l generalizing j with
  | nil => simp at h
  | cons x y ih =>
    have e : spCells (x :: y) = .int .i64 x.1 :: .int .i64 x.2 :: spCells y := by simp [spCells]
    rw [e]
    rcases j with _ | j
    · have : x = s := by simpa using h
      subst this
      simp
    · have := ih j (by simpa using h)
      rw [show (j + 1) * 2 = j * 2 + 1 + 1 from by omega]
      simpa using this
theorem spCells_set (l : List Sp) (s : Sp) (n : Int) : (spCells (l ++ [s])).set (l.length * 2 + 1) (.int .i64 n) = spCells (l ++ [(s.1, n)]) := by
  rw [spCells_append, spCells_append, List.set_append_right _ _ (by rw [spCells_length]; omega), spCells_length]
  rw [show l.length * 2 + 1 - l.length * 2 = 1 from by omega]
  rfl

/-- A slice of numbers that the call made itself, from block B on. -/
def IOwn (B : Nat) (w : World) (v : Value) (zs : List Int) : Prop :=
  (zs = [] ∧ v = .slice none 0 0) ∨ ∃ g, B ≤ g ∧ 0 < zs.length ∧ Row w 3 1 v g zs.length (inCells zs)
/-- A slice of spans (of whatever such type) that the call made itself. -/
def SOwn (e : TypeId) (B : Nat) (w : World) (v : Value) (l : List Sp) : Prop :=
  (l = [] ∧ v = .slice none 0 0) ∨ ∃ g, B ≤ g ∧ 0 < l.length ∧ Row w e 2 v g l.length (spCells l)
theorem IOwn.kept {B : Nat} {w w' : World} {v : Value} {zs : List Int} (h : IOwn B w v zs) (f : Fr [] w w') : IOwn B w' v zs := by
  rcases h with h | ⟨g, h1, h2, h3⟩
  · exact .inl h
  · exact .inr ⟨g, h1, h2, h3.kept f (by simp)⟩
theorem SOwn.kept {e : TypeId} {B : Nat} {w w' : World} {v : Value} {l : List Sp} (h : SOwn e B w v l) (f : Fr [] w w') : SOwn e B w' v l := by
  rcases h with h | ⟨g, h1, h2, h3⟩
  · exact .inl h
  · exact .inr ⟨g, h1, h2, h3.kept f (by simp)⟩
theorem IOwn.mono {B C : Nat} {w : World} {v : Value} {zs : List Int} (h : IOwn B w v zs) (hc : C ≤ B) : IOwn C w v zs := by
  rcases h with h | ⟨g, h1, h2, h3⟩
  · exact .inl h
  · exact .inr ⟨g, by omega, h2, h3⟩
theorem IOwn.src {B : Nat} {w : World} {v : Value} {zs : List Int} (h : IOwn B w v zs) (hz : ∀ z ∈ zs, in64 z) : ISrc w v zs := by
  rcases h with ⟨rfl, rfl⟩ | ⟨g, h1, h2, h3⟩
  · exact ISrc.nil w
  · have hr := h3
    obtain ⟨_, cap, cur, hv, _, hn, hm, _⟩ := h3
    refine ⟨_, cap, hv, hn, hm, hz, g, 0, fun _ => rfl, fun j x hj => ?_⟩
    have hjl := (List.getElem?_eq_some_iff.1 hj).1
    have := hr.cell j (by omega)
    rw [show 0 + j = j from by omega, this, inCells, List.getElem?_map, hj]
    rfl
theorem SOwn.src {e : TypeId} {B : Nat} {w : World} {v : Value} {l : List Sp} (h : SOwn e B w v l) (hz : ∀ s ∈ l, in64 s.1 ∧ in64 s.2) : SSrc w v l := by
  rcases h with ⟨rfl, rfl⟩ | ⟨g, h1, h2, h3⟩
  · exact SSrc.nil w
  · have hr := h3
    obtain ⟨_, cap, cur, hv, _, hn, hm, _⟩ := h3
    refine ⟨_, cap, hv, hn, hm, hz, g, 0, fun _ => rfl, fun j x hj => ?_⟩
    have hjl := (List.getElem?_eq_some_iff.1 hj).1
    have c0 := hr.cell (j * 2) (by omega)
    have c1 := hr.cell (j * 2 + 1) (by omega)
    have := spCells_at l j x hj
    rw [show 0 + j * 2 = j * 2 from by omega, c0, c1]
    exact this

theorem Tryz.infoInt : (Tryz.prog.info? 3).map (fun i => (i.zero, i.size, i.bytes)) = some (some (.int .i64 0), 1, 8) := by kernel_rfl
theorem info_int : ∃ i, Tryz.prog.info? 3 = some i ∧ i.zero = some (.int .i64 0) ∧ i.size = 1 ∧ i.bytes = 8 := by
  obtain ⟨i, hi, h⟩ := Option.map_eq_some_iff.1 Tryz.infoInt
  simp only [Prod.mk.injEq] at h
  exact ⟨i, hi, h.1, h.2.1, h.2.2⟩
theorem Tryz.infoSpan : (Tryz.prog.info? 64).map (fun i => (i.zero, i.size, i.bytes)) = some (some (.agg #[.int .i64 0, .int .i64 0]), 2, 16) := by kernel_rfl
theorem info_span : ∃ i, Tryz.prog.info? 64 = some i ∧ i.zero = some (.agg #[.int .i64 0, .int .i64 0]) ∧ i.size = 2 ∧ i.bytes = 16 := by
  obtain ⟨i, hi, h⟩ := Option.map_eq_some_iff.1 Tryz.infoSpan
  simp only [Prod.mk.injEq] at h
  exact ⟨i, hi, h.1, h.2.1, h.2.2⟩

set_option maxHeartbeats 400000 in
theorem bound_any (s : Sp) (f : Bool) (w : World) (h1 : in64 s.1) (h2 : in64 s.2) :
    Calls Tryz.prog 91 #[.agg #[.int .i64 s.1, .int .i64 s.2], .bool f] w fun e w' => e = .returned (.bool (decide (bnd f s))) ∧ Fr [] w w' := by
  obtain ⟨o, n⟩ := s
  unfold in64 at h1 h2
  have F0 : Hid (Fr [] w (w.alloc (.cells #[.int .i64 o, .int .i64 n] 64))) := (Fr.refl _ _).alloc _
  cases f
  · have e : decide (bnd false (o, n)) = (decide (0 ≤ o) && decide (o ≤ 2097152) && decide (0 ≤ n) && decide (n ≤ 4096)) := by
      simp [bnd, lo, hi, Bool.and_assoc]
    rw [e]
    clear e
    go_enter Tryz.func91, Tryz.ntmps91
    by_cases a1 : 0 ≤ o
    · by_cases a2 : o ≤ 2097152
      · by_cases a3 : 0 ≤ n
        · go_wp2
          go_ret
          exact ⟨by simp [a1, a2, a3], F0.out⟩
        · go_wp2
          go_ret
          exact ⟨by simp [a1, a2, a3]; omega, F0.out⟩
      · go_wp2
        go_ret
        exact ⟨by simp [a1, a2]; omega, F0.out⟩
    · go_wp2
      go_ret
      exact ⟨by simp [a1]; omega, F0.out⟩
  · have e : decide (bnd true (o, n)) = (decide (-1048576 ≤ o) && decide (o ≤ 1048576) && decide (0 ≤ n) && decide (n ≤ 4096)) := by
      simp [bnd, lo, hi, Bool.and_assoc]
    rw [e]
    clear e
    go_enter Tryz.func91, Tryz.ntmps91
    by_cases a1 : -1048576 ≤ o
    · by_cases a2 : o ≤ 1048576
      · by_cases a3 : 0 ≤ n
        · go_wp2
          go_ret
          exact ⟨by simp [a1, a2, a3], F0.out⟩
        · go_wp2
          go_ret
          exact ⟨by simp [a1, a2, a3]; omega, F0.out⟩
      · go_wp2
        go_ret
        exact ⟨by simp [a1, a2]; omega, F0.out⟩
    · go_wp2
      go_ret
      exact ⟨by simp [a1]; omega, F0.out⟩
end Go.Proofs.YtkphonepblkcdaaGreatDoor
