/-
  Rows of numbers of the call's own: append of one to another, slices.Sort, slices.Compact; what both make of two rising lists.
-/
import Derived.Test.YtakjfggkfhjeaaaSFrom
import Derived.Test.YtakjfggkfhjeaaaSApp
import Derived.Laws.OwnMore
import Derived.Lib.SlicesCompact
import Derived.Lib.RowBridge
namespace Go.Proofs.Ytakjfggkfhjeaaa
open Go.RowKit Mem Spans
open Classical
set_option linter.unusedSimpArgs false
set_option linter.unusedVariables false
set_option maxRecDepth 100000

/-- A row with other numbers in it. -/
theorem row_put {w : World} {v : Value} {g : Nat} {zs ys : List Int} (h : Row w 3 1 v g zs.length (inCells zs)) (hl : ys.length = zs.length) (q : Nat) (os : Array Obj) :
    Row (Sort.grow (Sort.putRow (Value.int .i64) (Sort.ahead w q) g 0 ys.toArray) os) 3 1 v g zs.length (inCells ys) := by
  obtain ⟨h1, cap, cur, hv, hg, hn, hm, hs, ht⟩ := h
  have hlt := lt_of_heap hg
  have hc : (Sort.grow (Sort.putRow (Value.int .i64) (Sort.ahead w q) g 0 ys.toArray) os).heap[g]? = some (.cells (Sort.putCells (Value.int .i64) 0 ys.toArray cur) 3 (0, 0)) := by
    rw [Sort.heap_grow_old _ _ (by rw [Sort.size_putRow]; exact hlt)]
    show ((w.heap).modify g _)[g]? = _
    rw [Array.getElem?_modify]
    simp [hg, Sort.onCells]
  refine ⟨by rw [inCells_length, hl]; omega, cap, _, hv, hc, hn, hm, by simp [Sort.putCells, hs], ?_⟩
  apply List.ext_getElem?
  intro j
  rw [List.getElem?_take]
  by_cases hj : j < zs.length
  · rw [if_pos (by omega)]
    have hjc : j < cur.size := by omega
    have hjy : j < ys.length := by omega
    simp [Sort.putCells, inCells, hjc, hjy]
  · rw [if_neg (by omega), List.getElem?_eq_none (by rw [inCells_length]; omega)]
theorem row_holds {w : World} {v : Value} {g : Nat} {zs : List Int} (h : Row w 3 1 v g zs.length (inCells zs)) : Sort.Holds (Value.int .i64) w g 0 zs.toArray := by
  intro j hj
  have hj' : j < zs.length := by simpa using hj
  rw [Nat.zero_add, h.cell j (by omega)]
  exact ⟨by simp [inCells, hj'], h.frozen j⟩
theorem below_put {w : World} {B g : Nat} (hg : B ≤ g) (hB : B ≤ w.heap.size) (ys : List Int) (q : Nat) (os : Array Obj) : Below B w (Sort.grow (Sort.putRow (Value.int .i64) (Sort.ahead w q) g 0 ys.toArray) os) := by
  refine ⟨rfl, rfl, rfl, ?_, fun k hk => ?_⟩
  · rw [Sort.size_grow, Sort.size_putRow]; show w.heap.size ≤ w.heap.size + _; omega
  · rw [Sort.heap_grow_old _ _ (by rw [Sort.size_putRow]; show k < w.heap.size; omega)]
    show ((w.heap).modify g _)[k]? = _
    rw [Array.getElem?_modify, if_neg (by omega)]

/-- The numbers in order. -/
def srt (zs : List Int) : List Int := zs.mergeSort fun x y => decide (x ≤ y)

theorem sort_any (B : Nat) (v : Value) (zs : List Int) (w : World) (hB : B ≤ w.heap.size) (h : IOwn B w v zs) (hl : zs.length ≤ 1000000) :
    Calls Try.prog 28 #[v] w fun e w' => e = .returned (.tuple #[]) ∧ IOwn B w' v (srt zs) ∧ Below B w w' := by
  rcases h with ⟨rfl, rfl⟩ | ⟨g, hg, hy, hrow⟩
  · refine (Try.slices_Sort_int_none none 0 w).mono ?_
    rintro e w' ⟨rfl, rfl⟩
    exact ⟨rfl, .inl ⟨by simp [srt], rfl⟩, Below.refl _ _⟩
  · have hr := hrow
    obtain ⟨c, rfl⟩ := hrow.val
    refine (Try.slices_Sort_int g 0 c zs w (row_holds hr) hr.lt (by omega)).mono ?_
    rintro e w' ⟨rfl, n, os, rfl⟩
    have hsl : (srt zs).length = zs.length := List.length_mergeSort _
    refine ⟨rfl, .inr ⟨g, hg, by omega, ?_⟩, below_put hg hB _ _ _⟩
    have := row_put hr hsl n os
    rw [hsl]
    exact this

theorem Row.cut {w : World} {g n m cap : Nat} {xs : List Value} (h : Row w 3 1 (.slice (some ⟨g, 0, none⟩) n cap) g n xs) (hm : m ≤ n) : Row w 3 1 (.slice (some ⟨g, 0, none⟩) m cap) g m (xs.take m) := by
  obtain ⟨h1, cap', cur, hv, hg, hn, hc, hs, ht⟩ := h
  have : cap = cap' := by simpa using hv
  subst this
  refine ⟨by simp; omega, cap, cur, rfl, hg, by omega, hc, hs, ?_⟩
  rw [← ht, List.take_take]
  congr 1
  omega

theorem compact_any (B : Nat) (v : Value) (zs : List Int) (w : World) (hB : B ≤ w.heap.size) (h : IOwn B w v zs) (hl : zs.length ≤ 1000000) (hne : zs ≠ [] → Lib.compact zs ≠ []) :
    Calls Try.prog 30 #[v] w fun e w' => ∃ v', e = .returned v' ∧ IOwn B w' v' (Lib.compact zs) ∧ Below B w w' := by
  rcases h with ⟨rfl, rfl⟩ | ⟨g, hg, hy, hrow⟩
  · refine (Try.slices_Compact_int_empty none 0 w).mono ?_
    rintro e w' ⟨rfl, rfl⟩
    exact ⟨_, rfl, .inl ⟨rfl, rfl⟩, Below.refl _ _⟩
  · have hr := hrow
    obtain ⟨c, rfl⟩ := hrow.val
    have hcap : zs.length ≤ c := by
      obtain ⟨_, cap', cur, hv, _, hn, _⟩ := hr
      have : c = cap' := by simpa using hv
      omega
    refine (Try.slices_Compact_int g 0 c zs w (row_holds hr) (by omega) hcap).mono ?_
    rintro e w' ⟨rfl, q, rfl⟩
    have hle := Lib.compact_length_le zs
    have hne' : 0 < (Lib.compact zs).length := by
      have := hne (by intro h; subst h; simp at hy)
      exact List.length_pos_iff.2 this
    refine ⟨_, rfl, .inr ⟨g, hg, hne', ?_⟩, ?_⟩
    · have h1 := row_put (ys := Lib.compact zs ++ List.replicate (zs.length - (Lib.compact zs).length) 0) hr (by simp; omega) q #[]
      rw [Sort.grow_empty] at h1
      have h2 := Row.cut h1 hle
      have e : (inCells (Lib.compact zs ++ List.replicate (zs.length - (Lib.compact zs).length) 0)).take (Lib.compact zs).length = inCells (Lib.compact zs) := by
        rw [inCells, List.map_append, List.take_left' (by simp)]; rfl
      rw [e] at h2
      exact h2
    · have := below_put hg hB (w := w) (Lib.compact zs ++ List.replicate (zs.length - (Lib.compact zs).length) 0) q #[]
      rwa [Sort.grow_empty] at this

/-- Of numbers in order each is left once. -/
theorem compact_up (d : Array Int) (hs : ∀ i j, i ≤ j → j < d.size → d[i]! ≤ d[j]!) (m : Nat) (hm : m ≤ d.size) :
    (Lib.compactUpTo d m).Pairwise (· < ·) ∧ ∀ x, x ∈ Lib.compactUpTo d m ↔ ∃ j, j < m ∧ d[j]! = x := by
  induction m with
  | zero => simp [Lib.compactUpTo]
  | succ m ih =>
    obtain ⟨i1, i2⟩ := ih (by omega)
    rw [Lib.compactUpTo_succ]
    by_cases hk : Lib.keeps d m = true
    · rw [if_pos hk]
      refine ⟨?_, fun x => ?_⟩
      · rw [List.pairwise_append]
        refine ⟨i1, List.pairwise_singleton _ _, fun a ha b hb => ?_⟩
        obtain ⟨j, hj, rfl⟩ := (i2 a).1 ha
        have : b = d[m]! := by simpa using hb
        subst this
        have h1 := hs j m (by omega) (by omega)
        have h2 : d[m]! ≠ d[m - 1]! := by
          have := hk
          simp [Lib.keeps] at this
          rcases this with h | h
          · omega
          · exact h
        have h3 := hs j (m - 1) (by omega) (by omega)
        have h4 := hs (m - 1) m (by omega) (by omega)
        omega
      · rw [List.mem_append, i2]
        constructor
        · rintro (⟨j, hj, e⟩ | h)
          · exact ⟨j, by omega, e⟩
          · have e : x = d[m]! := by simpa using h
            exact ⟨m, by omega, e.symm⟩
        · rintro ⟨j, hj, e⟩
          by_cases hjm : j = m
          · subst hjm; exact .inr (by simp [e])
          · exact .inl ⟨j, by omega, e⟩
    · rw [if_neg hk, List.append_nil]
      refine ⟨i1, fun x => ?_⟩
      rw [i2]
      have h2 : 0 < m ∧ d[m]! = d[m - 1]! := by
        have := hk
        simp [Lib.keeps] at this
        exact ⟨by omega, this.2⟩
      constructor
      · rintro ⟨j, hj, e⟩
        exact ⟨j, by omega, e⟩
      · rintro ⟨j, hj, e⟩
        by_cases hjm : j = m
        · subst hjm; exact ⟨j - 1, by omega, by rw [← h2.2]; exact e⟩
        · exact ⟨j, by omega, e⟩
/-- Sorted, and each once: the union of both. -/
theorem compact_srt {a b : List Int} (ha : a.Pairwise (· < ·)) (hb : b.Pairwise (· < ·)) : Lib.compact (srt (a ++ b)) = uni a b := by
  have hp : (srt (a ++ b)).Pairwise (fun x y => decide (x ≤ y) = true) := List.pairwise_mergeSort (by intro x y z h1 h2; simp at *; omega) (by intro x y; simp; omega) _
  have hs : ∀ i j, i ≤ j → j < (srt (a ++ b)).toArray.size → (srt (a ++ b)).toArray[i]! ≤ (srt (a ++ b)).toArray[j]! := by
    intro i j hij hj
    have hj' : j < (srt (a ++ b)).length := by simpa using hj
    by_cases e : i = j
    · subst e; exact Int.le_refl _
    · have := List.pairwise_iff_getElem.1 hp i j (by omega) hj' (by omega)
      simp only [decide_eq_true_eq] at this
      have e1 : (srt (a ++ b)).toArray[i]! = (srt (a ++ b))[i]'(by omega) := by rw [getElem!_pos _ i (by simpa using (show i < (srt (a ++ b)).length by omega))]; simp
      have e2 : (srt (a ++ b)).toArray[j]! = (srt (a ++ b))[j] := by rw [getElem!_pos _ j (by simpa using hj')]; simp
      rw [e1, e2]
      exact this
  obtain ⟨h1, h2⟩ := compact_up (srt (a ++ b)).toArray hs (srt (a ++ b)).length (by simp)
  refine rising_ext h1 (uni_pair ha hb) (fun x => ?_)
  rw [uni_mem, ← List.mem_append, ← List.mem_mergeSort (le := fun x y => decide (x ≤ y)) (l := a ++ b)]
  show x ∈ Lib.compactUpTo _ _ ↔ x ∈ srt (a ++ b)
  rw [h2]
  constructor
  · rintro ⟨j, hj, rfl⟩
    rw [getElem!_pos _ j (by simpa using hj)]
    simp
  · intro hx
    obtain ⟨j, hj, rfl⟩ := List.mem_iff_getElem.1 hx
    exact ⟨j, hj, by rw [getElem!_pos _ j (by simpa using hj)]; simp⟩
theorem compact_ne {zs : List Int} (h : zs ≠ []) : Lib.compact zs ≠ [] := by
  obtain ⟨x, r, rfl⟩ := List.exists_cons_of_ne_nil h
  unfold Lib.compact Lib.compactUpTo
  intro h0
  have : (0 : Nat) ∈ ((List.range (x :: r).length).filter (Lib.keeps (x :: r).toArray)) := by
    rw [List.mem_filter]
    exact ⟨by simp, by simp [Lib.keeps]⟩
  rw [List.map_eq_nil_iff] at h0
  rw [h0] at this
  simp at this
end Go.Proofs.Ytakjfggkfhjeaaa
