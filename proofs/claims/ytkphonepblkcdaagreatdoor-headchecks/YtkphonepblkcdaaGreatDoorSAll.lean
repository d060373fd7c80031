/-
  Package span: All, and the function that it hands back: all buckets' numbers and places, as far as it is asked.
-/
import Derived.Test.YtkphonepblkcdaaGreatDoorSCount
import Derived.RangeFuncBox
import Derived.RangeFuncLeaves
import Derived.RangeFuncNested
import Derived.Shelf.Abstract
import Derived.OwnWalkIn
import Derived.TacticsInMore
import Derived.LoopNIn
import Derived.LoopIn
import Derived.Maps.AppendAt
namespace Go.Proofs.YtkphonepblkcdaaGreatDoor
open Go.RowKit Go.Shelf Mem Spans
set_option linter.unusedSimpArgs false
set_option linter.unusedVariables false
set_option maxRecDepth 100000
attribute [local go_sem] Oper.semAt_some

/-- Places with their numbers, from i on. -/
def prs (i : Nat) : List Int → List (Int × Int)
  | [] => []
  | p :: r => ((i : Int), p) :: prs (i + 1) r
theorem prs_length (i : Nat) (l : List Int) : (prs i l).length = l.length := by
  induction l generalizing i with
  | nil => rfl
  | cons x l ih => simp [prs, ih]
theorem prs_snoc (i : Nat) (l : List Int) (x : Int) : prs i (l ++ [x]) = prs i l ++ [(((i + l.length : Nat) : Int), x)] := by
  induction l generalizing i with
  | nil => simp [prs]
  | cons y l ih =>
    simp only [List.cons_append, prs, ih]
    rw [show i + 1 + l.length = i + (y :: l).length from by simp; omega]
theorem prs_take (i : Nat) (l : List Int) (k : Nat) : prs i (l.take k) = (prs i l).take k := by
  induction l generalizing i k with
  | nil => simp [prs]
  | cons y l ih =>
    cases k with
    | zero => simp [prs]
    | succ k => simp [prs, ih]
theorem prs_at (i : Nat) (l : List Int) (k : Nat) : (prs i l)[k]? = l[k]?.map (fun p => (((i + k : Nat) : Int), p)) := by
  induction l generalizing i k with
  | nil => simp [prs]
  | cons y l ih =>
    cases k with
    | zero => simp [prs]
    | succ k =>
      simp only [prs, List.getElem?_cons_succ, ih]
      rw [show i + 1 + k = i + (k + 1) from by omega]
theorem prs_snd (i : Nat) (l : List Int) : (prs i l).map (fun x => x.2) = l := by
  induction l generalizing i with
  | nil => rfl
  | cons y l ih => simp [prs, ih]
/-- All that a list tells. -/
def pls (l : List Sp) : List Int := if chk l = 0 then plc 0 l else []
def tot (l : List Sp) : List (Int × Int) := prs 0 (pls l)
theorem pls_le (l : List Sp) : (pls l).length ≤ 4096 := by
  unfold pls
  split
  · have := ok_cnt (chk_zero.1 (by assumption)).2
    have := this.2.2 (by omega)
    omega
  · simp
theorem pls_rises (l : List Sp) : rises (-1048576) (pls l) := by
  unfold pls
  split
  · exact ok_rising (chk_zero.1 (by assumption)).2
  · trivial
theorem pls_in (l : List Sp) : ∀ x ∈ pls l, in64 x := fun x hx => by
  have := rises_mem (pls_rises l) x hx
  unfold in64
  omega

theorem Fr.grownBy {w w' : World} (h : Fr [] w w') : w.grownBy w' none := ⟨h.os, h.tape, h.output, h.size, fun k hk _ => h.block k hk (by simp)⟩
theorem SSrc.below {n0 : Nat} {w w' : World} {v : Value} {l : List Sp} (h : SSrc w v l) (hb : Below n0 w w') (hn : w.heap.size ≤ n0) : SSrc w' v l := by
  obtain ⟨ao, cap, h1, h2, h3, h4, b, off, h5, h6⟩ := h
  refine ⟨ao, cap, h1, h2, h3, h4, b, off, h5, fun j x hj => ?_⟩
  have c0 := (h6 j x hj).1
  have c1 := (h6 j x hj).2
  have b0 : b < n0 := by have := World.block_lt_of_cell? w _ c0; simp at this; omega
  exact ⟨(hb.cell (p := ⟨b, off + j * 2, none⟩) b0).trans c0, (hb.cell (p := ⟨b, off + j * 2 + 1, none⟩) b0).trans c1⟩




/-- The same, where the body is owed only at pairs whose number is one of the list's. -/
def NPair (N : Nat) : Type := { x : Int × Int // ∃ k : Nat, k < N ∧ x.1 = (k : Int) }
end Go.Proofs.YtkphonepblkcdaaGreatDoor
