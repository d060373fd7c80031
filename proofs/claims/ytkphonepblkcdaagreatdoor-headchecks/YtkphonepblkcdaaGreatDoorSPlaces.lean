/-
  Package span: Places.
-/
import Derived.Test.YtkphonepblkcdaaGreatDoorSAll
namespace Go.Proofs.YtkphonepblkcdaaGreatDoor
open Go.RowKit Go.Shelf Mem Spans
set_option linter.unusedSimpArgs false
set_option linter.unusedVariables false
set_option maxRecDepth 100000
attribute [local go_sem] Oper.semAt_some

theorem IOwn.of_owns {B : Nat} {w : World} {v : Value} {zs : List Int} (h : w.ownsRow B 3 1 v zs.length (zs.map (Value.int .i64))) (hn : v = .slice none 0 0 ↔ zs = []) : IOwn B w v zs := by
  rcases h.2 with ⟨h1, h2⟩ | ⟨g, cap, cur, hv, hg, r⟩
  · exact .inl ⟨hn.1 h1, h1⟩
  · refine .inr ⟨g, hg, ?_, h.1, cap, cur, hv, r⟩
    cases zs with
    | nil => have := hn.2 rfl; rw [hv] at this; simp at this
    | cons x r => simp

/-- The places of what came. -/
def sec (pre : List (Int × Int)) : List Int := pre.map (fun x => x.2)
theorem sec_snoc (pre : List (Int × Int)) (x : Int × Int) : sec (pre ++ [x]) = sec pre ++ [x.2] := by simp [sec]
theorem sec_length (pre : List (Int × Int)) : (sec pre).length = pre.length := by simp [sec]

end Go.Proofs.YtkphonepblkcdaaGreatDoor
