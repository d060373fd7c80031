/-
  Rows of numbers of the call's own: append of one to another.
-/
import Derived.Test.YtkphonepblkcdaaGreatDoorSPlaces
import Derived.Laws.OwnMore
import Derived.Lib.RowBridge
namespace Go.Proofs.YtkphonepblkcdaaGreatDoor
open Go.RowKit Mem Spans
open Classical
set_option linter.unusedSimpArgs false
set_option linter.unusedVariables false
set_option maxRecDepth 100000

theorem IOwn.owns {B : Nat} {w : World} {v : Value} {zs : List Int} (h : IOwn B w v zs) : w.ownsRow B 3 1 v zs.length (inCells zs) := by
  rcases h with ⟨rfl, rfl⟩ | ⟨g, h1, h2, h3, cap, cur, hv, r⟩
  · exact World.ownsRow_nil _ _ _ _
  · exact ⟨h3, .inr ⟨g, cap, cur, hv, h1, r⟩⟩
theorem IOwn.block {B : Nat} {w : World} {v : Value} {zs : List Int} (h : IOwn B w v zs) : ∀ k, v.ownBlock = some k → B ≤ k := by
  rcases h with ⟨rfl, rfl⟩ | ⟨g, h1, h2, h3⟩
  · intro k hk; simp [Value.ownBlock] at hk
  · obtain ⟨c, rfl⟩ := h3.val
    intro k hk
    have : g = k := by simpa [Value.ownBlock] using hk
    omega
theorem inCells_length (zs : List Int) : (inCells zs).length = zs.length := by simp [inCells]


section
variable (w : World)
end

end Go.Proofs.YtkphonepblkcdaaGreatDoor
