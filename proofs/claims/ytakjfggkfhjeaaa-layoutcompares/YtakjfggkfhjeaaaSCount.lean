/-
  Package span: Count, Canonical.
-/
import Derived.Test.YtakjfggkfhjeaaaSCheck
namespace Go.Proofs.Ytakjfggkfhjeaaa
open Go.RowKit Mem Spans
open Classical
set_option linter.unusedSimpArgs false
set_option linter.unusedVariables false
set_option maxRecDepth 100000

/-- Count's and Canonical's answers. -/
def ctn (l : List Sp) : Int := if chk l = 0 then cnt l else 0
def cnn (l : List Sp) : Bool := decide (chk l = 0) && shpB true l
theorem cnn_def (l : List Sp) : cnn l = decide (chk l = 0 ∧ shp true l) := by
  unfold cnn
  by_cases h : shp true l
  · rw [(shpB_iff _ _).2 h]; simp [h]
  · rw [show shpB true l = false from by
      cases hb : shpB true l
      · rfl
      · exact absurd ((shpB_iff _ _).1 hb) h]
    simp [h]

end Go.Proofs.Ytakjfggkfhjeaaa
