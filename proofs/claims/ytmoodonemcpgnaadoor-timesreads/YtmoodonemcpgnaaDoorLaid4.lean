/-
  What the rows' listed variable gives a walk of layer 4; and one world that meets it.
-/
import Derived.Test.YtmoodonemcpgnaaDoorRows
import Derived.Test.YtmoodonemcpgnaaDoorVbPut
import Derived.LaidLaws
import Derived.LaidHandle
import Derived.Lib.LaidTab
import Derived.KernelRfl
namespace Go.Proofs.YtmoodonemcpgnaaDoor
open Go.ChangeShapes Go.WideShapes Go.RowKit Mem Groups
set_option linter.unusedVariables false

/-- The list of the rows. -/
def laidList : List (String × DataW Unit) := [("tidepole/varbit.behind", Rows.laid_tidepole_varbit_behind)]
theorem laidData_eq : (laidList.filter fun x => x.2.handleName?.isNone) = laidList := by kernel_rfl
theorem Tryd.own : ownKnob Tryd.prog.godebug = none := by kernel_rfl
theorem Tryd.bhName : Tryd.prog.globalNamed "tidepole/varbit.behind" = some 0 := by kernel_rfl
def bhTab : List Int := [0, 3, 6, 9, 12, 18, 25, 56, 64]
theorem bhTab_eq : (Rows.laid_tidepole_varbit_behind : DataW Unit) = Lib.tabData .i64 bhTab := by kernel_rfl

theorem tab_of_laid {W : World} (h : laidMetH Tryd.prog laidList W) : Tab W := by
  have h' : laidMet Tryd.prog laidList W := h
  have h2 : laidMet Tryd.prog [("tidepole/varbit.behind", Lib.tabData .i64 bhTab)] W := by rw [← bhTab_eq]; exact h'
  have htab : Lib.TabIs Tryd.prog W "tidepole/varbit.behind" .i64 bhTab := Lib.tabIs_of_head (t := 82) (e := 3) (n := 9) Tryd.bhName (by kernel_rfl) Tryd.underlying82 Tryd.underlying3 (by kernel_rfl) (by kernel_rfl) h2
  intro i hi
  rw [htab.cell Tryd.bhName i hi]
  rcases nine (show i ≤ 8 by omega) with rfl | rfl | rfl | rfl | rfl | rfl | rfl | rfl | rfl <;> rfl

/-! ### One world that meets the list -/
/-- A table's cells. -/
def tabCells : DataW Unit → Array Value
  | .agg l => (l.map fun | .lit (.int k n) => .int k n | _ => .bool false).toArray
  | _ => #[]
def putCells (cs : Array Value) : Obj → Obj
  | .cells _ t frozen => .cells cs t frozen
  | o => o
/-- A world with the listed variable laid. -/
def laidIn (w0 : World) : World := { w0 with heap := w0.heap.modify 0 (putCells (tabCells Rows.laid_tidepole_varbit_behind)) }
theorem laid_met (os : Os) (args : Array Value) : laidMetH Tryd.prog laidList ((laidIn (World.holding Tryd.prog os ⟨#[], #[], []⟩)).forCall (fun _ _ => 0) ⟨#[], args, []⟩).memory :=
  laidMetH_of_parts (by rw [laidData_eq]; exact laidMet_of_run' 8 (by kernel_rfl) (by kernel_rfl)) (by kernel_rfl)
end Go.Proofs.YtmoodonemcpgnaaDoor
