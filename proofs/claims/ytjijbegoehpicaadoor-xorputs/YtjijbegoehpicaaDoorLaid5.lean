/-
  What the rows' listed variable gives a walk of layer 5; and one world that meets it.
-/
import Derived.Test.YtjijbegoehpicaaDoorRows
import Derived.Test.YtjijbegoehpicaaDoorMBits
import Derived.LaidLaws
import Derived.LaidHandle
import Derived.Lib.LaidTab
import Derived.KernelRfl
namespace Go.Proofs.YtjijbegoehpicaaDoor
open Go.ChangeShapes Go.WideShapes Go.RowKit Mem
set_option linter.unusedVariables false

/-- The list of the rows. -/
def laidList : List (String × DataW Unit) := [("math/bits.deBruijn64tab", Rows.laid_math_bits_deBruijn64tab)]
theorem laidData_eq : (laidList.filter fun x => x.2.handleName?.isNone) = laidList := by kernel_rfl
theorem Tryd.own : ownKnob Tryd.prog.godebug = none := by kernel_rfl
theorem Tryd.dbName : Tryd.prog.globalNamed "math/bits.deBruijn64tab" = some 0 := by kernel_rfl
def dbTab : List Int := Lib.deBruijn64tab.map Int.ofNat
theorem dbTab_eq : (Rows.laid_math_bits_deBruijn64tab : DataW Unit) = Lib.tabData .u8 dbTab := by kernel_rfl

theorem tab_of_laid {W : World} (h : laidMetH Tryd.prog laidList W) : XTab W := by
  have h' : laidMet Tryd.prog laidList W := h
  have h2 : laidMet Tryd.prog [("math/bits.deBruijn64tab", Lib.tabData .u8 dbTab)] W := by rw [← dbTab_eq]; exact h'
  have htab : Lib.TabIs Tryd.prog W "math/bits.deBruijn64tab" .u8 dbTab := Lib.tabIs_of_head (t := 78) (e := 5) (n := 64) Tryd.dbName (by kernel_rfl) Tryd.underlying78 Tryd.underlying5 (by kernel_rfl) (by kernel_rfl) h2
  intro i hi
  have e : ∀ i, i < 64 → dbTab.getD i 0 = ((Lib.deBruijn64tab.getD i 0 : Nat) : Int) := by decide +kernel
  have hl : dbTab.length = 64 := by decide +kernel
  have h3 := htab.cell Tryd.dbName i (by rw [hl]; exact hi)
  rw [h3, ← e i hi]

/-! ### One world that meets the list -/
/-- A table's cells. -/
def tabCells : DataW Unit → Array Value
  | .agg l => (l.map fun | .lit (.int k n) => .int k n | _ => .bool false).toArray
  | _ => #[]
def putCells (cs : Array Value) : Obj → Obj
  | .cells _ t frozen => .cells cs t frozen
  | o => o
/-- A world with the listed variable laid. -/
def laidIn (w0 : World) : World := { w0 with heap := w0.heap.modify 0 (putCells (tabCells Rows.laid_math_bits_deBruijn64tab)) }
theorem laid_met (os : Os) (args : Array Value) : laidMetH Tryd.prog laidList ((laidIn (World.holding Tryd.prog os ⟨#[], #[], []⟩)).forCall (fun _ _ => 0) ⟨#[], args, []⟩).memory :=
  laidMetH_of_parts (by rw [laidData_eq]; exact laidMet_of_run' 8 (by kernel_rfl) (by kernel_rfl)) (by kernel_rfl)
end Go.Proofs.YtjijbegoehpicaaDoor
