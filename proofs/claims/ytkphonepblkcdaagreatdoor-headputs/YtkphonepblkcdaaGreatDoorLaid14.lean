/-
  What the rows' listed variables (varbit's table, errors' handle of the type error) give a walk of layer 14; and one world that meets them.
-/
import Derived.Test.YtkphonepblkcdaaGreatDoorRows
import Derived.Test.YtkphonepblkcdaaGreatDoorVbPut
import Derived.Test.YtkphonepblkcdaaGreatDoorAs
import Derived.LaidLaws
import Derived.LaidHandle
import Derived.Lib.LaidTab
import Derived.KernelRfl
namespace Go.Proofs.YtkphonepblkcdaaGreatDoor
open Go.ChangeShapes Go.WideShapes Go.RowKit Mem Groups
set_option linter.unusedVariables false

/-- The list of the rows. -/
def laidList : List (String × DataW Unit) := [("tidepole/varbit.behind", Rows.laid_tidepole_varbit_behind), ("errors.errorType", Rows.laid_errors_errorType)]
def laidData : List (String × DataW Unit) := [("tidepole/varbit.behind", Rows.laid_tidepole_varbit_behind)]
theorem laidData_eq : (laidList.filter fun x => x.2.handleName?.isNone) = laidData := by kernel_rfl
theorem Tryz.own : ownKnob Tryz.prog.godebug = none := by kernel_rfl
theorem Tryz.bhName : Tryz.prog.globalNamed "tidepole/varbit.behind" = some 0 := by kernel_rfl
theorem Tryz.et : Tryz.prog.globalNamed "errors.errorType" = some 1 := by kernel_rfl
theorem Tryz.rt : (Tryz.prog.cutTypes.find? (·.1 == "internal/reflectlite.rtype")).map (·.2) = some 164 := by kernel_rfl
theorem Tryz.oneRow : ((List.range 206).filter fun t => Tryz.prog.rowNamed t [101, 114, 114, 111, 114]) = [38] := by kernel_rfl
theorem Tryz.typesSize : Tryz.prog.types.size = 206 := by kernel_rfl
def bhTab : List Int := [0, 3, 6, 9, 12, 18, 25, 56, 64]
theorem bhTab_eq : (Rows.laid_tidepole_varbit_behind : DataW Unit) = Lib.tabData .i64 bhTab := by kernel_rfl

/-- What is laid: the type's handle, the table; so there are such blocks. -/
def LaidW (W : World) : Prop := TypeVar W ∧ Tab W ∧ 2 ≤ W.heap.size

theorem tab_of_laid {W : World} (h : laidMetH Tryz.prog laidList W) : LaidW W := by
  have h' : laidMet Tryz.prog (laidList.filter fun x => x.2.handleName?.isNone) W ∧ handlesMet Tryz.prog [("errors.errorType", Rows.laid_errors_errorType)] W := h
  rw [laidData_eq] at h'
  have hty : TypeVar W := by
    obtain ⟨name, u, ty, e1, e2, e3, e4, e5⟩ := h'.2 _ (List.mem_singleton.2 rfl)
    have en : name = [101, 114, 114, 111, 114] := (Option.some.inj e1).symm
    subst en
    obtain rfl := Option.some.inj (Tryz.rt.symm.trans e2)
    have hm : ty ∈ (List.range 206).filter fun t => Tryz.prog.rowNamed t [101, 114, 114, 111, 114] := List.mem_filter.2 ⟨List.mem_range.2 (by rw [← Tryz.typesSize]; exact e3), e4⟩
    rw [Tryz.oneRow] at hm
    obtain rfl := List.mem_singleton.1 hm
    have hh : typeHandle Tryz.prog 38 = .pointer (some ⟨2, 38, none⟩) := by kernel_rfl
    rw [hh] at e5
    simpa [TypeVar] using World.var?_cell Tryz.et e5 0
  have htb : Tab W := by
    have h2 : laidMet Tryz.prog [("tidepole/varbit.behind", Lib.tabData .i64 bhTab)] W := by rw [← bhTab_eq]; exact h'.1
    have htab : Lib.TabIs Tryz.prog W "tidepole/varbit.behind" .i64 bhTab := Lib.tabIs_of_head (t := 140) (e := 3) (n := 9) Tryz.bhName (by kernel_rfl) Tryz.underlying140 Tryz.underlying3 (by kernel_rfl) (by kernel_rfl) h2
    intro i hi
    rw [htab.cell Tryz.bhName i hi]
    rcases nine (show i ≤ 8 by omega) with rfl | rfl | rfl | rfl | rfl | rfl | rfl | rfl | rfl <;> rfl
  refine ⟨hty, htb, ?_⟩
  have h1 := htb.lt
  have h2 : 1 < W.heap.size := World.block_lt_of_cell? W _ hty
  omega

/-! ### One world that meets the list -/
/-- A table's cells. -/
def tabCells : DataW Unit → Array Value
  | .agg l => (l.map fun | .lit (.int k n) => .int k n | _ => .bool false).toArray
  | _ => #[]
def putCells (cs : Array Value) : Obj → Obj
  | .cells _ t frozen => .cells cs t frozen
  | o => o
/-- A world with the listed variables laid. -/
def laidIn (w0 : World) : World := { w0 with heap := (w0.heap.modify 1 (putCells #[.iface 164 (.agg #[.pointer (some ⟨2, 38, none⟩)])])).modify 0 (putCells (tabCells Rows.laid_tidepole_varbit_behind)) }
theorem laid_met (os : Os) (args : Array Value) : laidMetH Tryz.prog laidList ((laidIn (World.holding Tryz.prog os ⟨#[], #[], []⟩)).forCall (fun _ _ => 0) ⟨#[], args, []⟩).memory :=
  laidMetH_of_parts (by rw [laidData_eq]; exact laidMet_of_run' 8 (by kernel_rfl) (by kernel_rfl)) (by kernel_rfl)
end Go.Proofs.YtkphonepblkcdaaGreatDoor
