/-
  What the rows' listed variables give a walk of layer 2; and one world that meets them.
-/
import Derived.Test.YtobhpachigagkaaDoorRows
import Derived.Test.YtobhpachigagkaaDoorBuilt
import Derived.LaidLaws
import Derived.LaidHandle
import Derived.Stop.LaidErr
import Derived.KernelRfl
namespace Go.Proofs.YtobhpachigagkaaDoor
open Go.ChangeShapes Go.WideShapes Go.RowKit Mem
set_option linter.unusedVariables false

/-- The list of the rows. -/
def laidList : List (String × DataW Unit) := [("math/bits.deBruijn32tab", Rows.laid_math_bits_deBruijn32tab), ("math/bits.deBruijn64tab", Rows.laid_math_bits_deBruijn64tab), ("internal/strconv.uint64pow10", Rows.laid_internal_strconv_uint64pow10), ("errors.errorType", Rows.laid_errors_errorType), ("tidepole/fail.ErrClosed", Rows.laid_tidepole_fail_ErrClosed)]
def laidData : List (String × DataW Unit) := [("math/bits.deBruijn32tab", Rows.laid_math_bits_deBruijn32tab), ("math/bits.deBruijn64tab", Rows.laid_math_bits_deBruijn64tab), ("internal/strconv.uint64pow10", Rows.laid_internal_strconv_uint64pow10), ("tidepole/fail.ErrClosed", Rows.laid_tidepole_fail_ErrClosed)]
theorem laidData_eq : (laidList.filter fun x => x.2.handleName?.isNone) = laidData := by kernel_rfl

theorem Tryd.own : ownKnob Tryd.prog.godebug = none := by kernel_rfl
theorem Tryd.et : Tryd.prog.globalNamed "errors.errorType" = some 1 := by kernel_rfl
theorem Tryd.ec : Tryd.prog.globalNamed "tidepole/fail.ErrClosed" = some 0 := by kernel_rfl
theorem Tryd.db : Tryd.prog.globalNamed "math/bits.deBruijn64tab" = some 4 := by kernel_rfl
theorem Tryd.rt : (Tryd.prog.cutTypes.find? (·.1 == "internal/reflectlite.rtype")).map (·.2) = some 89 := by kernel_rfl
theorem Tryd.oneRow : ((List.range 152).filter fun t => Tryd.prog.rowNamed t [101, 114, 114, 111, 114]) = [27] := by kernel_rfl
theorem Tryd.typesSize : Tryd.prog.types.size = 152 := by kernel_rfl

theorem type_of_laid {W : World} (h : laidMetH Tryd.prog laidList W) : laidMet Tryd.prog laidData W ∧ TypeVar W := by
  have h' : laidMet Tryd.prog (laidList.filter fun x => x.2.handleName?.isNone) W ∧ handlesMet Tryd.prog [("errors.errorType", Rows.laid_errors_errorType)] W := h
  rw [laidData_eq] at h'
  refine ⟨h'.1, ?_⟩
  obtain ⟨name, u, ty, e1, e2, e3, e4, e5⟩ := h'.2 _ (List.mem_singleton.2 rfl)
  have en : name = [101, 114, 114, 111, 114] := (Option.some.inj e1).symm
  subst en
  obtain rfl := Option.some.inj (Tryd.rt.symm.trans e2)
  have hm : ty ∈ (List.range 152).filter fun t => Tryd.prog.rowNamed t [101, 114, 114, 111, 114] := List.mem_filter.2 ⟨List.mem_range.2 (by rw [← Tryd.typesSize]; exact e3), e4⟩
  rw [Tryd.oneRow] at hm
  obtain rfl := List.mem_singleton.1 hm
  have hh : typeHandle Tryd.prog 27 = .pointer (some ⟨5, 27, none⟩) := by kernel_rfl
  rw [hh] at e5
  simpa [TypeVar] using World.var?_cell Tryd.et e5 0

theorem tab_eq : (Rows.laid_internal_strconv_uint64pow10 : DataW Unit) = Lib.tabData .u64 Lib.pow10Tab := by kernel_rfl
theorem Tryd.starS : "*" ++ "errors.errorString" = "*errors.errorString" := by decide
theorem Tryd.nameS (u : TypeId) (h : Tryd.prog.typeName? 3 u = some "*errors.errorString") : u = 121 :=
  typeName_ptr_named (nm := "errors.errorString") (by rw [Tryd.starS]; kernel_rfl) (by kernel_rfl) (by decide) u (by rw [Tryd.starS]; exact h)

theorem env_of_laid {W : World} (h : laidMetH Tryd.prog laidList W) : (∃ sa, Env sa W) ∧ 5 ≤ W.heap.size := by
  obtain ⟨hd, ht⟩ := type_of_laid h
  have h1 : laidMet Tryd.prog (("math/bits.deBruijn64tab", Rows.laid_math_bits_deBruijn64tab) :: [("internal/strconv.uint64pow10", Rows.laid_internal_strconv_uint64pow10), ("tidepole/fail.ErrClosed", Rows.laid_tidepole_fail_ErrClosed)]) W := laidMet.tail hd
  have h2 : laidMet Tryd.prog (("internal/strconv.uint64pow10", Lib.tabData .u64 Lib.pow10Tab) :: [("tidepole/fail.ErrClosed", Rows.laid_tidepole_fail_ErrClosed)]) W := by
    rw [← tab_eq]; exact laidMet.tail h1
  have htab : Lib.TabIs Tryd.prog W "internal/strconv.uint64pow10" .u64 Lib.pow10Tab := Lib.tabIs_of_head (t := 112) (e := 105) (n := 20) Tryd.tabName (by kernel_rfl) Tryd.underlying112 Tryd.underlying105 (by kernel_rfl) (by kernel_rfl) h2
  have h3 := laidMet.tail h2
  obtain ⟨sa, s, hv, _⟩ := laid_sentinel (r := []) (n := "tidepole/fail.ErrClosed") (nm := "*errors.errorString") (ti := 27) (tp := 121) (te := 140) (ts := 9) h3 Tryd.ec (by kernel_rfl) Tryd.underlying27 Tryd.nameS Tryd.underlying121 Tryd.underlying140 rfl rfl Tryd.underlying9 (by kernel_rfl) (by kernel_rfl)
  refine ⟨⟨sa, ht, by simpa [sentOf] using World.var?_cell Tryd.ec hv 0, htab⟩, ?_⟩
  obtain ⟨ps, ⟨g0, t0, cs0, f0, p0, q0, hg0, ht0, hv0, _⟩, _⟩ := h1
  obtain rfl := Option.some.inj (Tryd.db.symm.trans hg0)
  unfold World.var? at hv0
  simp only [Tryd.db, Option.bind_some] at hv0
  rcases Nat.lt_or_ge 4 W.heap.size with h' | h'
  · exact h'
  · simp [Array.getElem?_eq_none h'] at hv0

/-! ### One world that meets the list -/
/-- A table's cells. -/
def tabCells : DataW Unit → Array Value
  | .agg l => (l.map fun | .lit (.int k n) => .int k n | _ => .bool false).toArray
  | _ => #[]
def putCells (cs : Array Value) : Obj → Obj
  | .cells _ t frozen => .cells cs t frozen
  | o => o
/-- A world with the listed variables laid; the sentinel's own block is number 'low'. -/
def laidIn (low : Nat) (w0 : World) : World :=
  { w0 with heap := ((((w0.heap.modify 0 (putCells #[.iface 121 (.pointer (some ⟨low, 0, none⟩))])).modify 1 (putCells #[.iface 89 (.agg #[.pointer (some ⟨5, 27, none⟩)])])).modify 2 (putCells (tabCells Rows.laid_internal_strconv_uint64pow10))).modify 3 (putCells (tabCells Rows.laid_math_bits_deBruijn32tab))).modify 4 (putCells (tabCells Rows.laid_math_bits_deBruijn64tab)) }
theorem laid_met (os : Os) (args : Array Value) : laidMetH Tryd.prog laidList ((laidIn (World.holding Tryd.prog default ⟨#[], #[], []⟩).heap.size (World.holding Tryd.prog os ⟨#[.cells #[.string ⟨#[99, 108, 111, 115, 101, 100]⟩] 140], #[], []⟩)).forCall (fun _ _ => 0) ⟨#[], args, []⟩).memory :=
  laidMetH_of_parts (by rw [laidData_eq]; exact laidMet_of_run' 8 (by kernel_rfl) (by kernel_rfl)) (by kernel_rfl)
end Go.Proofs.YtobhpachigagkaaDoor
