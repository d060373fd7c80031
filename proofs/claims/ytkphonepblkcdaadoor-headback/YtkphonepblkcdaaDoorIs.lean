/-
  errors.Is of a chain and the sentinel: true just if the sentinel is at the chain's end; memory stays as it was.
-/
import Derived.Test.YtkphonepblkcdaaDoorChain
import Derived.Deep.LoopGhost
namespace Go.Proofs.YtkphonepblkcdaaDoor
open Go.RowKit Go.Extern.Stop Go.Stop Go.Extern Mem
set_option linter.unusedVariables false

/-- The model's entry for (rtype).Comparable. -/
def cmpEntry : Array Value → Sem Value := Extern.ReflectliteType.method fun t => do Extern.Rtype.noPackHeld "Comparable" t; pure (.bool (← typeInfo t).comparable)
theorem Tryd.isMethodComparable (v : Value) (w : World) : (Go.method 271 129 v "Comparable").run Tryd.prog w = .ok (104, v) w := by kernel_rfl
theorem Tryd.hasUnwrapE (v : Value) (xT : TypeId) (w : World) : (Instr.typeAssert (.iface 73 v) xT 137 true).run Tryd.prog w = .ok (.tuple #[.iface 73 v, .bool true]) w := run_typeAssert_hasB Tryd.underlying137 (by kernel_rfl) v xT w
theorem Tryd.methodUnwrapE (v : Value) (w : World) : (Go.method 271 73 v "Unwrap").run Tryd.prog w = .ok (98, v) w := by kernel_rfl

/-- (*fail.Error).Unwrap of one that is there: what is within it. -/
theorem unwrap_node (b : Nat) (c0 c1 c2 u : Value) (w : World) (h : w.heap[b]? = some (.cells #[c0, c1, c2, u] 75 (0, 0))) :
    Calls Tryd.prog 98 #[.pointer (some ⟨b, 0, none⟩)] w fun e w' => e = .returned u ∧ w' = w := by
  have hc : w.cell? ⟨b, 3, none⟩ = some u := by rw [cell_at h]; rfl
  clear h
  go_enter Tryd.func98, Tryd.ntmps98
  go_wp2
  go_ret
  exact ⟨rfl, rfl⟩

/-- Is the sentinel at the chain's end? -/
def endsB : Value → Bool
  | .nilIface => false
  | _ => true





end Go.Proofs.YtkphonepblkcdaaDoor
