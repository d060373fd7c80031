/-
  errors.Is of a chain and the sentinel: true just if the sentinel is at the chain's end; memory stays as it was.
-/
import Derived.Test.YtkphonepblkcdaaGreatDoorChain
import Derived.Deep.LoopGhost
namespace Go.Proofs.YtkphonepblkcdaaGreatDoor
open Go.RowKit Go.Extern.Stop Go.Stop Go.Extern Mem
set_option linter.unusedVariables false

/-- The model's entry for (rtype).Comparable. -/
def cmpEntry : Array Value → Sem Value := Extern.ReflectliteType.method fun t => do Extern.Rtype.noPackHeld "Comparable" t; pure (.bool (← typeInfo t).comparable)
theorem Tryz.isMethodComparable (v : Value) (w : World) : (Go.method 306 164 v "Comparable").run Tryz.prog w = .ok (133, v) w := by kernel_rfl
theorem Tryz.hasUnwrapE (v : Value) (xT : TypeId) (w : World) : (Instr.typeAssert (.iface 110 v) xT 172 true).run Tryz.prog w = .ok (.tuple #[.iface 110 v, .bool true]) w := run_typeAssert_hasB Tryz.underlying172 (by kernel_rfl) v xT w
theorem Tryz.methodUnwrapE (v : Value) (w : World) : (Go.method 306 110 v "Unwrap").run Tryz.prog w = .ok (127, v) w := by kernel_rfl

/-- (*fail.Error).Unwrap of one that is there: what is within it. -/
theorem unwrap_node (b : Nat) (c0 c1 c2 u : Value) (w : World) (h : w.heap[b]? = some (.cells #[c0, c1, c2, u] 112 (0, 0))) :
    Calls Tryz.prog 127 #[.pointer (some ⟨b, 0, none⟩)] w fun e w' => e = .returned u ∧ w' = w := by
  have hc : w.cell? ⟨b, 3, none⟩ = some u := by rw [cell_at h]; rfl
  clear h
  go_enter Tryz.func127, Tryz.ntmps127
  go_wp2
  go_ret
  exact ⟨rfl, rfl⟩

/-- Is the sentinel at the chain's end? -/
def endsB : Value → Bool
  | .nilIface => false
  | _ => true





end Go.Proofs.YtkphonepblkcdaaGreatDoor
