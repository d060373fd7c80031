/-
  Package times: Copy of a row of uint64 (apart: a seat may name it without a body).
-/
import Derived.Test.YtmoodonemcpgnaaDoorTmRow
namespace Go.Proofs.YtmoodonemcpgnaaDoor
open Go.RowKit Mem Bits Groups Evens
set_option linter.unusedSimpArgs false
set_option linter.unusedVariables false

set_option maxHeartbeats 400000 in
theorem tcopyU_any (w : World) (p : Nat) (s : TRow) (h : TrU w p s) :
    Calls Tryd.prog 24 #[.pointer (some ⟨p, 0, none⟩)] w fun e w' => ∃ p', e = .returned (.pointer (some ⟨p', 0, none⟩)) ∧ TrU w' p' s ∧ w.heap.size ≤ p' ∧ Fr [] w w' := by
  have c0 := h.c0
  have c1 := h.c1
  have c2 := h.c2
  clear h
  go_enter Tryd.func24, Tryd.ntmps24
  go_wp2_with fail
  go_ret
  exact ⟨w.heap.size, rfl, heap_alloc_new _ _, Nat.le_refl _, (Fr.refl _ _).alloc _⟩

end Go.Proofs.YtmoodonemcpgnaaDoor
