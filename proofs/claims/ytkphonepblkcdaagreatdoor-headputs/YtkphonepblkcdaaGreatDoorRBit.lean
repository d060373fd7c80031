/-
  Package stream: the reader's Bit.
-/
import Derived.Test.YtkphonepblkcdaaGreatDoorGet
namespace Go.Proofs.YtkphonepblkcdaaGreatDoor
open Go.RowKit Mem Bits
set_option linter.unusedSimpArgs false
set_option linter.unusedVariables false

set_option maxHeartbeats 400000 in
theorem rbit_short (w : World) (p g : Nat) (l : List Bool) (pos : Nat) (sh : Bool) (h : Rd w p g l pos pos sh) (hb : l.length ≤ 4294967296) :
    Calls Tryz.prog 23 #[.pointer (some ⟨p, 0, none⟩)] w fun e w' => e = .returned (.bool false) ∧ Rd w' p g l pos pos true ∧ Fr [p] w w' := by
  go_enter Tryz.func23, Tryz.ntmps23
  go_wp2_with (first | (go_at_call 53; refine (get_short _ p g l pos pos sh 1 (by exact h) hb (by omega) (by omega) (by omega)).mono ?_; rintro e w1 ⟨rfl, hr, hf⟩))
  go_ret
  exact ⟨rfl, hr, hf⟩

set_option maxHeartbeats 400000 in
theorem rbit_ok (w : World) (p g : Nat) (l : List Bool) (pos lim : Nat) (sh : Bool) (h : Rd w p g l pos lim sh) (hb : l.length ≤ 4294967296) (h3 : pos < lim) :
    Calls Tryz.prog 23 #[.pointer (some ⟨p, 0, none⟩)] w fun e w' => e = .returned (.bool (l.getD pos false)) ∧ Rd w' p g l (pos + 1) lim sh ∧ Fr [p] w w' := by
  have hl : lim ≤ l.length := h.2.2.1
  have ht := take_one l pos (by omega)
  go_enter Tryz.func23, Tryz.ntmps23
  go_wp2_with (first | (go_at_call 53; refine (get_ok _ p g l pos lim sh 1 (by exact h) hb (by omega) (by omega) (by omega)).mono ?_; rintro e w1 ⟨rfl, hr, hf⟩))
  go_ret
  refine ⟨?_, hr, hf⟩
  rw [val_one]
  simp only [List.getD_eq_getElem?_getD]
  generalize l[pos]?.getD false = b
  cases b <;> rfl
end Go.Proofs.YtkphonepblkcdaaGreatDoor
