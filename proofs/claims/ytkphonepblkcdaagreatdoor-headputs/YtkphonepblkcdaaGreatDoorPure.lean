/-
  Package stream's small functions: mask, bytesFor, right, has.
-/
import Derived.Test.YtkphonepblkcdaaGreatDoorRows
import Derived.Test.YtkphonepblkcdaaGreatDoorBits
import Derived.Test.YtkphonepblkcdaaGreatDoorGA
import Derived.WalkKit
import Derived.WalkSpells
import Derived.WalkLawsBesides
import Derived.BigQuiet
import Derived.Deep.QuietTactic
namespace Go.Proofs.YtkphonepblkcdaaGreatDoor
open Go.RowKit
set_option linter.unusedSimpArgs false
set_option linter.unusedVariables false

theorem mk_int (n : Nat) : (128 / 2 ^ ((n : Int) % 8).toNat : Int) = ((Bits.mk n : Nat) : Int) := by
  have e : ((n : Int) % 8).toNat = n % 8 := by omega
  rw [e]; unfold Bits.mk; simp

set_option maxHeartbeats 400000 in
theorem mask_any (n : Nat) (w : World) (h1 : n ≤ 4611686018427387904) :
    Calls Tryz.prog 41 #[.int .i64 (n : Int)] w fun e w' => e = .returned (.int .u8 (Bits.mk n : Nat)) ∧ w = w' := by
  rw [← mk_int]
  go_enter Tryz.func41, Tryz.ntmps41
  go_wp2
  go_ret
  exact ⟨rfl, rfl⟩

set_option maxHeartbeats 400000 in
theorem bytesFor_any (n : Nat) (w : World) (h1 : n ≤ 9223372036854775807) :
    Calls Tryz.prog 71 #[.int .i64 (n : Int)] w fun e w' => e = .returned (.int .i64 (Bits.nbs n : Nat)) ∧ w = w' := by
  have e : ((Bits.nbs n : Nat) : Int) = if (0 : Int) < (n : Int) % 8 then (n : Int) / 8 + 1 else (n : Int) / 8 := by unfold Bits.nbs; split <;> omega
  rw [e]
  by_cases h : (0 : Int) < (n : Int) % 8
  · rw [if_pos h]
    go_enter Tryz.func71, Tryz.ntmps71
    go_wp2
    go_ret
    exact ⟨rfl, rfl⟩
  · rw [if_neg h]
    go_enter Tryz.func71, Tryz.ntmps71
    go_wp2
    go_ret
    exact ⟨rfl, rfl⟩

set_option maxHeartbeats 400000 in
theorem right_any (n : Int) (w : World) :
    Calls Tryz.prog 72 #[.int .i64 n] w fun e w' => e = .returned (.bool (decide (1 ≤ n ∧ n ≤ 64))) ∧ w = w' := by
  by_cases h : 1 ≤ n
  · by_cases h2 : n ≤ 64
    · rw [decide_eq_true ⟨h, h2⟩]
      go_enter Tryz.func72, Tryz.ntmps72
      go_wp2
      go_ret
      exact ⟨by simp [h2], rfl⟩
    · rw [decide_eq_false (by omega)]
      go_enter Tryz.func72, Tryz.ntmps72
      go_wp2
      go_ret
      exact ⟨by simp [h2], rfl⟩
  · rw [decide_eq_false (by omega)]
    go_enter Tryz.func72, Tryz.ntmps72
    go_wp2
    go_ret
    exact ⟨by simp, rfl⟩

set_option maxHeartbeats 400000 in
theorem has_neg (ao : Option Addr) (len cap : Nat) (n : Int) (w : World) (h : n < 0) :
    Calls Tryz.prog 39 #[.slice ao len cap, .int .i64 n] w fun e w' => e = .returned (.bool false) ∧ w = w' := by
  have hd : decide (0 ≤ n) = false := by simpa using h
  go_enter Tryz.func39, Tryz.ntmps39
  go_wp2
  go_ret
  exact ⟨rfl, rfl⟩

set_option maxHeartbeats 400000 in
theorem has_any (ao : Option Addr) (len cap : Nat) (n : Nat) (w : World) (h1 : n ≤ 9223372036854775807) :
    Calls Tryz.prog 39 #[.slice ao len cap, .int .i64 (n : Int)] w fun e w' => e = .returned (.bool (decide (Bits.nbs n ≤ len))) ∧ w = w' := by
  have e : decide (Bits.nbs n ≤ len) = decide (((Bits.nbs n : Nat) : Int) ≤ (len : Int)) := by congr 1; simp
  rw [e]
  go_enter Tryz.func39, Tryz.ntmps39
  go_wp2_with (go_at_call 71; refine (bytesFor_any _ _ (by omega)).mono ?_; rintro e w' ⟨rfl, rfl⟩)
  go_ret
  exact ⟨rfl, rfl⟩
end Go.Proofs.YtkphonepblkcdaaGreatDoor
