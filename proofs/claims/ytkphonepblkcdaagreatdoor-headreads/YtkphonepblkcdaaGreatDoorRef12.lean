/-
  The document's own answers of layer 12 (package tidepoleref12): Byte, Bits, Parse; and Head of layer 9.
-/
import Derived.Test.YtkphonepblkcdaaGreatDoorRefTxt
import Derived.Test.YtkphonepblkcdaaGreatDoorThPut
namespace Go.Proofs.YtkphonepblkcdaaGreatDoor
open Go.RowKit Mem Bits Thrs
set_option linter.unusedSimpArgs false
set_option linter.unusedVariables false

theorem thHeadI_any (z : Int) (w : World) :
    Calls Tryz.prog 33 #[.int .i64 0, .int .u64 z] w fun e w' => e = .returned (.int .i64 (if z < 9218868437227405312 then 0 else 11)) ∧ w = w' := by
  go_enter Tryz.func33, Tryz.ntmps33
  by_cases hz : z < 9218868437227405312
  · have HE : Hid ((if z < 9218868437227405312 then (0 : Int) else 11) = 0) := if_pos hz
    go_wp2
    go_ret
    exact ⟨by first | rfl | (rw [HE.out]; rfl), rfl⟩
  · have HE : Hid ((if z < 9218868437227405312 then (0 : Int) else 11) = 11) := if_neg hz
    go_wp2
    go_ret
    exact ⟨by first | rfl | (rw [HE.out]; rfl), rfl⟩
theorem thHead_yes {v : Nat} (hi : v < inf) (w : World) : Calls Tryz.prog 33 #[.int .i64 0, .int .u64 (v : Int)] w fun e w' => e = .returned (.int .i64 0) ∧ w = w' := by
  have h := thHeadI_any (v : Int) w
  rwa [if_pos (by unfold inf at hi; omega)] at h
theorem thHead_no {v : Nat} (hi : ¬ v < inf) (w : World) : Calls Tryz.prog 33 #[.int .i64 0, .int .u64 (v : Int)] w fun e w' => e = .returned (.int .i64 11) ∧ w = w' := by
  have h := thHeadI_any (v : Int) w
  rwa [if_neg (by unfold inf at hi; omega)] at h

set_option maxHeartbeats 1000000 in
theorem rByte_any (v : Nat) (w : World) (hv : v < 18446744073709551616) :
    Calls Tryz.prog 81 #[.int .u64 (v : Int)] w fun e w' => e = .returned (.int .i64 ((tby v : Nat) : Int)) ∧ w = w' := by
  go_enter Tryz.func81, Tryz.ntmps81
  by_cases h0 : v = 0
  · subst h0
    go_wp2_with fail
    go_ret
    exact ⟨rfl, rfl⟩
  have d0 : ((v : Int) == 0) = false := beq_eq_false_iff_ne.2 (by omega)
  have HV : Hid (v < 18446744073709551616) := hv
  have H0 : Hid (v ≠ 0) := h0
  clear hv h0
  go_wp2_with fail
  go_loop [3] (fun c => ∃ k : Nat, 1 ≤ k ∧ k ≤ 255 ∧ c = .int .u64 (k : Int) ∧ ∀ j, 1 ≤ j → j < k → v ≠ (j + 779) * 4503599627370496) (fun c => 255 - (intOf c).toNat)
  case atStart => exact ⟨1, by omega, by omega, rfl, fun j h1 h2 => by omega⟩
  case round =>
    obtain ⟨k, hk1, hk2, rfl, hj⟩ := hrel
    have HJ : Hid (∀ j, 1 ≤ j → j < k → v ≠ (j + 779) * 4503599627370496) := hj
    clear hj
    by_cases hlt : k < 255
    · have dl : decide ((k : Int) < 255) = true := decide_eq_true (by omega)
      by_cases he : v = (k + 779) * 4503599627370496
      · have HB : Hid (tby v = k) := by show _ = _; rw [he]; exact tby_power k hk1 (by omega)
        have de : ((v : Int) == ((k : Int) + 779) * 4503599627370496) = true := beq_iff_eq.2 (by omega)
        clear he
        go_wp2_with fail
        go_ret
        exact ⟨by rw [HB.out]; rfl, rfl⟩
      · have de : ((v : Int) == ((k : Int) + 779) * 4503599627370496) = false := beq_eq_false_iff_ne.2 (by omega)
        have HE : Hid (v ≠ (k + 779) * 4503599627370496) := he
        clear he
        go_wp2_with fail
        go_round
        case rel => exact ⟨k + 1, by omega, by omega, by go_num, fun j h1 h2 => by
          by_cases e : j = k
          · subst e; exact HE.out
          · exact HJ.out j h1 (by omega)⟩
        case measure => simp [intOf]; omega
    · have dl : decide ((k : Int) < 255) = false := decide_eq_false (by omega)
      have HB : Hid (tby v = 255) := tby_none H0.out (by
        cases hp : pw2 v
        · rfl
        · obtain ⟨c, h1, h2, h3⟩ := (pw2_iff v).1 hp
          exact absurd h3 (HJ.out c h1 (by omega)))
      go_wp2_with fail
      go_ret
      exact ⟨by rw [HB.out]; rfl, rfl⟩

set_option maxHeartbeats 1000000 in
theorem rBits_any (v : Nat) (w : World) (hv : v < 18446744073709551616) :
    Calls Tryz.prog 51 #[.int .u64 (v : Int)] w fun e w' => e = .returned (.string (txt (tbits v))) ∧ w = w' := by
  have HV : Hid (v < 18446744073709551616) := hv
  clear hv
  have hb5 := tby_le v
  go_enter Tryz.func51, Tryz.ntmps51
  go_wp2_with fail
  refine (rByte_any v w HV.out).mono ?_
  rintro e w1 ⟨rfl, rfl⟩
  by_cases hb : tby v = 255
  · have HB : Hid (tbits v = numBits 255 8 ++ numBits v 64) := by show _ = _; unfold tbits; rw [if_pos hb]
    have hz1 : (txt (numBits 255 8)).size = 8 := by rw [txt_size, numBits_length]
    have hz2 : (txt (numBits v 64)).size = 64 := by rw [txt_size, numBits_length]
    rw [hb]
    clear hb hb5
    go_wp2_with fail
    refine (number_any 255 8 w (by omega) (by omega)).mono ?_
    rintro e w1 ⟨rfl, rfl⟩
    go_wp2_with fail
    refine (number_any v 64 w HV.out (by omega)).mono ?_
    rintro e w1 ⟨rfl, rfl⟩
    go_wp2_with fail
    go_ret
    exact ⟨by rw [HB.out, ← txt_append]; rfl, rfl⟩
  · have HB : Hid (tbits v = numBits (tby v) 8) := by show _ = _; unfold tbits; rw [if_neg hb]
    have db : (((tby v : Nat) : Int) == 255) = false := beq_eq_false_iff_ne.2 (by omega)
    generalize tby v = b at *
    clear hb
    go_wp2_with fail
    refine (number_any b 8 w (by omega) (by omega)).mono ?_
    rintro e w1 ⟨rfl, rfl⟩
    go_wp2_with fail
    go_ret
    exact ⟨by rw [HB.out]; rfl, rfl⟩
end Go.Proofs.YtkphonepblkcdaaGreatDoor
