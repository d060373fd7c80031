/-
  The document's own answers of layer 12 (package tidepoleref12): Parse.
-/
import Derived.Test.YtkphonepblkcdaaGreatDoorRef12
namespace Go.Proofs.YtkphonepblkcdaaGreatDoor
open Go.RowKit Mem Bits Thrs
set_option linter.unusedSimpArgs false
set_option linter.unusedVariables false

theorem txt_take (l : List Bool) (k : Nat) : (txt l).extract 0 k = txt (l.take k) := by
  apply ByteArray.ext
  simp [txt, List.map_take]
theorem txt_part (l : List Bool) (a b : Nat) : (txt l).extract a b = txt ((l.drop a).take (b - a)) := by
  apply ByteArray.ext
  simp [txt, List.map_take, List.map_drop, List.extract_eq_take_drop]

set_option maxRecDepth 100000 in
set_option maxHeartbeats 2000000 in
theorem rParse_any (l : List Bool) (w : World) (v f u : Nat) (hl : l.length ≤ 1048576) (ht : tgt l 0 l.length = (v, f, u)) :
    Calls Tryz.prog 60 #[.string (txt l)] w fun e w' => e = .returned (.tuple #[.int .u64 (v : Int), .int .i64 (if f = 0 then (u : Int) else 0), .int .i64 (f : Int)]) ∧ w = w' := by
  have hz : (txt l).size = l.length := txt_size l
  have HZ : Hid ((txt l).size = l.length) := hz
  have hz2 : (txt l).size ≤ 1048576 := by omega
  unfold tgt at ht
  rw [← hz] at ht
  rw [Nat.sub_zero, List.drop_zero, Nat.zero_add] at ht
  clear hz
  go_enter Tryz.func60, Tryz.ntmps60
  by_cases hs : (txt l).size < 8
  · rw [if_pos hs] at ht
    obtain ⟨rfl, rfl, rfl⟩ : 0 = v ∧ 16 = f ∧ 0 = u := by simpa using ht
    have dl : decide (((txt l).size : Int) < 8) = true := decide_eq_true (by omega)
    clear ht
    go_wp2_with fail
    go_ret3
    exact ⟨by first | rfl | trivial, rfl⟩
  rw [if_neg hs] at ht
  have dl : decide (((txt l).size : Int) < 8) = false := decide_eq_false (by omega)
  obtain ⟨V, hV⟩ : ∃ V, V = val (l.take 8) := ⟨_, rfl⟩
  have hV2 : V < 256 := by rw [hV]; exact Nat.lt_of_lt_of_le (val_lt _) (Nat.pow_le_pow_right (n := 2) (by omega) (by simp; omega : (l.take 8).length ≤ 8))
  have HVAL : Hid (∀ w : World, Calls Tryz.prog 58 #[.string ((txt l).extract 0 8)] w fun e w' => e = .returned (.int .u64 (V : Int)) ∧ w = w') := fun w => by
    rw [txt_take, hV]; exact value_any _ w (by simp; omega)
  rw [← hV] at ht
  clear hV
  go_wp2_with fail
  refine (HVAL.out w).mono ?_
  rintro e w1 ⟨rfl, rfl⟩
  by_cases hz : V = 0
  · rw [if_pos hz] at ht
    obtain ⟨rfl, rfl, rfl⟩ : 0 = v ∧ 0 = f ∧ 8 = u := by simpa using ht
    subst hz
    clear ht
    go_wp2_with fail
    go_ret3
    exact ⟨by first | rfl | trivial, rfl⟩
  rw [if_neg hz] at ht
  have dz : ((V : Int) == 0) = false := beq_eq_false_iff_ne.2 (by omega)
  by_cases h5 : V < 255
  · rw [if_pos h5] at ht
    obtain ⟨X, hX⟩ : ∃ X, X = (V + 779) * 4503599627370496 := ⟨_, rfl⟩
    rw [← hX] at ht
    obtain ⟨rfl, rfl, rfl⟩ : X = v ∧ 0 = f ∧ 8 = u := by simpa using ht
    have HX : Hid (((V : Int) + 779) * 4503599627370496 = (X : Int)) := by show _ = _; omega
    have d5 : decide ((V : Int) < 255) = true := decide_eq_true (by omega)
    clear ht hX hz
    go_wp2_with fail
    go_ret3
    exact ⟨by rw [← HX.out]; rfl, rfl⟩
  rw [if_neg h5] at ht
  have d5 : decide ((V : Int) < 255) = false := decide_eq_false (by omega)
  clear hz h5
  by_cases h72 : (txt l).size < 72
  · have d7 : decide (((txt l).size : Int) < 72) = true := decide_eq_true (by omega)
    rw [if_pos (by omega)] at ht
    obtain ⟨rfl, rfl, rfl⟩ : 0 = v ∧ 16 = f ∧ 8 = u := by simpa using ht
    clear ht
    go_wp2_with fail
    go_ret3
    exact ⟨by first | rfl | trivial, rfl⟩
  have d7 : decide (((txt l).size : Int) < 72) = false := decide_eq_false (by omega)
  rw [if_neg (by omega)] at ht
  obtain ⟨W, hW⟩ : ∃ W, W = val ((l.drop 8).take 64) := ⟨_, rfl⟩
  have HW2 : Hid (W < 18446744073709551616) := by show _ < _; rw [hW]; exact val_take_lt l 8 64
  have HVAL2 : Hid (∀ w : World, Calls Tryz.prog 58 #[.string ((txt l).extract 8 72)] w fun e w' => e = .returned (.int .u64 (W : Int)) ∧ w = w') := fun w => by
    rw [txt_part, hW]; exact value_any _ w (by simp; omega)
  rw [← hW] at ht
  clear hW HVAL
  go_wp2_with fail
  refine (HVAL2.out w).mono ?_
  rintro e w1 ⟨rfl, rfl⟩
  by_cases hi : W < inf
  · rw [if_neg (by omega)] at ht
    have HH : Hid (W < inf) := hi
    clear hi
    go_wp2_with fail
    refine (thHead_yes HH.out w).mono ?_
    rintro e w1 ⟨rfl, rfl⟩
    go_wp2_with fail
    refine (rByte_any W w HW2.out).mono ?_
    rintro e w1 ⟨rfl, rfl⟩
    by_cases hb : tby W = 255
    · rw [if_pos hb] at ht
      obtain ⟨rfl, rfl, rfl⟩ : W = v ∧ 0 = f ∧ 72 = u := by simpa using ht
      rw [hb]
      clear ht hb
      go_wp2_with fail
      go_ret3
      exact ⟨by first | rfl | trivial, rfl⟩
    · rw [if_neg hb] at ht
      obtain ⟨rfl, rfl, rfl⟩ : 0 = v ∧ 10 = f ∧ 72 = u := by simpa using ht
      have db : (((tby W : Nat) : Int) != 255) = true := bne_iff_ne.2 (by omega)
      clear ht hb
      generalize tby W = b at *
      go_wp2_with fail
      go_ret3
      exact ⟨by first | rfl | trivial, rfl⟩
  · rw [if_pos (by omega)] at ht
    obtain ⟨rfl, rfl, rfl⟩ : 0 = v ∧ 11 = f ∧ 72 = u := by simpa using ht
    have HH : Hid (¬ W < inf) := hi
    clear hi ht
    go_wp2_with fail
    refine (thHead_no HH.out w).mono ?_
    rintro e w1 ⟨rfl, rfl⟩
    go_wp2_with fail
    go_ret3
    exact ⟨by first | rfl | trivial, rfl⟩
end Go.Proofs.YtkphonepblkcdaaGreatDoor
