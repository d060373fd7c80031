/-
  The document's own answers of layer 5 (package tidepoleref05): First, End.
-/
import Derived.Test.YtjijbegoehpicaaDoorRefTxt
import Derived.Test.YtjijbegoehpicaaDoorWindows
namespace Go.Proofs.YtjijbegoehpicaaDoor
open Go.RowKit Mem Bits Windows
set_option linter.unusedSimpArgs false
set_option linter.unusedVariables false

set_option maxHeartbeats 1000000 in
theorem firstOne_any (l : List Bool) (F : Nat) (w : World) (hl : l.length ≤ 1000) (hF : F ≤ l.length) (hb : ∀ i, i < F → l.getD i false = false) (he : F < l.length → l.getD F false = true) :
    Calls Tryd.prog 25 #[.string (txt l)] w fun e w' => e = .returned (.int .i64 (F : Int)) ∧ w = w' := by
  have hz := txt_size l
  have hz2 : (txt l).size ≤ 1000 := by omega
  have HZ : Hid ((txt l).size = l.length) := hz
  clear hz
  go_enter Tryd.func25, Tryd.ntmps25
  go_wp2
  go_loop [3] (fun i => ∃ k : Nat, k ≤ F ∧ i = .int .i64 k) (fun i => l.length - (intOf i).toNat)
  case atStart => exact ⟨0, by omega, rfl⟩
  case round =>
    obtain ⟨k, hk, rfl⟩ := hrel
    by_cases hlt : k < (txt l).size
    · have hkl : k < l.length := by rw [← HZ.out]; exact hlt
      have HA : Hid ((txt l)[k] = ch (l.getD k false)) := txt_at l k hlt
      have hc : ((((txt l)[k]).toNat : Int) == 49) = l.getD k false := by rw [HA.out]; exact ch_eq _
      by_cases hkF : k = F
      · have h2 := he (by omega)
        subst hkF
        rw [h2] at hc
        clear he hb h2
        go_wp2
        go_ret
        exact ⟨rfl, rfl⟩
      · have h2 := hb k (by omega)
        rw [h2] at hc
        clear he hb h2
        go_wp2
        go_round
        case rel => exact ⟨k + 1, by omega, by go_num⟩
        case measure => simp [intOf]; omega
    · have hkl : k = F := by have := HZ.out; omega
      have HK : Hid (((txt l).size : Int) = (F : Int)) := by show _ = _; have := HZ.out; omega
      clear he hb
      go_wp2
      go_ret
      exact ⟨congrArg (fun x => Ending.returned (.int .i64 x)) HK.out, rfl⟩

set_option maxHeartbeats 1000000 in
theorem endOne_any (l : List Bool) (F : Nat) (w : World) (hl : l.length ≤ 1000) (hF : F ≤ l.length) (hb : ∀ i, F ≤ i → l.getD i false = false) (he : 0 < F → l.getD (F - 1) false = true) :
    Calls Tryd.prog 26 #[.string (txt l)] w fun e w' => e = .returned (.int .i64 (F : Int)) ∧ w = w' := by
  have hz := txt_size l
  have hz2 : (txt l).size ≤ 1000 := by omega
  have HZ : Hid ((txt l).size = l.length) := hz
  clear hz
  go_enter Tryd.func26, Tryd.ntmps26
  go_wp2
  go_loop [3] (fun i => ∃ k : Nat, F ≤ k ∧ k ≤ (txt l).size ∧ i = .int .i64 k) (fun i => (intOf i).toNat)
  case atStart => exact ⟨(txt l).size, by have := HZ.out; omega, by omega, rfl⟩
  case round =>
    obtain ⟨k, hk, hks, rfl⟩ := hrel
    cases k with
    | zero =>
      have hkl : F = 0 := by omega
      clear he hb
      subst hkl
      go_wp2
      go_ret
      exact ⟨rfl, rfl⟩
    | succ k =>
      have hlt : k < (txt l).size := by omega
      have e1 : ((k + 1 : Nat) : Int) = (k : Int) + 1 := by omega
      have HA : Hid ((txt l)[k] = ch (l.getD k false)) := txt_at l k hlt
      have hc : ((((txt l)[k]).toNat : Int) == 49) = l.getD k false := by rw [HA.out]; exact ch_eq _
      rw [e1]
      by_cases hkF : k + 1 = F
      · have h2 := he (by omega)
        rw [← hkF] at h2
        simp only [Nat.add_sub_cancel] at h2
        rw [h2] at hc
        have HKF : Hid (k + 1 = F) := hkF
        clear he hb h2 e1 hkF
        go_wp2
        go_ret
        exact ⟨by rw [← HKF.out]; rfl, rfl⟩
      · have h2 := hb k (by omega)
        rw [h2] at hc
        clear he hb h2 e1
        go_wp2
        go_round
        case rel => exact ⟨k, by omega, by omega, by first | rfl | go_num⟩
        case measure => simp [intOf]

/-- Where the first and the last one of a number's 64 bits stand. -/
theorem getD_numBits (d n i : Nat) (hi : i < n) : (numBits d n).getD i false = d.testBit (n - 1 - i) := by
  rw [List.getD_eq_getElem?_getD, List.getElem?_eq_getElem (by simpa using hi)]
  simp [numBits]
theorem first_num {d : Nat} (w : World) (h0 : d ≠ 0) (h : d < 18446744073709551616) :
    Calls Tryd.prog 25 #[.string (txt (numBits d 64))] w fun e w' => e = .returned (.int .i64 ((64 - bl d : Nat) : Int)) ∧ w = w' := by
  have h1 := bl_le d h
  have h2 := bl_pos h0 h
  refine firstOne_any _ _ w (by simp) (by simp) (fun i hi => ?_) (fun hi => ?_)
  · rw [getD_numBits d 64 i (by omega)]; exact above h0 h (by omega)
  · rw [getD_numBits d 64 _ (by omega), show 64 - 1 - (64 - bl d) = bl d - 1 from by omega]; exact bl_bit h0 h
theorem end_num {d : Nat} (w : World) (h0 : d ≠ 0) (h : d < 18446744073709551616) :
    Calls Tryd.prog 26 #[.string (txt (numBits d 64))] w fun e w' => e = .returned (.int .i64 ((64 - tz d : Nat) : Int)) ∧ w = w' := by
  have h1 := (tz_spec h0 h).2
  refine endOne_any _ _ w (by simp) (by simp) (fun i hi => ?_) (fun hi => ?_)
  · by_cases h6 : i < 64
    · rw [getD_numBits d 64 i h6]; exact behind h0 h (by omega)
    · rw [List.getD_eq_getElem?_getD, List.getElem?_eq_none (by simp; omega)]; rfl
  · rw [getD_numBits d 64 _ (by omega), show 64 - 1 - (64 - tz d - 1) = tz d from by omega]; exact tz_bit h0 h
end Go.Proofs.YtjijbegoehpicaaDoor
