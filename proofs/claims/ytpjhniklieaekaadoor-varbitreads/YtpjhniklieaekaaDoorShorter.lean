/-
  tidepolelaw04.shorter: has a shorter group the number of bits, with a sign?
-/
import Derived.Test.YtpjhniklieaekaaDoorLaw4
import Derived.Test.YtpjhniklieaekaaDoorRef4S
namespace Go.Proofs.YtpjhniklieaekaaDoor
open Go.RowKit Mem Bits Groups
set_option linter.unusedSimpArgs false
set_option linter.unusedVariables false

theorem wrap64_last (V : Nat) (h : V < 18446744073709551616) : wrap64 (V : Int) = sgn V 64 := by
  rw [sgn_last]; unfold wrap64; split <;> omega
theorem sgn_half (V m : Nat) (hm : m ≤ 55) : sgn V (m + 1) = if 2 ^ m < V then (V : Int) - ((2 * 2 ^ m : Nat) : Int) else V := by
  unfold sgn
  rw [if_neg (by omega), Nat.pow_succ, Nat.mul_comm (2 ^ m) 2]
  by_cases h : 2 ^ m < V
  · rw [if_pos h, if_pos (by omega)]
  · rw [if_neg h, if_neg (by omega)]

theorem half_all (V Y : Nat) (h : V < 2 * Y) (hY : Y ≤ 36028797018963968) :
    IntKind.u64.wrap (Y : Int) = (Y : Int) ∧ wrap64 ((2 * Y : Nat) : Int) = ((2 * Y : Nat) : Int) ∧ IntKind.i64.wrap ((2 * Y : Nat) : Int) = ((2 * Y : Nat) : Int) ∧ 2 * Y ≤ 72057594037927936 ∧ V ≤ 72057594037927936 := by
  rw [IntKind.wrap_u64, IntKind.wrap_i64]
  unfold wrap64
  omega
theorem half_facts (V m : Nat) (hm : m ≤ 55) (hlt : V < 2 ^ (m + 1)) : ∃ Y Z : Nat, IntKind.u64.wrap (2 ^ m) = (Y : Int) ∧ wrap64 (2 ^ (m + 1)) = (Z : Int) ∧ IntKind.i64.wrap (2 ^ (m + 1)) = (Z : Int) ∧
    Z ≤ 72057594037927936 ∧ Y ≤ 36028797018963968 ∧ V ≤ 72057594037927936 ∧ sgn V (m + 1) = if Y < V then (V : Int) - (Z : Int) else V := by
  have hY : 2 ^ m ≤ 36028797018963968 := Nat.le_trans (Nat.pow_le_pow_right (by omega) hm) (by decide)
  have h2 : 2 ^ (m + 1) = 2 * 2 ^ m := by rw [Nat.pow_succ, Nat.mul_comm]
  rw [h2] at hlt
  have e1 : ((2 : Int) ^ m) = ((2 ^ m : Nat) : Int) := by simp
  have e2 : ((2 : Int) ^ (m + 1)) = ((2 * 2 ^ m : Nat) : Int) := by rw [← h2]; simp
  have hg := sgn_half V m hm
  rw [e1, e2, hg]
  generalize 2 ^ m = Y at *
  obtain ⟨a, b, c, d, e⟩ := half_all V Y hlt hY
  exact ⟨Y, 2 * Y, a, b, c, d, hY, e, rfl⟩

set_option maxRecDepth 100000 in
set_option maxHeartbeats 400000 in
theorem shorter_any (B : List Bool) (used : Nat) (w : World) (hn : B.length = 64 ∨ B.length ≤ 56) (hu : used ≤ 1000000) :
    Calls Tryd.prog 26 #[.string (txt B), .int .i64 (used : Int)] w fun e w' => e = .returned (.bool (decide ((sbits (sgn (val B) B.length)).length < used))) ∧ Fr [] w w' := by
  have hlt := val_lt B
  have HV : Hid (∀ w : World, Calls Tryd.prog 25 #[.string (txt B)] w fun e w' => e = .returned (.int .u64 ((val B : Nat) : Int)) ∧ w = w') := fun w => value_any B w (by omega)
  have hz : (txt B).size = B.length := txt_size B
  obtain ⟨hs1, hs2⟩ := sgn_in hn hlt
  generalize val B = V at *
  generalize B.length = n at *
  have HS : Hid (∀ w : World, Calls Tryd.prog 11 #[.int .i64 (sgn V n)] w fun e w' => e = .returned (.string (txt (sbits (sgn V n)))) ∧ Fr [] w w') := fun w => S_any (sgn V n) w hs1 hs2
  have hzz : (txt (sbits (sgn V n))).size = (sbits (sgn V n)).length := txt_size _
  have hll : (sbits (sgn V n)).length ≤ 72 := gbits_le _ (gS_le _)
  rcases hn with rfl | hn
  · have hV64 : V < 18446744073709551616 := hlt
    have hw := wrap64_last V hV64
    generalize sgn V 64 = s at *
    clear hlt
    go_enter Tryd.func26, Tryd.ntmps26
    go_wp2_with fail
    refine (HV.out w).mono ?_
    rintro e w1 ⟨rfl, rfl⟩
    go_wp2_with fail
    refine (HS.out w).mono ?_
    rintro e w1 ⟨rfl, hf⟩
    go_wp2_with fail
    go_ret
    exact ⟨by first | rfl | trivial, hf⟩
  · rcases n with _ | m
    · have hV0 : V = 0 := by simpa using hlt
      subst hV0
      have hw : sgn 0 0 = 0 := rfl
      rw [hw] at HS hzz hll ⊢
      clear hw hlt
      go_enter Tryd.func26, Tryd.ntmps26
      go_wp2_with fail
      refine (HV.out w).mono ?_
      rintro e w1 ⟨rfl, rfl⟩
      go_wp2_with fail
      refine (HS.out w).mono ?_
      rintro e w1 ⟨rfl, hf⟩
      go_wp2_with fail
      go_ret
      exact ⟨by first | rfl | trivial, hf⟩
    · have hm : m ≤ 55 := by omega
      obtain ⟨Y, Z, q1, q2, q3, hZb, hYb, hVb, hg⟩ := half_facts V m hm hlt
      have HG : Hid (sgn V (m + 1) = if Y < V then (V : Int) - (Z : Int) else V) := hg
      clear hg hlt
      have hdn : decide (0 < m + 1) = true := decide_eq_true (by omega)
      have hdn' : decide ((0 : Int) < ((m + 1 : Nat) : Int)) = true := decide_eq_true (by omega)
      have hd64 : decide (((m + 1 : Nat) : Int) < 64) = true := decide_eq_true (by omega)
      by_cases hYV : Y < V
      · have dY : decide ((Y : Int) < (V : Int)) = true := decide_eq_true (by omega)
        have hs : sgn V (m + 1) = (V : Int) - (Z : Int) := by rw [HG.out, if_pos hYV]
        rw [hs] at HS hzz hll ⊢
        clear HG hs
        go_enter Tryd.func26, Tryd.ntmps26
        go_wp2_with fail
        refine (HV.out w).mono ?_
        rintro e w1 ⟨rfl, rfl⟩
        go_wp2_with fail
        refine (HS.out w).mono ?_
        rintro e w1 ⟨rfl, hf⟩
        go_wp2_with fail
        go_ret
        exact ⟨by first | rfl | trivial, hf⟩
      · have dY : decide ((Y : Int) < (V : Int)) = false := decide_eq_false (by omega)
        have hs : sgn V (m + 1) = (V : Int) := by rw [HG.out, if_neg hYV]
        rw [hs] at HS hzz hll ⊢
        clear HG hs
        go_enter Tryd.func26, Tryd.ntmps26
        go_wp2_with fail
        refine (HV.out w).mono ?_
        rintro e w1 ⟨rfl, rfl⟩
        go_wp2_with fail
        refine (HS.out w).mono ?_
        rintro e w1 ⟨rfl, hf⟩
        go_wp2_with fail
        go_ret
        exact ⟨by first | rfl | trivial, hf⟩
end Go.Proofs.YtpjhniklieaekaaDoor
