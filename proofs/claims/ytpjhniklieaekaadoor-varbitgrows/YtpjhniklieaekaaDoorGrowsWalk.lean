/-
  The walk of tidepolelaw04.VarbitGrows: it returns true, whatever it is given, and writes nothing that was there.
-/
import Derived.Test.YtpjhniklieaekaaDoorLaw4
namespace Go.Proofs.YtpjhniklieaekaaDoor
open Go.RowKit Mem Bits Groups
set_option linter.unusedSimpArgs false
set_option linter.unusedVariables false

theorem lenS_mono {u v : Int} (h0 : 0 ≤ u) (h : u ≤ v) : (sbits u).length ≤ (sbits v).length := by
  unfold sbits; rw [gbits_length, gbits_length]; exact size_le (gS_mono h0 h) (gS_le v)
theorem lenS_mono' {u v : Int} (h0 : 0 ≤ u) (h : u ≤ v) : (sbits (-u)).length ≤ (sbits (-v)).length := by
  unfold sbits; rw [gbits_length, gbits_length]; exact size_le (gS_mono' h0 h) (gS_le _)
theorem lenU_mono {u v : Nat} (h : u ≤ v) : (ubits u).length ≤ (ubits v).length := by
  unfold ubits; rw [gbits_length, gbits_length]; exact size_le (gU_mono h) (gU_le v)
theorem mod63 (A : Nat) : A % 9223372036854775808 ≤ 9223372036854775807 := Nat.le_of_lt_succ (Nat.mod_lt _ (by omega))
theorem low63 (A : Nat) (h : A < 18446744073709551616) : wrap64 (Go.bits .and .u64 (A : Int) 9223372036854775807) = ((A % 9223372036854775808 : Nat) : Int) := by
  rw [show (9223372036854775807 : Int) = ((2 ^ 63 - 1 : Nat) : Int) from rfl, u64_and_nat A _ h (by decide), Nat.and_two_pow_sub_one_eq_mod]
  unfold wrap64; omega

set_option maxRecDepth 100000 in
set_option maxHeartbeats 1000000 in
theorem grows_walk (a0 a1 : Int) (w : World) (hT : Tab w) (w0 : (Lit.int .u64 a0).wf = true) (w1 : (Lit.int .u64 a1).wf = true) :
    Calls Tryd.prog 6 #[.int .u64 a0, .int .u64 a1] w fun e w' => e = .returned (.bool true) ∧ Fr [] w w' := by
  simp [Lit.wf, IntKind.min, IntKind.max, IntKind.bits, IntKind.signed] at w0 w1
  obtain ⟨A, rfl⟩ := Int.eq_ofNat_of_zero_le w0.1
  obtain ⟨B, rfl⟩ := Int.eq_ofNat_of_zero_le w1.1
  obtain ⟨lo, hi, hm1, hm2, hlo, hhi, hle⟩ : ∃ lo hi : Nat, (if B < A then (B : Int) else (A : Int)) = (lo : Int) ∧ (if A < B then (B : Int) else (A : Int)) = (hi : Int) ∧ lo < 18446744073709551616 ∧ hi < 18446744073709551616 ∧ lo ≤ hi := by
    by_cases h : A < B
    · exact ⟨A, B, by rw [if_neg (by omega)], by rw [if_pos h], by omega, by omega, by omega⟩
    · by_cases h' : B < A
      · exact ⟨B, A, by rw [if_pos h'], by rw [if_neg h], by omega, by omega, by omega⟩
      · exact ⟨A, A, by rw [if_neg h'], by rw [if_neg h], by omega, by omega, by omega⟩
  have mU := lenU_mono hle
  have mT : (ubits hi).length ≤ 72 := gbits_le hi (gU_le hi)
  have hX := low63 lo hlo
  have hY := low63 hi hhi
  have hX2 := mod63 lo
  have hY2 := mod63 hi
  clear hle w0 w1
  generalize lo % 9223372036854775808 = X at *
  generalize hi % 9223372036854775808 = Y at *
  have HT : Hid (Tab w) := hT
  clear hT
  go_enter Tryd.func6, Tryd.ntmps6
  by_cases hXY : Y < X
  · have dX : decide ((Y : Int) < (X : Int)) = true := decide_eq_true (by omega)
    go_wp2_with fail
    refine (lenU_any lo w HT.out hlo).mono ?_
    rintro e w1 ⟨rfl, rfl⟩
    go_wp2_with fail
    refine (lenU_any hi w HT.out hhi).mono ?_
    rintro e w1 ⟨rfl, rfl⟩
    go_wp2_with fail
    refine (lenS_any (Y : Int) w HT.out (by omega) (by omega)).mono ?_
    rintro e w1 ⟨rfl, hf1⟩
    go_wp2_with fail
    refine (lenS_any (X : Int) w1 (HT.out.kept hf1 (by simp)) (by omega) (by omega)).mono ?_
    rintro e w2 ⟨rfl, hf2'⟩
    have hf2 : Fr [] w w2 := hf1.trans hf2' (by simp)
    clear hf2' hf1
    have m1 := lenS_mono (u := (Y : Int)) (v := (X : Int)) (by omega) (by omega)
    have m2 := lenS_mono' (u := (Y : Int)) (v := (X : Int)) (by omega) (by omega)
    go_wp2_with fail
    refine (lenS_any (-(Y : Int)) w2 (HT.out.kept hf2 (by simp)) (by omega) (by omega)).mono ?_
    rintro e w3 ⟨rfl, hf3'⟩
    have hf3 : Fr [] w w3 := hf2.trans hf3' (by simp)
    clear hf3' hf2
    go_wp2_with fail
    refine (lenS_any (-(X : Int)) w3 (HT.out.kept hf3 (by simp)) (by omega) (by omega)).mono ?_
    rintro e w4 ⟨rfl, hf4'⟩
    have hf4 : Fr [] w w4 := hf3.trans hf4' (by simp)
    clear hf4' hf3
    go_wp2_with fail
    refine (lenU_any hi w4 (HT.out.kept hf4 (by simp)) hhi).mono ?_
    rintro e w5 ⟨rfl, rfl⟩
    go_wp2_with fail
    refine (awake_any w4 (HT.out.kept hf4 (by simp))).mono ?_
    rintro e w6 ⟨rfl, hf6'⟩
    have hf6 : Fr [] w w6 := hf4.trans hf6' (by simp)
    clear hf6' hf4
    go_wp2_with fail
    go_ret
    exact ⟨by first | rfl | trivial, hf6⟩
  · have dX : decide ((Y : Int) < (X : Int)) = false := decide_eq_false (by omega)
    go_wp2_with fail
    refine (lenU_any lo w HT.out hlo).mono ?_
    rintro e w1 ⟨rfl, rfl⟩
    go_wp2_with fail
    refine (lenU_any hi w HT.out hhi).mono ?_
    rintro e w1 ⟨rfl, rfl⟩
    go_wp2_with fail
    refine (lenS_any (X : Int) w HT.out (by omega) (by omega)).mono ?_
    rintro e w1 ⟨rfl, hf1⟩
    go_wp2_with fail
    refine (lenS_any (Y : Int) w1 (HT.out.kept hf1 (by simp)) (by omega) (by omega)).mono ?_
    rintro e w2 ⟨rfl, hf2'⟩
    have hf2 : Fr [] w w2 := hf1.trans hf2' (by simp)
    clear hf2' hf1
    have m1 := lenS_mono (u := (X : Int)) (v := (Y : Int)) (by omega) (by omega)
    have m2 := lenS_mono' (u := (X : Int)) (v := (Y : Int)) (by omega) (by omega)
    go_wp2_with fail
    refine (lenS_any (-(X : Int)) w2 (HT.out.kept hf2 (by simp)) (by omega) (by omega)).mono ?_
    rintro e w3 ⟨rfl, hf3'⟩
    have hf3 : Fr [] w w3 := hf2.trans hf3' (by simp)
    clear hf3' hf2
    go_wp2_with fail
    refine (lenS_any (-(Y : Int)) w3 (HT.out.kept hf3 (by simp)) (by omega) (by omega)).mono ?_
    rintro e w4 ⟨rfl, hf4'⟩
    have hf4 : Fr [] w w4 := hf3.trans hf4' (by simp)
    clear hf4' hf3
    go_wp2_with fail
    refine (lenU_any hi w4 (HT.out.kept hf4 (by simp)) hhi).mono ?_
    rintro e w5 ⟨rfl, rfl⟩
    go_wp2_with fail
    refine (awake_any w4 (HT.out.kept hf4 (by simp))).mono ?_
    rintro e w6 ⟨rfl, hf6'⟩
    have hf6 : Fr [] w w6 := hf4.trans hf6' (by simp)
    clear hf6' hf4
    go_wp2_with fail
    go_ret
    exact ⟨by first | rfl | trivial, hf6⟩
end Go.Proofs.YtpjhniklieaekaaDoor
