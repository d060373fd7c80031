/-
  The walk of tidepolelaw12.ThresholdPowers: it returns true, whatever it is given, and writes nothing that was there.
-/
import Derived.Test.YtpomcakkpjmjiaaLaw12
namespace Go.Proofs.Ytpomcakkpjmjiaa
open Go.RowKit Mem Bits Thrs
set_option linter.unusedSimpArgs false
set_option linter.unusedVariables false

/-- A power's bits, as a number without a sign. -/
theorem of_nat (p : Int) (h1 : -243 ≤ p) (h2 : p ≤ 10) : ∃ c : Nat, 1 ≤ c ∧ c ≤ 254 ∧ p = (c : Int) - 244 ∧ ofv p = (((c + 779) * 4503599627370496 : Nat) : Int) ∧ ofh p = true := by
  refine ⟨(p + 244).toNat, by omega, by omega, by omega, ?_, decide_eq_true (by omega)⟩
  unfold ofv
  rw [if_pos (by omega)]
  omega
theorem of_not (p : Int) (h : p < -243 ∨ 10 < p) : ofv p = 0 ∧ ofh p = false := by
  unfold ofv ofh
  exact ⟨if_neg (by omega), decide_eq_false (by omega)⟩
theorem pw_of (c : Nat) (h1 : 1 ≤ c) (h2 : c ≤ 254) : pw2 ((c + 779) * 4503599627370496) = true ∧ pwv ((c + 779) * 4503599627370496) = (c : Int) - 244 := by
  have h := (pw2_iff ((c + 779) * 4503599627370496)).2 ⟨c, h1, h2, rfl⟩
  refine ⟨h, ?_⟩
  unfold pwv
  rw [if_pos h]
  omega
theorem pw_lt (c : Nat) (h2 : c ≤ 254) : (c + 779) * 4503599627370496 < 18446744073709551616 := by omega

/-- Of and Power of any exponent: within reach, or beyond. -/
theorem of_both (a1 : Int) (hp1 : -9223372036854775808 ≤ a1) (hp2 : a1 ≤ 9223372036854775807) : ∃ (X : Int) (B : Bool), Hid (∀ wx, Calls Try.prog 25 #[.int .i64 a1] wx fun e w' => e = .returned (.tuple #[.int .u64 X, .bool B]) ∧ wx = w') ∧
    ((B = true ∧ -243 ≤ a1 ∧ a1 ≤ 10 ∧ Hid (∀ wx, Calls Try.prog 23 #[.int .u64 X] wx fun e w' => e = .returned (.tuple #[.int .i64 a1, .bool true]) ∧ wx = w')) ∨ (B = false ∧ X = 0 ∧ (a1 < -243 ∨ 10 < a1))) := by
  refine ⟨ofv a1, ofh a1, fun wx => of_any a1 wx hp1 hp2, ?_⟩
  by_cases h : a1 < -243 ∨ 10 < a1
  · obtain ⟨f1, f2⟩ := of_not a1 h
    exact .inr ⟨f2, f1, h⟩
  · obtain ⟨c, h1, h2, h3, h4, h5⟩ := of_nat a1 (by omega) (by omega)
    refine .inl ⟨h5, by omega, by omega, fun wx => ?_⟩
    have k := power_any ((c + 779) * 4503599627370496) wx (pw_lt c h2)
    rw [(pw_of c h1 h2).1, (pw_of c h1 h2).2, ← h4, ← h3] at k
    exact k

set_option maxRecDepth 100000 in
set_option maxHeartbeats 2000000 in
theorem powers_walk (a0 : Int) (a1 : Int) (w : World) (w0 : (Lit.int .u64 a0).wf = true) (w1 : (Lit.int .i64 a1).wf = true) :
    Calls Try.prog 5 #[.int .u64 a0, .int .i64 a1] w fun e w' => e = .returned (.bool true) ∧ Fr [] w w' := by
  simp [Lit.wf, IntKind.min, IntKind.max, IntKind.bits, IntKind.signed] at w0 w1
  obtain ⟨v, rfl⟩ := Int.eq_ofNat_of_zero_le w0.1
  have hv : v < 18446744073709551616 := by omega
  have HV : Hid (v < 18446744073709551616) := hv
  obtain ⟨hp1, hp2⟩ := w1
  have HAW : Hid (∀ wx, Calls Try.prog 8 #[] wx fun e w' => e = .returned (.bool true) ∧ Fr [] wx w') := awake_any
  clear w0 hv
  go_enter Try.func5, Try.ntmps5
  go_wp2_with fail
  refine (power_any v w HV.out).mono ?_
  rintro e wa ⟨rfl, rfl⟩
  go_wp2_with fail
  refine (rByte_any v w HV.out).mono ?_
  rintro e wa ⟨rfl, rfl⟩
  obtain ⟨X, B, HPO, htail⟩ := of_both a1 (by omega) (by omega)
  rcases tby_cases v with ⟨h0, hb, hp⟩ | ⟨c, h1, h2, h3, hb, hp⟩ | ⟨h0, hb, hp⟩
  case inr.inl =>
    have HP : pwv v = (c : Int) - 244 := by unfold pwv; rw [hp, if_pos rfl]; omega
    have HOF : Hid (∀ wx, Calls Try.prog 25 #[.int .i64 ((c : Int) - 244)] wx fun e w' => e = .returned (.tuple #[.int .u64 (v : Int), .bool true]) ∧ wx = w') := fun wx => by
      have h := of_any ((c : Int) - 244) wx (by omega) (by omega)
      obtain ⟨c', k1, k2, k3, k4, k5⟩ := of_nat ((c : Int) - 244) (by omega) (by omega)
      obtain rfl : c = c' := by omega
      rw [k4, k5, ← h3] at h
      exact h
    rw [hb, hp, HP]
    clear hb hp HP h3
    have dc0 : decide (0 < (c : Int)) = true := decide_eq_true (by omega)
    have dc5 : decide ((c : Int) < 255) = true := decide_eq_true (by omega)
    rcases htail with ⟨rfl, k1, k2, HPW⟩ | ⟨rfl, rfl, k1⟩
    · have dp1 : decide (-243 ≤ a1) = true := decide_eq_true k1
      have dp2 : decide (a1 ≤ 10) = true := decide_eq_true k2
      go_wp2_with fail
      refine (HOF.out w).mono ?_
      rintro e wa ⟨rfl, rfl⟩
      go_wp2_with fail
      refine (HPO.out w).mono ?_
      rintro e wa ⟨rfl, rfl⟩
      go_wp2_with fail
      refine (HPW.out w).mono ?_
      rintro e wa ⟨rfl, rfl⟩
      go_wp2_with fail
      refine (HAW.out w).mono ?_
      rintro e wb ⟨rfl, hf⟩
      go_wp2_with fail
      go_ret
      exact ⟨by first | rfl | trivial, hf⟩
    · have dp : (decide (-243 ≤ a1) = false) ∨ (decide (-243 ≤ a1) = true ∧ decide (a1 ≤ 10) = false) := by
        rcases k1 with k | k
        · exact .inl (decide_eq_false (by omega))
        · exact .inr ⟨decide_eq_true (by omega), decide_eq_false (by omega)⟩
      clear k1
      rcases dp with dp1 | ⟨dp1, dp2⟩
      all_goals
        go_wp2_with fail
        refine (HOF.out w).mono ?_
        rintro e wa ⟨rfl, rfl⟩
        go_wp2_with fail
        refine (HPO.out w).mono ?_
        rintro e wa ⟨rfl, rfl⟩
        go_wp2_with fail
        refine (HAW.out w).mono ?_
        rintro e wb ⟨rfl, hf⟩
        go_wp2_with fail
        go_ret
        exact ⟨by first | rfl | trivial, hf⟩
  all_goals
    have HP : pwv v = 0 := by unfold pwv; rw [hp]; rfl
    rw [hb, hp, HP]
    clear hb hp HP h0
    rcases htail with ⟨rfl, k1, k2, HPW⟩ | ⟨rfl, rfl, k1⟩
    · have dp1 : decide (-243 ≤ a1) = true := decide_eq_true k1
      have dp2 : decide (a1 ≤ 10) = true := decide_eq_true k2
      go_wp2_with fail
      refine (HPO.out w).mono ?_
      rintro e wa ⟨rfl, rfl⟩
      go_wp2_with fail
      refine (HPW.out w).mono ?_
      rintro e wa ⟨rfl, rfl⟩
      go_wp2_with fail
      refine (HAW.out w).mono ?_
      rintro e wb ⟨rfl, hf⟩
      go_wp2_with fail
      go_ret
      exact ⟨by first | rfl | trivial, hf⟩
    · have dp : (decide (-243 ≤ a1) = false) ∨ (decide (-243 ≤ a1) = true ∧ decide (a1 ≤ 10) = false) := by
        rcases k1 with k | k
        · exact .inl (decide_eq_false (by omega))
        · exact .inr ⟨decide_eq_true (by omega), decide_eq_false (by omega)⟩
      clear k1
      rcases dp with dp1 | ⟨dp1, dp2⟩
      all_goals
        go_wp2_with fail
        refine (HPO.out w).mono ?_
        rintro e wa ⟨rfl, rfl⟩
        go_wp2_with fail
        refine (HAW.out w).mono ?_
        rintro e wb ⟨rfl, hf⟩
        go_wp2_with fail
        go_ret
        exact ⟨by first | rfl | trivial, hf⟩
theorem powers_below (a0 : Int) (a1 : Int) (w : World) (w0 : (Lit.int .u64 a0).wf = true) (w1 : (Lit.int .i64 a1).wf = true) :
    Calls Try.prog 5 #[.int .u64 a0, .int .i64 a1] w fun e w' => e = .returned (.bool true) ∧ Below w.heap.size w w' :=
  (powers_walk a0 a1 w w0 w1).mono fun _ _ h => ⟨h.1, h.2.below (Nat.le_refl _) (by simp)⟩
end Go.Proofs.Ytpomcakkpjmjiaa
