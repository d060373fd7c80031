/-
  The walk of tidepolelaw12.ThresholdOrder: it returns true, whatever it is given, and writes nothing that was there.
-/
import Derived.Test.YtpomcakkpjmjiaaTPowersWalk
namespace Go.Proofs.Ytpomcakkpjmjiaa
open Go.RowKit Mem Bits Thrs
set_option linter.unusedSimpArgs false
set_option linter.unusedVariables false

/-- A power's bits. -/
def pwn (c : Nat) : Nat := (c + 779) * 4503599627370496

set_option maxRecDepth 100000 in
set_option maxHeartbeats 2000000 in
theorem order_walk (a0 : Int) (a1 : Int) (w : World) (w0 : (Lit.int .i64 a0).wf = true) (w1 : (Lit.int .i64 a1).wf = true) :
    Calls Try.prog 6 #[.int .i64 a0, .int .i64 a1] w fun e w' => e = .returned (.bool true) ∧ Fr [] w w' := by
  simp [Lit.wf, IntKind.min, IntKind.max, IntKind.bits, IntKind.signed] at w0 w1
  have HAW : Hid (∀ wx, Calls Try.prog 8 #[] wx fun e w' => e = .returned (.bool true) ∧ Fr [] wx w') := awake_any
  by_cases hbad : a0 < -243 ∨ 10 < a0 ∨ a1 < -243 ∨ 10 < a1
  · have hd : decide (a0 < -243) = true ∨ (decide (a0 < -243) = false ∧ decide (10 < a0) = true) ∨ (decide (a0 < -243) = false ∧ decide (10 < a0) = false ∧ decide (a1 < -243) = true) ∨ (decide (a0 < -243) = false ∧ decide (10 < a0) = false ∧ decide (a1 < -243) = false ∧ decide (10 < a1) = true) := by
      simp only [decide_eq_true_eq, decide_eq_false_iff_not]
      omega
    clear hbad w0 w1
    rcases hd with h1 | ⟨h1, h2⟩ | ⟨h1, h2, h3⟩ | ⟨h1, h2, h3, h4⟩
    all_goals
      go_enter Try.func6, Try.ntmps6
      go_wp2_with fail
      refine (HAW.out w).mono ?_
      rintro e wb ⟨rfl, hf⟩
      go_wp2_with fail
      go_ret
      exact ⟨by first | rfl | trivial, hf⟩
  · obtain ⟨c, c1, c2, c3, c4, c5⟩ := of_nat a0 (by omega) (by omega)
    obtain ⟨d, d1, d2, d3, d4, d5⟩ := of_nat a1 (by omega) (by omega)
    have HO0 : Hid (∀ wx, Calls Try.prog 25 #[.int .i64 a0] wx fun e w' => e = .returned (.tuple #[.int .u64 ((pwn c : Nat) : Int), .bool true]) ∧ wx = w') := fun wx => by
      have h := of_any a0 wx (by omega) (by omega)
      rw [c4, c5] at h; exact h
    have HO1 : Hid (∀ wx, Calls Try.prog 25 #[.int .i64 a1] wx fun e w' => e = .returned (.tuple #[.int .u64 ((pwn d : Nat) : Int), .bool true]) ∧ wx = w') := fun wx => by
      have h := of_any a1 wx (by omega) (by omega)
      rw [d4, d5] at h; exact h
    have HB0 : Hid (∀ wx, Calls Try.prog 24 #[.int .u64 ((pwn c : Nat) : Int)] wx fun e w' => e = .returned (.int .i64 (c : Int)) ∧ wx = w') := fun wx => by
      have h := rByte_any ((c + 779) * 4503599627370496) wx (pw_lt c c2)
      rw [tby_power c c1 c2] at h; exact h
    have q1 : decide (a0 < -243) = false := decide_eq_false (by omega)
    have q2 : decide (10 < a0) = false := decide_eq_false (by omega)
    have q3 : decide (a1 < -243) = false := decide_eq_false (by omega)
    have q4 : decide (10 < a1) = false := decide_eq_false (by omega)
    have HE : Hid (decide (a0 < a1) = decide (((pwn c : Nat) : Int) < ((pwn d : Nat) : Int))) := by
      show _ = _
      rw [decide_eq_decide]
      unfold pwn
      omega
    by_cases h10 : a0 < 10
    · have HO2 : Hid (∀ wx, Calls Try.prog 25 #[.int .i64 (a0 + 1)] wx fun e w' => e = .returned (.tuple #[.int .u64 ((pwn (c + 1) : Nat) : Int), .bool true]) ∧ wx = w') := fun wx => by
        obtain ⟨c', k1, k2, k3, k4, k5⟩ := of_nat (a0 + 1) (by omega) (by omega)
        obtain rfl : c' = c + 1 := by omega
        have h := of_any (a0 + 1) wx (by omega) (by omega)
        rw [k4, k5] at h; exact h
      have HB2 : Hid (∀ wx, Calls Try.prog 24 #[.int .u64 ((pwn (c + 1) : Nat) : Int)] wx fun e w' => e = .returned (.int .i64 ((c : Int) + 1)) ∧ wx = w') := fun wx => by
        have h := rByte_any ((c + 1 + 779) * 4503599627370496) wx (pw_lt (c + 1) (by omega))
        rw [tby_power (c + 1) (by omega) (by omega)] at h; exact h
      have HG : Hid (decide (((pwn c : Nat) : Int) < ((pwn (c + 1) : Nat) : Int)) = true) := decide_eq_true (by unfold pwn; omega)
      have q5 : decide (a0 < 10) = true := decide_eq_true h10
      clear hbad c4 d4 c5 d5 h10
      generalize ((pwn (c + 1) : Nat) : Int) = Z at *
      generalize ((pwn c : Nat) : Int) = X at *
      generalize ((pwn d : Nat) : Int) = Y at *
      have HG' := HG.out
      have hw1 : a0 < 9223372036854775807 := by omega
      clear c3 d3 c1 d1 d2
      rcases hc : decide (a0 < a1) with _ | _
      all_goals
        have hE := HE.out
        rw [hc] at hE
        have hE' := hE.symm
        clear hE
        go_enter Try.func6, Try.ntmps6
        go_wp2_with fail
        refine (HO0.out w).mono ?_
        rintro e wa ⟨rfl, rfl⟩
        go_wp2_with fail
        refine (HO1.out w).mono ?_
        rintro e wa ⟨rfl, rfl⟩
        go_wp2_with fail
        refine (HO2.out w).mono ?_
        rintro e wa ⟨rfl, rfl⟩
        go_wp2_with fail
        refine (HB2.out w).mono ?_
        rintro e wa ⟨rfl, rfl⟩
        go_wp2_with fail
        refine (HB0.out w).mono ?_
        rintro e wa ⟨rfl, rfl⟩
        go_wp2_with fail
        refine (HAW.out w).mono ?_
        rintro e wb ⟨rfl, hf⟩
        go_wp2_with fail
        go_ret
        exact ⟨by first | rfl | trivial, hf⟩
    · obtain rfl : a0 = 10 := by omega
      have HO2 : Hid (∀ wx, Calls Try.prog 25 #[.int .i64 11] wx fun e w' => e = .returned (.tuple #[.int .u64 0, .bool false]) ∧ wx = w') := fun wx => by
        obtain ⟨k4, k5⟩ := of_not 11 (by omega)
        have h := of_any 11 wx (by omega) (by omega)
        rw [k4, k5] at h; exact h
      clear hbad c4 d4 c5 d5 h10
      generalize ((pwn c : Nat) : Int) = X at *
      generalize ((pwn d : Nat) : Int) = Y at *
      clear c3 d3 c1 d1 d2
      have hE' : decide (X < Y) = false := by rw [← HE.out]; exact q4
      all_goals
        go_enter Try.func6, Try.ntmps6
        go_wp2_with fail
        refine (HO0.out w).mono ?_
        rintro e wa ⟨rfl, rfl⟩
        go_wp2_with fail
        refine (HO1.out w).mono ?_
        rintro e wa ⟨rfl, rfl⟩
        go_wp2_with fail
        refine (HO2.out w).mono ?_
        rintro e wa ⟨rfl, rfl⟩
        go_wp2_with fail
        refine (HAW.out w).mono ?_
        rintro e wb ⟨rfl, hf⟩
        go_wp2_with fail
        go_ret
        exact ⟨by first | rfl | trivial, hf⟩
theorem order_below (a0 : Int) (a1 : Int) (w : World) (w0 : (Lit.int .i64 a0).wf = true) (w1 : (Lit.int .i64 a1).wf = true) :
    Calls Try.prog 6 #[.int .i64 a0, .int .i64 a1] w fun e w' => e = .returned (.bool true) ∧ Below w.heap.size w w' :=
  (order_walk a0 a1 w w0 w1).mono fun _ _ h => ⟨h.1, h.2.below (Nat.le_refl _) (by simp)⟩
end Go.Proofs.Ytpomcakkpjmjiaa
