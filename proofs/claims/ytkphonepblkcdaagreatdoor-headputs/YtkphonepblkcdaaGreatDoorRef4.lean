/-
  The document's own answers of layer 4 (package tidepoleref04): behind, ones, U, S, Parse.
-/
import Derived.Test.YtkphonepblkcdaaGreatDoorRefTxt
import Derived.Test.YtkphonepblkcdaaGreatDoorVbGet
namespace Go.Proofs.YtkphonepblkcdaaGreatDoor
open Go.RowKit Mem Bits Groups
set_option linter.unusedSimpArgs false
set_option linter.unusedVariables false

set_option maxRecDepth 100000 in
set_option maxHeartbeats 1000000 in
theorem rbehind_any (k : Nat) (w : World) (hk : k ≤ 8) :
    Calls Tryz.prog 80 #[.int .i64 (k : Int)] w fun e w' => e = .returned (.int .i64 ((bh k : Nat) : Int)) ∧ Fr [] w w' := by
  rcases nine hk with rfl | rfl | rfl | rfl | rfl | rfl | rfl | rfl | rfl
  all_goals
    go_enter Tryz.func80, Tryz.ntmps80
    go_wp2_with fail
    go_ret
    exact ⟨rfl, (Fr.refl _ _).alloc _⟩

set_option maxRecDepth 100000 in
set_option maxHeartbeats 1000000 in
theorem ones_any (k : Nat) (w : World) (hk : k ≤ 8) :
    Calls Tryz.prog 79 #[.int .i64 (k : Int)] w fun e w' => e = .returned (.string (txt (lead k))) ∧ w = w' := by
  go_enter Tryz.func79, Tryz.ntmps79
  go_wp2
  go_loop [3, 4] (fun o i => ∃ j : Nat, j ≤ k ∧ i = .int .i64 j ∧ o = .string (txt (List.replicate j true))) (fun _ i => k - (intOf i).toNat)
  case atStart => exact ⟨0, by omega, rfl, rfl⟩
  case round =>
    obtain ⟨j, hj, rfl, rfl⟩ := hrel
    have hz : (txt (List.replicate j true)).size ≤ 64 := by rw [txt_size]; simp; omega
    by_cases hlt : j < k
    · have dj : decide ((j : Int) < (k : Int)) = true := decide_eq_true (by omega)
      go_wp2
      go_round
      case rel => exact ⟨j + 1, by omega, by go_num, by rw [← ones_snoc, ← txt_snoc]; rfl⟩
      case measure => simp [intOf]; omega
    · have dj : decide ((j : Int) < (k : Int)) = false := decide_eq_false (by omega)
      have ej : j = k := by omega
      subst ej
      by_cases h8 : j < 8
      · have d8 : decide ((j : Int) < 8) = true := decide_eq_true (by omega)
        have HE : Hid (lead j = List.replicate j true ++ [false]) := by show _ = _; unfold lead; rw [if_pos h8]
        go_wp2
        go_ret
        exact ⟨by rw [HE.out, ← txt_snoc]; rfl, rfl⟩
      · have d8 : decide ((j : Int) < 8) = false := decide_eq_false (by omega)
        have HE : Hid (lead j = List.replicate j true) := by show _ = _; unfold lead; rw [if_neg h8]; simp
        go_wp2
        go_ret
        exact ⟨by rw [HE.out]; rfl, rfl⟩

set_option maxRecDepth 100000 in
set_option maxHeartbeats 1000000 in
theorem U_any (V : Nat) (w : World) (hV : V < 18446744073709551616) :
    Calls Tryz.prog 82 #[.int .u64 (V : Int)] w fun e w' => e = .returned (.string (txt (ubits V))) ∧ Fr [] w w' := by
  go_enter Tryz.func82, Tryz.ntmps82
  go_wp2_with fail
  go_loopw [4] (fun c wr => ∃ k : Nat, k ≤ gU V ∧ c = .int .i64 (k : Int) ∧ Fr [] w wr ∧ ∀ i, i < 8 → wr.cell? ⟨w.heap.size, i, none⟩ = some (.int .u64 ((2 ^ bh i - 1 : Nat) : Int))) (fun c _ => 8 - (intOf c).toNat)
  case atStart =>
    refine ⟨0, by omega, rfl, (Fr.refl _ _).alloc _, fun i hi => ?_⟩
    rw [World.cell?_alloc_at _ _ _ _ rfl]
    rcases nine (Nat.le_of_lt hi) with rfl | rfl | rfl | rfl | rfl | rfl | rfl | rfl | rfl <;> first | rfl | omega
  case round =>
    obtain ⟨k, hk, rfl, hf, hcs⟩ := hrel
    have HC : Hid (∀ i, i < 8 → wr.cell? ⟨w.heap.size, i, none⟩ = some (.int .u64 ((2 ^ bh i - 1 : Nat) : Int))) := hcs
    have hg8 := gU_le V
    clear hcs
    have hzu : (txt (lead k)).size ≤ 8 := by rw [txt_size, lead_length]; exact fore_le (by omega)
    have hzn : (txt (numBits V (bh k))).size ≤ 64 := by rw [txt_size, numBits_length]; exact bh_le k
    have hp := Nat.two_pow_pos (bh k)
    by_cases hlt : k < gU V
    · have d8 : decide ((k : Int) < 8) = true := decide_eq_true (by omega)
      have hc := HC.out k (by omega)
      have hge : 2 ^ bh k ≤ V := by have := gU_iff V (show k < 8 by omega); omega
      generalize 2 ^ bh k = X at *
      have dv : decide (((X - 1 : Nat) : Int) < (V : Int)) = true := decide_eq_true (by omega)
      go_wp2_with fail
      go_roundw
      case rel => exact ⟨k + 1, by omega, by go_num, hf, HC.out⟩
      case measure => simp [intOf]; omega
    · have ek : gU V = k := by omega
      have HE : Hid (ubits V = lead k ++ numBits V (bh k)) := by show _ = _; unfold ubits gbits; rw [ek]
      have hk8 : k ≤ 8 := by omega
      by_cases h8 : k < 8
      · have d8 : decide ((k : Int) < 8) = true := decide_eq_true (by omega)
        have hc := HC.out k (by omega)
        have hge : V < 2 ^ bh k := by have := gU_iff V h8; omega
        generalize 2 ^ bh k = X at *
        have dv : decide (((X - 1 : Nat) : Int) < (V : Int)) = false := decide_eq_false (by omega)
        go_wp2_with fail
        refine (ones_any k wr hk8).mono ?_
        rintro e w2 ⟨rfl, rfl⟩
        go_wp2_with fail
        refine (rbehind_any k wr hk8).mono ?_
        rintro e w3 ⟨rfl, hf3⟩
        have hfz : Fr [] w w3 := hf.trans hf3 (by simp)
        clear hf hf3
        have hbl := bh_le k
        go_wp2_with fail
        refine (number_any V (bh k) w3 hV hbl).mono ?_
        rintro e w4 ⟨rfl, rfl⟩
        go_wp2_with fail
        go_ret
        exact ⟨by rw [HE.out, ← txt_append]; rfl, hfz⟩
      · have d8 : decide ((k : Int) < 8) = false := decide_eq_false (by omega)
        go_wp2_with fail
        refine (ones_any k wr hk8).mono ?_
        rintro e w2 ⟨rfl, rfl⟩
        go_wp2_with fail
        refine (rbehind_any k wr hk8).mono ?_
        rintro e w3 ⟨rfl, hf3⟩
        have hfz : Fr [] w w3 := hf.trans hf3 (by simp)
        clear hf hf3
        have hbl := bh_le k
        go_wp2_with fail
        refine (number_any V (bh k) w3 hV hbl).mono ?_
        rintro e w4 ⟨rfl, rfl⟩
        go_wp2_with fail
        go_ret
        exact ⟨by rw [HE.out, ← txt_append]; rfl, hfz⟩
end Go.Proofs.YtkphonepblkcdaaGreatDoor
