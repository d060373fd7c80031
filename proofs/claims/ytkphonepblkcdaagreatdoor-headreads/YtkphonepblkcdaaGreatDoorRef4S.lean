/-
  The document's own answers of layer 4 (package tidepoleref04): S.
-/
import Derived.Test.YtkphonepblkcdaaGreatDoorRef4
namespace Go.Proofs.YtkphonepblkcdaaGreatDoor
open Go.RowKit Mem Bits Groups
set_option linter.unusedSimpArgs false
set_option linter.unusedVariables false

theorem th_le (k : Nat) : th k ≤ 36028797018963968 := by
  by_cases h : k ≤ 8
  · rcases nine h with rfl | rfl | rfl | rfl | rfl | rfl | rfl | rfl | rfl <;> decide
  · unfold th
    rw [List.getD_eq_getElem?_getD, List.getElem?_eq_none (by simp; omega)]
    decide
theorem th_gt {k : Nat} (h : 0 < k) (h8 : k < 8) : 4 ≤ th k := by
  rcases nine (Nat.le_of_lt h8) with rfl | rfl | rfl | rfl | rfl | rfl | rfl | rfl | rfl <;> first | omega | decide

set_option maxRecDepth 100000 in
set_option maxHeartbeats 2000000 in
theorem S_any (v : Int) (w : World) (h1 : -9223372036854775808 ≤ v) (h2 : v ≤ 9223372036854775807) :
    Calls Tryz.prog 50 #[.int .i64 v] w fun e w' => e = .returned (.string (txt (sbits v))) ∧ Fr [] w w' := by
  go_enter Tryz.func50, Tryz.ntmps50
  go_wp2_with fail
  go_loopw [4] (fun c wr => ∃ k : Nat, k ≤ gS v ∧ c = .int .i64 (k : Int) ∧ Fr [] w wr ∧ ∀ i, i < 8 → wr.cell? ⟨w.heap.size, i, none⟩ = some (.int .i64 (th i))) (fun c _ => 8 - (intOf c).toNat)
  case atStart =>
    refine ⟨0, by omega, rfl, (Fr.refl _ _).alloc _, fun i hi => ?_⟩
    rw [World.cell?_alloc_at _ _ _ _ rfl]
    rcases nine (Nat.le_of_lt hi) with rfl | rfl | rfl | rfl | rfl | rfl | rfl | rfl | rfl <;> first | rfl | omega
  case round =>
    obtain ⟨k, hk, rfl, hf, hcs⟩ := hrel
    have HC : Hid (∀ i, i < 8 → wr.cell? ⟨w.heap.size, i, none⟩ = some (.int .i64 (th i))) := hcs
    have hg8 := gS_le v
    clear hcs
    by_cases hlt : k < gS v
    · have d8 : decide ((k : Int) < 8) = true := decide_eq_true (by omega)
      have hc := HC.out k (by omega)
      have hno : ¬ ((v ≤ th k ∧ -(th k) < v) ∨ v = 0) := by have := gS_iff v (show k < 8 by omega); omega
      have ht0 := th_pos k
      have ht1 := th_le k
      by_cases hA : th k < v
      · have dA : decide (th k < v) = true := decide_eq_true hA
        clear hno
        generalize th k = T at *
        go_wp2_with fail
        go_roundw
        case rel => exact ⟨k + 1, by omega, by go_num, hf, HC.out⟩
        case measure => simp [intOf]; omega
      · have dA : decide (th k < v) = false := decide_eq_false hA
        by_cases hk0 : k = 0
        · subst hk0
          have t0 : th 0 = 0 := rfl
          have hc0 : wr.cell? ⟨w.heap.size, 0, none⟩ = some (.int .i64 0) := HC.out 0 (by omega)
          have dA0 : decide (0 < v) = false := decide_eq_false (by omega)
          have dv : decide (v < 0) = true := decide_eq_true (by omega)
          clear hno hc dA hA t0 d8 ht0 ht1
          go_wp2_with fail
          go_roundw
          case rel => exact ⟨1, by omega, by go_num, hf, HC.out⟩
          case measure => simp [intOf]
        · have d0 : ((k : Int) == 0) = false := beq_eq_false_iff_ne.2 (by omega)
          have dk : decide (0 < k) = true := decide_eq_true (by omega)
          have dk' : decide ((0 : Int) < (k : Int)) = true := decide_eq_true (by omega)
          have dv : decide (v < 1 - th k) = true := decide_eq_true (by omega)
          clear hno
          generalize th k = T at *
          go_wp2_with fail
          go_roundw
          case rel => exact ⟨k + 1, by omega, by go_num, hf, HC.out⟩
          case measure => simp [intOf]; omega
    · have ek : gS v = k := by omega
      have HE : Hid (sbits v = lead k ++ numBits (tw v) (bh k)) := by show _ = _; unfold sbits gbits; rw [ek]
      have hk8 : k ≤ 8 := by omega
      have hzu : (txt (lead k)).size ≤ 8 := by rw [txt_size, lead_length]; exact fore_le (by omega)
      have hzn : (txt (numBits (tw v) (bh k))).size ≤ 64 := by rw [txt_size, numBits_length]; exact bh_le k
      by_cases h8 : k < 8
      · have d8 : decide ((k : Int) < 8) = true := decide_eq_true (by omega)
        have hc := HC.out k (by omega)
        have hyes : (v ≤ th k ∧ -(th k) < v) ∨ v = 0 := by have := gS_iff v h8; omega
        have ht0 := th_pos k
        have ht1 := th_le k
        have dA : decide (th k < v) = false := decide_eq_false (by omega)
        by_cases hk0 : k = 0
        · subst hk0
          have t0 : th 0 = 0 := rfl
          have hc0 : wr.cell? ⟨w.heap.size, 0, none⟩ = some (.int .i64 0) := HC.out 0 (by omega)
          have dA0 : decide (0 < v) = false := decide_eq_false (by omega)
          have dv : decide (v < 0) = false := decide_eq_false (by omega)
          clear hyes hc dA t0 d8 ht0 ht1
          go_wp2_with fail
          refine (ones_any 0 wr hk8).mono ?_
          rintro e w2 ⟨rfl, rfl⟩
          go_wp2_with fail
          refine (rbehind_any 0 wr hk8).mono ?_
          rintro e w3 ⟨rfl, hf3⟩
          have hfz : Fr [] w w3 := hf.trans hf3 (by simp)
          clear hf hf3
          have hbl := bh_le 0
          go_wp2_with fail
          try rw [wrap_tw]
          refine (number_any (tw v) (bh 0) w3 (tw_lt v) hbl).mono ?_
          rintro e w4 ⟨rfl, rfl⟩
          go_wp2_with fail
          go_ret
          exact ⟨by rw [HE.out, ← txt_append]; rfl, hfz⟩
        · have d0 : ((k : Int) == 0) = false := beq_eq_false_iff_ne.2 (by omega)
          have dk : decide (0 < k) = true := decide_eq_true (by omega)
          have dk' : decide ((0 : Int) < (k : Int)) = true := decide_eq_true (by omega)
          have ht4 := th_gt (show 0 < k by omega) h8
          have dv : decide (v < 1 - th k) = false := decide_eq_false (by omega)
          clear hyes
          generalize th k = T at *
          go_wp2_with fail
          refine (ones_any k wr hk8).mono ?_
          rintro e w2 ⟨rfl, rfl⟩
          go_wp2_with fail
          refine (rbehind_any k wr hk8).mono ?_
          rintro e w3 ⟨rfl, hf3⟩
          have hfz : Fr [] w w3 := hf.trans hf3 (by simp)
          clear hf hf3
          have hbl := bh_le k
          go_wp2_with fail
          try rw [wrap_tw]
          refine (number_any (tw v) (bh k) w3 (tw_lt v) hbl).mono ?_
          rintro e w4 ⟨rfl, rfl⟩
          go_wp2_with fail
          go_ret
          exact ⟨by rw [HE.out, ← txt_append]; rfl, hfz⟩
      · have d8 : decide ((k : Int) < 8) = false := decide_eq_false (by omega)
        go_wp2_with fail
        refine (ones_any k wr hk8).mono ?_
        rintro e w2 ⟨rfl, rfl⟩
        go_wp2_with fail
        refine (rbehind_any k wr hk8).mono ?_
        rintro e w3 ⟨rfl, hf3⟩
        have hfz : Fr [] w w3 := hf.trans hf3 (by simp)
        clear hf hf3
        have hbl := bh_le k
        go_wp2_with fail
        try rw [wrap_tw]
        refine (number_any (tw v) (bh k) w3 (tw_lt v) hbl).mono ?_
        rintro e w4 ⟨rfl, rfl⟩
        go_wp2_with fail
        go_ret
        exact ⟨by rw [HE.out, ← txt_append]; rfl, hfz⟩
end Go.Proofs.YtkphonepblkcdaaGreatDoor
