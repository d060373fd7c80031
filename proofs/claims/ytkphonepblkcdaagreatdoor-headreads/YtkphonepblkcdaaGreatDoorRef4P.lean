/-
  The document's own answers of layer 4 (package tidepoleref04): Parse.
-/
import Derived.Test.YtkphonepblkcdaaGreatDoorRef4
import Derived.Deep.RegionHeld3
namespace Go.Proofs.YtkphonepblkcdaaGreatDoor
open Go.RowKit Mem Bits Groups
set_option linter.unusedSimpArgs false
set_option linter.unusedVariables false

theorem txt_mid (t : List Bool) (a b : Nat) : (txt t).extract a (a + b) = txt ((t.drop a).take b) := by
  apply ByteArray.ext
  simp [txt, List.map_take, List.map_drop]

set_option maxRecDepth 100000 in
set_option maxHeartbeats 4000000 in
theorem rparse_any (t : List Bool) (w : World) (k : Nat) (U : Int) (X : ByteArray) (hN : t.length ≤ 1048576) (hL : LeadIs t 0 t.length k)
    (hres : (fore k + bh k ≤ t.length ∧ U = ((fore k + bh k : Nat) : Int) ∧ X = txt ((t.drop (fore k)).take (bh k))) ∨ (t.length < fore k + bh k ∧ U = -1 ∧ X = ⟨#[]⟩)) :
    Calls Tryz.prog 86 #[.string (txt t)] w fun e w' => e = .returned (.tuple #[.int .i64 U, .string X]) ∧ Fr [] w w' := by
  obtain ⟨hk8, hkl, hL1, hL2⟩ := hL
  simp only [Nat.zero_add] at hkl hL1 hL2
  have HZ : Hid ((txt t).size = t.length) := txt_size t
  have hz1 : (txt t).size ≤ 1048576 := by rw [HZ.out]; exact hN
  rw [← HZ.out] at hkl hL2 hres
  have HL1 : Hid (∀ i, i < k → t.getD i false = true) := hL1
  have HL2 : Hid (k < 8 → k < (txt t).size → t.getD k false = false) := hL2
  have HAT : Hid (∀ i, (h : i < (txt t).size) → ((((txt t)[i]).toNat : Int) == 49) = t.getD i false) := fun i h => by rw [txt_at t i h]; exact ch_eq _
  clear hL1 hL2 hN
  go_enter Tryz.func86, Tryz.ntmps86
  go_wp2_with fail
  go_loop [4] (fun c => ∃ j : Nat, j ≤ k ∧ c = .int .i64 (j : Int)) (fun c => 8 - (intOf c).toNat)
  case atStart => exact ⟨0, by omega, rfl⟩
  case round =>
    obtain ⟨j, hj, rfl⟩ := hrel
    by_cases hlt : j < k
    · have d8 : decide ((j : Int) < 8) = true := decide_eq_true (by omega)
      have hjz : j < (txt t).size := by omega
      have dz : decide ((j : Int) < ((txt t).size : Int)) = true := decide_eq_true (by omega)
      have hc : ((((txt t)[j]).toNat : Int) == 49) = true := by rw [HAT.out j hjz]; exact HL1.out j hlt
      clear hres
      go_wp2_with fail
      go_round
      case rel => exact ⟨j + 1, by omega, by go_num⟩
      case measure => simp [intOf]; omega
    · have ej : j = k := by omega
      subst ej
      by_cases h8 : j < 8
      · have d8 : decide ((j : Int) < 8) = true := decide_eq_true (by omega)
        by_cases hjz : j < (txt t).size
        · have dzz : decide ((j : Int) < ((txt t).size : Int)) = true := decide_eq_true (by omega)
          have hc : ((((txt t)[j]).toNat : Int) == 49) = false := by rw [HAT.out j hjz]; exact HL2.out h8 hjz
          have hF : fore j = j + 1 := by unfold fore; rw [if_pos h8]
          have d9 : ((j : Int) == 8) = false := beq_eq_false_iff_ne.2 (by omega)
          rw [hF] at hres
          obtain ⟨F, hFj⟩ : ∃ F, F = j + 1 := ⟨_, rfl⟩
          have HEQ : Hid ((j : Int) + 1 = (F : Int)) := by show _ = _; omega
          rw [← hFj] at hres
          have HFJ : Hid (F = j + 1) := hFj
          have hF9 : F ≤ 9 := by omega
          clear hF hFj
          have hb64 := bh_le j
          have HRB : Hid (∀ w : World, Calls Tryz.prog 80 #[.int .i64 (j : Int)] w fun e w' => e = .returned (.int .i64 ((bh j : Nat) : Int)) ∧ Fr [] w w') := fun w => rbehind_any j w hk8
          generalize bh j = B at *
          go_wp2_with fail
          rw [HEQ.out]
          refine (HRB.out w).mono ?_
          rintro e w1 ⟨rfl, hf1⟩
          rcases hres with ⟨hfit, rfl, rfl⟩ | ⟨hfit, rfl, rfl⟩
          · have dz : decide (((txt t).size : Int) < (F : Int) + (B : Int)) = false := decide_eq_false (by omega)
            obtain ⟨M, hM⟩ : ∃ M, M = F + B := ⟨_, rfl⟩
            have HX : Hid ((txt t).extract F M = txt ((t.drop F).take B)) := by show _ = _; rw [hM]; exact txt_mid t F B
            have HM : Hid (M = F + B) := hM
            have q1 : wrap64 ((F : Int) + (B : Int)) = (M : Int) := by unfold wrap64; omega
            have q2 : IntKind.i64.wrap ((F : Int) + (B : Int)) = (M : Int) := by rw [IntKind.wrap_i64]; omega
            have hi0 : (0 : Int) ≤ (F : Int) := by omega
            have hi1 : (0 : Int) ≤ (M : Int) := by omega
            have hi2 : (F : Int) ≤ (M : Int) := by omega
            have hi3 : (M : Int) ≤ ((txt t).size : Int) := by omega
            clear hM
            go_wp2_with fail
            go_region_held3 (fun _ => True) (exact trivial) (first | (go_at_call 80; refine (HRB.out _).mono ?_; rintro e wz ⟨rfl, hfz⟩))
            all_goals go_wp2_with fail
            all_goals go_ret2
            refine ⟨?_, ?_⟩
            · have e1 := HX.out
              rw [← e1, ← HM.out]
              first | rfl | trivial
            · refine Fr.trans (S' := []) ?_ hfz (by simp)
              exact Fr.trans (S' := []) hf1.drew (by assumption) (by simp)
          · have dz : decide (((txt t).size : Int) < (F : Int) + (B : Int)) = true := decide_eq_true (by omega)
            go_wp2_with fail
            go_ret2
            exact ⟨by first | rfl | trivial, hf1⟩
        · have dzz : decide ((j : Int) < ((txt t).size : Int)) = false := decide_eq_false (by omega)
          have hF : fore j = j + 1 := by unfold fore; rw [if_pos h8]
          have d9 : ((j : Int) == 8) = false := beq_eq_false_iff_ne.2 (by omega)
          rw [hF] at hres
          obtain ⟨F, hFj⟩ : ∃ F, F = j + 1 := ⟨_, rfl⟩
          have HEQ : Hid ((j : Int) + 1 = (F : Int)) := by show _ = _; omega
          rw [← hFj] at hres
          have HFJ : Hid (F = j + 1) := hFj
          have hF9 : F ≤ 9 := by omega
          clear hF hFj
          have hb64 := bh_le j
          have HRB : Hid (∀ w : World, Calls Tryz.prog 80 #[.int .i64 (j : Int)] w fun e w' => e = .returned (.int .i64 ((bh j : Nat) : Int)) ∧ Fr [] w w') := fun w => rbehind_any j w hk8
          generalize bh j = B at *
          go_wp2_with fail
          rw [HEQ.out]
          refine (HRB.out w).mono ?_
          rintro e w1 ⟨rfl, hf1⟩
          rcases hres with ⟨hfit, rfl, rfl⟩ | ⟨hfit, rfl, rfl⟩
          · exfalso; have := HFJ.out; omega
          · have dz : decide (((txt t).size : Int) < (F : Int) + (B : Int)) = true := decide_eq_true (by omega)
            go_wp2_with fail
            go_ret2
            exact ⟨by first | rfl | trivial, hf1⟩
      · have d8 : decide ((j : Int) < 8) = false := decide_eq_false (by omega)
        have hF : fore j = 8 := by unfold fore; rw [if_neg h8]; omega
        have d9 : ((j : Int) == 8) = true := beq_iff_eq.2 (by omega)
        rw [hF] at hres
        clear hF
        have hb64 := bh_le j
        have HRB : Hid (∀ w : World, Calls Tryz.prog 80 #[.int .i64 (j : Int)] w fun e w' => e = .returned (.int .i64 ((bh j : Nat) : Int)) ∧ Fr [] w w') := fun w => rbehind_any j w hk8
        generalize bh j = B at *
        go_wp2_with fail
        refine (HRB.out w).mono ?_
        rintro e w1 ⟨rfl, hf1⟩
        rcases hres with ⟨hfit, rfl, rfl⟩ | ⟨hfit, rfl, rfl⟩
        · have dz : decide (((txt t).size : Int) < (8 : Int) + (B : Int)) = false := decide_eq_false (by omega)
          obtain ⟨M, hM⟩ : ∃ M, M = 8 + B := ⟨_, rfl⟩
          have HX : Hid ((txt t).extract 8 M = txt ((t.drop 8).take B)) := by show _ = _; rw [hM]; exact txt_mid t 8 B
          have HM : Hid (M = 8 + B) := hM
          have q1 : wrap64 ((8 : Int) + (B : Int)) = (M : Int) := by unfold wrap64; omega
          have q2 : IntKind.i64.wrap ((8 : Int) + (B : Int)) = (M : Int) := by rw [IntKind.wrap_i64]; omega
          have hi0 : (0 : Int) ≤ (8 : Int) := by omega
          have hi1 : (0 : Int) ≤ (M : Int) := by omega
          have hi2 : (8 : Int) ≤ (M : Int) := by omega
          have hi3 : (M : Int) ≤ ((txt t).size : Int) := by omega
          clear hM
          go_wp2_with fail
          go_region_held3 (fun _ => True) (exact trivial) (first | (go_at_call 80; refine (HRB.out _).mono ?_; rintro e wz ⟨rfl, hfz⟩))
          all_goals go_wp2_with fail
          all_goals go_ret2
          refine ⟨?_, ?_⟩
          · have e1 := HX.out
            rw [← e1, ← HM.out]
            first | rfl | trivial
          · refine Fr.trans (S' := []) ?_ hfz (by simp)
            exact Fr.trans (S' := []) hf1.drew (by assumption) (by simp)
        · have dz : decide (((txt t).size : Int) < (8 : Int) + (B : Int)) = true := decide_eq_true (by omega)
          go_wp2_with fail
          go_ret2
          exact ⟨by first | rfl | trivial, hf1⟩
end Go.Proofs.YtkphonepblkcdaaGreatDoor
