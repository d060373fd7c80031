/-
  awake of layer 6: a fixed answer: true, and nothing is turned that was there.
-/
import Derived.Test.YtgnobljdcnkjnaaLaw6
namespace Go.Proofs.Ytgnobljdcnkjnaa
open Go.RowKit Mem Spans
set_option linter.unusedSimpArgs false
set_option linter.unusedVariables false
set_option maxRecDepth 100000

def aL : List Sp := [(3, 2), (1, 1)]
def aC : List Sp := [(3, 1), (0, 1), (1, 1)]
def aU : List Sp := [(5, 1)]
def aW : List Sp := [(0, -1)]
theorem aL_chk : chk aL = 0 := by decide
theorem aL_pls : pls aL = [3, 4, 6] := by decide
theorem aC_cne : cne aC = 0 := by decide
theorem aC_cnl : cnl aC = [(3, 2), (1, 1)] := by decide
theorem aU_une : une aL aU = 0 := by decide
theorem aU_unl : unl aL aU = [(3, 4)] := by decide
theorem aE : eqn [(3, 2), (1, 1)] aL = true := by decide
theorem aW_chk : chk aW = 20 := by decide
theorem aL_cnn : cnn aL = true := by decide
theorem aL_ctn : ctn aL = 3 := by decide
theorem aL_has : decide ((6 : Int) ∈ pls aL) = true := by decide

set_option maxHeartbeats 4000000 in
theorem awake_any (w : World) : Calls Try.prog 9 #[] w fun e w' => e = .returned (.bool true) ∧ Fr [] w w' := by
  go_enter Try.func9, Try.ntmps9
  have h64 : ∀ s ∈ aL, in64 s.1 ∧ in64 s.2 := by simp [aL, in64]
  have hS0 := (lit_sp 47 w aL (Nat.le_refl _) (by decide) (by unfold maxLen; decide)).src h64
  have HS0 : Hid (SSrc (w.alloc (.cells (spCells aL).toArray 47)) (.slice (some ⟨w.heap.size, 0, none⟩) 2 2) aL) := hS0
  have HF0 : Hid (Fr [] w (w.alloc (.cells (spCells aL).toArray 47))) := (Fr.refl _ _).alloc _
  clear hS0 h64
  go_wp2_with fail
  refine (places_any _ aL _ HS0.out).mono ?_
  rintro e w1 ⟨p, rfl, hp, hf1⟩
  rw [aL_chk]
  rw [aL_pls] at hp
  have HP1 : Hid (IOwn 0 w1 p [3, 4, 6]) := hp.mono (Nat.zero_le _)
  have HS1 : Hid (SSrc w1 (.slice (some ⟨w.heap.size, 0, none⟩) 2 2) aL) := HS0.out.kept hf1
  have HF1 : Hid (Fr [] w w1) := HF0.out.trans hf1 (by simp)
  clear hp hf1 HS0 HF0
  go_wp2_with fail
  have hC0 := (lit_sp 47 w1 aC (Nat.le_refl _) (by decide) (by unfold maxLen; decide)).src (by simp [aC, in64])
  refine (canon_any _ aC _ hC0).mono ?_
  rintro e w2 ⟨c, rfl, hc, hf2⟩
  rw [aC_cne]
  rw [aC_cnl] at hc
  have HFa : Hid (Fr [] w1 w2) := ((Fr.refl _ _).alloc _).trans hf2 (by simp)
  have HC2 : Hid (SOwn 47 0 w2 c [(3, 2), (1, 1)]) := hc.mono (Nat.zero_le _)
  have HP2 : Hid (IOwn 0 w2 p [3, 4, 6]) := HP1.out.kept HFa.out
  have HS2 : Hid (SSrc w2 (.slice (some ⟨w.heap.size, 0, none⟩) 2 2) aL) := HS1.out.kept HFa.out
  have HF2 : Hid (Fr [] w w2) := HF1.out.trans HFa.out (by simp)
  clear hc hf2 hC0 HP1 HS1 HF1 HFa
  go_wp2_with fail
  have hU0 := (lit_sp 47 w2 aU (Nat.le_refl _) (by decide) (by unfold maxLen; decide)).src (by simp [aU, in64])
  refine (union_any _ _ aL aU _ (HS2.out.kept ((Fr.refl _ _).alloc _)) hU0).mono ?_
  rintro e w3 ⟨u, rfl, hu, hf3⟩
  rw [aU_une]
  rw [aU_unl] at hu
  have HFa : Hid (Fr [] w2 w3) := ((Fr.refl _ _).alloc _).trans hf3 (by simp)
  have HU3 : Hid (SOwn 47 0 w3 u [(3, 4)]) := hu.mono (Nat.zero_le _)
  have HC3 : Hid (SOwn 47 0 w3 c [(3, 2), (1, 1)]) := HC2.out.kept HFa.out
  have HP3 : Hid (IOwn 0 w3 p [3, 4, 6]) := HP2.out.kept HFa.out
  have HS3 : Hid (SSrc w3 (.slice (some ⟨w.heap.size, 0, none⟩) 2 2) aL) := HS2.out.kept HFa.out
  have HF3 : Hid (Fr [] w w3) := HF2.out.trans HFa.out (by simp)
  clear hu hf3 hU0 HP2 HS2 HF2 HFa HC2
  obtain ⟨gc, capc, rfl⟩ : ∃ g cap, c = .slice (some ⟨g, 0, none⟩) 2 cap := by
    rcases HC3.out with ⟨h, _⟩ | ⟨g, _, _, hr⟩
    · simp at h
    · obtain ⟨cp, h⟩ := hr.val; exact ⟨g, cp, h⟩
  obtain ⟨gu, capu, rfl, hu1⟩ : ∃ g cap, u = .slice (some ⟨g, 0, none⟩) 1 cap ∧ w3.cell? ⟨g, 1, none⟩ = some (.int .i64 4) := by
    rcases HU3.out with ⟨h, _⟩ | ⟨g, _, _, hr⟩
    · simp at h
    · obtain ⟨cp, h⟩ := hr.val
      exact ⟨g, cp, h, by rw [hr.cell 1 (by simp)]; rfl⟩
  have HU4 : Hid (w3.cell? ⟨gu, 1, none⟩ = some (.int .i64 4)) := hu1
  clear hu1
  go_wp2_with fail
  have hl3 := (lit_in w3 [3, 4, 6] (Nat.zero_le _) (by decide) (by unfold maxLen; decide) (B := 0)).src (by simp [in64])
  refine (same_any _ _ [3, 4, 6] [3, 4, 6] _ ((HP3.out.kept ((Fr.refl _ _).alloc _)).src (by simp [in64])) hl3).mono ?_
  rintro e w4 ⟨rfl, hf4⟩
  rw [show decide (([3, 4, 6] : List Int) = [3, 4, 6]) = true from by decide]
  have HFa : Hid (Fr [] w3 w4) := ((Fr.refl _ _).alloc _).trans hf4 (by simp)
  have HC4 : Hid (SOwn 47 0 w4 (.slice (some ⟨gc, 0, none⟩) 2 capc) [(3, 2), (1, 1)]) := HC3.out.kept HFa.out
  have HU5 : Hid (w4.cell? ⟨gu, 1, none⟩ = some (.int .i64 4)) := HFa.out.cell_some HU4.out (by simp)
  have HS4 : Hid (SSrc w4 (.slice (some ⟨w.heap.size, 0, none⟩) 2 2) aL) := HS3.out.kept HFa.out
  have HF4 : Hid (Fr [] w w4) := HF3.out.trans HFa.out (by simp)
  clear hl3 hf4 HFa HC3 HU3 HU4 HS3 HF3 HP3
  go_wp2_with fail
  refine (equal_any _ _ [(3, 2), (1, 1)] aL _ (HC4.out.src (by simp [in64])) HS4.out).mono ?_
  rintro e w5 ⟨rfl, hf5⟩
  rw [aE]
  have hu1 : w5.cell? ⟨gu, 1, none⟩ = some (.int .i64 4) := hf5.cell_some HU5.out (by simp)
  have HS5 : Hid (SSrc w5 (.slice (some ⟨w.heap.size, 0, none⟩) 2 2) aL) := HS4.out.kept hf5
  have HF5 : Hid (Fr [] w w5) := HF4.out.trans hf5 (by simp)
  clear hf5 HC4 HU5 HS4 HF4
  go_wp2_with fail
  have hW0 := (lit_sp 47 w5 aW (Nat.le_refl _) (by decide) (by unfold maxLen; decide)).src (by simp [aW, in64])
  refine (check_any _ aW _ hW0).mono ?_
  rintro e w6 ⟨rfl, hf6⟩
  rw [aW_chk]
  have HFa : Hid (Fr [] w5 w6) := ((Fr.refl _ _).alloc _).trans hf6 (by simp)
  have HS6 : Hid (SSrc w6 (.slice (some ⟨w.heap.size, 0, none⟩) 2 2) aL) := HS5.out.kept HFa.out
  have HF6 : Hid (Fr [] w w6) := HF5.out.trans HFa.out (by simp)
  clear hf6 HFa HS5 HF5 hu1 hW0
  go_wp2_with fail
  refine (canonical_any _ aL _ HS6.out).mono ?_
  rintro e w7 ⟨rfl, hf7⟩
  rw [aL_cnn]
  have HS7 : Hid (SSrc w7 (.slice (some ⟨w.heap.size, 0, none⟩) 2 2) aL) := HS6.out.kept hf7
  have HF7 : Hid (Fr [] w w7) := HF6.out.trans hf7 (by simp)
  clear hf7 HS6 HF6
  go_wp2_with fail
  refine (count_any _ aL _ HS7.out).mono ?_
  rintro e w8 ⟨rfl, hf8⟩
  rw [aL_ctn]
  have HS8 : Hid (SSrc w8 (.slice (some ⟨w.heap.size, 0, none⟩) 2 2) aL) := HS7.out.kept hf8
  have HF8 : Hid (Fr [] w w8) := HF7.out.trans hf8 (by simp)
  clear hf8 HS7 HF7
  go_wp2_with fail
  refine (has_any _ aL 6 _ HS8.out).mono ?_
  rintro e w9 ⟨rfl, hf9⟩
  rw [aL_has]
  have HF9 : Hid (Fr [] w w9) := HF8.out.trans hf9 (by simp)
  clear hf9
  go_wp2
  go_ret
  exact ⟨rfl, HF9.out⟩
end Go.Proofs.Ytgnobljdcnkjnaa
