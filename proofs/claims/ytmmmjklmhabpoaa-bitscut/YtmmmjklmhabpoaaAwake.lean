/-
  The statements' fixed answer of layer 1 (tidepolelaw01.awake) is true, and leaves memory as it was.
-/
import Derived.Test.YtmmmjklmhabpoaaPut
import Derived.Test.YtmmmjklmhabpoaaGet
import Derived.Test.YtmmmjklmhabpoaaRefBytes
namespace Go.Proofs.Ytmmmjklmhabpoaa
open Go.RowKit Mem Bits
set_option linter.unusedSimpArgs false
set_option linter.unusedVariables false

theorem Src.nil (w : World) : Src w (.slice none 0 0) [] := ⟨none, 0, rfl, Nat.le_refl _, Nat.zero_le _, fun h => by simp at h, fun x hx => by simp at hx⟩

set_option maxHeartbeats 2000000 in
theorem awake_any (w : World) : Calls Try.prog 7 #[] w fun e w' => e = .returned (.bool true) ∧ Fr [] w w' := by
  go_enter Try.func7, Try.ntmps7
  go_wp2_with fail
  refine (newWriter_ok _ [] 0 w (Src.nil w) (by decide) (by decide)).mono ?_
  rintro e w1 ⟨p, g, rfl, hw, hp, hg, hf1⟩
  go_wp2_with fail
  refine (newReader_ok _ [176] 4 _ (Src.one w1 176 (by decide)) (by decide) (by decide)).mono ?_
  rintro e w2 ⟨q, h, rfl, hr, hq, hh, hf2⟩
  go_wp2_with fail
  refine (newReader_no _ _ _ _ _ (by decide) (by decide)).mono ?_
  rintro e w3 ⟨rfl, rfl⟩
  have hs1 : w1.heap.size + 1 ≤ q ∧ w1.heap.size + 1 ≤ h := by simp at hq hh; omega
  have hwl := hw.lt
  have hrl := hr.lt
  have hf2' : Fr [] w w2 := (hf1.alloc _).trans hf2 (by simp)
  have hw2 : Wr w2 p g [] := (hw.kept ((Fr.refl [] w1).alloc _) (by simp) (by simp)).kept hf2 (by simp) (by simp)
  have hz2 := hf2.size
  simp at hz2
  clear hw hf1 hf2 hq hh
  go_wp2_with fail
  refine (put_ok w2 p g [] 5 3 hw2 (by decide) (by decide) (by decide) (by decide)).mono ?_
  rintro e w3 ⟨rfl, g3, hw3, hg3, hf3⟩
  have hr3 := hr.kept hf3 (by simp; omega) (by simp; omega)
  have hf3' : Fr [] w w3 := hf2'.trans hf3 (by simp; omega)
  have hz3 := hf3.size
  have hwl3 := hw3.lt
  clear hr hw2 hf2' hf3
  go_wp2_with fail
  refine (bit_any w3 p g3 _ true hw3 (by decide)).mono ?_
  rintro e w4 ⟨rfl, g4, hw4, hg4, hf4⟩
  have hr4 := hr3.kept hf4 (by simp; omega) (by simp; omega)
  have hf4' : Fr [] w w4 := hf3'.trans hf4 (by simp; omega)
  have hz4 := hf4.size
  have hwl4 := hw4.lt
  clear hr3 hw3 hf3' hf4
  go_wp2_with fail
  refine (bytes_any w4 p g4 _ hw4 (by decide)).mono ?_
  rintro e w5 ⟨g5, rfl, hg5, hz5, hf5⟩
  have e5 : pack (([] : List Bool) ++ numBits 5 3 ++ [true]) = [176] := by decide
  rw [e5] at hg5
  have hsrc : Src w5 (.slice (some ⟨g5, 0, none⟩) 1 1) [176] := Src.ofRow (Row.made hg5 (by decide) rfl) (by decide)
  have hrun := run_str hsrc
  have hr5 := hr4.kept hf5 (by simp) (by simp)
  have hf5' : Fr [] w w5 := hf4'.trans hf5 (by simp)
  have hw5 := hw4.kept hf5 (by simp) (by simp)
  clear hsrc hr4 hw4 hf4' hf5 hg5
  rw [show nbs (([] : List Bool) ++ numBits 5 3 ++ [true]).length = 1 from by decide]
  have hs5 : (str [176]).toList = [176] := by decide +kernel
  go_wp2_with fail
  refine (len_any w5 p g4 _ hw5).mono ?_
  rintro e w6 ⟨rfl, rfl⟩
  rw [show (([] : List Bool) ++ numBits 5 3 ++ [true]).length = 4 from by decide]
  go_wp2_with fail
  refine (get_ok w5 q h _ 0 4 false 3 hr5 (by decide) (by decide) (by decide) (by decide)).mono ?_
  rintro e w6 ⟨rfl, hr6, hf6⟩
  rw [show val (((unpack [176] 4).drop 0).take 3) = 5 from by decide]
  have hf6' : Fr [] w w6 := hf5'.trans hf6 (by simp; omega)
  go_wp2_with fail
  refine (rbit_ok w6 q h _ 3 4 false hr6 (by decide) (by decide)).mono ?_
  rintro e w7 ⟨rfl, hr7, hf7⟩
  rw [show (unpack [176] 4).getD 3 false = true from by decide]
  have hf7' : Fr [] w w7 := hf6'.trans hf7 (by simp; omega)
  go_wp2_with fail
  refine (left_any w7 q h _ 4 4 false hr7 (by decide)).mono ?_
  rintro e w8 ⟨rfl, hf8⟩
  have hr8 := hr7.kept hf8 (by simp) (by simp)
  have hf8' : Fr [] w w8 := hf7'.trans hf8 (by simp)
  go_wp2_with fail
  refine (get_short w8 q h _ 4 4 false 1 hr8 (by decide) (by decide) (by decide) (by decide)).mono ?_
  rintro e w9 ⟨rfl, hr9, hf9⟩
  have hf9' : Fr [] w w9 := hf8'.trans hf9 (by simp; omega)
  go_wp2_with fail
  refine (short_any w9 q h _ 4 4 true hr9).mono ?_
  rintro e w10 ⟨rfl, rfl⟩
  go_wp2_with fail
  go_ret
  exact ⟨rfl, hf9'⟩
end Go.Proofs.Ytmmmjklmhabpoaa
