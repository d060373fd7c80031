/-
  The statements' fixed answer of layer 3 (tidepolelaw03.awake) is true, and leaves memory as it was.
-/
import Derived.Test.YtimopgapnnkbnaaRef3
namespace Go.Proofs.Ytimopgapnnkbnaa
open Go.RowKit Mem Bits Sevens
set_option linter.unusedSimpArgs false
set_option linter.unusedVariables false

theorem Src.lit (w : World) (bs : List Nat) (hb : ∀ x ∈ bs, x < 256) (hl : bs.length ≤ 1048576) : Src (w.alloc (.cells ((bs.map u8).toArray) 5)) (.slice (some ⟨w.heap.size, 0, none⟩) bs.length bs.length) bs :=
  Src.ofRow (Row.made (heap_alloc_new w _) (by unfold maxLen; omega) (by simp)) hb

theorem vbits_300 : vbits 300 = numBits (300 ||| 128) 8 ++ numBits 2 8 := by rw [vbits_big (by omega), vbits_small (by omega)]
theorem vbits_1 : vbits 1 = numBits 1 8 := vbits_small (by omega)

set_option maxRecDepth 100000 in
set_option maxHeartbeats 2000000 in
theorem awake_any (w : World) : Calls Try.prog 7 #[] w fun e w' => e = .returned (.bool true) ∧ Fr [] w w' := by
  go_enter Try.func7, Try.ntmps7
  go_wp2_with fail
  refine (newWriter_ok _ [] 0 w (Src.nil w) (by decide) (by decide)).mono ?_
  rintro e w1 ⟨p, g, rfl, hw, hp, hg, hf1⟩
  go_wp2_with fail
  refine (newReader_ok _ [172, 2, 1] 24 _ (Src.lit w1 [172, 2, 1] (by decide) (by decide)) (by decide) (by decide)).mono ?_
  rintro e w2 ⟨q, h, rfl, hr, hq, hh, hf2⟩
  have hs1 : w1.heap.size + 1 ≤ q ∧ w1.heap.size + 1 ≤ h := by simp at hq hh; omega
  have hwl := hw.lt
  have hrl := hr.lt
  have hf2' : Fr [] w w2 := (hf1.alloc _).trans hf2 (by simp)
  have hw2 : Wr w2 p g [] := (hw.kept ((Fr.refl [] w1).alloc _) (by simp) (by simp)).kept hf2 (by simp) (by simp)
  have hz2 := hf2.size
  simp at hz2
  clear hw hf1 hf2 hq hh
  go_wp2_with fail
  refine (putU_any w2 p g [] 300 hw2 (by decide) (by decide)).mono ?_
  rintro e w3 ⟨rfl, g3, hw3, hg3, hf3⟩
  have hr3 := hr.kept hf3 (by simp; omega) (by simp; omega)
  have hf3' : Fr [] w w3 := hf2'.trans hf3 (by simp; omega)
  have hz3 := hf3.size
  have hwl3 := hw3.lt
  clear hr hw2 hf2' hf3
  go_wp2_with fail
  refine (putS_any w3 p g3 _ (-1) hw3 (by rw [vbits_300]; decide) (by decide) (by decide)).mono ?_
  rintro e w4 ⟨rfl, g4, hw4, hg4, hf4⟩
  have hr4 := hr3.kept hf4 (by simp; omega) (by simp; omega)
  have hf4' : Fr [] w w4 := hf3'.trans hf4 (by simp; omega)
  have hz4 := hf4.size
  have hwl4 := hw4.lt
  clear hr3 hw3 hf3' hf4
  go_wp2_with fail
  refine (getU_any w4 q h _ 0 24 false 300 0 2 hr4 (by decide) (by decide)).mono ?_
  rintro e w5 ⟨rfl, hr5, hf5⟩
  have hw5 := hw4.kept hf5 (by simp; omega) (by simp; omega)
  have hf5' : Fr [] w w5 := hf4'.trans hf5 (by simp; omega)
  have hz5 := hf5.size
  clear hr4 hw4 hf4' hf5
  go_wp2_with fail
  refine (getS_any w5 q h _ 16 24 false 1 0 1 hr5 (by decide) (by decide)).mono ?_
  rintro e w6 ⟨rfl, hr6, hf6⟩
  have hw6 := hw5.kept hf6 (by simp; omega) (by simp; omega)
  have hf6' : Fr [] w w6 := hf5'.trans hf6 (by simp; omega)
  clear hr5 hw5 hf5' hf6 hr6
  rw [show zag 1 = -1 from rfl]
  rw [show zig (-1) = 1 from rfl, vbits_300, vbits_1] at hw6
  go_wp2_with fail
  refine (bytes_any w6 p g4 _ hw6 (by decide)).mono ?_
  rintro e w7 ⟨g7, rfl, hg7, hz7, hf7⟩
  have e7 : pack (([] : List Bool) ++ (numBits (300 ||| 128) 8 ++ numBits 2 8) ++ numBits 1 8) = [172, 2, 1] := by decide
  rw [e7] at hg7
  have hsrc : Src w7 (.slice (some ⟨g7, 0, none⟩) 3 3) [172, 2, 1] := Src.ofRow (Row.made hg7 (by decide) rfl) (by decide)
  have hrun := run_str hsrc
  have hf7' : Fr [] w w7 := hf6'.trans hf7 (by simp)
  clear hsrc hw6 hf6' hf7 hg7
  rw [show nbs (([] : List Bool) ++ (numBits (300 ||| 128) 8 ++ numBits 2 8) ++ numBits 1 8).length = 3 from by decide]
  have hs7 : (str [172, 2, 1]).toList = [172, 2, 1] := by decide +kernel
  have hl300 : (vb 300).length = 2 := by rw [vb_big (by omega), vb_small (by omega)]; rfl
  go_wp2_with fail
  refine (vlen_any 300 w7 (by decide)).mono ?_
  rintro e w8 ⟨rfl, rfl⟩
  rw [hl300]
  go_wp2_with fail
  go_ret
  exact ⟨rfl, hf7'⟩
end Go.Proofs.Ytimopgapnnkbnaa
