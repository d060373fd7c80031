/-
  What the statements of layer 12 share: awake (a fixed answer): true, and nothing is turned that was there.
-/
import Derived.Test.YtpomcakkpjmjiaaRef12P
import Derived.Test.YtpomcakkpjmjiaaRBit
import Derived.Test.YtpomcakkpjmjiaaStr
namespace Go.Proofs.Ytpomcakkpjmjiaa
open Go.RowKit Mem Bits Thrs
set_option linter.unusedSimpArgs false
set_option linter.unusedVariables false

theorem tb_one : tbits 4607182418800017408 = [true, true, true, true, false, true, false, false] := by decide +kernel
theorem tg_one : tgt [true, true, true, true, false, true, false, false] 0 8 = (4607182418800017408, 0, 8) := by decide +kernel
theorem pw_one : pwv 4607182418800017408 = 0 ∧ pw2 4607182418800017408 = true := by decide +kernel
theorem of_nul : ofv 0 = 4607182418800017408 ∧ ofh 0 = true := by decide +kernel
theorem tln_1 : tln 1 = 72 := by decide +kernel
theorem one_in : (4607182418800017408 : Nat) < inf := by decide +kernel
theorem big_out : ¬ (9223372036854775808 : Nat) < inf := by decide +kernel

set_option maxRecDepth 100000 in
set_option maxHeartbeats 2000000 in
theorem awake_any (w : World) : Calls Try.prog 8 #[] w fun e w' => e = .returned (.bool true) ∧ Fr [] w w' := by
  go_enter Try.func8, Try.ntmps8
  go_wp2_with fail
  refine (newWriter_ok _ [] 0 w (Src.nil w) (by decide) (by decide)).mono ?_
  rintro e w1 ⟨p, g, rfl, hw, hp, hg, hf1⟩
  have hz1 := hf1.size
  go_wp2_with fail
  refine (tput_ok w1 p g _ 4607182418800017408 hw (by decide) one_in).mono ?_
  rintro e w2 ⟨rfl, g2, hw2, hg2, hf2⟩
  have hf2' : Fr [] w w2 := hf1.trans hf2 (by simp; omega)
  have hz2 := hf2.size
  rw [tb_one] at hw2
  have hw2' : Wr w2 p g2 [true, true, true, true, false, true, false, false] := hw2
  clear hw hf1 hf2 hw2
  go_wp2_with fail
  refine (tput_no w2 p 9223372036854775808 (by decide) big_out).mono ?_
  rintro e w3 ⟨rfl, rfl⟩
  go_wp2_with fail
  refine (bytes_any w2 p g2 _ hw2' (by decide)).mono ?_
  rintro e w4 ⟨g4, rfl, hg4, hz4, hf4⟩
  have hsrc : Src w4 (.slice (some ⟨g4, 0, none⟩) 1 1) [244] := Src.ofRow (Row.made hg4 (by decide) rfl) (by decide)
  have hw4 := hw2'.kept hf4 (by simp) (by simp)
  have hf4' : Fr [] w w4 := hf2'.trans hf4 (by simp)
  have hz4' := hf4.size
  clear hw2' hf2' hg4 hf4
  go_wp2_with fail
  refine (len_any w4 p g2 _ hw4).mono ?_
  rintro e w5 ⟨rfl, rfl⟩
  go_wp2_with fail
  refine (newReader_ok _ [244] 8 w4 hsrc (by decide) (by decide)).mono ?_
  rintro e w5 ⟨q, h, rfl, hr, hq, hh, hf5⟩
  have hw5 := hw4.kept hf5 (by simp) (by simp)
  have hf5' : Fr [] w w5 := hf4'.trans hf5 (by simp)
  have hz5 := hf5.size
  have hwl := hw4.lt
  have hr' : Rd w5 q h [true, true, true, true, false, true, false, false] 0 8 false := by
    rw [show ([true, true, true, true, false, true, false, false] : List Bool) = unpack [244] 8 from by decide]; exact hr
  clear hw4 hf4' hf5 hsrc hr
  go_wp2_with fail
  refine (tget_any w5 q h _ 0 8 false _ _ _ hr' (by decide) tg_one).mono ?_
  rintro e w6 ⟨rfl, hr6, hf6⟩
  have hw6 := hw5.kept hf6 (by simp; omega) (by simp; omega)
  have hf6' : Fr [] w w6 := hf5'.trans hf6 (by simp; omega)
  clear hw5 hf5' hf6 hr' hr6
  go_wp2_with fail
  refine (power_any 4607182418800017408 w6 (by decide)).mono ?_
  rintro e w7 ⟨rfl, rfl⟩
  rw [pw_one.1, pw_one.2]
  go_wp2_with fail
  refine (of_any 0 w6 (by decide) (by decide)).mono ?_
  rintro e w7 ⟨rfl, rfl⟩
  rw [of_nul.1, of_nul.2]
  go_wp2_with fail
  refine (bytes_any w6 p g2 _ hw6 (by decide)).mono ?_
  rintro e w9 ⟨g9, rfl, hg9, hz9, hf9⟩
  have hsrc9 : Src w9 (.slice (some ⟨g9, 0, none⟩) 1 1) [244] := Src.ofRow (Row.made hg9 (by decide) rfl) (by decide)
  have hrun := run_str hsrc9
  have hf9' : Fr [] w w9 := hf6'.trans hf9 (by simp)
  clear hsrc9 hw6 hf6' hf9 hg9
  rw [show nbs ([true, true, true, true, false, true, false, false] : List Bool).length = 1 from by decide]
  have hs9 : (str [244]).toList = [244] := by decide +kernel
  go_wp2_with fail
  refine (tlen_any 1 w9 (by decide)).mono ?_
  rintro e w10 ⟨rfl, rfl⟩
  rw [tln_1]
  go_wp2_with fail
  go_ret
  exact ⟨by first | rfl | trivial, hf9'⟩
end Go.Proofs.Ytpomcakkpjmjiaa
