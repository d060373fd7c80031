/-
  What the statements of layer 4 share: bits (a writer's bits as a text), and awake (a fixed answer): true, and nothing is turned that was there.
-/
import Derived.Test.YtpjhniklieaekaaDoorRef4
namespace Go.Proofs.YtpjhniklieaekaaDoor
open Go.RowKit Mem Bits Groups
set_option linter.unusedSimpArgs false
set_option linter.unusedVariables false

set_option maxRecDepth 100000 in
set_option maxHeartbeats 1000000 in
theorem lbits_any (w : World) (p g : Nat) (l : List Bool) (h : Wr w p g l) (hl : l.length ≤ 1000000) :
    Calls Tryd.prog 10 #[.pointer (some ⟨p, 0, none⟩)] w fun e w' => e = .returned (.string (txt l)) ∧ Fr [] w w' := by
  have hnb : nbs l.length ≤ 125001 := by unfold nbs; omega
  have h8 : l.length ≤ 8 * nbs l.length := by unfold nbs; omega
  have HU : Hid (unpack (pack l) l.length = l) := unpack_pack l
  have HPL : Hid ((pack l).length = nbs l.length) := pack_length l
  go_enter Tryd.func10, Tryd.ntmps10
  go_wp2_with fail
  refine (bytes_any w p g l h (by omega)).mono ?_
  rintro e w1 ⟨g1, rfl, hg1, hz1, hf1⟩
  have hlt : ∀ x ∈ pack l, x < 256 := packN_lt _ _
  have hsrc : Src w1 (.slice (some ⟨g1, 0, none⟩) (nbs l.length) (nbs l.length)) (pack l) := Wr.src (Row.made hg1 (by unfold maxLen; omega) (by simp))
  have hrun := run_str hsrc
  have hw1 := h.kept hf1 (by simp) (by simp)
  have hzs : (str (pack l)).size = nbs l.length := by rw [str_size]; exact HPL.out
  clear hsrc hg1 h
  have d0 : decide ((l.length : Int) < 0) = false := decide_eq_false (by omega)
  have d1 : decide (8 * ((str (pack l)).size : Int) < (l.length : Int)) = false := decide_eq_false (by omega)
  have hzb : (str (pack l)).size ≤ 125001 := by omega
  have HZS : Hid ((str (pack l)).size = nbs l.length) := hzs
  clear hzs
  go_wp2_with fail
  refine (len_any w1 p g l hw1).mono ?_
  rintro e w2 ⟨rfl, rfl⟩
  go_wp2_with fail
  refine (len_any w1 p g l hw1).mono ?_
  rintro e w2 ⟨rfl, rfl⟩
  go_wp2_with fail
  refine (len_any w1 p g l hw1).mono ?_
  rintro e w2 ⟨rfl, rfl⟩
  go_wp2_with fail
  refine (text_any (pack l) l.length w1 hlt (by rw [HPL.out]; exact h8) (by rw [HPL.out]; omega)).mono ?_
  rintro e w2 ⟨rfl, rfl⟩
  rw [HU.out]
  go_wp2_with fail
  go_ret
  exact ⟨by first | rfl | trivial, hf1⟩

theorem sbits_3 : sbits (-3) = [true, false, true, false, true] := by decide
theorem ubits_0 : ubits 0 = [false] := by decide

set_option maxRecDepth 100000 in
set_option maxHeartbeats 2000000 in
theorem awake_any (w : World) (hT : Tab w) : Calls Tryd.prog 21 #[] w fun e w' => e = .returned (.bool true) ∧ Fr [] w w' := by
  have hsz := hT.lt
  have HT : Hid (Tab w) := hT
  clear hT
  go_enter Tryd.func21, Tryd.ntmps21
  go_wp2_with fail
  refine (newWriter_ok _ [] 0 w (Src.nil w) (by decide) (by decide)).mono ?_
  rintro e w1 ⟨p, g, rfl, hw, hp, hg, hf1⟩
  have hz1 := hf1.size
  go_wp2_with fail
  refine (vputS_any w1 p g _ (-3) (HT.out.kept hf1 (by simp)) (by omega) (by omega) hw (by decide) (by decide) (by decide)).mono ?_
  rintro e w2 ⟨rfl, g2, hw2, hg2, hf2⟩
  have hf2' : Fr [] w w2 := hf1.trans hf2 (by simp; omega)
  have hz2 := hf2.size
  rw [sbits_3] at hw2
  clear hw hf1 hf2
  go_wp2_with fail
  refine (vputU_any w2 p g2 _ 0 (HT.out.kept hf2' (by simp)) (by omega) (by omega) hw2 (by decide) (by decide)).mono ?_
  rintro e w3 ⟨rfl, g3, hw3, hg3, hf3⟩
  have hf3' : Fr [] w w3 := hf2'.trans hf3 (by simp; omega)
  have hz3 := hf3.size
  rw [ubits_0] at hw3
  have hw3' : Wr w3 p g3 [true, false, true, false, true, false] := hw3
  have hg3z : w.heap.size ≤ g3 := by omega
  clear hw2 hf2' hf3 hw3 hg3 hg2 hg
  go_wp2_with fail
  refine (bytes_any w3 p g3 _ hw3' (by decide)).mono ?_
  rintro e w4 ⟨g4, rfl, hg4, hz4, hf4⟩
  have hsrc : Src w4 (.slice (some ⟨g4, 0, none⟩) 1 1) [168] := Src.ofRow (Row.made hg4 (by decide) rfl) (by decide)
  have hw4 := hw3'.kept hf4 (by simp) (by simp)
  have hf4' : Fr [] w w4 := hf3'.trans hf4 (by simp)
  have hz4' := hf4.size
  clear hw3' hf3' hg4 hf4
  go_wp2_with fail
  refine (len_any w4 p g3 _ hw4).mono ?_
  rintro e w5 ⟨rfl, rfl⟩
  go_wp2_with fail
  refine (newReader_ok _ [168] 6 w4 hsrc (by decide) (by decide)).mono ?_
  rintro e w5 ⟨q, h, rfl, hr, hq, hh, hf5⟩
  have hw5 := hw4.kept hf5 (by simp) (by simp)
  have hf5' : Fr [] w w5 := hf4'.trans hf5 (by simp)
  have hz5 := hf5.size
  have hwl := hw4.lt
  have hr' : Rd w5 q h ([] ++ sbits (-3) ++ [false]) ([] : List Bool).length 6 false := by
    rw [show ([] ++ sbits (-3) ++ [false] : List Bool) = unpack [168] 6 from by decide]; exact hr
  clear hw4 hf4' hf5 hsrc hr
  go_wp2_with fail
  refine (vgetS_put w5 q h [] [false] 6 false (-3) (HT.out.kept hf5' (by simp)) (by omega) hr' (by decide) (by decide) (by decide) (by decide)).mono ?_
  rintro e w6 ⟨rfl, hr6, hf6⟩
  have hw6 := hw5.kept hf6 (by simp; omega) (by simp; omega)
  have hf6' : Fr [] w w6 := hf5'.trans hf6 (by simp; omega)
  have hz6 := hf6.size
  have hr6' : Rd w6 q h (sbits (-3) ++ ubits 0 ++ []) (sbits (-3)).length 6 false := hr6
  clear hw5 hf5' hf6 hr' hr6
  go_wp2_with fail
  refine (vgetU_put w6 q h (sbits (-3)) [] 6 false 0 (HT.out.kept hf6' (by simp)) (by omega) hr6' (by decide) (by decide) (by decide)).mono ?_
  rintro e w7 ⟨rfl, hr7, hf7⟩
  have hw7 := hw6.kept hf7 (by simp; omega) (by simp; omega)
  have hf7' : Fr [] w w7 := hf6'.trans hf7 (by simp; omega)
  have hz7 := hf7.size
  have hr7' : Rd w7 q h (sbits (-3) ++ ubits 0 ++ []) 6 6 false := hr7
  clear hw6 hf6' hf7 hr6' hr7
  go_wp2_with fail
  refine (vgetU_short w7 q h _ 6 6 false 0 (HT.out.kept hf7' (by simp)) (by omega) hr7' (by decide) ⟨by decide, by decide, fun i hi => by omega, fun _ h => by omega⟩ (by decide)).mono ?_
  rintro e w8 ⟨rfl, hr8, hf8⟩
  have hw8 := hw7.kept hf8 (by simp; omega) (by simp; omega)
  have hf8' : Fr [] w w8 := hf7'.trans hf8 (by simp; omega)
  clear hw7 hf7' hf8 hr7' hr8
  go_wp2_with fail
  refine (len_any w8 p g3 _ hw8).mono ?_
  rintro e w9 ⟨rfl, rfl⟩
  go_wp2_with fail
  refine (bytes_any w8 p g3 _ hw8 (by decide)).mono ?_
  rintro e w9 ⟨g9, rfl, hg9, hz9, hf9⟩
  have hsrc9 : Src w9 (.slice (some ⟨g9, 0, none⟩) 1 1) [168] := Src.ofRow (Row.made hg9 (by decide) rfl) (by decide)
  have hrun := run_str hsrc9
  have hf9' : Fr [] w w9 := hf8'.trans hf9 (by simp)
  clear hsrc9 hw8 hf8' hf9 hg9
  rw [show nbs ([true, false, true, false, true, false] : List Bool).length = 1 from by decide]
  have hs9 : (str [168]).toList = [168] := by decide +kernel
  go_wp2_with fail
  refine (lenS_any 4 w9 (HT.out.kept hf9' (by simp)) (by decide) (by decide)).mono ?_
  rintro e w10 ⟨rfl, hf10⟩
  have hf10' : Fr [] w w10 := hf9'.trans hf10 (by simp)
  rw [show (sbits 4).length = 5 from by decide]
  go_wp2_with fail
  go_ret
  exact ⟨by first | rfl | trivial, hf10'⟩
end Go.Proofs.YtpjhniklieaekaaDoor
