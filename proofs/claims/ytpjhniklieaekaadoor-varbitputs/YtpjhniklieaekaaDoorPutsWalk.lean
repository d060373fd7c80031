/-
  The walk of tidepolelaw04.VarbitPuts: it returns true, whatever it is given, and writes nothing that was there.
-/
import Derived.Test.YtpjhniklieaekaaDoorLaw4
import Derived.Test.YtpjhniklieaekaaDoorRef4S
namespace Go.Proofs.YtpjhniklieaekaaDoor
open Go.RowKit Mem Bits Groups
set_option linter.unusedSimpArgs false
set_option linter.unusedVariables false

theorem sbits_le (v : Int) : (sbits v).length ≤ 72 := gbits_le _ (gS_le v)
theorem ubits_le (v : Nat) : (ubits v).length ≤ 72 := gbits_le _ (gU_le v)

set_option maxRecDepth 100000 in
set_option maxHeartbeats 2000000 in
theorem puts_walk (v : Int) (a1 : Int) (w : World) (hT : Tab w) (w0 : (Lit.int .i64 v).wf = true) (w1 : (Lit.int .u64 a1).wf = true) :
    Calls Tryd.prog 3 #[.int .i64 v, .int .u64 a1] w fun e w' => e = .returned (.bool true) ∧ Fr [] w w' := by
  simp [Lit.wf, IntKind.min, IntKind.max, IntKind.bits, IntKind.signed] at w0 w1
  obtain ⟨h1, h2⟩ := w0
  obtain ⟨U, rfl⟩ := Int.eq_ofNat_of_zero_le w1.1
  have hU : U < 18446744073709551616 := by omega
  clear w1
  have hsz := hT.lt
  have HT : Hid (Tab w) := hT
  clear hT
  have hls := sbits_le v
  have hlu := ubits_le U
  obtain ⟨L, hL⟩ : ∃ L, L = sbits v ++ ubits U := ⟨_, rfl⟩
  have HL : Hid (L = sbits v ++ ubits U) := hL
  have HLL : Hid (L.length = (sbits v).length + (ubits U).length) := by show _ = _; rw [hL, List.length_append]
  have hadd : txt (sbits v) ++ txt (ubits U) = txt L := by rw [txt_append, ← hL]
  have hLl : L.length ≤ 144 := by have := HLL.out; omega
  have hz1 : (txt (sbits v)).size = (sbits v).length := txt_size _
  have hz2 : (txt (ubits U)).size = (ubits U).length := txt_size _
  clear hL
  go_enter Tryd.func3, Tryd.ntmps3
  go_wp2_with fail
  refine (newWriter_ok _ [] 0 w (Src.nil w) (by decide) (by decide)).mono ?_
  rintro e w1 ⟨p, g, rfl, hw, hp, hg, hf1⟩
  have hz1' := hf1.size
  go_wp2_with fail
  refine (vputS_any w1 p g _ v (HT.out.kept hf1 (by simp)) (by omega) (by omega) hw (by decide) h1 h2).mono ?_
  rintro e w2 ⟨rfl, g2, hw2, hg2, hf2⟩
  have hf2' : Fr [] w w2 := hf1.trans hf2 (by simp; omega)
  have hz2' := hf2.size
  have hw2' : Wr w2 p g2 (sbits v) := hw2
  clear hw hf1 hf2 hw2
  go_wp2_with fail
  refine (vputU_any w2 p g2 _ U (HT.out.kept hf2' (by simp)) (by omega) (by omega) hw2' (by omega) hU).mono ?_
  rintro e w3 ⟨rfl, g3, hw3, hg3, hf3⟩
  have hf3' : Fr [] w w3 := hf2'.trans hf3 (by simp; omega)
  have hz3' := hf3.size
  rw [← HL.out] at hw3
  have hg3z : w.heap.size ≤ g3 := by omega
  clear hw2' hf2' hf3 hg3 hg2 hg
  go_wp2_with fail
  refine (lbits_any w3 p g3 L hw3 (by omega)).mono ?_
  rintro e w4 ⟨rfl, hf4⟩
  have hw4 := hw3.kept hf4 (by simp) (by simp)
  have hf4' : Fr [] w w4 := hf3'.trans hf4 (by simp)
  clear hw3 hf3' hf4
  go_wp2_with fail
  refine (S_any v w4 h1 h2).mono ?_
  rintro e w5 ⟨rfl, hf5⟩
  have hw5 := hw4.kept hf5 (by simp) (by simp)
  have hf5' : Fr [] w w5 := hf4'.trans hf5 (by simp)
  clear hw4 hf4' hf5
  go_wp2_with fail
  refine (U_any U w5 hU).mono ?_
  rintro e w6 ⟨rfl, hf6⟩
  have hw6 := hw5.kept hf6 (by simp) (by simp)
  have hf6' : Fr [] w w6 := hf5'.trans hf6 (by simp)
  clear hw5 hf5' hf6
  go_wp2_with fail
  refine (lenS_any v w6 (HT.out.kept hf6' (by simp)) h1 h2).mono ?_
  rintro e w7 ⟨rfl, hf7⟩
  have hw7 := hw6.kept hf7 (by simp) (by simp)
  have hf7' : Fr [] w w7 := hf6'.trans hf7 (by simp)
  clear hw6 hf6' hf7
  go_wp2_with fail
  refine (S_any v w7 h1 h2).mono ?_
  rintro e w8 ⟨rfl, hf8⟩
  have hw8 := hw7.kept hf8 (by simp) (by simp)
  have hf8' : Fr [] w w8 := hf7'.trans hf8 (by simp)
  clear hw7 hf7' hf8
  go_wp2_with fail
  refine (lenU_any U w8 (HT.out.kept hf8' (by simp)) hU).mono ?_
  rintro e w9 ⟨rfl, rfl⟩
  go_wp2_with fail
  refine (U_any U w8 hU).mono ?_
  rintro e w9 ⟨rfl, hf9⟩
  have hw9 := hw8.kept hf9 (by simp) (by simp)
  have hf9' : Fr [] w w9 := hf8'.trans hf9 (by simp)
  clear hw8 hf8' hf9
  go_wp2_with fail
  refine (bytes_any w9 p g3 L hw9 (by omega)).mono ?_
  rintro e w10 ⟨g10, rfl, hg10, hz10, hf10⟩
  have hlt : ∀ x ∈ pack L, x < 256 := packN_lt _ _
  have hsrc : Src w10 (.slice (some ⟨g10, 0, none⟩) (nbs L.length) (nbs L.length)) (pack L) := Wr.src (Row.made hg10 (by unfold maxLen nbs; omega) (by simp))
  have hw10 := hw9.kept hf10 (by simp) (by simp)
  have hf10' : Fr [] w w10 := hf9'.trans hf10 (by simp)
  clear hw9 hf9' hg10 hf10
  go_wp2_with fail
  refine (len_any w10 p g3 L hw10).mono ?_
  rintro e w11 ⟨rfl, rfl⟩
  go_wp2_with fail
  refine (newReader_ok _ (pack L) L.length w10 hsrc (by rw [pack_length]; exact Nat.le_refl _) (by omega)).mono ?_
  rintro e w11 ⟨q, h, rfl, hr, hq, hh, hf11⟩
  have hf11' : Fr [] w w11 := hf10'.trans hf11 (by simp)
  have hz10' := hf10'.size
  rw [unpack_pack] at hr
  have hr' : Rd w11 q h ([] ++ sbits v ++ ubits U) ([] : List Bool).length L.length false := by rw [List.nil_append, ← HL.out]; exact hr
  clear hw10 hf10' hf11 hsrc hr
  go_wp2_with fail
  refine (vgetS_put w11 q h [] (ubits U) L.length false v (HT.out.kept hf11' (by simp)) (by omega) hr' (by rw [List.nil_append, ← HL.out]; omega) h1 h2 (by have := HLL.out; simp; omega)).mono ?_
  rintro e w12 ⟨rfl, hr12, hf12⟩
  have hf12' : Fr [] w w12 := hf11'.trans hf12 (by simp; omega)
  have hr12' : Rd w12 q h (sbits v ++ ubits U ++ []) (sbits v).length L.length false := by
    rw [List.append_nil]
    rw [List.nil_append, show ([] : List Bool).length + (sbits v).length = (sbits v).length from by simp] at hr12
    exact hr12
  clear hf11' hf12 hr' hr12
  go_wp2_with fail
  refine (vgetU_put w12 q h (sbits v) [] L.length false U (HT.out.kept hf12' (by simp)) (by omega) hr12' (by rw [List.append_nil, ← HL.out]; omega) hU (by have := HLL.out; omega)).mono ?_
  rintro e w13 ⟨rfl, hr13, hf13⟩
  have hf13' : Fr [] w w13 := hf12'.trans hf13 (by simp; omega)
  rw [← HLL.out] at hr13
  clear hf12' hf13 hr12'
  go_wp2_with fail
  refine (left_any w13 q h _ L.length L.length false hr13 (by rw [List.append_nil, ← HL.out]; omega)).mono ?_
  rintro e w14 ⟨rfl, hf14⟩
  have hf14' : Fr [] w w14 := hf13'.trans hf14 (by simp)
  rw [Nat.sub_self]
  clear hf13' hf14 hr13
  go_wp2_with fail
  refine (awake_any w14 (HT.out.kept hf14' (by simp))).mono ?_
  rintro e w15 ⟨rfl, hf15⟩
  have hf15' : Fr [] w w15 := hf14'.trans hf15 (by simp)
  clear hf14' hf15
  go_wp2_with fail
  go_ret
  exact ⟨by first | rfl | trivial, hf15'⟩
end Go.Proofs.YtpjhniklieaekaaDoor
