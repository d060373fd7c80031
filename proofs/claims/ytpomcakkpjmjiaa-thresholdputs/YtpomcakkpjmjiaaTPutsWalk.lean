/-
  The walk of tidepolelaw12.ThresholdPuts: it returns true, whatever it is given, and writes nothing that was there.
-/
import Derived.Test.YtpomcakkpjmjiaaLaw12
namespace Go.Proofs.Ytpomcakkpjmjiaa
open Go.RowKit Mem Bits Thrs
set_option linter.unusedSimpArgs false
set_option linter.unusedVariables false

theorem txt_tail (k : Nat) (b : List Bool) : (txt (List.replicate k true ++ b)).extract k (List.replicate k true ++ b).length = txt b := by
  rw [txt_mid, List.drop_left' (by simp), List.take_of_length_le (by simp)]

set_option maxRecDepth 100000 in
set_option maxHeartbeats 2000000 in
theorem tputs_bad (a0 : Int) (a1 : Int) (w : World) (hb : a1 < 0 ∨ 20 < a1) :
    Calls Try.prog 3 #[.int .u64 a0, .int .i64 a1] w fun e w' => e = .returned (.bool true) ∧ Fr [] w w' := by
  have HAW : Hid (∀ wx, Calls Try.prog 8 #[] wx fun e w' => e = .returned (.bool true) ∧ Fr [] wx w') := awake_any
  have hd : decide (a1 < 0) = true ∨ (decide (a1 < 0) = false ∧ decide (20 < a1) = true) := by
    simp only [decide_eq_true_eq, decide_eq_false_iff_not]
    omega
  clear hb
  rcases hd with h1 | ⟨h1, h2⟩
  all_goals
    go_enter Try.func3, Try.ntmps3
    go_wp2_with fail
    refine (newWriter_ok _ [] 0 w (Src.nil w) (by decide) (by decide)).mono ?_
    rintro e w1 ⟨p, g, rfl, hw, hp, hg, hf1⟩
    go_wp2_with fail
    refine (HAW.out w1).mono ?_
    rintro e w' ⟨rfl, hf⟩
    go_wp2_with fail
    go_ret
    exact ⟨by first | rfl | trivial, hf1.trans hf (by simp)⟩

set_option maxRecDepth 100000 in
set_option maxHeartbeats 4000000 in
theorem tputs_good (v : Nat) (n : Nat) (w : World) (hv : v < 18446744073709551616) (hn : n ≤ 20) :
    Calls Try.prog 3 #[.int .u64 (v : Int), .int .i64 (n : Int)] w fun e w' => e = .returned (.bool true) ∧ Fr [] w w' := by
  have HAW : Hid (∀ wx, Calls Try.prog 8 #[] wx fun e w' => e = .returned (.bool true) ∧ Fr [] wx w') := awake_any
  have HV : Hid (v < 18446744073709551616) := hv
  have d1 : decide ((n : Int) < 0) = false := decide_eq_false (by omega)
  have d2 : decide (20 < (n : Int)) = false := decide_eq_false (by omega)
  clear hv
  go_enter Try.func3, Try.ntmps3
  go_wp2_with fail
  refine (newWriter_ok _ [] 0 w (Src.nil w) (by decide) (by decide)).mono ?_
  rintro e w1 ⟨p, g, rfl, hw, hp, hg, hf1⟩
  have hz1 := hf1.size
  go_wp2_with fail
  go_loopw [41] (fun c wr => ∃ k gk : Nat, k ≤ n ∧ c = .int .i64 (k : Int) ∧ Wr wr p gk (List.replicate k true) ∧ w.heap.size ≤ gk ∧ Fr [] w wr) (fun c _ => n - (intOf c).toNat)
  case atStart => exact ⟨0, g, by omega, rfl, hw, hg, hf1⟩
  case round =>
    obtain ⟨k, gk, hk, rfl, hwk, hgk, hfk⟩ := hrel
    by_cases hlt : k < n
    · have dk : decide ((k : Int) < (n : Int)) = true := decide_eq_true (by omega)
      have HR : Hid (List.replicate (k + 1) true = List.replicate k true ++ [true]) := List.replicate_succ'
      have hfz := hfk.size
      go_wp2_with fail
      refine (bit_any wr p gk _ true hwk (by simp; omega)).mono ?_
      rintro e w2 ⟨rfl, g2, hw2, hg2, hf2⟩
      rw [← HR.out] at hw2
      have hf3 : Fr [] w w2 := hfk.trans hf2 (by simp; omega)
      have hg3 : w.heap.size ≤ g2 := by omega
      clear hwk hgk hfk hg2 hf2
      go_wp2_with fail
      go_roundw
      case rel => exact ⟨k + 1, g2, by omega, by go_num, hw2, hg3, hf3⟩
      case measure => simp [intOf]; omega
    · have dk : decide ((k : Int) < (n : Int)) = false := decide_eq_false (by omega)
      have hkn : k = n := by omega
      clear hlt
      subst hkn
      clear hw hg hf1 hz1 hk
      have hfz := hfk.size
      by_cases hi : v < inf
      case neg =>
        have HI : Hid (¬ v < inf) := hi
        have HLN : Hid (tln v = 0) := by show _ = _; unfold tln; rw [if_neg hi]
        clear hi
        go_wp2_with fail
        refine (tput_no wr p v HV.out HI.out).mono ?_
        rintro e w2 ⟨rfl, rfl⟩
        go_wp2_with fail
        refine (thHead_no HI.out wr).mono ?_
        rintro e w2 ⟨rfl, rfl⟩
        go_wp2_with fail
        refine (len_any wr p gk _ hwk).mono ?_
        rintro e w2 ⟨rfl, rfl⟩
        rw [List.length_replicate]
        go_wp2_with fail
        refine (tlen_any v wr HV.out).mono ?_
        rintro e w2 ⟨rfl, rfl⟩
        rw [HLN.out]
        go_wp2_with fail
        refine (HAW.out wr).mono ?_
        rintro e w' ⟨rfl, hf⟩
        go_wp2_with fail
        go_ret
        exact ⟨by first | rfl | trivial, hfk.trans hf (by simp)⟩
      case pos =>
        have HI : Hid (v < inf) := hi
        have htl := tbits_le v
        have HLN : Hid (tln v = (tbits v).length) := by show _ = _; unfold tln; rw [if_pos hi]
        clear hi
        obtain ⟨L, hL⟩ : ∃ L, L = List.replicate k true ++ tbits v := ⟨_, rfl⟩
        have HL : Hid (L = List.replicate k true ++ tbits v) := hL
        have HLL : Hid (L.length = k + (tbits v).length) := by show _ = _; rw [hL]; simp
        have hLl : L.length ≤ 92 := by rw [HLL.out]; omega
        have HLT : Hid (∀ j, j < k → L.getD j false = true) := by
          intro j hj
          rw [hL, List.getD_eq_getElem?_getD, List.getElem?_append_left (by simpa using hj)]
          simp [hj]
        have HGT : Hid (tgt L k L.length = (v, 0, (tbits v).length)) := by
          show _ = _
          have h := tgt_put (List.replicate k true) [] v L.length HI.out (by rw [HLL.out]; simp)
          rw [List.append_nil, ← hL, List.length_replicate] at h
          exact h
        have HDR : Hid ((txt L).extract k L.length = txt (tbits v)) := by
          show _ = _
          rw [hL, txt_tail]
        clear hL
        go_wp2_with fail
        refine (tput_ok wr p gk _ v hwk (by simp; omega) HI.out).mono ?_
        rintro e w2 ⟨rfl, g2, hw2, hg2, hf2⟩
        rw [← HL.out] at hw2
        have hf02 : Fr [] w w2 := hfk.trans hf2 (by simp; omega)
        have hz2 := hf2.size
        have hg2' : w.heap.size ≤ g2 := by omega
        clear hwk hgk hfk hg2 hf2
        go_wp2_with fail
        refine (thHead_yes HI.out w2).mono ?_
        rintro e w3 ⟨rfl, rfl⟩
        go_wp2_with fail
        refine (rBits_any v w2 HV.out).mono ?_
        rintro e w3 ⟨rfl, rfl⟩
        have hzt : (txt (tbits v)).size = (tbits v).length := txt_size _
        go_wp2_with fail
        refine (bytes_any w2 p g2 _ hw2 (by omega)).mono ?_
        rintro e w4 ⟨g4, rfl, hg4, hz4, hf4⟩
        have hsrc : Src w4 (.slice (some ⟨g4, 0, none⟩) (nbs L.length) (nbs L.length)) (pack L) := Wr.src (Row.made hg4 (by unfold maxLen nbs; omega) (by simp))
        have hw4 := hw2.kept hf4 (by simp) (by simp)
        have hf04 : Fr [] w w4 := hf02.trans hf4 (by simp)
        have hz4' := hf4.size
        clear hw2 hf02 hg4 hf4
        go_wp2_with fail
        refine (len_any w4 p g2 _ hw4).mono ?_
        rintro e w5 ⟨rfl, rfl⟩
        go_wp2_with fail
        refine (newReader_ok _ (pack L) L.length w4 hsrc (by rw [pack_length]; exact Nat.le_refl _) (by omega)).mono ?_
        rintro e w5 ⟨q, h, rfl, hr, hq, hh, hf5⟩
        have hw5 := hw4.kept hf5 (by simp) (by simp)
        have hf05 : Fr [] w w5 := hf04.trans hf5 (by simp)
        have hz5 := hf5.size
        have hwl := hw4.lt
        rw [unpack_pack] at hr
        clear hw4 hf04 hf5 hsrc
        have hlen : ((L.length : Nat) : Int) = (k : Int) + ((tbits v).length : Int) := by have := HLL.out; omega
        have HLEN : Hid (∀ wx, Calls Try.prog 13 #[.int .u64 (v : Int)] wx fun e w' => e = .returned (.int .i64 (((tbits v).length : Nat) : Int)) ∧ wx = w') := fun wx => by
          have h := tlen_any v wx HV.out
          rw [HLN.out] at h; exact h
        go_wp2_with fail
        refine (len_any w5 p g2 _ hw5).mono ?_
        rintro e w6 ⟨rfl, rfl⟩
        rw [hlen]
        go_wp2_with fail
        refine (HLEN.out w5).mono ?_
        rintro e w6 ⟨rfl, rfl⟩
        go_wp2_with fail
        have hwlt := hw5.lt
        go_loopw [105] (fun c wr => ∃ j : Nat, j ≤ k ∧ c = .int .i64 (j : Int) ∧ Rd wr q h L j L.length false ∧ Wr wr p g2 L ∧ Fr [] w wr) (fun c _ => k - (intOf c).toNat)
        case atStart => exact ⟨0, by omega, rfl, hr, hw5, hf05⟩
        case round =>
          obtain ⟨j, hj, rfl, hrj, hwj, hfj⟩ := hrel
          by_cases hlt2 : j < k
          · have dj : decide ((j : Int) < (k : Int)) = true := decide_eq_true (by omega)
            go_wp2_with fail
            refine (rbit_ok wr q h L j L.length false hrj (by omega) (by have := HLL.out; omega)).mono ?_
            rintro e w6 ⟨rfl, hr6, hf6⟩
            have hw6 := hwj.kept hf6 (by simp; omega) (by simp; omega)
            have hf06 : Fr [] w w6 := hfj.trans hf6 (by simp; omega)
            clear hrj hwj hfj hf6
            go_wp2_with fail
            go_roundw
            case rel => exact ⟨j + 1, by omega, by go_num, hr6, hw6, hf06⟩
            case measure => simp [intOf]; omega
          · have dj : decide ((j : Int) < (k : Int)) = false := decide_eq_false (by omega)
            have ejk : j = k := by omega
            subst ejk
            clear hlt2 hr hw5 hf05 hlen
            have HTX : Hid (∀ wx, Calls Try.prog 18 #[.string (str (pack L)), .int .i64 (L.length : Int)] wx fun e w' => e = .returned (.string (txt L)) ∧ wx = w') := fun wx => by
              have h := text_any (pack L) L.length wx (packN_lt _ _) (by rw [pack_length]; unfold nbs; omega) (by rw [pack_length]; unfold nbs; omega)
              rw [unpack_pack] at h; exact h
            have hzL : (txt L).size = L.length := txt_size L
            have hzL2 : (txt L).size ≤ 92 := by omega
            have HZ : Hid ((txt L).size = L.length) := hzL
            have hjL : (j : Int) ≤ ((txt L).size : Int) := by rw [hzL]; have := HLL.out; omega
            have hex : (txt L).extract j (txt L).size = txt (tbits v) := by rw [hzL]; exact HDR.out
            have F0 : Fr [] wr wr.drew := (Fr.refl _ _).drew
            have HLb : Hid (L.length ≤ 4294967296) := by show _ ≤ _; omega
            have HWJ : Hid (Wr wr p g2 L) := hwj
            clear hzL hwj
            go_wp2_with fail
            go_region_with (first
              | (go_at_call 12; with_reducible refine (len_later HWJ.out _ ?_).mono ?_; (first | assumption | exact F0); rintro e w7 ⟨rfl, rfl⟩)
              | (go_at_call 16; with_reducible refine (bytes_later HWJ.out HLb.out _ ?_).mono ?_; (first | assumption | exact F0); rintro e w7 ⟨g7, rfl, hA, hB, hC, hD⟩)
              | (go_at_call 18; with_reducible refine (HTX.out _).mono ?_; rintro e w9 ⟨rfl, rfl⟩))
            all_goals
              have hr6 := hrj.kept hA (by simp) (by simp)
              have hf06 : Fr [] w w7 := hfj.trans hA (by simp)
              have hz6 := hf06.size
              clear hA hB hC hD
              go_wp2_with fail
              refine (tget_any w7 q h L j L.length false _ _ _ hr6 HLb.out HGT.out).mono ?_
              rintro e w8 ⟨rfl, hr7, hf7⟩
              have hf07 : Fr [] w w8 := hf06.trans hf7 (by simp; omega)
              rw [← HLL.out] at hr7
              clear hr6 hf06 hf7
              go_wp2_with fail
              refine (left_any w8 q h L L.length L.length false hr7 HLb.out).mono ?_
              rintro e w9 ⟨rfl, hf8⟩
              rw [Nat.sub_self]
              have hf08 : Fr [] w w9 := hf07.trans hf8 (by simp)
              go_wp2_with fail
              refine (HAW.out w9).mono ?_
              rintro e w' ⟨rfl, hf⟩
              go_wp2_with fail
              go_ret
              exact ⟨by first | rfl | trivial, hf08.trans hf (by simp)⟩

theorem tputs_walk (a0 : Int) (a1 : Int) (w : World) (w0 : (Lit.int .u64 a0).wf = true) (w1 : (Lit.int .i64 a1).wf = true) :
    Calls Try.prog 3 #[.int .u64 a0, .int .i64 a1] w fun e w' => e = .returned (.bool true) ∧ Fr [] w w' := by
  simp [Lit.wf, IntKind.min, IntKind.max, IntKind.bits, IntKind.signed] at w0 w1
  by_cases hb : a1 < 0 ∨ 20 < a1
  · exact tputs_bad a0 a1 w hb
  · obtain ⟨v, rfl⟩ := Int.eq_ofNat_of_zero_le w0.1
    obtain ⟨n, rfl⟩ := Int.eq_ofNat_of_zero_le (show 0 ≤ a1 by omega)
    exact tputs_good v n w (by omega) (by omega)
theorem tputs_below (a0 : Int) (a1 : Int) (w : World) (w0 : (Lit.int .u64 a0).wf = true) (w1 : (Lit.int .i64 a1).wf = true) :
    Calls Try.prog 3 #[.int .u64 a0, .int .i64 a1] w fun e w' => e = .returned (.bool true) ∧ Below w.heap.size w w' :=
  (tputs_walk a0 a1 w w0 w1).mono fun _ _ h => ⟨h.1, h.2.below (Nat.le_refl _) (by simp)⟩
end Go.Proofs.Ytpomcakkpjmjiaa
