/-
  What the statements of layer 13 share: bits (a writer's bits as a text), and awake (a fixed answer): true, and nothing is turned that was there.
-/
import Derived.Test.YtmoodonemcpgnaaDoorRefTxt
import Derived.Test.YtmoodonemcpgnaaDoorTmGet
namespace Go.Proofs.YtmoodonemcpgnaaDoor
open Go.RowKit Mem Bits Groups Evens
set_option linter.unusedSimpArgs false
set_option linter.unusedVariables false

set_option maxRecDepth 100000 in
set_option maxHeartbeats 1000000 in
theorem lbits_any (w : World) (p g : Nat) (l : List Bool) (h : Wr w p g l) (hl : l.length ≤ 1000000) :
    Calls Tryd.prog 23 #[.pointer (some ⟨p, 0, none⟩)] w fun e w' => e = .returned (.string (txt l)) ∧ Fr [] w w' := by
  have hnb : nbs l.length ≤ 125001 := by unfold nbs; omega
  have h8 : l.length ≤ 8 * nbs l.length := by unfold nbs; omega
  have HU : Hid (unpack (pack l) l.length = l) := unpack_pack l
  have HPL : Hid ((pack l).length = nbs l.length) := pack_length l
  go_enter Tryd.func23, Tryd.ntmps23
  go_wp2_with fail
  refine (bytes_any w p g l h (by omega)).mono ?_
  rintro e w1 ⟨g1, rfl, hg1, hz1, hf1⟩
  have hlt : ∀ x ∈ pack l, x < 256 := packN_lt _ _
  have hsrc : Src w1 (.slice (some ⟨g1, 0, none⟩) (nbs l.length) (nbs l.length)) (pack l) := Wr.src (Row.made hg1 (by unfold maxLen; omega) (by simp))
  have hrun := run_str hsrc
  have hw1 := h.kept hf1 (by simp) (by simp)
  have hzs : (str (pack l)).size = nbs l.length := by rw [str_size]; exact HPL.out
  clear hsrc hg1 h
  have d0 : decide ((l.length : Int) < 0) = false := decide_eq_false (by omega)
  have d1 : decide (8 * ((str (pack l)).size : Int) < (l.length : Int)) = false := decide_eq_false (by omega)
  have hzb : (str (pack l)).size ≤ 125001 := by omega
  have HZS : Hid ((str (pack l)).size = nbs l.length) := hzs
  clear hzs
  go_wp2_with fail
  refine (len_any w1 p g l hw1).mono ?_
  rintro e w2 ⟨rfl, rfl⟩
  go_wp2_with fail
  refine (len_any w1 p g l hw1).mono ?_
  rintro e w2 ⟨rfl, rfl⟩
  go_wp2_with fail
  refine (len_any w1 p g l hw1).mono ?_
  rintro e w2 ⟨rfl, rfl⟩
  go_wp2_with fail
  refine (text_any (pack l) l.length w1 hlt (by rw [HPL.out]; exact h8) (by rw [HPL.out]; omega)).mono ?_
  rintro e w2 ⟨rfl, rfl⟩
  rw [HU.out]
  go_wp2_with fail
  go_ret
  exact ⟨by first | rfl | trivial, hf1⟩


/-- The fixed answer's numbers. -/
def zA (k : Nat) : Nat := 1000 + 60 * k
theorem zA_lt (k : Nat) (h : k < 1000) : zA k < 18446744073709551616 := by unfold zA; omega
/-- The same, none of them too great. -/
def zB (k : Nat) : Nat := if k < 4 then zA k else 0
theorem zB_lt (k : Nat) : zB k < 18446744073709551616 := by unfold zB zA; split <;> omega
theorem zB_sg {k : Nat} (h : k < 4) : (1000 : Int) + 60 * (k : Int) = sg (zB k) := by unfold zB zA sg; rw [if_pos h, if_pos (by omega)]; omega
theorem tall_B : (tall true zB 4).length = 32 := by decide +kernel
theorem last_B : sg (zB 3) = 1180 := by decide +kernel
theorem row_B : (trow zB 4) = ⟨1180, 60, 4⟩ := by
  have h1 : (trow zB 4).last = 1180 := by decide +kernel
  have h2 : (trow zB 4).step = 60 := by decide +kernel
  have h3 : (trow zB 4).n = 4 := trow_n zB 4
  generalize trow zB 4 = s at *
  obtain ⟨a, b, c⟩ := s
  simp at h1 h2 h3
  subst h1 h2 h3
  rfl
theorem sg_60 : sg 60 = 60 := by decide +kernel
theorem sg_1180 : sg 1180 = 1180 := by decide +kernel

set_option maxRecDepth 100000 in
set_option maxHeartbeats 4000000 in
theorem awake_any (w : World) (hT : Tab w) : Calls Tryd.prog 10 #[] w fun e w' => e = .returned (.bool true) ∧ Fr [] w w' := by
  have hsz := hT.lt
  have HT : Hid (Tab w) := hT
  have HOK : Hid (∀ k, (trow zB k).ok) := trow_ok zB_lt
  have HN : Hid (∀ k, (trow zB k).n = k) := trow_n zB
  have HLE : Hid (∀ k, (tall true zB k).length ≤ 72 * k) := tall_le true zB
  clear hT
  go_enter Tryd.func10, Tryd.ntmps10
  go_wp2_with fail
  refine (newWriter_ok _ [] 0 w (Src.nil w) (by decide) (by decide)).mono ?_
  rintro e w1 ⟨p, g, rfl, hw, hp, hg, hf1⟩
  have hw1 : Wr w1 p g (tall true zB 0) := hw
  have hwl1 := hw.lt
  have hz1 := hf1.size
  clear hw
  go_wp2_with fail
  refine (tnewI_any w1).mono ?_
  rintro e w2 ⟨x, rfl, hx2, hxz, hf2⟩
  have hw2 := hw1.kept hf2 (by simp) (by simp)
  have hF2 : Fr [] w w2 := hf1.trans hf2 (by simp)
  have hxl := hx2.lt
  clear hw1 hf1 hf2
  go_wp2_with fail
  refine (tnewI_any w2).mono ?_
  rintro e w3 ⟨y, rfl, hy3, hyz, hf3⟩
  have hw3 := hw2.kept hf3 (by simp) (by simp)
  have hx3 := hx2.kept hf3 (by simp)
  have hx3' : TrI w3 x (trow zB 0) := hx3
  have hy3' : TrI w3 y (trow zB 0) := hy3
  have hF3 : Fr [] w w3 := hF2.trans hf3 (by simp)
  have hyl := hy3.lt
  have hz3 := hf3.size
  clear hw2 hx2 hF2 hf3 hx3 hy3
  have hord : w.heap.size ≤ p ∧ w.heap.size ≤ g ∧ w.heap.size ≤ x ∧ w.heap.size ≤ y ∧ x ≠ p ∧ x ≠ g ∧ y ≠ p ∧ y ≠ g ∧ x ≠ y ∧ p < w3.heap.size ∧ g < w3.heap.size ∧ x < w3.heap.size ∧ y < w3.heap.size := by omega
  clear hp hg hwl1 hz1 hxz hxl hyz hz3
  obtain ⟨hp, hg, hx0, hy0, hxp, hxg, hyp, hyg, hxy, hp3, hg3, hxl3, hyl3⟩ := hord
  go_wp2_with fail
  go_loopw [32] (fun c wr => ∃ k gk : Nat, k ≤ 4 ∧ c = .int .i64 (k : Int) ∧ Wr wr p gk (tall true zB k) ∧ TrI wr x (trow zB k) ∧ TrI wr y (trow zB 0) ∧ w.heap.size ≤ gk ∧ x ≠ gk ∧ y ≠ gk ∧ x < wr.heap.size ∧ y < wr.heap.size ∧ Fr [] w wr) (fun c _ => 4 - (intOf c).toNat)
  case atStart => exact ⟨0, g, by omega, rfl, hw3, hx3', hy3', hg, hxg, hyg, hxl3, hyl3, hF3⟩
  case round =>
    clear hw3 hx3' hy3' hF3 hxl3 hyl3 hp3 hg3 hg hxg hyg
    obtain ⟨k, gk, hk, rfl, hwk, hxk, hyk, hgk, hxgk, hygk, hxlk, hylk, hfr⟩ := hrel
    have hpl := HLE.out k
    by_cases hlt : k < 4
    · have dk : decide ((k : Int) < 4) = true := decide_eq_true (by omega)
      have HV : Hid ((1000 : Int) + 60 * (k : Int) = sg (zB k)) := zB_sg hlt
      go_wp2_with fail
      rw [HV.out]
      refine (tputI_any wr x p gk (trow zB k) _ (zB k) (HT.out.kept hfr (by simp)) (by omega) (by omega) (by omega) hxp hxgk hxk hwk (HOK.out k) (by rw [HN.out k]; omega) (zB_lt k) (by omega)).mono ?_
      rintro e w4 ⟨rfl, hx4, g4, hw4, hg4, hf4⟩
      have hx4' : TrI w4 x (trow zB (k + 1)) := hx4
      have hw4' : Wr w4 p g4 (tall true zB (k + 1)) := hw4
      have hy4 := hyk.kept hf4 (by simp; omega)
      have hF4 : Fr [] w w4 := hfr.trans hf4 (by simp; omega)
      have hz4 := hf4.size
      have hzr := hfr.size
      have hq1 : w.heap.size ≤ g4 ∧ x ≠ g4 ∧ y ≠ g4 ∧ x < w4.heap.size ∧ y < w4.heap.size := by omega
      clear hx4 hw4 hf4 hxk hwk hyk hfr
      go_wp2_with fail
      go_roundw
      case rel => exact ⟨k + 1, g4, by omega, by go_num, hw4', hx4', hy4, hq1.1, hq1.2.1, hq1.2.2.1, hq1.2.2.2.1, hq1.2.2.2.2, hF4⟩
      case measure => simp [intOf]; omega
    · have hjl : k = 4 := by omega
      subst hjl
      have dk : decide (((4 : Nat) : Int) < 4) = false := decide_eq_false (by omega)
      have HSP : Hid (∀ i, i < 4 → ∃ r, tall true zB 4 = tall true zB i ++ tbits true (trow zB i) (zB i) ++ r) := fun i hi => tall_split true zB i 4 hi
      obtain ⟨L, hL⟩ : ∃ L, L = tall true zB 4 := ⟨_, rfl⟩
      have HLE2 : Hid ((tall true zB 4).length = L.length) := by show _ = _; rw [hL]
      have hLl : L.length = 32 := by rw [hL]; exact tall_B
      have HLL : Hid (L.length = 32) := hLl
      rw [← hL] at hwk hpl HSP
      clear hL hpl hLl
      go_wp2_with fail
      refine (bytes_any wr p gk L hwk (by rw [HLL.out]; omega)).mono ?_
      rintro e w2 ⟨g2, rfl, hg2, hz2, hf2⟩
      have hw2 := hwk.kept hf2 (by simp) (by simp)
      go_wp2_with fail
      refine (len_any w2 p gk L hw2).mono ?_
      rintro e w3 ⟨rfl, rfl⟩
      have hsrc : Src w2 (.slice (some ⟨g2, 0, none⟩) (nbs L.length) (nbs L.length)) (pack L) := Wr.src (Row.made hg2 (by have := HLL.out; unfold maxLen nbs; omega) (by simp))
      go_wp2_with fail
      refine (newReader_ok _ (pack L) L.length w2 hsrc (by simp) (by rw [HLL.out]; omega)).mono ?_
      rintro e w3 ⟨q, h, rfl, hr3, hq, hh, hf3⟩
      rw [unpack_pack] at hr3
      have hfb : Fr [] wr w3 := hf2.trans hf3 (by simp)
      have hx3 := hxk.kept hfb (by simp)
      have hy3 := hyk.kept hfb (by simp)
      have hw3 := hwk.kept hfb (by simp) (by simp)
      have hF3 : Fr [] w w3 := hfr.trans hfb (by simp)
      have hzr := hfr.size
      have hz2' := hf2.size
      have hwl := hwk.lt
      have hq1 : w.heap.size ≤ q ∧ x ≠ q ∧ x ≠ h ∧ y ≠ q ∧ y ≠ h ∧ p ≠ q ∧ gk ≠ q ∧ y ≠ gk ∧ y ≠ p := by omega
      clear hwk hfr hg2 hf2 hw2 hsrc hf3 hgk hz2 hq hh hxk hyk hfb hzr hz2' hxlk hylk hxgk hygk hwl
      obtain ⟨hq0, hxq, hxh, hyq, hyh, hpq, hgq, hyg, hyp⟩ := hq1
      go_wp2_with fail
      go_loopw [56] (fun c wr => ∃ m : Nat, m ≤ 3 ∧ c = .int .i64 (m : Int) ∧ Rd wr q h L (tall true zB m).length L.length false ∧ TrI wr x (trow zB 4) ∧ TrI wr y (trow zB m) ∧ Wr wr p gk L ∧ Fr [] w wr) (fun c _ => 3 - (intOf c).toNat)
      case atStart => exact ⟨0, by omega, rfl, hr3, hx3, hy3, hw3, hF3⟩
      case round =>
        clear hr3 hx3 hy3 hw3 hF3
        obtain ⟨m, hm, rfl, hrm, hxm, hym, hwm, hfm⟩ := hrel
        obtain ⟨r, hr⟩ := HSP.out m (by omega)
        have HR : Hid (L = tall true zB m ++ tbits true (trow zB m) (zB m) ++ r) := hr
        have HPL : Hid ((tall true zB (m + 1)).length = (tall true zB m).length + (tbits true (trow zB m) (zB m)).length) := by show _ = _; simp only [tall, List.length_append]
        have HLL2 : Hid ((tall true zB m).length + (tbits true (trow zB m) (zB m)).length ≤ L.length) := by show _ ≤ _; rw [HR.out]; simp
        have hrm' : Rd wr q h (tall true zB m ++ tbits true (trow zB m) (zB m) ++ r) (tall true zB m).length L.length false := by rw [← HR.out]; exact hrm
        have HGET := tgetI_put wr y q h (trow zB m) (tall true zB m) r L.length false (zB m) (HT.out.kept hfm (by simp)) (by omega) (by omega) hyq hyh hym hrm' (by rw [← HR.out, HLL.out]; omega) HLL2.out (HOK.out m) (by rw [HN.out m]; omega) (zB_lt m)
        have HG : Hid (Calls Tryd.prog 31 #[.pointer (some ⟨y, 0, none⟩), .pointer (some ⟨q, 0, none⟩)] wr fun e w' => e = .returned (.tuple #[.int .i64 (sg (zB m)), .int .i64 0]) ∧ Rd w' q h (tall true zB m ++ tbits true (trow zB m) (zB m) ++ r) ((tall true zB m).length + (tbits true (trow zB m) (zB m)).length) L.length false ∧ TrI w' y (tnext (trow zB m) (zB m)) ∧ Fr [y, q] wr w') := HGET
        clear hr hrm HGET hrm'
        by_cases hlt4 : m < 3
        · have dm : decide ((m : Int) < 3) = true := decide_eq_true (by omega)
          go_wp2_with fail
          refine (HG.out).mono ?_
          rintro e w5 ⟨rfl, hr5, hy5, hf5⟩
          rw [← HR.out, ← HPL.out] at hr5
          have hy5' : TrI w5 y (trow zB (m + 1)) := hy5
          have hx5 := hxm.kept hf5 (by simp; omega)
          have hw5 := hwm.kept hf5 (by simp; omega) (by simp; omega)
          have hF5 : Fr [] w w5 := hfm.trans hf5 (by simp; omega)
          clear hy5 hf5 hym hxm hwm hfm HG HR HPL HLL2 r
          go_wp2_with fail
          go_roundw
          case rel => exact ⟨m + 1, by omega, by go_num, hr5, hx5, hy5', hw5, hF5⟩
          case measure => simp [intOf]; omega
        · have hml : m = 3 := by omega
          subst hml
          have dm : decide (((3 : Nat) : Int) < 3) = false := decide_eq_false (by omega)
          go_wp2_with fail
          refine (HG.out).mono ?_
          rintro e w5 ⟨rfl, hr5, hy5, hf5⟩
          rw [← HR.out, ← HPL.out] at hr5
          have hr5' : Rd w5 q h L L.length L.length false := by have := hr5; rwa [HLE2.out] at this
          have hy5' : TrI w5 y (trow zB 4) := hy5
          have hx5 := hxm.kept hf5 (by simp; omega)
          have hw5 := hwm.kept hf5 (by simp; omega) (by simp; omega)
          have hF5 : Fr [] w w5 := hfm.trans hf5 (by simp; omega)
          clear hy5 hf5 hym hxm hwm hfm HG HR HPL HLL2 r hr5
          rw [last_B]
          go_wp2_with fail
          refine (tgetI_short w5 y q h (trow zB 4) L L.length L.length false 0 (HT.out.kept hF5 (by simp)) (by omega) hyq hyh hy5' hr5' (by rw [HLL.out]; omega) ⟨by decide, by omega, fun i hi => by omega, fun _ h => by omega⟩ (HOK.out 4) (by simp [fore, bh])).mono ?_
          rintro e w6 ⟨rfl, _, hy6, hf6⟩
          have hx6 := hx5.kept hf6 (by simp; omega)
          have hw6 := hw5.kept hf6 (by simp; omega) (by simp; omega)
          have hF6 : Fr [] w w6 := hF5.trans hf6 (by simp; omega)
          rw [row_B] at hx6 hy6
          clear hy5' hf6 hx5 hw5 hF5 hr5'
          go_wp2_with fail
          refine (len_any w6 p gk L hw6).mono ?_
          rintro e w7 ⟨rfl, rfl⟩
          rw [HLL.out]
          go_wp2_with fail
          refine (tlenI_any w6 x _ hx6).mono ?_
          rintro e w7 ⟨rfl, rfl⟩
          go_wp2_with fail
          refine (tstepI_any w6 x _ hx6).mono ?_
          rintro e w7 ⟨rfl, rfl⟩
          rw [show sg (TRow.mk 1180 60 4).step = 60 from sg_60]
          go_wp2_with fail
          refine (tlastI_any w6 y _ hy6).mono ?_
          rintro e w7 ⟨rfl, rfl⟩
          rw [show sg (TRow.mk 1180 60 4).last = 1180 from sg_1180]
          go_wp2_with fail
          go_ret
          exact ⟨by first | rfl | trivial, hF6⟩
end Go.Proofs.YtmoodonemcpgnaaDoor
