/-
  The walk of tidepolelaw13.TimesRound: it returns true, whatever it is given, and writes nothing that was there.
-/
import Derived.Test.YtmoodonemcpgnaaDoorLaw13
import Derived.Test.YtmoodonemcpgnaaDoorTmCopyU
import Derived.Test.YtmoodonemcpgnaaDoorRowArgs
namespace Go.Proofs.YtmoodonemcpgnaaDoor
open Go.RowKit Mem Bits Groups Evens
set_option linter.unusedSimpArgs false
set_option linter.unusedVariables false

set_option maxRecDepth 100000 in
set_option maxHeartbeats 8000000 in
theorem tround_walk (a0 : Option Addr) (len0 cap0 : Nat) (z0 : List Int) (a1 : Int) (w : World) (hT : Tab w) (w0 : IsRow .u64 w a0 len0 cap0 z0) (w1 : (Lit.int .i64 a1).wf = true) :
    Calls Tryd.prog 4 #[.slice a0 len0 cap0, .int .i64 a1] w fun e w' => e = .returned (.bool true) ∧ Fr [] w w' := by
  obtain ⟨b, off, z, ha, hcell, hz⟩ := w0.nats
  clear w0 w1
  have hsz := hT.lt
  have HT : Hid (Tab w) := hT
  have HZ : Hid (∀ j, z j < 18446744073709551616) := hz
  have HCELL : Hid (∀ j, j < len0 → w.cell? ⟨b, off + j, none⟩ = some (.int .u64 (z j : Int))) := hcell
  have HA0 : Hid (0 < len0 → a0 = some ⟨b, off, none⟩) := ha
  have HOK : Hid (∀ k, (trow z k).ok) := trow_ok hz
  have HN : Hid (∀ k, (trow z k).n = k) := trow_n z
  have HLE : Hid (∀ k, (tall false z k).length ≤ 72 * k) := tall_le false z
  clear hT hz hcell ha
  go_enter Tryd.func4, Tryd.ntmps4
  go_wp2_with fail
  refine (newWriter_ok _ [] 0 w (Src.nil w) (by decide) (by decide)).mono ?_
  rintro e w1 ⟨p, g, rfl, hw, hp, hg, hf1⟩
  have hw1 : Wr w1 p g (tall false z 0) := hw
  have hwl1 := hw.lt
  have hz1 := hf1.size
  clear hw
  go_wp2_with fail
  refine (tnewU_any w1).mono ?_
  rintro e w2 ⟨x, rfl, hx2, hxz, hf2⟩
  have hw2 := hw1.kept hf2 (by simp) (by simp)
  have hF2 : Fr [] w w2 := hf1.trans hf2 (by simp)
  have hxl := hx2.lt
  clear hw1 hf1 hf2
  go_wp2_with fail
  refine (tnewU_any w2).mono ?_
  rintro e w3 ⟨y, rfl, hy3, hyz, hf3⟩
  have hw3 := hw2.kept hf3 (by simp) (by simp)
  have hx3 := hx2.kept hf3 (by simp)
  have hx3' : TrU w3 x (trow z 0) := hx3
  have hy3' : TrU w3 y (trow z 0) := hy3
  have hF3 : Fr [] w w3 := hF2.trans hf3 (by simp)
  have hyl := hy3.lt
  have hz3 := hf3.size
  clear hw2 hx2 hF2 hf3 hx3 hy3
  have hord : w.heap.size ≤ p ∧ w.heap.size ≤ g ∧ w.heap.size ≤ x ∧ w.heap.size ≤ y ∧ x ≠ p ∧ x ≠ g ∧ y ≠ p ∧ y ≠ g ∧ x ≠ y ∧ p < w3.heap.size ∧ g < w3.heap.size ∧ x < w3.heap.size ∧ y < w3.heap.size := by omega
  clear hp hg hwl1 hz1 hxz hxl hyz hz3
  obtain ⟨hp, hg, hx0, hy0, hxp, hxg, hyp, hyg, hxy, hp3, hg3, hxl3, hyl3⟩ := hord
  by_cases hbad : 60 < len0
  · have d0 : decide (60 < (len0 : Int)) = true := decide_eq_true (by omega)
    clear hw3 hx3' hy3'
    go_wp2_with fail
    refine (awake_any w3 (HT.out.kept hF3 (by simp))).mono ?_
    rintro e w' ⟨rfl, hf⟩
    go_wp2_with fail
    go_ret
    exact ⟨by first | rfl | trivial, hF3.trans hf (by simp)⟩
  have d0 : decide (60 < (len0 : Int)) = false := decide_eq_false (by omega)
  go_wp2_with fail
  go_loopw [62] (fun c wr => ∃ k gk : Nat, k ≤ len0 ∧ c = .int .i64 (k : Int) ∧ Wr wr p gk (tall false z k) ∧ TrU wr x (trow z k) ∧ TrU wr y (trow z 0) ∧ w.heap.size ≤ gk ∧ x ≠ gk ∧ y ≠ gk ∧ x < wr.heap.size ∧ y < wr.heap.size ∧ Fr [] w wr) (fun c _ => len0 - (intOf c).toNat)
  case atStart => exact ⟨0, g, by omega, rfl, hw3, hx3', hy3', hg, hxg, hyg, hxl3, hyl3, hF3⟩
  case round =>
    clear hw3 hx3' hy3' hF3 hxl3 hyl3 hp3 hg3 hg hxg hyg
    obtain ⟨k, gk, hk, rfl, hwk, hxk, hyk, hgk, hxgk, hygk, hxlk, hylk, hfr⟩ := hrel
    have hpl := HLE.out k
    have hwkl := hwk.lt
    by_cases hlt : k < len0
    · have hae := HA0.out (by omega)
      subst hae
      have hc := hfr.cell_some (HCELL.out k hlt) (by simp)
      have dk : decide ((k : Int) < (len0 : Int)) = true := decide_eq_true (by omega)
      by_cases hat : (k : Int) = a1
      · have da : ((k : Int) == a1) = true := beq_iff_eq.2 hat
        clear hat
        go_wp2_with fail
        refine (tcopyU_any wr x (trow z k) hxk).mono ?_
        rintro e w4 ⟨c, rfl, hc4, hcz, hf4⟩
        have hw4 := hwk.kept hf4 (by simp) (by simp)
        have hx4 := hxk.kept hf4 (by simp)
        have hy4 := hyk.kept hf4 (by simp)
        have hF4 : Fr [] w w4 := hfr.trans hf4 (by simp)
        have hz4 := hf4.size
        clear hwk hxk hyk hfr hf4 hc
        go_wp2_with fail
        refine (tputU_any w4 x p gk (trow z k) _ (z k) (HT.out.kept hF4 (by simp)) (by omega) (by omega) (by omega) hxp hxgk hx4 hw4 (HOK.out k) (by rw [HN.out k]; omega) (HZ.out k) (by omega)).mono ?_
        rintro e w5 ⟨rfl, hx5, g5, hw5, hg5, hf5⟩
        have hx5' : TrU w5 x (trow z (k + 1)) := hx5
        have hw5' : Wr w5 p g5 (tall false z (k + 1)) := hw5
        have hy5 := hy4.kept hf5 (by simp; omega)
        have hc5 := hc4.kept hf5 (by simp; omega)
        have hF5 : Fr [] w w5 := hF4.trans hf5 (by simp; omega)
        have hz5 := hf5.size
        have hq1 : w.heap.size ≤ g5 ∧ x ≠ g5 ∧ y ≠ g5 ∧ x < w5.heap.size ∧ y < w5.heap.size := by omega
        clear hx5 hw5 hf5 hx4 hw4 hy4 hc4 hF4
        go_wp2_with fail
        refine (tlenU_any w5 c _ hc5).mono ?_
        rintro e w6 ⟨rfl, rfl⟩
        rw [HN.out k]
        go_wp2_with fail
        refine (tlenU_any w5 x _ hx5').mono ?_
        rintro e w6 ⟨rfl, rfl⟩
        rw [HN.out (k + 1)]
        go_wp2_with fail
        go_roundw
        case rel => exact ⟨k + 1, g5, by omega, by go_num, hw5', hx5', hy5, hq1.1, hq1.2.1, hq1.2.2.1, hq1.2.2.2.1, hq1.2.2.2.2, hF5⟩
        case measure => simp [intOf]; omega
      · have da : ((k : Int) == a1) = false := beq_eq_false_iff_ne.2 hat
        clear hat
        go_wp2_with fail
        refine (tputU_any wr x p gk (trow z k) _ (z k) (HT.out.kept hfr (by simp)) (by omega) (by omega) (by omega) hxp hxgk hxk hwk (HOK.out k) (by rw [HN.out k]; omega) (HZ.out k) (by omega)).mono ?_
        rintro e w5 ⟨rfl, hx5, g5, hw5, hg5, hf5⟩
        have hx5' : TrU w5 x (trow z (k + 1)) := hx5
        have hw5' : Wr w5 p g5 (tall false z (k + 1)) := hw5
        have hy5 := hyk.kept hf5 (by simp; omega)
        have hF5 : Fr [] w w5 := hfr.trans hf5 (by simp; omega)
        have hz5 := hf5.size
        have hzr := hfr.size
        have hq1 : w.heap.size ≤ g5 ∧ x ≠ g5 ∧ y ≠ g5 ∧ x < w5.heap.size ∧ y < w5.heap.size := by omega
        clear hx5 hw5 hf5 hxk hwk hyk hc hfr
        go_wp2_with fail
        go_roundw
        case rel => exact ⟨k + 1, g5, by omega, by go_num, hw5', hx5', hy5, hq1.1, hq1.2.1, hq1.2.2.1, hq1.2.2.2.1, hq1.2.2.2.2, hF5⟩
        case measure => simp [intOf]; omega
    · have hjl : k = len0 := by omega
      subst hjl
      have dk : decide ((k : Int) < (k : Int)) = false := decide_eq_false (by omega)
      have HSP : Hid (∀ i, i < k → ∃ r, tall false z k = tall false z i ++ tbits false (trow z i) (z i) ++ r) := fun i hi => tall_split false z i k hi
      obtain ⟨L, hL⟩ : ∃ L, L = tall false z k := ⟨_, rfl⟩
      have HLE2 : Hid ((tall false z k).length = L.length) := by show _ = _; rw [hL]
      rw [← hL] at hwk hpl HSP
      clear hL
      go_wp2_with fail
      refine (bytes_any wr p gk L hwk (by omega)).mono ?_
      rintro e w2 ⟨g2, rfl, hg2, hz2, hf2⟩
      have hw2 := hwk.kept hf2 (by simp) (by simp)
      go_wp2_with fail
      refine (len_any w2 p gk L hw2).mono ?_
      rintro e w3 ⟨rfl, rfl⟩
      have hsrc : Src w2 (.slice (some ⟨g2, 0, none⟩) (nbs L.length) (nbs L.length)) (pack L) := Wr.src (Row.made hg2 (by unfold maxLen nbs; omega) (by simp))
      go_wp2_with fail
      refine (newReader_ok _ (pack L) L.length w2 hsrc (by simp) (by omega)).mono ?_
      rintro e w3 ⟨q, h, rfl, hr3, hq, hh, hf3⟩
      rw [unpack_pack] at hr3
      have hfb : Fr [] wr w3 := hf2.trans hf3 (by simp)
      have hx3 := hxk.kept hfb (by simp)
      have hy3 := hyk.kept hfb (by simp)
      have hF3 : Fr [] w w3 := hfr.trans hfb (by simp)
      have hzr := hfr.size
      have hz2' := hf2.size
      have hq1 : w.heap.size ≤ q ∧ x ≠ q ∧ x ≠ h ∧ y ≠ q ∧ y ≠ h := by omega
      clear hwk hfr hg2 hf2 hw2 hsrc hf3 hgk hz2 hq hh hxk hyk hfb hzr hz2' hxlk hylk hxgk hygk
      obtain ⟨hq0, hxq, hxh, hyq, hyh⟩ := hq1
      go_wp2_with fail
      go_loopw [112] (fun c wr => ∃ m : Nat, m ≤ k ∧ c = .int .i64 (m : Int) ∧ Rd wr q h L (tall false z m).length L.length false ∧ TrU wr x (trow z k) ∧ TrU wr y (trow z m) ∧ Fr [] w wr) (fun c _ => k - (intOf c).toNat)
      case atStart => exact ⟨0, by omega, rfl, hr3, hx3, hy3, hF3⟩
      case round =>
        clear hr3 hx3 hy3 hF3
        obtain ⟨m, hm, rfl, hrm, hxm, hym, hfm⟩ := hrel
        by_cases hlt4 : m < k
        · have hae := HA0.out (by omega)
          subst hae
          have hc := hfm.cell_some (HCELL.out m hlt4) (by simp)
          have dm : decide ((m : Int) < (k : Int)) = true := decide_eq_true (by omega)
          obtain ⟨r, hr⟩ := HSP.out m hlt4
          have HR : Hid (L = tall false z m ++ tbits false (trow z m) (z m) ++ r) := hr
          have HPL : Hid ((tall false z (m + 1)).length = (tall false z m).length + (tbits false (trow z m) (z m)).length) := by show _ = _; simp only [tall, List.length_append]
          have HLL : Hid ((tall false z m).length + (tbits false (trow z m) (z m)).length ≤ L.length) := by show _ ≤ _; rw [HR.out]; simp
          have hrm' : Rd wr q h (tall false z m ++ tbits false (trow z m) (z m) ++ r) (tall false z m).length L.length false := by rw [← HR.out]; exact hrm
          clear hr hrm
          go_wp2_with fail
          refine (tgetU_put wr y q h (trow z m) (tall false z m) r L.length false (z m) (HT.out.kept hfm (by simp)) (by omega) (by omega) hyq hyh hym hrm' (by rw [← HR.out]; omega) HLL.out (HOK.out m) (by rw [HN.out m]; omega) (HZ.out m)).mono ?_
          rintro e w5 ⟨rfl, hr5, hy5, hf5⟩
          rw [← HR.out, ← HPL.out] at hr5
          have hy5' : TrU w5 y (trow z (m + 1)) := hy5
          have hx5 := hxm.kept hf5 (by simp; omega)
          have hF5 : Fr [] w w5 := hfm.trans hf5 (by simp; omega)
          clear hy5 hf5 hym hxm hrm' hc hfm HR HPL HLL r
          go_wp2_with fail
          go_roundw
          case rel => exact ⟨m + 1, by omega, by go_num, hr5, hx5, hy5', hF5⟩
          case measure => simp [intOf]; omega
        · have hml : m = k := by omega
          subst hml
          have dm : decide ((m : Int) < (m : Int)) = false := decide_eq_false (by omega)
          rw [HLE2.out] at hrm
          go_wp2_with fail
          refine (left_any wr q h L L.length L.length false hrm (by omega)).mono ?_
          rintro e w7 ⟨rfl, hf7⟩
          have hx7 := hxm.kept hf7 (by simp)
          have hy7 := hym.kept hf7 (by simp)
          have hF7 : Fr [] w w7 := hfm.trans hf7 (by simp)
          rw [Nat.sub_self]
          clear hxm hym hrm hfm hf7
          go_wp2_with fail
          refine (tlastU_any w7 x _ hx7).mono ?_
          rintro e w8 ⟨rfl, rfl⟩
          go_wp2_with fail
          refine (tlastU_any w7 y _ hy7).mono ?_
          rintro e w8 ⟨rfl, rfl⟩
          go_wp2_with fail
          refine (tstepU_any w7 x _ hx7).mono ?_
          rintro e w8 ⟨rfl, rfl⟩
          go_wp2_with fail
          refine (tstepU_any w7 y _ hy7).mono ?_
          rintro e w8 ⟨rfl, rfl⟩
          go_wp2_with fail
          refine (tlenU_any w7 x _ hx7).mono ?_
          rintro e w8 ⟨rfl, rfl⟩
          go_wp2_with fail
          refine (tlenU_any w7 y _ hy7).mono ?_
          rintro e w8 ⟨rfl, rfl⟩
          go_wp2_with fail
          refine (awake_any w7 (HT.out.kept hF7 (by simp))).mono ?_
          rintro e w9 ⟨rfl, hf9⟩
          go_wp2_with fail
          go_ret
          exact ⟨by first | rfl | trivial, hF7.trans hf9 (by simp)⟩
end Go.Proofs.YtmoodonemcpgnaaDoor
