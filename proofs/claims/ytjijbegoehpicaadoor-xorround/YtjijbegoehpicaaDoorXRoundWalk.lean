/-
  The walk of tidepolelaw05.XorRound: it returns true, whatever it is given, and writes nothing that was there.
-/
import Derived.Test.YtjijbegoehpicaaDoorLaw5
import Derived.Test.YtjijbegoehpicaaDoorRowArgs
namespace Go.Proofs.YtjijbegoehpicaaDoor
open Go.RowKit Mem Bits Windows
set_option linter.unusedSimpArgs false
set_option linter.unusedVariables false

set_option maxRecDepth 100000 in
set_option maxHeartbeats 4000000 in
theorem round_walk (a0 : Option Addr) (len0 cap0 : Nat) (z0 : List Int) (w : World) (hT : XTab w) (w0 : IsRow .u64 w a0 len0 cap0 z0) :
    Calls Tryd.prog 4 #[.slice a0 len0 cap0] w fun e w' => e = .returned (.bool true) ∧ Fr [] w w' := by
  obtain ⟨b, off, z, ha, hcell, hz⟩ := w0.nats
  clear w0
  have hsz := hT.lt
  have HT : Hid (XTab w) := hT
  clear hT
  by_cases hbad : 60 < len0
  · have d0 : decide (60 < (len0 : Int)) = true := decide_eq_true (by omega)
    clear ha hcell hz
    go_enter Tryd.func4, Tryd.ntmps4
    go_wp2_with fail
    refine (awake_any w HT.out).mono ?_
    rintro e w' ⟨rfl, hf⟩
    go_wp2_with fail
    go_ret
    exact ⟨by first | rfl | trivial, hf⟩
  have d0 : decide (60 < (len0 : Int)) = false := decide_eq_false (by omega)
  have HZ : Hid (∀ j, z j < 18446744073709551616) := hz
  have HCELL : Hid (∀ j, j < len0 → w.cell? ⟨b, off + j, none⟩ = some (.int .u64 (z j : Int))) := hcell
  have HA0 : Hid (0 < len0 → a0 = some ⟨b, off, none⟩) := ha
  have HOK : Hid (∀ k, (xrow z k).ok) := xrow_ok hz
  have HN : Hid (∀ k, (xrow z k).n = k) := xrow_n z
  have HLE : Hid (∀ k, (xall z k).length ≤ 77 * k) := xall_le hz
  clear hz hcell ha
  go_enter Tryd.func4, Tryd.ntmps4
  go_wp2_with fail
  refine (newWriter_ok _ [] 0 w (Src.nil w) (by decide) (by decide)).mono ?_
  rintro e w1 ⟨p, g, rfl, hw, hp, hg, hf1⟩
  have hw1 : Wr w1 p g (xall z 0) := hw
  have hwl1 := hw.lt
  have hz1 := hf1.size
  clear hw
  go_wp2_with fail
  refine (xnew_any w1).mono ?_
  rintro e w2 ⟨x, rfl, hx2, hxz, hf2⟩
  have hw2 := hw1.kept hf2 (by simp) (by simp)
  have hF2 : Fr [] w w2 := hf1.trans hf2 (by simp)
  have hxl := hx2.lt
  clear hw1 hf1 hf2
  go_wp2_with fail
  refine (xnew_any w2).mono ?_
  rintro e w3 ⟨y, rfl, hy3, hyz, hf3⟩
  have hw3 := hw2.kept hf3 (by simp) (by simp)
  have hx3 := hx2.kept hf3 (by simp)
  have hx3' : Xr w3 x (xrow z 0) := hx3
  have hy3' : Xr w3 y (xrow z 0) := hy3
  have hF3 : Fr [] w w3 := hF2.trans hf3 (by simp)
  have hyl := hy3.lt
  have hz3 := hf3.size
  clear hw2 hx2 hF2 hf3 hx3 hy3
  have hord : w.heap.size ≤ p ∧ w.heap.size ≤ g ∧ w.heap.size ≤ x ∧ w.heap.size ≤ y ∧ x ≠ p ∧ x ≠ g ∧ y ≠ p ∧ y ≠ g ∧ x ≠ y ∧ p < w3.heap.size ∧ g < w3.heap.size ∧ x < w3.heap.size ∧ y < w3.heap.size := by omega
  clear hp hg hwl1 hz1 hxz hxl hyz hz3
  obtain ⟨hp, hg, hx0, hy0, hxp, hxg, hyp, hyg, hxy, hp3, hg3, hxl3, hyl3⟩ := hord
  go_wp2_with fail
  go_loopw [45] (fun c wr => ∃ k gk : Nat, k ≤ len0 ∧ c = .int .i64 (k : Int) ∧ Wr wr p gk (xall z k) ∧ Xr wr x (xrow z k) ∧ Xr wr y (xrow z 0) ∧ w.heap.size ≤ gk ∧ x ≠ gk ∧ y ≠ gk ∧ x < wr.heap.size ∧ y < wr.heap.size ∧ Fr [] w wr) (fun c _ => len0 - (intOf c).toNat)
  case atStart => exact ⟨0, g, by omega, rfl, hw3, hx3', hy3', hg, hxg, hyg, hxl3, hyl3, hF3⟩
  case round =>
    clear hw3 hx3' hy3' hF3 hxl3 hyl3 hp3 hg3 hg hxg hyg
    obtain ⟨k, gk, hk, rfl, hwk, hxk, hyk, hgk, hxgk, hygk, hxlk, hylk, hfr⟩ := hrel
    have hpl := HLE.out k
    by_cases hlt : k < len0
    · have hae := HA0.out (by omega)
      subst hae
      have hc := hfr.cell_some (HCELL.out k hlt) (by simp)
      have dk : decide ((k : Int) < (len0 : Int)) = true := decide_eq_true (by omega)
      go_wp2_with fail
      refine (xput_any wr x p gk (xrow z k) _ (z k) (HT.out.kept hfr (by simp)) (by omega) (by omega) (by omega) hxp hxgk hxk hwk (HOK.out k) (by rw [HN.out k]; omega) (HZ.out k) (by omega)).mono ?_
      rintro e w4 ⟨rfl, hx4, g4, hw4, hg4, hf4⟩
      have hx4' : Xr w4 x (xrow z (k + 1)) := hx4
      have hw4' : Wr w4 p g4 (xall z (k + 1)) := hw4
      have hy4 := hyk.kept hf4 (by simp; omega)
      have hF4 : Fr [] w w4 := hfr.trans hf4 (by simp; omega)
      have hz4 := hf4.size
      have hzr := hfr.size
      have hq1 : w.heap.size ≤ g4 ∧ x ≠ g4 ∧ y ≠ g4 ∧ x < w4.heap.size ∧ y < w4.heap.size := by omega
      clear hx4 hw4 hf4 hxk hwk hyk hc hfr
      go_wp2_with fail
      go_roundw
      case rel => exact ⟨k + 1, g4, by omega, by go_num, hw4', hx4', hy4, hq1.1, hq1.2.1, hq1.2.2.1, hq1.2.2.2.1, hq1.2.2.2.2, hF4⟩
      case measure => simp [intOf]; omega
    · have hjl : k = len0 := by omega
      subst hjl
      have dk : decide ((k : Int) < (k : Int)) = false := decide_eq_false (by omega)
      have HSP : Hid (∀ i, i < k → ∃ r, xall z k = xall z i ++ xbits (xrow z i) (z i) ++ r) := fun i hi => xall_split z i k hi
      obtain ⟨L, hL⟩ : ∃ L, L = xall z k := ⟨_, rfl⟩
      have HLE2 : Hid ((xall z k).length = L.length) := by show _ = _; rw [hL]
      rw [← hL] at hwk hpl HSP
      clear hL
      go_wp2_with fail
      refine (bytes_any wr p gk L hwk (by omega)).mono ?_
      rintro e w2 ⟨g2, rfl, hg2, hz2, hf2⟩
      have hw2 := hwk.kept hf2 (by simp) (by simp)
      go_wp2_with fail
      refine (len_any w2 p gk L hw2).mono ?_
      rintro e w3 ⟨rfl, rfl⟩
      have hsrc : Src w2 (.slice (some ⟨g2, 0, none⟩) (nbs L.length) (nbs L.length)) (pack L) := Wr.src (Row.made hg2 (by unfold maxLen nbs; omega) (by simp))
      go_wp2_with fail
      refine (newReader_ok _ (pack L) L.length w2 hsrc (by simp) (by omega)).mono ?_
      rintro e w3 ⟨q, h, rfl, hr3, hq, hh, hf3⟩
      rw [unpack_pack] at hr3
      have hfb : Fr [] wr w3 := hf2.trans hf3 (by simp)
      have hx3 := hxk.kept hfb (by simp)
      have hy3 := hyk.kept hfb (by simp)
      have hF3 : Fr [] w w3 := hfr.trans hfb (by simp)
      have hzr := hfr.size
      have hz2' := hf2.size
      have hq1 : w.heap.size ≤ q ∧ x ≠ q ∧ x ≠ h ∧ y ≠ q ∧ y ≠ h := by omega
      clear hwk hfr hg2 hf2 hw2 hsrc hf3 hgk hz2 hq hh hxk hyk hfb hzr hz2' hxlk hylk hxgk hygk
      obtain ⟨hq0, hxq, hxh, hyq, hyh⟩ := hq1
      go_wp2_with fail
      go_loopw [70] (fun c wr => ∃ m : Nat, m ≤ k ∧ c = .int .i64 (m : Int) ∧ Rd wr q h L (xall z m).length L.length false ∧ Xr wr x (xrow z k) ∧ Xr wr y (xrow z m) ∧ Fr [] w wr) (fun c _ => k - (intOf c).toNat)
      case atStart => exact ⟨0, by omega, rfl, hr3, hx3, hy3, hF3⟩
      case round =>
        clear hr3 hx3 hy3 hF3
        obtain ⟨m, hm, rfl, hrm, hxm, hym, hfm⟩ := hrel
        by_cases hlt4 : m < k
        · have hae := HA0.out (by omega)
          subst hae
          have hc := hfm.cell_some (HCELL.out m hlt4) (by simp)
          have dm : decide ((m : Int) < (k : Int)) = true := decide_eq_true (by omega)
          obtain ⟨r, hr⟩ := HSP.out m hlt4
          have HR : Hid (L = xall z m ++ xbits (xrow z m) (z m) ++ r) := hr
          have HPL : Hid ((xall z (m + 1)).length = (xall z m).length + (xbits (xrow z m) (z m)).length) := by show _ = _; simp only [xall, List.length_append]
          have HLL : Hid ((xall z m).length + (xbits (xrow z m) (z m)).length ≤ L.length) := by show _ ≤ _; rw [HR.out]; simp
          have hrm' : Rd wr q h (xall z m ++ xbits (xrow z m) (z m) ++ r) (xall z m).length L.length false := by rw [← HR.out]; exact hrm
          clear hr hrm
          go_wp2_with fail
          refine (xgetV_put wr y q h (xrow z m) (xall z m) r L.length false (z m) (HT.out.kept hfm (by simp)) (by omega) hym hrm' (by rw [← HR.out]; omega) HLL.out hyq hyh (HOK.out m) (by rw [HN.out m]; omega) (HZ.out m)).mono ?_
          rintro e w5 ⟨rfl, hy5, hr5, hf5⟩
          rw [← HR.out, ← HPL.out] at hr5
          have hy5' : Xr w5 y (xrow z (m + 1)) := hy5
          have hx5 := hxm.kept hf5 (by simp; omega)
          have hF5 : Fr [] w w5 := hfm.trans hf5 (by simp; omega)
          clear hy5 hf5 hym hxm hrm' hc hfm HR HPL HLL r
          go_wp2_with fail
          go_roundw
          case rel => exact ⟨m + 1, by omega, by go_num, hr5, hx5, hy5', hF5⟩
          case measure => simp [intOf]; omega
        · have hml : m = k := by omega
          subst hml
          have dm : decide ((m : Int) < (m : Int)) = false := decide_eq_false (by omega)
          rw [HLE2.out] at hrm
          go_wp2_with fail
          refine (xwindow_any wr x _ hxm).mono ?_
          rintro e w5 ⟨rfl, hf5⟩
          have hx5 := hxm.kept hf5 (by simp)
          have hy5 := hym.kept hf5 (by simp)
          have hr5 := hrm.kept hf5 (by simp) (by simp)
          have hF5 : Fr [] w w5 := hfm.trans hf5 (by simp)
          clear hxm hym hrm hfm hf5
          go_wp2_with fail
          refine (xwindow_any w5 y _ hy5).mono ?_
          rintro e w6 ⟨rfl, hf6⟩
          have hx6 := hx5.kept hf6 (by simp)
          have hy6 := hy5.kept hf6 (by simp)
          have hr6 := hr5.kept hf6 (by simp) (by simp)
          have hF6 : Fr [] w w6 := hF5.trans hf6 (by simp)
          clear hx5 hy5 hr5 hF5 hf6
          go_wp2_with fail
          refine (left_any w6 q h L L.length L.length false hr6 (by omega)).mono ?_
          rintro e w7 ⟨rfl, hf7⟩
          have hx7 := hx6.kept hf7 (by simp)
          have hy7 := hy6.kept hf7 (by simp)
          have hF7 : Fr [] w w7 := hF6.trans hf7 (by simp)
          rw [Nat.sub_self]
          clear hx6 hy6 hr6 hF6 hf7
          go_wp2_with fail
          refine (xlen_any w7 x _ hx7).mono ?_
          rintro e w8 ⟨rfl, rfl⟩
          go_wp2_with fail
          refine (xlen_any w7 y _ hy7).mono ?_
          rintro e w8 ⟨rfl, rfl⟩
          go_wp2_with fail
          refine (xlast_any w7 x _ hx7).mono ?_
          rintro e w8 ⟨rfl, rfl⟩
          go_wp2_with fail
          refine (xlast_any w7 y _ hy7).mono ?_
          rintro e w8 ⟨rfl, rfl⟩
          go_wp2_with fail
          refine (awake_any w7 (HT.out.kept hF7 (by simp))).mono ?_
          rintro e w9 ⟨rfl, hf9⟩
          go_wp2_with fail
          go_ret
          exact ⟨by first | rfl | trivial, hF7.trans hf9 (by simp)⟩
end Go.Proofs.YtjijbegoehpicaaDoor
