/-
  The walk of tidepolelaw13.TimesEven: it returns true, whatever it is given, and writes nothing that was there.
-/
import Derived.Test.YtmoodonemcpgnaaDoorLaw13
import Derived.Test.YtmoodonemcpgnaaDoorRef4S
namespace Go.Proofs.YtmoodonemcpgnaaDoor
open Go.RowKit Mem Bits Groups Evens
set_option linter.unusedSimpArgs false
set_option linter.unusedVariables false

/-- Numbers that go on evenly. -/
def ev (F S : Nat) : Nat → Nat
  | 0 => F
  | k + 1 => add64 (ev F S k) S
theorem ev_lt {F S : Nat} (hF : F < 18446744073709551616) (k : Nat) : ev F S k < 18446744073709551616 := by
  cases k with
  | zero => exact hF
  | succ k => exact add64_lt _ _
theorem sub_add {a S : Nat} (ha : a < 18446744073709551616) (hS : S < 18446744073709551616) : sub64 (add64 a S) a = S := by unfold sub64 add64; omega
theorem sub_self {a : Nat} (ha : a < 18446744073709551616) : sub64 a a = 0 := by unfold sub64; omega
theorem sub_none {a : Nat} (ha : a < 18446744073709551616) : sub64 a 0 = a := by unfold sub64; omega
theorem ev_stp {F S : Nat} (hF : F < 18446744073709551616) (hS : S < 18446744073709551616) (k : Nat) : stp (trow (ev F S) (k + 1)) (ev F S (k + 1)) = S := by
  unfold stp; rw [trow_last]; exact sub_add (ev_lt hF k) hS
theorem ev_step {F S : Nat} (hF : F < 18446744073709551616) (hS : S < 18446744073709551616) (k : Nat) : (trow (ev F S) (k + 2)).step = S := by
  rw [trow_step]; unfold st; rw [if_neg (by omega)]; exact sub_add (ev_lt hF k) hS
theorem ev_first {F S : Nat} : tbits true (trow (ev F S) 0) (ev F S 0) = sbits (sg F) := rfl
theorem ev_second {F S : Nat} (hF : F < 18446744073709551616) (hS : S < 18446744073709551616) : tbits true (trow (ev F S) 1) (ev F S 1) = sbits (sg S) := by
  unfold tbits
  rw [if_neg (by rw [trow_n]; omega)]
  unfold chg
  rw [ev_stp hF hS 0, trow_step]
  show sbits (sg (sub64 S 0)) = _
  rw [sub_none hS]
theorem ev_more {F S : Nat} (hF : F < 18446744073709551616) (hS : S < 18446744073709551616) (k : Nat) : tbits true (trow (ev F S) (k + 2)) (ev F S (k + 2)) = [false] := by
  unfold tbits
  rw [if_neg (by rw [trow_n]; omega)]
  unfold chg
  rw [ev_stp hF hS (k + 1), ev_step hF hS k, sub_self hS]
  decide +kernel
theorem ev_len {F S : Nat} (hF : F < 18446744073709551616) (hS : S < 18446744073709551616) (k : Nat) : (tall true (ev F S) (k + 2)).length = (sbits (sg F)).length + (sbits (sg S)).length + k := by
  induction k with
  | zero =>
    show (([] ++ tbits true (trow (ev F S) 0) (ev F S 0)) ++ tbits true (trow (ev F S) 1) (ev F S 1)).length = _
    rw [ev_first, ev_second hF hS]; simp
  | succ k ih =>
    show (tall true (ev F S) (k + 2) ++ tbits true (trow (ev F S) (k + 2)) (ev F S (k + 2))).length = _
    rw [ev_more hF hS, List.length_append, ih]; simp; omega

set_option maxRecDepth 100000 in
set_option maxHeartbeats 8000000 in
theorem teven_walk (a0 a1 a2 : Int) (w : World) (hT : Tab w) (w0 : (Lit.int .i64 a0).wf = true) (w1 : (Lit.int .i64 a1).wf = true) (b2 : (Lit.int .i64 a2).wf = true) :
    Calls Tryd.prog 6 #[.int .i64 a0, .int .i64 a1, .int .i64 a2] w fun e w' => e = .returned (.bool true) ∧ Fr [] w w' := by
  simp [Lit.wf, IntKind.min, IntKind.max, IntKind.bits, IntKind.signed] at w0 w1 b2
  obtain ⟨F, hF, rfl⟩ : ∃ F, F < 18446744073709551616 ∧ a0 = sg F := ⟨tw a0, tw_lt _, (sg_tw w0.1 w0.2).symm⟩
  obtain ⟨S, hS, rfl⟩ : ∃ S, S < 18446744073709551616 ∧ a1 = sg S := ⟨tw a1, tw_lt _, (sg_tw w1.1 w1.2).symm⟩
  have HFB : Hid (-9223372036854775808 ≤ sg F ∧ sg F ≤ 9223372036854775807) := w0
  have HSB : Hid (-9223372036854775808 ≤ sg S ∧ sg S ≤ 9223372036854775807) := w1
  clear w0 w1
  have hsz := hT.lt
  have HT : Hid (Tab w) := hT
  have HF : Hid (F < 18446744073709551616) := hF
  have HS : Hid (S < 18446744073709551616) := hS
  have HZ : Hid (∀ j, ev F S j < 18446744073709551616) := ev_lt hF
  have HOK : Hid (∀ k, (trow (ev F S) k).ok) := trow_ok (ev_lt hF)
  have HN : Hid (∀ k, (trow (ev F S) k).n = k) := trow_n _
  have HLE : Hid (∀ k, (tall true (ev F S) k).length ≤ 72 * k) := tall_le true _
  have HEL : Hid (∀ k, (tall true (ev F S) (k + 2)).length = (sbits (sg F)).length + (sbits (sg S)).length + k) := ev_len hF hS
  have HES : Hid (∀ k, (trow (ev F S) (k + 2)).step = S) := ev_step hF hS
  clear hT
  go_enter Tryd.func6, Tryd.ntmps6
  go_wp2_with fail
  refine (newWriter_ok _ [] 0 w (Src.nil w) (by decide) (by decide)).mono ?_
  rintro e w1 ⟨p, g, rfl, hw, hp, hg, hf1⟩
  have hw1 : Wr w1 p g (tall true (ev F S) 0) := hw
  have hwl1 := hw.lt
  have hz1 := hf1.size
  clear hw
  go_wp2_with fail
  refine (tnewI_any w1).mono ?_
  rintro e w2 ⟨x, rfl, hx2, hxz, hf2⟩
  have hw2' := hw1.kept hf2 (by simp) (by simp)
  have hx2' : TrI w2 x (trow (ev F S) 0) := hx2
  have hF2 : Fr [] w w2 := hf1.trans hf2 (by simp)
  have hxl := hx2.lt
  have hz2 := hf2.size
  clear hw1 hf1 hf2 hx2
  have hord : w.heap.size ≤ p ∧ w.heap.size ≤ g ∧ w.heap.size ≤ x ∧ x ≠ p ∧ x ≠ g := by omega
  clear hp hg hwl1 hz1 hxz hz2 hxl
  obtain ⟨hp, hg, hx0, hxp, hxg⟩ := hord
  by_cases hbad : a2 < 2 ∨ 100 < a2
  · have hout : (decide (a2 < 2) = true) ∨ (decide (a2 < 2) = false ∧ decide (100 < a2) = true) := by
      by_cases h1 : a2 < 2
      · exact .inl (decide_eq_true h1)
      · exact .inr ⟨decide_eq_false h1, decide_eq_true (by omega)⟩
    clear hbad hw2' hx2'
    rcases hout with h1 | ⟨h1, h2⟩
    all_goals
      go_wp2_with fail
      refine (awake_any _ (HT.out.kept hF2 (by simp))).mono ?_
      rintro e w' ⟨rfl, hf⟩
      go_wp2_with fail
      go_ret
      exact ⟨by first | rfl | trivial, hF2.trans hf (by simp)⟩
  have d1 : decide (a2 < 2) = false := decide_eq_false (by omega)
  have d2 : decide (100 < a2) = false := decide_eq_false (by omega)
  obtain ⟨n, rfl⟩ := Int.eq_ofNat_of_zero_le (show 0 ≤ a2 by omega)
  have hn : n ≤ 100 := by omega
  have qF : IntKind.u64.wrap (sg F) = (F : Int) := wrapU_sg hF
  have qS : IntKind.u64.wrap (sg S) = (S : Int) := wrapU_sg hS
  have qA : IntKind.u64.wrap ((F : Int) + (S : Int)) = ((ev F S 1 : Nat) : Int) := wrapU_sum hF hS
  have q1 : wrap64 ((ev F S 1 : Nat) : Int) = sg (ev F S 1) := wrap_sg (HZ.out 1)
  have q1' : IntKind.i64.wrap ((ev F S 1 : Nat) : Int) = sg (ev F S 1) := wrapI_sg (HZ.out 1)
  clear hbad hF hS
  go_wp2_with fail
  refine (tputI_any w2 x p g (trow (ev F S) 0) _ F (HT.out.kept hF2 (by simp)) (by omega) (by omega) (by omega) hxp hxg hx2' hw2' (HOK.out 0) (by rw [HN.out]; omega) HF.out (by simp [tall])).mono ?_
  rintro e w3 ⟨rfl, hx3, g3, hw3, hg3, hf3⟩
  have hx3' : TrI w3 x (trow (ev F S) 1) := hx3
  have hw3' : Wr w3 p g3 (tall true (ev F S) 1) := hw3
  have hF3 : Fr [] w w3 := hF2.trans hf3 (by simp; omega)
  have hz3 := hf3.size
  have hzr := hF2.size
  have hord : w.heap.size ≤ g3 ∧ x ≠ g3 := by have := hx2'.lt; omega
  clear hx3 hw3 hf3 hx2' hw2' hF2 hg hxg hg3 hz3 hzr
  obtain ⟨hg, hxg⟩ := hord
  go_wp2_with fail
  refine (tputI_any w3 x p g3 (trow (ev F S) 1) _ (ev F S 1) (HT.out.kept hF3 (by simp)) (by omega) (by omega) (by omega) hxp hxg hx3' hw3' (HOK.out 1) (by rw [HN.out]; omega) (HZ.out 1) (by have := HLE.out 1; omega)).mono ?_
  rintro e w4 ⟨rfl, hx4, g4, hw4, hg4, hf4⟩
  have hx4' : TrI w4 x (trow (ev F S) 2) := hx4
  have hw4' : Wr w4 p g4 (tall true (ev F S) 2) := hw4
  have hF4 : Fr [] w w4 := hF3.trans hf4 (by simp; omega)
  have hz4 := hf4.size
  have hzr := hF3.size
  have hord : w.heap.size ≤ g4 ∧ x ≠ g4 ∧ x < w4.heap.size := by have := hx3'.lt; omega
  clear hx4 hw4 hf4 hx3' hw3' hF3 hg hxg hg4 hz4 hzr
  obtain ⟨hg, hxg, hxl⟩ := hord
  go_wp2_with fail
  refine (len_any w4 p g4 _ hw4').mono ?_
  rintro e w5 ⟨rfl, rfl⟩
  obtain ⟨W0, hW0⟩ : ∃ W0, W0 = (sbits (sg F)).length + (sbits (sg S)).length := ⟨_, rfl⟩
  have HW0 : Hid (∀ k, (tall true (ev F S) (k + 2)).length = W0 + k) := fun k => by rw [hW0]; exact HEL.out k
  have hWle : W0 ≤ 144 := by have h1 : (tall true (ev F S) 2).length = W0 + 0 := HW0.out 0; have := HLE.out 2; omega
  rw [show (tall true (ev F S) 2).length = W0 from HW0.out 0]
  obtain ⟨LA, hLA⟩ : ∃ LA, LA = (sbits (sg F)).length := ⟨_, rfl⟩
  obtain ⟨LB, hLB⟩ : ∃ LB, LB = (sbits (sg S)).length := ⟨_, rfl⟩
  have hs1 : (txt (sbits (sg F))).size = LA := by rw [txt_size, hLA]
  have hs2 : (txt (sbits (sg S))).size = LB := by rw [txt_size, hLB]
  have HWL : Hid (W0 = LA + LB) := by show _ = _; rw [hW0, hLA, hLB]
  have hla : LA ≤ 144 := by have := HWL.out; omega
  have hlb : LB ≤ 144 := by have := HWL.out; omega
  have dn : ((W0 : Int) != (LA : Int) + (LB : Int)) = false := by rw [HWL.out]; simp
  clear hW0 hLA hLB HEL
  go_wp2_with fail
  refine (S_any (sg F) w4 HFB.out.1 HFB.out.2).mono ?_
  rintro e w5 ⟨rfl, hf5⟩
  have hx5 := hx4'.kept hf5 (by simp)
  have hw5 := hw4'.kept hf5 (by simp) (by simp)
  have hF5 : Fr [] w w5 := hF4.trans hf5 (by simp)
  have hz5 := hf5.size
  clear hx4' hw4' hF4 hf5
  go_wp2_with fail
  refine (S_any (sg S) w5 HSB.out.1 HSB.out.2).mono ?_
  rintro e w6 ⟨rfl, hf6⟩
  have hx6 := hx5.kept hf6 (by simp)
  have hw6 := hw5.kept hf6 (by simp) (by simp)
  have hF6 : Fr [] w w6 := hF5.trans hf6 (by simp)
  have hz6 := hf6.size
  have hxl6 : x < w6.heap.size := by omega
  clear hx5 hw5 hF5 hf6 hz5 hz6 hxl
  go_wp2_with fail
  go_loopw [11, 78] (fun t c wr => ∃ k gk : Nat, k ≤ n ∧ t = .int .u64 ((ev F S (k + 1) : Nat) : Int) ∧ c = .int .i64 (k : Int) ∧ Wr wr p gk (tall true (ev F S) (k + 2)) ∧ TrI wr x (trow (ev F S) (k + 2)) ∧ w.heap.size ≤ gk ∧ x ≠ gk ∧ x < wr.heap.size ∧ Fr [] w wr) (fun _ c _ => n - (intOf c).toNat)
  case atStart => exact ⟨0, g4, by omega, rfl, rfl, hw6, hx6, hg, hxg, hxl6, hF6⟩
  case round =>
    clear hw6 hx6 hF6 hxl6 hg hxg
    obtain ⟨k, gk, hk, rfl, rfl, hwk, hxk, hgk, hxgk, hxlk, hfr⟩ := hrel
    by_cases hlt : k < n
    · have dk : decide ((k : Int) < (n : Int)) = true := decide_eq_true (by omega)
      have qB : IntKind.u64.wrap (((ev F S (k + 1) : Nat) : Int) + (S : Int)) = ((ev F S (k + 2) : Nat) : Int) := wrapU_sum (HZ.out _) HS.out
      have q2 : wrap64 ((ev F S (k + 2) : Nat) : Int) = sg (ev F S (k + 2)) := wrap_sg (HZ.out _)
      have q2' : IntKind.i64.wrap ((ev F S (k + 2) : Nat) : Int) = sg (ev F S (k + 2)) := wrapI_sg (HZ.out _)
      have HLK : Hid ((tall true (ev F S) (k + 2)).length ≤ 4294966000) := by show _ ≤ _; rw [HW0.out]; omega
      go_wp2_with fail
      refine (tputI_any wr x p gk (trow (ev F S) (k + 2)) _ (ev F S (k + 2)) (HT.out.kept hfr (by simp)) (by omega) (by omega) (by omega) hxp hxgk hxk hwk (HOK.out (k + 2)) (by rw [HN.out]; omega) (HZ.out (k + 2)) HLK.out).mono ?_
      rintro e w7 ⟨rfl, hx7, g7, hw7, hg7, hf7⟩
      have hx7' : TrI w7 x (trow (ev F S) (k + 1 + 2)) := hx7
      have hw7' : Wr w7 p g7 (tall true (ev F S) (k + 1 + 2)) := hw7
      have hF7 : Fr [] w w7 := hfr.trans hf7 (by simp; omega)
      have hz7 := hf7.size
      have hzr := hfr.size
      have hq1 : w.heap.size ≤ g7 ∧ x ≠ g7 ∧ x < w7.heap.size := by omega
      clear hx7 hw7 hf7 hxk hwk hfr qB
      go_wp2_with fail
      go_roundw
      case rel => exact ⟨k + 1, g7, by omega, rfl, by go_num, hw7', hx7', hq1.1, hq1.2.1, hq1.2.2, hF7⟩
      case measure => simp [intOf]; omega
    · have hjl : k = n := by omega
      subst hjl
      have dk : decide ((k : Int) < (k : Int)) = false := decide_eq_false (by omega)
      go_wp2_with fail
      refine (len_any wr p gk _ hwk).mono ?_
      rintro e w7 ⟨rfl, rfl⟩
      rw [HW0.out k]
      have HX : Hid (TrI wr x (trow (ev F S) (k + 2))) := hxk
      have dW : (((W0 + k : Nat) : Int) == (W0 : Int) + (k : Int)) = true := by simp
      clear hxk hwk
      obtain ⟨WK, hWK⟩ : ∃ WK, WK = W0 + k := ⟨_, rfl⟩
      rw [← hWK] at dW ⊢
      clear hWK
      go_wp2_with fail
      refine (tstepI_any wr x _ HX.out).mono ?_
      rintro e w7 ⟨rfl, rfl⟩
      rw [HES.out k]
      go_wp2_with fail
      refine (awake_any wr (HT.out.kept hfr (by simp))).mono ?_
      rintro e w9 ⟨rfl, hf9⟩
      go_wp2_with fail
      go_ret
      exact ⟨by first | rfl | trivial, hfr.trans hf9 (by simp)⟩
end Go.Proofs.YtmoodonemcpgnaaDoor
