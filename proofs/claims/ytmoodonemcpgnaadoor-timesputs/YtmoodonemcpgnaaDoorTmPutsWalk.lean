/-
  The walk of tidepolelaw13.TimesPuts: it returns true, whatever it is given, and writes nothing that was there.
-/
import Derived.Test.YtmoodonemcpgnaaDoorLaw13
import Derived.Test.YtmoodonemcpgnaaDoorRef13
import Derived.Test.YtmoodonemcpgnaaDoorRowArgs
namespace Go.Proofs.YtmoodonemcpgnaaDoor
open Go.RowKit Mem Bits Groups Evens
set_option linter.unusedSimpArgs false
set_option linter.unusedVariables false

/-- The bits of both rows, number by number. -/
def tboth (z : Nat → Nat) : Nat → List Bool
  | 0 => []
  | k + 1 => (tboth z k ++ tbits true (trow z k) (z k)) ++ tbits false (trow z k) (z k)
theorem tboth_le (z : Nat → Nat) (k : Nat) : (tboth z k).length ≤ 144 * k := by
  induction k with
  | zero => simp [tboth]
  | succ k ih => have := tbits_le true (trow z k) (z k); have := tbits_le false (trow z k) (z k); simp only [tboth, List.length_append]; omega
theorem quiet_same {f : FuncId} {args : Array Value} {w : World} {E : Ending} (h : Calls Tryd.prog f args w fun e w' => e = E ∧ w = w') : Calls Tryd.prog f args w fun e w' => e = E ∧ w' = w := h.mono fun e w' ⟨a, b⟩ => ⟨a, b.symm⟩
theorem IsRow.room {w : World} {k : IntKind} {a : Option Addr} {len cap : Nat} {zs : List Int} (h : IsRow k w a len cap zs) : len ≤ cap ∧ cap ≤ maxLen := by
  rcases h with ⟨_, rfl, rfl, _⟩ | ⟨_, _, h1, h2, _⟩
  · exact ⟨Nat.le_refl _, by unfold maxLen; omega⟩
  · exact ⟨h1, h2⟩

set_option maxRecDepth 100000 in
set_option maxHeartbeats 8000000 in
theorem tputs_walk (a0 : Option Addr) (len0 cap0 : Nat) (z0 : List Int) (w : World) (hT : Tab w) (w0 : IsRow .u64 w a0 len0 cap0 z0) :
    Calls Tryd.prog 3 #[.slice a0 len0 cap0] w fun e w' => e = .returned (.bool true) ∧ Fr [] w w' := by
  obtain ⟨b, off, z, ha, hcell, hz⟩ := w0.nats
  obtain ⟨hcap, hcapm⟩ := w0.room
  clear w0
  have hsz := hT.lt
  have HT : Hid (Tab w) := hT
  have HZ : Hid (∀ j, z j < 18446744073709551616) := hz
  have HNUM : Hid (Nums w a0 len0 b off z) := ⟨ha, hcell⟩
  have HOK : Hid (∀ k, (trow z k).ok) := trow_ok hz
  have HN : Hid (∀ k, (trow z k).n = k) := trow_n z
  have HLE : Hid (∀ k, (tboth z k).length ≤ 144 * k) := tboth_le z
  clear hT hz hcell
  go_enter Tryd.func3, Tryd.ntmps3
  go_wp2_with fail
  refine (newWriter_ok _ [] 0 w (Src.nil w) (by decide) (by decide)).mono ?_
  rintro e w1 ⟨p, g, rfl, hw, hp, hg, hf1⟩
  have hw1 : Wr w1 p g (tboth z 0) := hw
  have hwl1 := hw.lt
  have hz1 := hf1.size
  clear hw
  go_wp2_with fail
  refine (tnewI_any w1).mono ?_
  rintro e w2 ⟨x, rfl, hx2, hxz, hf2⟩
  have hw2 := hw1.kept hf2 (by simp) (by simp)
  have hF2 : Fr [] w w2 := hf1.trans hf2 (by simp)
  have hxl := hx2.lt
  clear hw1 hf1 hf2
  go_wp2_with fail
  refine (tnewU_any w2).mono ?_
  rintro e w3 ⟨y, rfl, hy3, hyz, hf3⟩
  have hw3 := hw2.kept hf3 (by simp) (by simp)
  have hx3 := hx2.kept hf3 (by simp)
  have hx3' : TrI w3 x (trow z 0) := hx3
  have hy3' : TrU w3 y (trow z 0) := hy3
  have hF3 : Fr [] w w3 := hF2.trans hf3 (by simp)
  have hyl := hy3.lt
  have hz3 := hf3.size
  clear hw2 hx2 hF2 hf3 hx3 hy3
  have hord : w.heap.size ≤ p ∧ w.heap.size ≤ g ∧ w.heap.size ≤ x ∧ w.heap.size ≤ y ∧ x ≠ p ∧ x ≠ g ∧ y ≠ p ∧ y ≠ g ∧ x ≠ y ∧ p < w3.heap.size ∧ g < w3.heap.size ∧ x < w3.heap.size ∧ y < w3.heap.size := by omega
  clear hp hg hwl1 hz1 hxz hxl hyz hz3
  obtain ⟨hp, hg, hx0, hy0, hxp, hxg, hyp, hyg, hxy, hp3, hg3, hxl3, hyl3⟩ := hord
  by_cases hbad : 30 < len0
  · have d0 : decide (30 < (len0 : Int)) = true := decide_eq_true (by omega)
    clear ha hcap hcapm hw3 hx3' hy3'
    go_wp2_with fail
    refine (awake_any w3 (HT.out.kept hF3 (by simp))).mono ?_
    rintro e w' ⟨rfl, hf⟩
    go_wp2_with fail
    go_ret
    exact ⟨by first | rfl | trivial, hF3.trans hf (by simp)⟩
  have d0 : decide (30 < (len0 : Int)) = false := decide_eq_false (by omega)
  have HA0 : Hid (0 < len0 → a0 = some ⟨b, off, none⟩) := ha
  have HCAP : Hid (cap0 ≤ maxLen) := hcapm
  have hcapn : cap0 ≤ 9223372036854775807 := by unfold maxLen at hcapm; omega
  have htx0 : (ByteArray.mk #[]) = txt (tboth z 0) := rfl
  have HTX0 : Hid ((ByteArray.mk #[]) = txt (tboth z 0)) := htx0
  clear ha hcapm htx0
  go_wp2_with fail
  go_loopw [7, 58] (fun t c wr => ∃ k gk : Nat, k ≤ len0 ∧ t = .string (txt (tboth z k)) ∧ c = .int .i64 (k : Int) ∧ Wr wr p gk (tboth z k) ∧ TrI wr x (trow z k) ∧ TrU wr y (trow z k) ∧ w.heap.size ≤ gk ∧ x ≠ gk ∧ y ≠ gk ∧ x < wr.heap.size ∧ y < wr.heap.size ∧ Fr [] w wr) (fun _ c _ => len0 - (intOf c).toNat)
  case atStart => exact ⟨0, g, by omega, rfl, rfl, hw3, hx3', hy3', hg, hxg, hyg, hxl3, hyl3, hF3⟩
  case round =>
    clear hw3 hx3' hy3' hF3 hxl3 hyl3 hp3 hg3 hg hxg hyg
    obtain ⟨k, gk, hk, rfl, rfl, hwk, hxk, hyk, hgk, hxgk, hygk, hxlk, hylk, hfr⟩ := hrel
    have hpl := HLE.out k
    by_cases hlt : k < len0
    · have hae := HA0.out (by omega)
      subst hae
      have hc := hfr.cell_some (HNUM.out.2 k hlt) (by simp)
      have dk : decide ((k : Int) < (len0 : Int)) = true := decide_eq_true (by omega)
      have hzk := HZ.out k
      have HV : Hid (z k < 18446744073709551616) := hzk
      obtain ⟨TA, hTA⟩ : ∃ TA, TA = tbits true (trow z k) (z k) := ⟨_, rfl⟩
      obtain ⟨TB, hTB⟩ : ∃ TB, TB = tbits false (trow z k) (z k) := ⟨_, rfl⟩
      have HTA : Hid (TA = tbits true (trow z k) (z k)) := hTA
      have HTB : Hid (TB = tbits false (trow z k) (z k)) := hTB
      have hla : TA.length ≤ 72 := by rw [hTA]; exact tbits_le _ _ _
      have hlb : TB.length ≤ 72 := by rw [hTB]; exact tbits_le _ _ _
      have HK1 : Hid (tboth z (k + 1) = (tboth z k ++ TA) ++ TB) := by show _ = _; rw [hTA, hTB]; rfl
      have HRA : Hid (∀ wx, Fr [] wr wx → Calls Tryd.prog 11 #[.slice (some ⟨b, off, none⟩) k cap0, .int .u64 ((z k : Nat) : Int), .int .i64 1] wx fun e w' => e = .returned (.string (txt TA)) ∧ Fr [] wr w') := fun wx hx => by
        have := rput_any (some ⟨b, off, none⟩) k cap0 b off z (z k) 1 wx ((HNUM.out.kept (hfr.trans hx (by simp)) (by simp)).less (by omega)) (by omega) HZ.out HV.out (.inr rfl)
        rw [hTA]
        exact this.mono fun e w' ⟨a, b⟩ => ⟨a, hx.trans b (by simp)⟩
      have HRB : Hid (∀ wx, Fr [] wr wx → Calls Tryd.prog 11 #[.slice (some ⟨b, off, none⟩) k cap0, .int .u64 ((z k : Nat) : Int), .int .i64 0] wx fun e w' => e = .returned (.string (txt TB)) ∧ Fr [] wr w') := fun wx hx => by
        have := rput_any (some ⟨b, off, none⟩) k cap0 b off z (z k) 0 wx ((HNUM.out.kept (hfr.trans hx (by simp)) (by simp)).less (by omega)) (by omega) HZ.out HV.out (.inl rfl)
        rw [hTB]
        exact this.mono fun e w' ⟨a, b⟩ => ⟨a, hx.trans b (by simp)⟩
      have F0 : Fr [] wr wr.drew := (Fr.refl _ _).drew
      have i1 : (0 : Int) ≤ (k : Int) := by omega
      have i2 : (k : Int) ≤ (cap0 : Int) := by omega
      have HWK : Hid (Wr wr p gk (tboth z k)) := hwk
      have HXK : Hid (TrI wr x (trow z k)) := hxk
      have HYK : Hid (TrU wr y (trow z k)) := hyk
      have HFR : Hid (Fr [] w wr) := hfr
      clear hTA hTB hwk hxk hyk hfr hzk
      go_wp2_with fail
      go_region_held3 (fun _ => True) (exact trivial) (first
        | (go_at_call 11; with_reducible refine (HRA.out _ ?_).mono ?_; (first | assumption | exact F0); rintro e wt ⟨rfl, hft⟩)
        | (go_at_call 11; with_reducible refine (HRB.out _ ?_).mono ?_; (first | assumption | exact F0); rintro e wt ⟨rfl, hft⟩))
      have hF9 : Fr [] w wt := HFR.out.trans hft (by simp)
      have hw9 : Wr wt p gk (tboth z k) := HWK.out.kept hft (by simp) (by simp)
      have hx9 : TrI wt x (trow z k) := HXK.out.kept hft (by simp)
      have hy9 : TrU wt y (trow z k) := HYK.out.kept hft (by simp)
      have hwz := hft.size
      have hok := HOK.out k
      have hnk : (trow z k).n ≤ 1000000000 := by rw [HN.out k]; omega
      have qw : wrap64 ((z k : Nat) : Int) = sg (z k) := wrap_sg HV.out
      have qi : IntKind.i64.wrap ((z k : Nat) : Int) = sg (z k) := wrapI_sg HV.out
      have HW9 : Hid (Wr wt p gk (tboth z k)) := hw9
      have HX9 : Hid (TrI wt x (trow z k)) := hx9
      have HY9 : Hid (TrU wt y (trow z k)) := hy9
      have HF9 : Hid (Fr [] w wt) := hF9
      have HO9 : Hid ((trow z k).ok ∧ (trow z k).n ≤ 1000000000) := ⟨hok, hnk⟩
      clear HRA HRB F0 HWK HXK HYK HFR hft hw9 hx9 hy9 hF9 hok hnk i2 hc
      go_wp2_with fail
      refine (tcostI_any wt x (trow z k) (z k) (HT.out.kept HF9.out (by simp)) HX9.out HO9.out.1 HV.out).mono ?_
      rintro e wa ⟨rfl, hfa⟩
      have HYa : Hid (TrU wa y (trow z k)) := HY9.out.kept hfa (by simp)
      have HFa : Hid (Fr [] w wa) := HF9.out.trans hfa (by simp)
      have HXa : Hid (TrI wa x (trow z k)) := HX9.out.kept hfa (by simp)
      have HWa : Hid (Wr wa p gk (tboth z k)) := HW9.out.kept hfa (by simp) (by simp)
      have hza := hfa.size
      clear HY9 HF9 HX9 HW9 hfa
      rw [← HTA.out]
      go_wp2_with fail
      refine (tcostU_any wa y (trow z k) (z k) (HT.out.kept HFa.out (by simp)) HYa.out HO9.out.1 HV.out).mono ?_
      rintro e wb ⟨rfl, hfb⟩
      have HYb : Hid (TrU wb y (trow z k)) := HYa.out.kept hfb (by simp)
      have HFb : Hid (Fr [] w wb) := HFa.out.trans hfb (by simp)
      have HXb : Hid (TrI wb x (trow z k)) := HXa.out.kept hfb (by simp)
      have HWb : Hid (Wr wb p gk (tboth z k)) := HWa.out.kept hfb (by simp) (by simp)
      have hzb := hfb.size
      clear HYa HFa HXa HWa hfb
      rw [← HTB.out]
      go_wp2_with fail
      refine (tputI_any wb x p gk (trow z k) _ (z k) (HT.out.kept HFb.out (by simp)) (by omega) (by omega) (by omega) hxp hxgk HXb.out HWb.out HO9.out.1 HO9.out.2 HV.out (by omega)).mono ?_
      rintro e wc ⟨rfl, hxc, gc, hwc, hgc, hfc⟩
      have HYc : Hid (TrU wc y (trow z k)) := HYb.out.kept hfc (by simp; omega)
      have HFc : Hid (Fr [] w wc) := HFb.out.trans hfc (by simp; omega)
      have HXc : Hid (TrI wc x (trow z (k + 1))) := hxc
      have HWc : Hid (Wr wc p gc (tboth z k ++ TA)) := by rw [HTA.out]; exact hwc
      have hzc := hfc.size
      have hord2 : w.heap.size ≤ gc ∧ x ≠ gc ∧ y ≠ gc := by omega
      clear HYb HFb HXb HWb hfc hxc hwc hgc hgk hxgk hygk
      obtain ⟨hgk, hxgk, hygk⟩ := hord2
      go_wp2_with fail
      refine (tputU_any wc y p gc (trow z k) _ (z k) (HT.out.kept HFc.out (by simp)) (by omega) (by omega) (by omega) hyp hygk HYc.out HWc.out HO9.out.1 HO9.out.2 HV.out (by simp; omega)).mono ?_
      rintro e wd ⟨rfl, hyd, gd, hwd, hgd, hfd⟩
      have HYd : Hid (TrU wd y (trow z (k + 1))) := hyd
      have HFd : Hid (Fr [] w wd) := HFc.out.trans hfd (by simp; omega)
      have HXd : Hid (TrI wd x (trow z (k + 1))) := HXc.out.kept hfd (by simp; omega)
      have HWd : Hid (Wr wd p gd (tboth z (k + 1))) := by rw [HK1.out, HTB.out]; exact hwd
      have hzd := hfd.size
      have hord2 : w.heap.size ≤ gd ∧ x ≠ gd ∧ y ≠ gd ∧ x < wd.heap.size ∧ y < wd.heap.size := by omega
      clear HYc HFc HXc HWc hfd hyd hwd hgd hgk hxgk hygk hxlk hylk hwz hza hzb hzc hzd
      obtain ⟨hgk, hxgk, hygk, hxlk, hylk⟩ := hord2
      obtain ⟨TK, hTK⟩ : ∃ TK, TK = tboth z k := ⟨_, rfl⟩
      obtain ⟨TAB, hTAB⟩ : ∃ TAB, TAB = TA ++ TB := ⟨_, rfl⟩
      obtain ⟨TN, hTN⟩ : ∃ TN, TN = tboth z (k + 1) := ⟨_, rfl⟩
      have hz1 : (txt TA).size ≤ 72 := by rw [txt_size]; exact hla
      have hz2 : (txt TB).size ≤ 72 := by rw [txt_size]; exact hlb
      have hz3 : (txt TAB).size ≤ 144 := by rw [txt_size, hTAB, List.length_append]; omega
      have hz4 : (txt TK).size ≤ 5000 := by rw [txt_size, hTK]; omega
      have ha1 : txt TA ++ txt TB = txt TAB := by rw [txt_append, hTAB]
      have ha2 : txt TK ++ txt TAB = txt TN := by rw [txt_append, hTAB, hTN, HK1.out, hTK, List.append_assoc]
      have HTN : Hid (TN = tboth z (k + 1)) := hTN
      have hs1 : (txt TA).size = TA.length := txt_size TA
      have hs2 : (txt TB).size = TB.length := txt_size TB
      rw [← hTK]
      generalize hLA : TA.length = LA at *
      generalize hLB : TB.length = LB at *
      clear hTK hTAB hTN hpl HK1 hLA hLB
      go_wp2_with fail
      obtain ⟨ST, hST⟩ : ∃ ST, ST = st z (k + 1) := ⟨_, rfl⟩
      have hst : ST < 18446744073709551616 := by rw [hST, ← trow_step]; exact (HOK.out (k + 1)).2
      have qs : IntKind.u64.wrap (sg ST) = (ST : Int) := wrapU_sg hst
      have hs0 : (trow z (k + 1)).step = ST := by rw [trow_step, hST]
      have Q1 : Hid (∀ n, Calls Tryd.prog 16 #[.pointer (some ⟨x, 0, none⟩)] (wd.drewN n) fun e w' => e = .returned (.int .i64 (sg (z k))) ∧ w' = wd.drewN n) := fun n => quiet_same (tlastI_any _ x _ (HXd.out.kept ((Fr.refl [] _).drewN n) (by simp)))
      have Q2 : Hid (∀ n, Calls Tryd.prog 17 #[.pointer (some ⟨y, 0, none⟩)] (wd.drewN n) fun e w' => e = .returned (.int .u64 ((z k : Nat) : Int)) ∧ w' = wd.drewN n) := fun n => quiet_same (tlastU_any _ y _ (HYd.out.kept ((Fr.refl [] _).drewN n) (by simp)))
      have Q3 : Hid (∀ n, Calls Tryd.prog 18 #[.pointer (some ⟨x, 0, none⟩)] (wd.drewN n) fun e w' => e = .returned (.int .i64 ((k : Int) + 1)) ∧ w' = wd.drewN n) := fun n => by
        have := quiet_same (tlenI_any _ x _ (HXd.out.kept ((Fr.refl [] _).drewN n) (by simp)))
        rw [HN.out (k + 1)] at this; exact this
      have Q4 : Hid (∀ n, Calls Tryd.prog 19 #[.pointer (some ⟨y, 0, none⟩)] (wd.drewN n) fun e w' => e = .returned (.int .i64 ((k : Int) + 1)) ∧ w' = wd.drewN n) := fun n => by
        have := quiet_same (tlenU_any _ y _ (HYd.out.kept ((Fr.refl [] _).drewN n) (by simp)))
        rw [HN.out (k + 1)] at this; exact this
      have Q5 : Hid (∀ n, Calls Tryd.prog 20 #[.pointer (some ⟨x, 0, none⟩)] (wd.drewN n) fun e w' => e = .returned (.int .i64 (sg ST)) ∧ w' = wd.drewN n) := fun n => by
        have := quiet_same (tstepI_any _ x _ (HXd.out.kept ((Fr.refl [] _).drewN n) (by simp)))
        rw [hs0] at this; exact this
      have Q6 : Hid (∀ n, Calls Tryd.prog 22 #[.pointer (some ⟨y, 0, none⟩)] (wd.drewN n) fun e w' => e = .returned (.int .i64 (sg ST)) ∧ w' = wd.drewN n) := fun n => by
        have := quiet_same (tstepU_any _ y _ (HYd.out.kept ((Fr.refl [] _).drewN n) (by simp)))
        rw [hs0] at this; exact this
      have Q7 : Hid (∀ n, Calls Tryd.prog 21 #[.slice (some ⟨b, off, none⟩) (k + 1) cap0] (wd.drewN n) fun e w' => e = .returned (.int .u64 ((ST : Nat) : Int)) ∧ ∃ m, w' = (wd.drewN n).drewN m) := fun n => by
        rw [hST]
        exact rstep_quiet (some ⟨b, off, none⟩) (k + 1) cap0 b off z _ ((HNUM.out.kept (HFd.out.trans ((Fr.refl [] _).drewN n) (by simp)) (by simp)).less (by omega)) (by omega) HZ.out
      have i3 : (0 : Int) ≤ (k : Int) + 1 := by omega
      have i4 : (k : Int) + 1 ≤ (cap0 : Int) := by omega
      have i5 : k + 1 ≤ cap0 := by omega
      clear hs0 hST hst
      go_quiet (first
        | (go_at_call 16; exact Calls.quiet_of_same (Q1.out _))
        | (go_at_call 17; exact Calls.quiet_of_same (Q2.out _))
        | (go_at_call 18; exact Calls.quiet_of_same (Q3.out _))
        | (go_at_call 19; exact Calls.quiet_of_same (Q4.out _))
        | (go_at_call 20; exact Calls.quiet_of_same (Q5.out _))
        | (go_at_call 22; exact Calls.quiet_of_same (Q6.out _))
        | (go_at_call 21; exact Calls.quiet_of (Q7.out _)))
      have HFe : Fr [] w (wd.drewN nq) := HFd.out.drewN _
      have HWe : Wr (wd.drewN nq) p gd (tboth z (k + 1)) := HWd.out.kept ((Fr.refl [] _).drewN _) (by simp) (by simp)
      have HXe : TrI (wd.drewN nq) x (trow z (k + 1)) := HXd.out.kept ((Fr.refl [] _).drewN _) (by simp)
      have HYe : TrU (wd.drewN nq) y (trow z (k + 1)) := HYd.out.kept ((Fr.refl [] _).drewN _) (by simp)
      have hxe := HXe.lt
      have hye := HYe.lt
      clear Q1 Q2 Q3 Q4 Q5 Q6 Q7 HWd HXd HYd HFd hxlk hylk
      generalize wd.drewN nq = we at *
      go_wp2_with fail
      go_roundw
      case rel => exact ⟨k + 1, gd, by omega, by rw [HTN.out], by go_num, HWe, HXe, HYe, hgk, hxgk, hygk, hxe, hye, HFe⟩
      case measure => simp [intOf]; omega
    · have hjl : k = len0 := by omega
      subst hjl
      have dk : decide ((k : Int) < (k : Int)) = false := decide_eq_false (by omega)
      generalize tboth z k = L at *
      have HWK : Hid (Wr wr p gk L) := hwk
      have HFR : Hid (Fr [] w wr) := hfr
      clear hwk hfr hxk hyk
      go_wp2_with fail
      refine (lbits_any wr p gk L HWK.out (by omega)).mono ?_
      rintro e w4 ⟨rfl, hf4⟩
      have HF4 : Hid (Fr [] w w4) := HFR.out.trans hf4 (by simp)
      clear hf4 HWK HFR
      go_wp2_with fail
      refine (awake_any w4 (HT.out.kept HF4.out (by simp))).mono ?_
      rintro e w5 ⟨rfl, hf5⟩
      go_wp2_with fail
      go_ret
      exact ⟨by first | rfl | trivial, HF4.out.trans hf5 (by simp)⟩
end Go.Proofs.YtmoodonemcpgnaaDoor
