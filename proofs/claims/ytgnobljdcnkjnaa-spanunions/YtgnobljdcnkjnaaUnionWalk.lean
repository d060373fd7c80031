/-
  SpanUnions: whatever two lists, the law returns true, and nothing is turned that was there.
-/
import Derived.Test.YtgnobljdcnkjnaaArgs6
namespace Go.Proofs.Ytgnobljdcnkjnaa
open Go.RowKit Mem Spans
open Classical
set_option linter.unusedSimpArgs false
set_option linter.unusedVariables false
set_option maxRecDepth 100000

theorem une_wrong {a b : List Sp} (h : ¬ (chk a = 0 ∧ chk b = 0)) : une a b = (if chk a = 0 then chk b else chk a) ∧ une b a ≠ 0 ∧ unl a b = [] := by
  unfold une unl
  rw [if_neg h]
  by_cases ha : chk a = 0
  · have hb : ¬ chk b = 0 := fun hb => h ⟨ha, hb⟩
    simp [ha, hb]
  · by_cases hb : chk b = 0
    · simp [ha, hb]
    · simp [ha, hb]
theorem une_right {a b : List Sp} (ha : chk a = 0) (hb : chk b = 0) : une a b = frm (uni (pls a) (pls b)) ∧ une b a = frm (uni (pls a) (pls b)) ∧ unl a b = frl (uni (pls a) (pls b)) ∧ unl b a = frl (uni (pls a) (pls b)) := by
  have e := uni_comm (rises_pair (pls_rises a)) (rises_pair (pls_rises b))
  unfold une unl
  simp [ha, hb, e]

set_option maxHeartbeats 8000000 in
theorem union_walk (a0 : Option Addr) (len0 cap0 : Nat) (z0 : List Sp) (a1 : Option Addr) (len1 cap1 : Nat) (z1 : List Sp) (w : World) (w0 : IsSpans w a0 len0 cap0 z0) (w1 : IsSpans w a1 len1 cap1 z1) :
    Calls Try.prog 7 #[.slice a0 len0 cap0, .slice a1 len1 cap1] w fun e w' => e = .returned (.bool true) ∧ Below w.heap.size w w' := by
  obtain ⟨rfl, hsrc⟩ := w0
  obtain ⟨rfl, hsrc1⟩ := w1
  have HA : Hid (SSrc w (.slice a0 z0.length cap0) z0) := hsrc
  have HB : Hid (SSrc w (.slice a1 z1.length cap1) z1) := hsrc1
  clear hsrc hsrc1
  go_enter Try.func7, Try.ntmps7
  go_wp2_with fail
  refine (small_any _ z0 w HA.out).mono ?_
  rintro e w1 ⟨r, rfl, hr, hf1⟩
  have HF1 : Hid (Fr [] w w1) := hf1
  clear hf1
  cases r
  · go_wp2_with fail
    refine (awake_any _).mono ?_
    rintro e w2 ⟨rfl, hf2⟩
    have HF2 : Hid (Fr [] w w2) := HF1.out.trans hf2 (by simp)
    clear hf2
    go_wp2
    go_ret
    exact ⟨rfl, HF2.out.below (Nat.le_refl _) (by simp)⟩
  have hl0 := hr rfl
  clear hr
  go_wp2_with fail
  refine (small_any _ z1 w1 (HB.out.kept HF1.out)).mono ?_
  rintro e w2 ⟨r, rfl, hr, hf2⟩
  have HF2 : Hid (Fr [] w w2) := HF1.out.trans hf2 (by simp)
  clear hf2 HF1
  cases r
  · go_wp2_with fail
    refine (awake_any _).mono ?_
    rintro e w3 ⟨rfl, hf3⟩
    have HF3 : Hid (Fr [] w w3) := HF2.out.trans hf3 (by simp)
    clear hf3
    go_wp2
    go_ret
    exact ⟨rfl, HF3.out.below (Nat.le_refl _) (by simp)⟩
  have hl1 := hr rfl
  clear hr
  go_wp2_with fail
  refine (union_any _ _ z0 z1 w2 (HA.out.kept HF2.out) (HB.out.kept HF2.out)).mono ?_
  rintro e w3 ⟨u, rfl, hu, hf3⟩
  have HF3 : Hid (Fr [] w w3) := HF2.out.trans hf3 (by simp)
  have HU3 : Hid (SOwn 47 0 w3 u (unl z0 z1)) := hu.mono (Nat.zero_le _)
  clear hu hf3 HF2
  go_wp2_with fail
  refine (union_any _ _ z1 z0 w3 (HB.out.kept HF3.out) (HA.out.kept HF3.out)).mono ?_
  rintro e w4 ⟨v, rfl, hv, hf4⟩
  have HF4 : Hid (Fr [] w w4) := HF3.out.trans hf4 (by simp)
  have HU4 : Hid (SOwn 47 0 w4 u (unl z0 z1)) := HU3.out.kept hf4
  have HV4 : Hid (SOwn 47 0 w4 v (unl z1 z0)) := hv.mono (Nat.zero_le _)
  clear hv hf4 HF3 HU3
  go_wp2_with fail
  refine (check_any _ z0 w4 (HA.out.kept HF4.out)).mono ?_
  rintro e w5 ⟨rfl, hf5⟩
  have HF5 : Hid (Fr [] w w5) := HF4.out.trans hf5 (by simp)
  have HU5 : Hid (SOwn 47 0 w5 u (unl z0 z1)) := HU4.out.kept hf5
  have HV5 : Hid (SOwn 47 0 w5 v (unl z1 z0)) := HV4.out.kept hf5
  clear hf5 HF4 HU4 HV4
  go_wp2_with fail
  refine (check_any _ z1 w5 (HB.out.kept HF5.out)).mono ?_
  rintro e w6 ⟨rfl, hf6⟩
  have HF6 : Hid (Fr [] w w6) := HF5.out.trans hf6 (by simp)
  have HU6 : Hid (SOwn 47 0 w6 u (unl z0 z1)) := HU5.out.kept hf6
  have HV6 : Hid (SOwn 47 0 w6 v (unl z1 z0)) := HV5.out.kept hf6
  clear hf6 HF5 HU5 HV5
  by_cases hk : chk z0 = 0 ∧ chk z1 = 0
  · obtain ⟨hk0, hk1⟩ := hk
    obtain ⟨e1, e2, e3, e4⟩ := une_right hk0 hk1
    have HEQ : Hid (eqn z0 z1 = decide (pls z0 = pls z1)) := by unfold Hid eqn; simp [hk0, hk1]
    have HK : Hid (chk z0 = 0 ∧ chk z1 = 0) := ⟨hk0, hk1⟩
    rw [e1, e2, hk0, hk1]
    rw [e3] at HU6
    rw [e4] at HV6
    clear e1 e2 e3 e4 hk0 hk1
    have HRU : Hid (rises (-1048576) (uni (pls z0) (pls z1))) := uni_rises (pls_rises z0) (pls_rises z1)
    have HUL : Hid ((uni (pls z0) (pls z1)).length ≤ 8192) := by
      have := uni_length (pls z0) (pls z1)
      have := pls_le z0
      have := pls_le z1
      rw [Hid]; omega
    have HPL : Hid ((pls z0).length + (pls z1).length ≤ 100000) := by
      have := pls_le z0
      have := pls_le z1
      rw [Hid]; omega
    go_wp2_with fail
    refine (lref_any _ z0 w6 (HA.out.kept HF6.out) (by omega)).mono ?_
    rintro e w7 ⟨ra, rfl, hra, hf7⟩
    have HF7 : Hid (Fr [] w w7) := HF6.out.trans hf7 (by simp)
    have HU7 : Hid (SOwn 47 0 w7 u (frl (uni (pls z0) (pls z1)))) := HU6.out.kept hf7
    have HV7 : Hid (SOwn 47 0 w7 v (frl (uni (pls z0) (pls z1)))) := HV6.out.kept hf7
    have HRA : Hid (SSrc w7 ra z0) := hra.src (by obtain ⟨_, _, _, _, _, h, _⟩ := HA.out; exact h)
    clear hra hf7 HF6 HU6 HV6
    go_wp2_with fail
    refine (lplaces_any _ z0 w7 HRA.out HK.out.1).mono ?_
    rintro e w8 ⟨p, rfl, hp, hf8⟩
    have HF8 : Hid (Fr [] w w8) := HF7.out.trans hf8 (by simp)
    have HU8 : Hid (SOwn 47 0 w8 u (frl (uni (pls z0) (pls z1)))) := HU7.out.kept hf8
    have HV8 : Hid (SOwn 47 0 w8 v (frl (uni (pls z0) (pls z1)))) := HV7.out.kept hf8
    have HP8 : Hid (ISrc w8 p (pls z0)) := hp.src (pls_in z0)
    clear hp hf8 HF7 HU7 HV7 HRA
    go_wp2_with fail
    refine (lref_any _ z1 w8 (HB.out.kept HF8.out) (by omega)).mono ?_
    rintro e w9 ⟨rb, rfl, hrb, hf9⟩
    have HF9 : Hid (Fr [] w w9) := HF8.out.trans hf9 (by simp)
    have HU9 : Hid (SOwn 47 0 w9 u (frl (uni (pls z0) (pls z1)))) := HU8.out.kept hf9
    have HV9 : Hid (SOwn 47 0 w9 v (frl (uni (pls z0) (pls z1)))) := HV8.out.kept hf9
    have HP9 : Hid (ISrc w9 p (pls z0)) := HP8.out.kept hf9
    have HRB : Hid (SSrc w9 rb z1) := hrb.src (by obtain ⟨_, _, _, _, _, h, _⟩ := HB.out; exact h)
    clear hrb hf9 HF8 HU8 HV8 HP8
    go_wp2_with fail
    refine (lplaces_any _ z1 w9 HRB.out HK.out.2).mono ?_
    rintro e w10 ⟨q, rfl, hq, hf10⟩
    have HF10 : Hid (Fr [] w w10) := HF9.out.trans hf10 (by simp)
    have HU10 : Hid (SOwn 47 0 w10 u (frl (uni (pls z0) (pls z1)))) := HU9.out.kept hf10
    have HV10 : Hid (SOwn 47 0 w10 v (frl (uni (pls z0) (pls z1)))) := HV9.out.kept hf10
    have HP10 : Hid (ISrc w10 p (pls z0)) := HP9.out.kept hf10
    have HQ10 : Hid (ISrc w10 q (pls z1)) := hq.src (pls_in z1)
    clear hq hf10 HF9 HU9 HV9 HP9 HRB
    go_wp2_with fail
    refine (lmerge_any _ _ (pls z0) (pls z1) w10 HP10.out HQ10.out HPL.out).mono ?_
    rintro e w11 ⟨m, rfl, hm, hf11⟩
    have HF11 : Hid (Fr [] w w11) := HF10.out.trans hf11 (by simp)
    have HU11 : Hid (SOwn 47 0 w11 u (frl (uni (pls z0) (pls z1)))) := HU10.out.kept hf11
    have HV11 : Hid (SOwn 47 0 w11 v (frl (uni (pls z0) (pls z1)))) := HV10.out.kept hf11
    have HP11 : Hid (ISrc w11 p (pls z0)) := HP10.out.kept hf11
    have HQ11 : Hid (ISrc w11 q (pls z1)) := HQ10.out.kept hf11
    have HM11 : Hid (ISrc w11 m (uni (pls z0) (pls z1))) := hm.src (uni_in z0 z1)
    obtain ⟨aom, capm, rfl⟩ := hm.val
    clear hm hf11 HF10 HU10 HV10 HP10 HQ10
    generalize uni (pls z0) (pls z1) = U at *
    have HIN : Hid (∀ s ∈ frl U, in64 s.1 ∧ in64 s.2) := frl_in U
    have hUl : U.length ≤ 8192 := HUL.out
    by_cases hbig : 4096 < U.length
    · have h12 : frm U = 12 := by rw [frm_def]; rw [if_pos HRU.out, if_pos hbig]
      have hu0 : u = .slice none 0 0 := by
        rcases HU11.out with ⟨_, h⟩ | ⟨g, _, h, _⟩
        · exact h
        · unfold frl at h; rw [h12] at h; simp at h
      subst hu0
      rw [h12]
      clear h12 HU11 HV11
      go_wp2_with fail
      refine (awake_any _).mono ?_
      rintro e w12 ⟨rfl, hf12⟩
      have HF12 : Hid (Fr [] w w12) := HF11.out.trans hf12 (by simp)
      clear hf12
      go_wp2
      go_ret
      exact ⟨rfl, HF12.out.below (Nat.le_refl _) (by simp)⟩
    · go_wp2_with fail
      refine (lruns_any _ U w11 HM11.out (rises_mem HRU.out) (by omega)).mono ?_
      rintro e w12 ⟨rfl, hf12⟩
      have HF12 : Hid (Fr [] w w12) := HF11.out.trans hf12 (by simp)
      have HU12 : Hid (SOwn 47 0 w12 u (frl U)) := HU11.out.kept hf12
      have HV12 : Hid (SOwn 47 0 w12 v (frl U)) := HV11.out.kept hf12
      have HP12 : Hid (ISrc w12 p (pls z0)) := HP11.out.kept hf12
      have HQ12 : Hid (ISrc w12 q (pls z1)) := HQ11.out.kept hf12
      have HM12 : Hid (ISrc w12 (.slice aom U.length capm) U) := HM11.out.kept hf12
      clear hf12 HF11 HU11 HV11 HP11 HQ11 HM11
      have HRN : Hid ((rns 0 U).length = rn none U) := rns_runs 0 U
      by_cases hrn : 1024 < rn none U
      · have h12 : frm U = 12 := by rw [frm_def]; rw [if_pos HRU.out, if_neg hbig, if_pos (by rw [HRN.out]; exact hrn)]
        have hu0 : u = .slice none 0 0 := by
          rcases HU12.out with ⟨_, h⟩ | ⟨g, _, h, _⟩
          · exact h
          · unfold frl at h; rw [h12] at h; simp at h
        subst hu0
        rw [h12]
        clear h12 HU12 HV12
        go_wp2_with fail
        refine (awake_any _).mono ?_
        rintro e w13 ⟨rfl, hf13⟩
        have HF13 : Hid (Fr [] w w13) := HF12.out.trans hf13 (by simp)
        clear hf13
        go_wp2
        go_ret
        exact ⟨rfl, HF13.out.below (Nat.le_refl _) (by simp)⟩
      · have h0 : frm U = 0 := frm_zero.2 ⟨HRU.out, by omega, by rw [HRN.out]; omega⟩
        have hL : frl U = rns 0 U := by unfold frl; rw [if_pos h0]
        have HOK : Hid (chk (rns 0 U) = 0 ∧ shp true (rns 0 U) ∧ plc 0 (rns 0 U) = U) := frm_ok h0
        rw [h0]
        rw [hL] at HU12 HV12 HIN
        have HLL : Hid ((rns 0 U).length ≤ 1024) := by rw [Hid, HRN.out]; omega
        have HPU : Hid (pls (rns 0 U) = U) := by unfold Hid pls; rw [if_pos HOK.out.1]; exact HOK.out.2.2
        clear h0 hL HRN
        generalize rns 0 U = L at *
        go_wp2_with fail
        refine (equal_any _ _ L L w12 (HU12.out.src HIN.out) (HV12.out.src HIN.out)).mono ?_
        rintro e w13 ⟨rfl, hf13⟩
        rw [show eqn L L = true from by unfold eqn; exact decide_eq_true ⟨HOK.out.1, HOK.out.1, rfl⟩]
        have HF13 : Hid (Fr [] w w13) := HF12.out.trans hf13 (by simp)
        have HU13 : Hid (SOwn 47 0 w13 u L) := HU12.out.kept hf13
        have HP13 : Hid (ISrc w13 p (pls z0)) := HP12.out.kept hf13
        have HQ13 : Hid (ISrc w13 q (pls z1)) := HQ12.out.kept hf13
        have HM13 : Hid (ISrc w13 (.slice aom U.length capm) U) := HM12.out.kept hf13
        clear hf13 HF12 HU12 HV12 HP12 HQ12 HM12
        go_wp2_with fail
        refine (canonical_any _ L w13 (HU13.out.src HIN.out)).mono ?_
        rintro e w14 ⟨rfl, hf14⟩
        rw [show cnn L = true from by rw [cnn_def]; exact decide_eq_true ⟨HOK.out.1, HOK.out.2.1⟩]
        have HF14 : Hid (Fr [] w w14) := HF13.out.trans hf14 (by simp)
        have HU14 : Hid (SOwn 47 0 w14 u L) := HU13.out.kept hf14
        have HP14 : Hid (ISrc w14 p (pls z0)) := HP13.out.kept hf14
        have HQ14 : Hid (ISrc w14 q (pls z1)) := HQ13.out.kept hf14
        have HM14 : Hid (ISrc w14 (.slice aom U.length capm) U) := HM13.out.kept hf14
        clear hf14 HF13 HU13 HP13 HQ13 HM13
        go_wp2_with fail
        refine (lref_any _ L w14 (HU14.out.src HIN.out) HLL.out).mono ?_
        rintro e w15 ⟨ru, rfl, hru, hf15⟩
        have HF15 : Hid (Fr [] w w15) := HF14.out.trans hf15 (by simp)
        have HP15 : Hid (ISrc w15 p (pls z0)) := HP14.out.kept hf15
        have HQ15 : Hid (ISrc w15 q (pls z1)) := HQ14.out.kept hf15
        have HM15 : Hid (ISrc w15 (.slice aom U.length capm) U) := HM14.out.kept hf15
        have HR15 : Hid (SSrc w15 ru L) := hru.src HIN.out
        clear hru hf15 HF14 HU14 HP14 HQ14 HM14
        go_wp2_with fail
        refine (lplaces_any _ L w15 HR15.out HOK.out.1).mono ?_
        rintro e w16 ⟨pu, rfl, hpu, hf16⟩
        rw [HPU.out] at hpu
        have HF16 : Hid (Fr [] w w16) := HF15.out.trans hf16 (by simp)
        have HP16 : Hid (ISrc w16 p (pls z0)) := HP15.out.kept hf16
        have HQ16 : Hid (ISrc w16 q (pls z1)) := HQ15.out.kept hf16
        have HM16 : Hid (ISrc w16 (.slice aom U.length capm) U) := HM15.out.kept hf16
        have HPU16 : Hid (ISrc w16 pu U) := hpu.src (by obtain ⟨_, _, _, _, _, h, _⟩ := HM15.out; exact h)
        clear hpu hf16 HF15 HP15 HQ15 HM15 HR15
        go_wp2_with fail
        refine (same_any _ _ U U w16 HPU16.out HM16.out).mono ?_
        rintro e w17 ⟨rfl, hf17⟩
        rw [show decide (U = U) = true from by simp]
        have HF17 : Hid (Fr [] w w17) := HF16.out.trans hf17 (by simp)
        have HP17 : Hid (ISrc w17 p (pls z0)) := HP16.out.kept hf17
        have HQ17 : Hid (ISrc w17 q (pls z1)) := HQ16.out.kept hf17
        clear hf17 HF16 HP16 HQ16 HM16 HPU16
        go_wp2_with fail
        refine (equal_any _ _ z0 z1 w17 (HA.out.kept HF17.out) (HB.out.kept HF17.out)).mono ?_
        rintro e w18 ⟨rfl, hf18⟩
        rw [HEQ.out]
        have HF18 : Hid (Fr [] w w18) := HF17.out.trans hf18 (by simp)
        have HP18 : Hid (ISrc w18 p (pls z0)) := HP17.out.kept hf18
        have HQ18 : Hid (ISrc w18 q (pls z1)) := HQ17.out.kept hf18
        clear hf18 HF17 HP17 HQ17
        go_wp2_with fail
        refine (same_any _ _ (pls z0) (pls z1) w18 HP18.out HQ18.out).mono ?_
        rintro e w19 ⟨rfl, hf19⟩
        have HF19 : Hid (Fr [] w w19) := HF18.out.trans hf19 (by simp)
        clear hf19 HF18
        generalize decide (pls z0 = pls z1) = bb
        have hbb : (bb == bb) = true := by simp
        go_wp2_with fail
        refine (awake_any _).mono ?_
        rintro e w20 ⟨rfl, hf20⟩
        have HF20 : Hid (Fr [] w w20) := HF19.out.trans hf20 (by simp)
        clear hf20
        go_wp2
        go_ret
        exact ⟨rfl, HF20.out.below (Nat.le_refl _) (by simp)⟩
  · obtain ⟨e1, e2, e3⟩ := une_wrong hk
    have hu0 : u = .slice none 0 0 := by
      rcases HU6.out with ⟨_, h⟩ | ⟨g, _, h, _⟩
      · exact h
      · rw [e3] at h; simp at h
    subst hu0
    rw [e1]
    clear e1 e3 HU6 HV6
    by_cases hk0 : chk z0 = 0
    · have hk1 : ¬ chk z1 = 0 := fun h => hk ⟨hk0, h⟩
      rw [if_pos hk0, hk0]
      have hne : (chk z1 != 0) = true := by simpa using hk1
      have hne2 : (une z1 z0 != 0) = true := by simpa using e2
      clear hk
      go_wp2_with fail
      refine (awake_any _).mono ?_
      rintro e w7 ⟨rfl, hf7⟩
      have HF7 : Hid (Fr [] w w7) := HF6.out.trans hf7 (by simp)
      clear hf7
      go_wp2
      go_ret
      exact ⟨rfl, HF7.out.below (Nat.le_refl _) (by simp)⟩
    · rw [if_neg hk0]
      have hne : (chk z0 != 0) = true := by simpa using hk0
      have hne2 : (une z1 z0 != 0) = true := by simpa using e2
      clear hk
      go_wp2_with fail
      refine (awake_any _).mono ?_
      rintro e w7 ⟨rfl, hf7⟩
      have HF7 : Hid (Fr [] w w7) := HF6.out.trans hf7 (by simp)
      clear hf7
      go_wp2
      go_ret
      exact ⟨rfl, HF7.out.below (Nat.le_refl _) (by simp)⟩
end Go.Proofs.Ytgnobljdcnkjnaa
