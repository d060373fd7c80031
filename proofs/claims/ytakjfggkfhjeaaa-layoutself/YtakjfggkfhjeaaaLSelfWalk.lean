/-
  LayoutSelf: whatever lists, the law returns true, and nothing is turned that was there.
-/
import Derived.Test.YtakjfggkfhjeaaaAwake8
import Derived.Test.YtakjfggkfhjeaaaLaw8
import Derived.Test.YtakjfggkfhjeaaaLCover
namespace Go.Proofs.Ytakjfggkfhjeaaa
open Go.RowKit Mem Spans
open Classical
set_option linter.unusedSimpArgs false
set_option linter.unusedVariables false
set_option maxRecDepth 100000

set_option maxHeartbeats 4000000 in
theorem lself_walk (a0 : Option Addr) (len0 cap0 : Nat) (z0 : List Sp) (a1 : Option Addr) (len1 cap1 : Nat) (z1 : List Sp) (w : World) (w0 : IsSpans w a0 len0 cap0 z0) (w1 : IsSpans w a1 len1 cap1 z1) :
    Calls Try.prog 6 #[.slice a0 len0 cap0, .slice a1 len1 cap1] w fun e w' => e = .returned (.bool true) ∧ Below w.heap.size w w' := by
  obtain ⟨rfl, hs0⟩ := w0
  obtain ⟨rfl, hs1⟩ := w1
  have HA : Hid (SSrc w (.slice a0 z0.length cap0) z0) := hs0
  have HB : Hid (SSrc w (.slice a1 z1.length cap1) z1) := hs1
  clear hs0 hs1
  have HAW : Hid (∀ wx : World, Fr [] w wx → Calls Try.prog 8 #[] wx fun e w' => e = .returned (.bool true) ∧ Below w.heap.size w w') := by
    intro wx hf
    refine (awake8_any wx).mono ?_
    rintro e w' ⟨rfl, hf'⟩
    exact ⟨rfl, (hf.trans hf' (by simp)).below (Nat.le_refl _) (by simp)⟩
  go_enter Try.func6, Try.ntmps6
  go_wp2_with fail
  refine (small8_any _ z0 w HA.out).mono ?_
  rintro e w1 ⟨r, rfl, hr, hf1⟩
  have HF1 : Hid (Fr [] w w1) := hf1
  clear hf1
  cases r with
  | false =>
    clear hr
    go_wp2_with fail
    refine (HAW.out _ HF1.out).mono ?_
    rintro e w2 ⟨rfl, hb⟩
    have HBL : Hid (Below w.heap.size w w2) := hb
    clear hb
    go_wp2
    go_ret
    exact ⟨rfl, HBL.out⟩
  | true =>
    clear hr
    go_wp2_with fail
    refine (small8_any _ z1 w1 (HB.out.kept HF1.out)).mono ?_
    rintro e w2 ⟨r, rfl, hr, hf2⟩
    have HF2 : Hid (Fr [] w w2) := HF1.out.trans hf2 (by simp)
    clear hf2 HF1
    cases r with
    | false =>
      clear hr
      go_wp2_with fail
      refine (HAW.out _ HF2.out).mono ?_
      rintro e w3 ⟨rfl, hb⟩
      have HBL : Hid (Below w.heap.size w w3) := hb
      clear hb
      go_wp2
      go_ret
      exact ⟨rfl, HBL.out⟩
    | true =>
      clear hr
      go_wp2_with fail
      refine (compare_any _ _ z0 z0 w2 (HA.out.kept HF2.out) (HA.out.kept HF2.out)).mono ?_
      rintro e w3 ⟨f, g, rfl, hf, hg, hf3⟩
      have HF3 : Hid (Fr [] w w3) := HF2.out.trans hf3 (by simp)
      clear hf3 HF2
      go_wp2_with fail
      refine (check_any _ z0 w3 (HA.out.kept HF3.out)).mono ?_
      rintro e w4 ⟨rfl, hf4⟩
      have HF4 : Hid (Fr [] w w4) := HF3.out.trans hf4 (by simp)
      clear hf4 HF3
      by_cases hk : chk z0 = 0
      · obtain ⟨e1, e2⟩ := cmp_self hk
        rw [e2] at hf hg
        have ef := hf.nil
        have eg := hg.nil
        subst ef eg
        rw [hk, e1]
        clear hf hg e1 e2
        have HK : Hid (chk z0 = 0) := hk
        clear hk
        go_wp2_with fail
        refine (union_any _ _ z0 z1 w4 (HA.out.kept HF4.out) (HB.out.kept HF4.out)).mono ?_
        rintro e w5 ⟨u, rfl, hu, hf5⟩
        have HF5 : Hid (Fr [] w w5) := HF4.out.trans hf5 (by simp)
        have HU : Hid (SSrc w5 u (unl z0 z1)) := hu.src (unl_in z0 z1)
        clear hf5 hu HF4
        by_cases hh : une z0 z1 = 0
        · obtain ⟨_, hc1, _, hc2, hpl⟩ := unl_ok hh
          have HV1 : Hid (cvr (unl z0 z1) z0 = true) := (cvr_iff _ _).2 ⟨hc2, HK.out, by intro x hx; rw [hpl, uni_mem]; exact .inl hx⟩
          have HV2 : Hid (cvr (unl z0 z1) z1 = true) := (cvr_iff _ _).2 ⟨hc2, hc1, by intro x hx; rw [hpl, uni_mem]; exact .inr hx⟩
          have HV3 : Hid (cvr z0 z0 = true) := (cvr_iff _ _).2 ⟨HK.out, HK.out, fun x hx => hx⟩
          have HV4 : Hid (cvr z0 z1 = true → eqn (unl z0 z1) z0 = true) := by
            intro h
            unfold cvr at h
            rw [Bool.and_eq_true] at h
            exact h.2
          rw [hh]
          clear hh hc1 hc2 hpl
          go_wp2_with fail
          refine (covers_any _ _ (unl z0 z1) z0 w5 HU.out (HA.out.kept HF5.out)).mono ?_
          rintro e w6 ⟨rfl, hf6⟩
          rw [HV1.out]
          have HF6 : Hid (Fr [] w w6) := HF5.out.trans hf6 (by simp)
          have HU6 : Hid (SSrc w6 u (unl z0 z1)) := HU.out.kept hf6
          clear hf6 HF5 HU
          go_wp2_with fail
          refine (covers_any _ _ (unl z0 z1) z1 w6 HU6.out (HB.out.kept HF6.out)).mono ?_
          rintro e w7 ⟨rfl, hf7⟩
          rw [HV2.out]
          have HF7 : Hid (Fr [] w w7) := HF6.out.trans hf7 (by simp)
          have HU7 : Hid (SSrc w7 u (unl z0 z1)) := HU6.out.kept hf7
          clear hf7 HF6 HU6
          go_wp2_with fail
          refine (covers_any _ _ z0 z0 w7 (HA.out.kept HF7.out) (HA.out.kept HF7.out)).mono ?_
          rintro e w8 ⟨rfl, hf8⟩
          rw [HV3.out]
          have HF8 : Hid (Fr [] w w8) := HF7.out.trans hf8 (by simp)
          have HU8 : Hid (SSrc w8 u (unl z0 z1)) := HU7.out.kept hf8
          clear hf8 HF7 HU7
          go_wp2_with fail
          refine (covers_any _ _ z0 z1 w8 (HA.out.kept HF8.out) (HB.out.kept HF8.out)).mono ?_
          rintro e w9 ⟨rfl, hf9⟩
          have HF9 : Hid (Fr [] w w9) := HF8.out.trans hf9 (by simp)
          have HU9 : Hid (SSrc w9 u (unl z0 z1)) := HU8.out.kept hf9
          clear hf9 HF8 HU8
          cases hcv : cvr z0 z1 with
          | false =>
            clear hcv
            go_wp2_with fail
            refine (HAW.out _ HF9.out).mono ?_
            rintro e w10 ⟨rfl, hb⟩
            have HBL : Hid (Below w.heap.size w w10) := hb
            clear hb
            go_wp2
            go_ret
            exact ⟨rfl, HBL.out⟩
          | true =>
            have HV5 : Hid (eqn (unl z0 z1) z0 = true) := HV4.out hcv
            clear hcv
            go_wp2_with fail
            refine (equal_any _ _ (unl z0 z1) z0 w9 HU9.out (HA.out.kept HF9.out)).mono ?_
            rintro e w10 ⟨rfl, hf10⟩
            rw [HV5.out]
            have HF10 : Hid (Fr [] w w10) := HF9.out.trans hf10 (by simp)
            clear hf10
            go_wp2_with fail
            refine (HAW.out _ HF10.out).mono ?_
            rintro e w11 ⟨rfl, hb⟩
            have HBL : Hid (Below w.heap.size w w11) := hb
            clear hb
            go_wp2
            go_ret
            exact ⟨rfl, HBL.out⟩
        · go_wp2_with fail
          refine (HAW.out _ HF5.out).mono ?_
          rintro e w6 ⟨rfl, hb⟩
          have HBL : Hid (Below w.heap.size w w6) := hb
          clear hb
          go_wp2
          go_ret
          exact ⟨rfl, HBL.out⟩
      · have e1 := une_self hk
        rw [e1]
        have HCV : Hid (cvr z0 z0 = false) := cvr_wrong hk z0
        obtain ⟨fo, fcap, rfl⟩ := hf.val
        obtain ⟨go_, gcap, rfl⟩ := hg.val
        clear hf hg e1
        go_wp2_with fail
        refine (covers_any _ _ z0 z0 w4 (HA.out.kept HF4.out) (HA.out.kept HF4.out)).mono ?_
        rintro e w5 ⟨rfl, hf5⟩
        rw [HCV.out]
        have HF5 : Hid (Fr [] w w5) := HF4.out.trans hf5 (by simp)
        clear hf5
        go_wp2_with fail
        refine (HAW.out _ HF5.out).mono ?_
        rintro e w6 ⟨rfl, hb⟩
        have HBL : Hid (Below w.heap.size w w6) := hb
        clear hb
        go_wp2
        go_ret
        exact ⟨rfl, HBL.out⟩
end Go.Proofs.Ytakjfggkfhjeaaa
