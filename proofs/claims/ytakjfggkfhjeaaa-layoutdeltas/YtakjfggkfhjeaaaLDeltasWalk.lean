/-
  LayoutDeltas: whatever differences and inserts, the law returns true, and nothing is turned that was there.
-/
import Derived.Test.YtakjfggkfhjeaaaAwake8
import Derived.Test.YtakjfggkfhjeaaaLaw8N
import Derived.Test.YtakjfggkfhjeaaaArgsI
namespace Go.Proofs.Ytakjfggkfhjeaaa
open Go.RowKit Mem Spans
set_option linter.unusedSimpArgs false
set_option linter.unusedVariables false
set_option maxRecDepth 100000

theorem edv_sums {ds : List Int} {l : List Sp} (h : rgtB (-1) 4096 ds.length l = true) : wsm 0 (edv ds l) = exv 0 (wsm 0 ds) l := by
  unfold edv exv
  rw [wsm_length, if_pos h, if_pos h]
  refine wsm_wdf (fun v hv => ?_)
  rcases exf_mem v hv with rfl | hm
  · omega
  · exact wsm_in 0 ds v hm
theorem edv_in (ds : List Int) (l : List Sp) : ∀ x ∈ edv ds l, in64 x := by
  unfold edv
  split
  · exact wdf_in _ _
  · simp
theorem edv_length (ds : List Int) (l : List Sp) : (edv ds l).length ≤ ds.length + 4096 := by
  have h := exv_length (z := 0) (vs := wsm 0 ds) (l := l)
  unfold edv
  unfold exv at h
  rw [wsm_length] at h
  split
  · rename_i hr
    rw [if_pos hr] at h
    rw [wdf_length]; exact h
  · simp

set_option maxHeartbeats 4000000 in
theorem ldeltas_walk (a0 : Option Addr) (len0 cap0 : Nat) (z0 : List Int) (a1 : Option Addr) (len1 cap1 : Nat) (z1 : List Sp) (w : World) (w0 : IsRow .i64 w a0 len0 cap0 z0) (w1 : IsSpans w a1 len1 cap1 z1) :
    Calls Try.prog 5 #[.slice a0 len0 cap0, .slice a1 len1 cap1] w fun e w' => e = .returned (.bool true) ∧ Below w.heap.size w w' := by
  obtain ⟨ds, rfl, hsrc⟩ := w0.isrc
  obtain ⟨rfl, hs1⟩ := w1
  have HA : Hid (ISrc w (.slice a0 ds.length cap0) ds) := hsrc
  have HB : Hid (SSrc w (.slice a1 z1.length cap1) z1) := hs1
  clear hsrc hs1 w0
  have HAW : Hid (∀ wx : World, Fr [] w wx → Calls Try.prog 8 #[] wx fun e w' => e = .returned (.bool true) ∧ Below w.heap.size w w') := by
    intro wx hf
    refine (awake8_any wx).mono ?_
    rintro e w' ⟨rfl, hf'⟩
    exact ⟨rfl, (hf.trans hf' (by simp)).below (Nat.le_refl _) (by simp)⟩
  go_enter Try.func5, Try.ntmps5
  by_cases hl0 : 200 < ds.length
  · go_wp2_with fail
    refine (HAW.out _ (Fr.refl _ _)).mono ?_
    rintro e w2 ⟨rfl, hb⟩
    have HBL : Hid (Below w.heap.size w w2) := hb
    clear hb
    go_wp2
    go_ret
    exact ⟨rfl, HBL.out⟩
  · by_cases hl1 : 200 < z1.length
    · go_wp2_with fail
      refine (HAW.out _ (Fr.refl _ _)).mono ?_
      rintro e w2 ⟨rfl, hb⟩
      have HBL : Hid (Below w.heap.size w w2) := hb
      clear hb
      go_wp2
      go_ret
      exact ⟨rfl, HBL.out⟩
    · have HL : Hid (ds.length ≤ 200) := by rw [Hid]; omega
      go_wp2_with fail
      refine (expandDeltas_any _ _ ds z1 w HA.out HB.out (by omega)).mono ?_
      rintro e w1 ⟨d, rfl, hd, hf1⟩
      have HF1 : Hid (Fr [] w w1) := hf1
      have HD : Hid (NOwn 2 0 w1 d (edv ds z1)) := hd.mono (Nat.zero_le _)
      clear hd hf1
      go_wp2_with fail
      refine (lright_any _ z1 ds.length w1 (HB.out.kept HF1.out) (by omega)).mono ?_
      rintro e w2 ⟨rfl, hf2⟩
      have HF2 : Hid (Fr [] w w2) := HF1.out.trans hf2 (by simp)
      have HD2 : Hid (NOwn 2 0 w2 d (edv ds z1)) := HD.out.kept hf2
      clear hf2 HF1 HD
      by_cases hr : rgtB (-1) 4096 ds.length z1 = true
      · have e1 : exe ds z1 = 0 := by unfold exe; rw [if_pos hr]
        have HE : Hid (exe (wsm 0 ds) z1 = 0 ∧ wsm 0 (edv ds z1) = exv 0 (wsm 0 ds) z1) := ⟨by unfold exe; rw [wsm_length, if_pos hr], edv_sums hr⟩
        rw [hr, e1]
        clear hr e1
        go_wp2_with fail
        refine (lsums8_any _ ds w2 (HA.out.kept HF2.out) (by omega)).mono ?_
        rintro e w3 ⟨s, rfl, hs, hf3⟩
        have HF3 : Hid (Fr [] w w3) := HF2.out.trans hf3 (by simp)
        have HD3 : Hid (NOwn 2 0 w3 d (edv ds z1)) := HD2.out.kept hf3
        have HS3 : Hid (ISrc w3 s (wsm 0 ds)) := hs.src (wsm_in 0 ds)
        clear hs hf3 HF2 HD2
        go_wp2_with fail
        refine (expand_any _ _ (wsm 0 ds) z1 0 w3 HS3.out (HB.out.kept HF3.out) (by rw [wsm_length]; omega) (by unfold in64; omega)).mono ?_
        rintro e w4 ⟨v, rfl, hv, hf4⟩
        rw [HE.out.1]
        have HF4 : Hid (Fr [] w w4) := HF3.out.trans hf4 (by simp)
        have HD4 : Hid (NOwn 2 0 w4 d (edv ds z1)) := HD3.out.kept hf4
        have HV4 : Hid (NOwn 2 0 w4 v (exv 0 (wsm 0 ds) z1)) := hv.mono (Nat.zero_le _)
        clear hv hf4 HF3 HD3 HS3
        go_wp2_with fail
        refine (lsums8_any _ (edv ds z1) w4 (HD4.out.src (edv_in ds z1)) (by have := edv_length ds z1; omega)).mono ?_
        rintro e w5 ⟨s5, rfl, hs, hf5⟩
        rw [HE.out.2] at hs
        have HF5 : Hid (Fr [] w w5) := HF4.out.trans hf5 (by simp)
        have HV5 : Hid (NOwn 2 0 w5 v (exv 0 (wsm 0 ds) z1)) := HV4.out.kept hf5
        have HS5 : Hid (NOwn 2 0 w5 s5 (exv 0 (wsm 0 ds) z1)) := hs.mono (Nat.zero_le _)
        clear hs hf5 HF4 HV4 HD4
        go_wp2_with fail
        refine (lsame8_any _ _ _ _ w5 (HS5.out.src (exv_in (by unfold in64; omega) (wsm_in 0 ds))) (HV5.out.src (exv_in (by unfold in64; omega) (wsm_in 0 ds)))).mono ?_
        rintro e w6 ⟨rfl, hf6⟩
        rw [show decide (exv 0 (wsm 0 ds) z1 = exv 0 (wsm 0 ds) z1) = true from by simp]
        have HF6 : Hid (Fr [] w w6) := HF5.out.trans hf6 (by simp)
        clear hf6 HF5 HV5 HS5
        go_wp2_with fail
        refine (HAW.out _ HF6.out).mono ?_
        rintro e w7 ⟨rfl, hb⟩
        have HBL : Hid (Below w.heap.size w w7) := hb
        clear hb
        go_wp2
        go_ret
        exact ⟨rfl, HBL.out⟩
      · have hr' : rgtB (-1) 4096 ds.length z1 = false := by simpa using hr
        have e1 : exe ds z1 = 11 := by unfold exe; rw [if_neg hr]
        have e2 : d = .slice none 0 0 := by
          have := HD2.out
          rw [show edv ds z1 = [] from by unfold edv; rw [if_neg hr]] at this
          exact this.nil
        subst e2
        rw [hr', e1]
        clear hr hr' e1 HD2
        go_wp2_with fail
        refine (HAW.out _ HF2.out).mono ?_
        rintro e w7 ⟨rfl, hb⟩
        have HBL : Hid (Below w.heap.size w w7) := hb
        clear hb
        go_wp2
        go_ret
        exact ⟨rfl, HBL.out⟩
end Go.Proofs.Ytakjfggkfhjeaaa
