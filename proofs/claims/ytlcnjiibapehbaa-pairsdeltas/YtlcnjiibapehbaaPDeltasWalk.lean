/-
  PairsDeltas: whatever numbers, the law returns true, and nothing is turned that was there.
-/
import Derived.Test.YtlcnjiibapehbaaAwake7
import Derived.Test.YtlcnjiibapehbaaRefP7
import Derived.Test.YtlcnjiibapehbaaLaw7
namespace Go.Proofs.Ytlcnjiibapehbaa
open Go.RowKit Mem Spans
set_option linter.unusedSimpArgs false
set_option linter.unusedVariables false
set_option maxRecDepth 100000

theorem ab_cases (l : List Int) : (abe l = 0 ∧ abo l = 0 ∧ absl 0 l = some (abv l)) ∨ (abe l = 28 ∧ abo l = 1 ∧ abv l = []) := by
  unfold abe abo abv
  cases absl 0 l with
  | none => exact .inr ⟨rfl, rfl, rfl⟩
  | some o => exact .inl ⟨rfl, rfl, rfl⟩
theorem dl_cases (l : List Int) : (dle l = 0 ∧ dlo l = 0) ∨ (dle l = 28 ∧ dlo l = 1) := by
  unfold dle dlo
  cases dltl 0 l with
  | none => exact .inr ⟨rfl, rfl⟩
  | some o => exact .inl ⟨rfl, rfl⟩

set_option maxHeartbeats 4000000 in
theorem pdeltas_walk (a0 : Option Addr) (len0 cap0 : Nat) (z0 : List Int) (w : World) (w0 : IsRow .i64 w a0 len0 cap0 z0) :
    Calls Try.prog 7 #[.slice a0 len0 cap0] w fun e w' => e = .returned (.bool true) ∧ Below w.heap.size w w' := by
  obtain ⟨zs, rfl, hsrc⟩ := w0.isrc
  have HS : Hid (ISrc w (.slice a0 zs.length cap0) zs) := hsrc
  have HZ : Hid (∀ z ∈ zs, in64 z) := by obtain ⟨_, _, _, _, _, h, _⟩ := hsrc; exact h
  clear w0 hsrc
  go_enter Try.func7, Try.ntmps7
  by_cases hl : 200 < zs.length
  · go_wp2_with fail
    refine (awake7_any _).mono ?_
    rintro e w1 ⟨rfl, hf1⟩
    go_wp2
    go_ret
    exact ⟨rfl, hf1.below (Nat.le_refl _) (by simp)⟩
  · have HLE : Hid (zs.length ≤ 200) := by rw [Hid]; omega
    go_wp2_with fail
    refine (absolute_any _ zs w HS.out (by omega)).mono ?_
    rintro e w1 ⟨u1, rfl, h1, hf1⟩
    have HF1 : Hid (Fr [] w w1) := hf1
    have HA1 : Hid (NOwn 2 0 w1 u1 (abv zs)) := h1.mono (Nat.zero_le _)
    clear h1 hf1
    go_wp2_with fail
    refine (labsolute_any _ zs w1 (HS.out.kept HF1.out) (by omega)).mono ?_
    rintro e w2 ⟨u2, rfl, h2, hf2⟩
    have HF2 : Hid (Fr [] w w2) := HF1.out.trans hf2 (by simp)
    have HA2 : Hid (NOwn 2 0 w2 u1 (abv zs)) := HA1.out.kept hf2
    have HB2 : Hid (NOwn 2 0 w2 u2 (abv zs)) := h2.mono (Nat.zero_le _)
    clear h2 hf2 HF1 HA1
    go_wp2_with fail
    refine (deltas_any _ zs w2 (HS.out.kept HF2.out) (by omega)).mono ?_
    rintro e w3 ⟨u3, rfl, h3, hf3⟩
    have HF3 : Hid (Fr [] w w3) := HF2.out.trans hf3 (by simp)
    have HA3 : Hid (NOwn 2 0 w3 u1 (abv zs)) := HA2.out.kept hf3
    have HB3 : Hid (NOwn 2 0 w3 u2 (abv zs)) := HB2.out.kept hf3
    have HD3 : Hid (NOwn 2 0 w3 u3 (dlv zs)) := h3.mono (Nat.zero_le _)
    clear h3 hf3 HF2 HA2 HB2
    go_wp2_with fail
    refine (ldeltas_any _ zs w3 (HS.out.kept HF3.out) (by omega)).mono ?_
    rintro e w4 ⟨u4, rfl, h4, hf4⟩
    have HF4 : Hid (Fr [] w w4) := HF3.out.trans hf4 (by simp)
    have HA4 : Hid (NOwn 2 0 w4 u1 (abv zs)) := HA3.out.kept hf4
    have HB4 : Hid (NOwn 2 0 w4 u2 (abv zs)) := HB3.out.kept hf4
    have HD4 : Hid (NOwn 2 0 w4 u3 (dlv zs)) := HD3.out.kept hf4
    have HE4 : Hid (NOwn 2 0 w4 u4 (dlv zs)) := h4.mono (Nat.zero_le _)
    clear h4 hf4 HF3 HA3 HB3 HD3
    go_wp2_with fail
    refine (sum_any _ zs w4 (HS.out.kept HF4.out) (by omega)).mono ?_
    rintro e w5 ⟨rfl, hf5⟩
    have HF5 : Hid (Fr [] w w5) := HF4.out.trans hf5 (by simp)
    have HA5 : Hid (NOwn 2 0 w5 u1 (abv zs)) := HA4.out.kept hf5
    have HB5 : Hid (NOwn 2 0 w5 u2 (abv zs)) := HB4.out.kept hf5
    have HD5 : Hid (NOwn 2 0 w5 u3 (dlv zs)) := HD4.out.kept hf5
    have HE5 : Hid (NOwn 2 0 w5 u4 (dlv zs)) := HE4.out.kept hf5
    clear hf5 HF4 HA4 HB4 HD4 HE4
    have HM : Hid (∀ (p q : Value) (l : List Int) (wx : World), (∀ z ∈ l, in64 z) → NOwn 2 0 wx p l → NOwn 2 0 wx q l → Calls Try.prog 31 #[p, q] wx fun e w' => e = .returned (.bool true) ∧ Fr [] wx w') := by
      intro p q l wx hin h1 h2
      refine (lsame_any p q l l wx (h1.src hin) (h2.src hin)).mono ?_
      rintro e w' ⟨rfl, hf⟩
      exact ⟨by simp, hf⟩
    have key : ∀ E O F G : Int, ((E = 0 ∧ O = 0) ∨ (E = 28 ∧ O = 1)) → ((F = 0 ∧ G = 0) ∨ (F = 28 ∧ G = 1)) → True := fun _ _ _ _ _ _ => trivial
    have HAC : Hid ((abe zs = 0 ∧ abo zs = 0 ∧ absl 0 zs = some (abv zs)) ∨ (abe zs = 28 ∧ abo zs = 1 ∧ abv zs = [])) := ab_cases zs
    clear key
    have hdc := dl_cases zs
    rcases ab_cases zs with ⟨e1, e2, e3⟩ | ⟨e1, e2, e3⟩
    · rw [e1, e2]
      have HSOME : Hid (absl 0 zs = some (abv zs)) := e3
      have HLEN : Hid ((abv zs).length = zs.length) := (absl_in e3).1
      have HBK : Hid (dlv (abv zs) = zs) := by
        unfold Hid dlv
        rw [dltl_absl e3 HZ.out]
        rfl
      clear e1 e2 e3 HAC
      rcases hdc with ⟨d1, d2⟩ | ⟨d1, d2⟩
      all_goals rw [d1, d2]
      all_goals clear d1 d2
      all_goals go_wp2_with fail
      all_goals refine (HM.out _ _ (abv zs) w5 (abv_in zs) HA5.out HB5.out).mono ?_
      all_goals rintro e w6 ⟨rfl, hf6⟩
      all_goals have HF6 : Hid (Fr [] w w6) := HF5.out.trans hf6 (by simp)
      all_goals have HA6 : Hid (NOwn 2 0 w6 u1 (abv zs)) := HA5.out.kept hf6
      all_goals have HB6 : Hid (NOwn 2 0 w6 u2 (abv zs)) := HB5.out.kept hf6
      all_goals have HD6 : Hid (NOwn 2 0 w6 u3 (dlv zs)) := HD5.out.kept hf6
      all_goals have HE6 : Hid (NOwn 2 0 w6 u4 (dlv zs)) := HE5.out.kept hf6
      all_goals clear hf6 HF5 HA5 HB5 HD5 HE5
      all_goals go_wp2_with fail
      all_goals refine (HM.out _ _ (dlv zs) w6 (dlv_in zs) HD6.out HE6.out).mono ?_
      all_goals rintro e w7 ⟨rfl, hf7⟩
      all_goals have HF7 : Hid (Fr [] w w7) := HF6.out.trans hf7 (by simp)
      all_goals have HA7 : Hid (NOwn 2 0 w7 u1 (abv zs)) := HA6.out.kept hf7
      all_goals have HB7 : Hid (NOwn 2 0 w7 u2 (abv zs)) := HB6.out.kept hf7
      all_goals clear hf7 HF6 HA6 HB6 HD6 HE6
      · by_cases h0 : zs.length = 0
        · have HV : Hid (smv zs = 0) := by
            have : abv zs = [] := List.eq_nil_of_length_eq_zero (by rw [HLEN.out]; exact h0)
            unfold Hid smv
            rw [this]; rfl
          rw [HV.out, h0]
          clear h0 HA7 HB7 HLEN hl
          go_wp2_with fail
          refine (awake7_any _).mono ?_
          rintro e w8 ⟨rfl, hf8⟩
          have HF8 : Hid (Fr [] w w8) := HF7.out.trans hf8 (by simp)
          clear hf8
          go_wp2
          go_ret
          exact ⟨rfl, HF8.out.below (Nat.le_refl _) (by simp)⟩
        · go_wp2_with fail
          refine (deltas_any _ (abv zs) w7 (HA7.out.src (abv_in zs)) (by have := HLEN.out; omega)).mono ?_
          rintro e w8 ⟨u8, rfl, h8, hf8⟩
          rw [HBK.out] at h8
          rw [show dle (abv zs) = 0 from by unfold dle; rw [dltl_absl HSOME.out HZ.out]]
          have HF8 : Hid (Fr [] w w8) := HF7.out.trans hf8 (by simp)
          have HB8 : Hid (NOwn 2 0 w8 u2 (abv zs)) := HB7.out.kept hf8
          have HK8 : Hid (NOwn 2 0 w8 u8 zs) := h8.mono (Nat.zero_le _)
          clear h8 hf8 HF7 HA7 HB7
          obtain ⟨M, hM⟩ : ∃ M, zs.length = M + 1 := ⟨zs.length - 1, by omega⟩
          obtain ⟨z, hz⟩ := at_lt (l := abv zs) (k := M) (by rw [HLEN.out]; omega)
          have HV : Hid (smv zs = z) := by
            unfold Hid smv
            rw [List.getLast?_eq_getElem?, HLEN.out, hM, show M + 1 - 1 = M from rfl, hz]; rfl
          obtain ⟨g, cap, rfl, hcap, hc⟩ := HB8.out.cells1 (by rw [HLEN.out]; omega)
          have c0 := hc M z hz
          rw [HLEN.out] at hcap ⊢
          have HM2 : Hid (zs.length = M + 1) := hM
          have HSRC : Hid (ISrc w (.slice a0 (M + 1) cap0) zs) := by have := HS.out; rw [hM] at this; exact this
          have hMb : M + 1 ≤ 200 := by have := HLE.out; omega
          rw [HV.out]
          rw [hM] at hcap ⊢
          clear hM hz hc HB8 h0 hl HLEN HV
          go_wp2_with fail
          refine (lsame_any u8 _ zs zs w8 (HK8.out.src HZ.out) (HSRC.out.kept HF8.out)).mono ?_
          rintro e w9 ⟨rfl, hf9⟩
          rw [show decide (zs = zs) = true from by simp]
          have HF9 : Hid (Fr [] w w9) := HF8.out.trans hf9 (by simp)
          clear hf9
          go_wp2_with fail
          refine (awake7_any _).mono ?_
          rintro e w10 ⟨rfl, hf10⟩
          have HF10 : Hid (Fr [] w w10) := HF9.out.trans hf10 (by simp)
          clear hf10
          go_wp2
          go_ret
          exact ⟨rfl, HF10.out.below (Nat.le_refl _) (by simp)⟩
      · by_cases h0 : zs.length = 0
        · have HV : Hid (smv zs = 0) := by
            have : abv zs = [] := List.eq_nil_of_length_eq_zero (by rw [HLEN.out]; exact h0)
            unfold Hid smv
            rw [this]; rfl
          rw [HV.out, h0]
          clear h0 HA7 HB7 HLEN hl
          go_wp2_with fail
          refine (awake7_any _).mono ?_
          rintro e w8 ⟨rfl, hf8⟩
          have HF8 : Hid (Fr [] w w8) := HF7.out.trans hf8 (by simp)
          clear hf8
          go_wp2
          go_ret
          exact ⟨rfl, HF8.out.below (Nat.le_refl _) (by simp)⟩
        · go_wp2_with fail
          refine (deltas_any _ (abv zs) w7 (HA7.out.src (abv_in zs)) (by have := HLEN.out; omega)).mono ?_
          rintro e w8 ⟨u8, rfl, h8, hf8⟩
          rw [HBK.out] at h8
          rw [show dle (abv zs) = 0 from by unfold dle; rw [dltl_absl HSOME.out HZ.out]]
          have HF8 : Hid (Fr [] w w8) := HF7.out.trans hf8 (by simp)
          have HB8 : Hid (NOwn 2 0 w8 u2 (abv zs)) := HB7.out.kept hf8
          have HK8 : Hid (NOwn 2 0 w8 u8 zs) := h8.mono (Nat.zero_le _)
          clear h8 hf8 HF7 HA7 HB7
          obtain ⟨M, hM⟩ : ∃ M, zs.length = M + 1 := ⟨zs.length - 1, by omega⟩
          obtain ⟨z, hz⟩ := at_lt (l := abv zs) (k := M) (by rw [HLEN.out]; omega)
          have HV : Hid (smv zs = z) := by
            unfold Hid smv
            rw [List.getLast?_eq_getElem?, HLEN.out, hM, show M + 1 - 1 = M from rfl, hz]; rfl
          obtain ⟨g, cap, rfl, hcap, hc⟩ := HB8.out.cells1 (by rw [HLEN.out]; omega)
          have c0 := hc M z hz
          rw [HLEN.out] at hcap ⊢
          have HM2 : Hid (zs.length = M + 1) := hM
          have HSRC : Hid (ISrc w (.slice a0 (M + 1) cap0) zs) := by have := HS.out; rw [hM] at this; exact this
          have hMb : M + 1 ≤ 200 := by have := HLE.out; omega
          rw [HV.out]
          rw [hM] at hcap ⊢
          clear hM hz hc HB8 h0 hl HLEN HV
          go_wp2_with fail
          refine (lsame_any u8 _ zs zs w8 (HK8.out.src HZ.out) (HSRC.out.kept HF8.out)).mono ?_
          rintro e w9 ⟨rfl, hf9⟩
          rw [show decide (zs = zs) = true from by simp]
          have HF9 : Hid (Fr [] w w9) := HF8.out.trans hf9 (by simp)
          clear hf9
          go_wp2_with fail
          refine (awake7_any _).mono ?_
          rintro e w10 ⟨rfl, hf10⟩
          have HF10 : Hid (Fr [] w w10) := HF9.out.trans hf10 (by simp)
          clear hf10
          go_wp2
          go_ret
          exact ⟨rfl, HF10.out.below (Nat.le_refl _) (by simp)⟩
    · rw [e1, e2]
      have HV : Hid (smv zs = 0) := by unfold Hid smv; rw [e3]; rfl
      clear e1 e2 e3 HAC
      rcases hdc with ⟨d1, d2⟩ | ⟨d1, d2⟩
      all_goals rw [d1, d2]
      all_goals clear d1 d2
      all_goals go_wp2_with fail
      all_goals refine (HM.out _ _ (abv zs) w5 (abv_in zs) HA5.out HB5.out).mono ?_
      all_goals rintro e w6 ⟨rfl, hf6⟩
      all_goals have HF6 : Hid (Fr [] w w6) := HF5.out.trans hf6 (by simp)
      all_goals have HD6 : Hid (NOwn 2 0 w6 u3 (dlv zs)) := HD5.out.kept hf6
      all_goals have HE6 : Hid (NOwn 2 0 w6 u4 (dlv zs)) := HE5.out.kept hf6
      all_goals clear hf6 HF5 HA5 HB5 HD5 HE5
      all_goals go_wp2_with fail
      all_goals refine (HM.out _ _ (dlv zs) w6 (dlv_in zs) HD6.out HE6.out).mono ?_
      all_goals rintro e w7 ⟨rfl, hf7⟩
      all_goals have HF7 : Hid (Fr [] w w7) := HF6.out.trans hf7 (by simp)
      all_goals clear hf7 HF6 HD6 HE6
      all_goals rw [HV.out]
      all_goals go_wp2_with fail
      all_goals refine (awake7_any _).mono ?_
      all_goals rintro e w8 ⟨rfl, hf8⟩
      all_goals have HF8 : Hid (Fr [] w w8) := HF7.out.trans hf8 (by simp)
      all_goals clear hf8
      all_goals go_wp2
      all_goals go_ret
      all_goals exact ⟨rfl, HF8.out.below (Nat.le_refl _) (by simp)⟩
end Go.Proofs.Ytlcnjiibapehbaa
