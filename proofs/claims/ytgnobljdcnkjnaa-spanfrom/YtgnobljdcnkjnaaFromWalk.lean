/-
  SpanFrom: whatever places, the law returns true, and nothing is turned that was there.
-/
import Derived.Test.YtgnobljdcnkjnaaArgs6
namespace Go.Proofs.Ytgnobljdcnkjnaa
open Go.RowKit Mem Spans
open Classical
set_option linter.unusedSimpArgs false
set_option linter.unusedVariables false
set_option maxRecDepth 100000

set_option maxHeartbeats 2000000 in
theorem from_walk (a0 : Option Addr) (len0 cap0 : Nat) (z0 : List Int) (w : World) (w0 : IsRow .i64 w a0 len0 cap0 z0) :
    Calls Try.prog 5 #[.slice a0 len0 cap0] w fun e w' => e = .returned (.bool true) ∧ Below w.heap.size w w' := by
  obtain ⟨zs, rfl, hsrc⟩ := w0.isrc
  have HS : Hid (ISrc w (.slice a0 zs.length cap0) zs) := hsrc
  clear w0 hsrc
  go_enter Try.func5, Try.ntmps5
  by_cases hl : 300 < zs.length
  · go_wp2_with fail
    refine (awake_any _).mono ?_
    rintro e w1 ⟨rfl, hf1⟩
    go_wp2
    go_ret
    exact ⟨rfl, hf1.below (Nat.le_refl _) (by simp)⟩
  · go_wp2_with fail
    refine (from_any _ zs w HS.out).mono ?_
    rintro e w1 ⟨u, rfl, hu, hf1⟩
    have HU : Hid (SOwn 47 w.heap.size w1 u (frl zs)) := hu
    have HF1 : Hid (Fr [] w w1) := hf1
    clear hu hf1
    go_wp2_with fail
    refine (rising_any _ zs w1 (HS.out.kept HF1.out)).mono ?_
    rintro e w2 ⟨rfl, hf2⟩
    have HU2 : Hid (SOwn 47 w.heap.size w2 u (frl zs)) := HU.out.kept hf2
    have HF2 : Hid (Fr [] w w2) := HF1.out.trans hf2 (by simp)
    clear hf2 HU HF1
    by_cases hr : rises (-1048576) zs
    · rw [decide_eq_true hr]
      have h0 : frm zs = 0 := frm_zero.2 ⟨hr, by omega, by rw [rns_runs]; have := rn_le_length none zs; omega⟩
      have HL : Hid (frl zs = rns 0 zs) := by unfold Hid frl; rw [if_pos h0]
      have HK : Hid (chk (rns 0 zs) = 0 ∧ shp true (rns 0 zs) ∧ plc 0 (rns 0 zs) = zs) := frm_ok h0
      have HP : Hid (pls (rns 0 zs) = zs) := by unfold Hid pls; rw [if_pos HK.out.1]; exact HK.out.2.2
      have HB : Hid (∀ z ∈ zs, -1048576 ≤ z ∧ z ≤ 1048576) := rises_mem hr
      have HRN : Hid ((rns 0 zs).length = rn none zs) := rns_runs 0 zs
      have hRL : rn none zs ≤ 300 := by have := rn_le_length none zs; omega
      have HIN : Hid (∀ s ∈ rns 0 zs, in64 s.1 ∧ in64 s.2) := by rw [Hid, ← HL.out]; exact frl_in zs
      rw [h0]
      have HU3 : Hid (SOwn 47 w.heap.size w2 u (rns 0 zs)) := by rw [Hid, ← HL.out]; exact HU2.out
      obtain ⟨ao, cap, rfl⟩ := HU3.out.val
      clear HU2 hr h0 HL
      have HRL : Hid ((rns 0 zs).length ≤ 300) := by rw [Hid, HRN.out]; exact hRL
      generalize hLL : rns 0 zs = L at *
      go_wp2_with fail
      refine (lref_any _ L w2 (HU3.out.src HIN.out) (by have := HRL.out; omega)).mono ?_
      rintro e w3 ⟨v3, rfl, h3, hf3⟩
      have HV3 : Hid (SOwn 50 w2.heap.size w3 v3 L) := h3
      have HU4 : Hid (SOwn 47 w.heap.size w3 (.slice ao L.length cap) L) := HU3.out.kept hf3
      have HF3 : Hid (Fr [] w w3) := HF2.out.trans hf3 (by simp)
      clear h3 hf3 HU3 HF2
      go_wp2_with fail
      refine (lplaces_any _ L w3 (HV3.out.src HIN.out) HK.out.1).mono ?_
      rintro e w4 ⟨v4, rfl, h4, hf4⟩
      rw [HP.out] at h4
      have HV4 : Hid (IOwn w3.heap.size w4 v4 zs) := h4
      have HU5 : Hid (SOwn 47 w.heap.size w4 (.slice ao L.length cap) L) := HU4.out.kept hf4
      have HF4 : Hid (Fr [] w w4) := HF3.out.trans hf4 (by simp)
      clear h4 hf4 HU4 HF3 HV3
      go_wp2_with fail
      refine (same_any _ _ zs zs w4 (HV4.out.src (fun z hz => by have := HB.out z hz; unfold in64; omega)) (HS.out.kept HF4.out)).mono ?_
      rintro e w5 ⟨rfl, hf5⟩
      rw [show decide (zs = zs) = true from by simp]
      have HU6 : Hid (SOwn 47 w.heap.size w5 (.slice ao L.length cap) L) := HU5.out.kept hf5
      have HF5 : Hid (Fr [] w w5) := HF4.out.trans hf5 (by simp)
      clear hf5 HU5 HF4 HV4
      go_wp2_with fail
      refine (lruns_any _ zs w5 (HS.out.kept HF5.out) HB.out (by omega)).mono ?_
      rintro e w6 ⟨rfl, hf6⟩
      have HU7 : Hid (SOwn 47 w.heap.size w6 (.slice ao L.length cap) L) := HU6.out.kept hf6
      have HF6 : Hid (Fr [] w w6) := HF5.out.trans hf6 (by simp)
      clear hf6 HU6 HF5
      rw [← HRN.out]
      go_wp2_with fail
      refine (canonical_any _ L w6 (HU7.out.src HIN.out)).mono ?_
      rintro e w7 ⟨rfl, hf7⟩
      rw [show cnn L = true from by rw [cnn_def]; exact decide_eq_true ⟨HK.out.1, HK.out.2.1⟩]
      have HF7 : Hid (Fr [] w w7) := HF6.out.trans hf7 (by simp)
      clear hf7
      go_wp2_with fail
      refine (awake_any _).mono ?_
      rintro e w8 ⟨rfl, hf8⟩
      have HF8 : Hid (Fr [] w w8) := HF7.out.trans hf8 (by simp)
      clear hf8
      go_wp2
      go_ret
      exact ⟨rfl, HF8.out.below (Nat.le_refl _) (by simp)⟩
    · rw [decide_eq_false hr]
      have h0 : frm zs = 11 := by rw [frm_def]; rw [if_neg hr]
      have HL : Hid (frl zs = []) := by unfold Hid frl; rw [h0]; rfl
      rw [h0]
      have hu : u = .slice none 0 0 := by
        rcases HU2.out with ⟨_, h⟩ | ⟨g, _, h, _⟩
        · exact h
        · rw [HL.out] at h; simp at h
      subst hu
      clear HU2 hr h0
      go_wp2_with fail
      refine (awake_any _).mono ?_
      rintro e w3 ⟨rfl, hf3⟩
      have HF3 : Hid (Fr [] w w3) := HF2.out.trans hf3 (by simp)
      clear hf3
      go_wp2
      go_ret
      exact ⟨rfl, HF3.out.below (Nat.le_refl _) (by simp)⟩
end Go.Proofs.Ytgnobljdcnkjnaa
