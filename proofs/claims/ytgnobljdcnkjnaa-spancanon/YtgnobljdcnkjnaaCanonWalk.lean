/-
  SpanCanon: whatever list, the law returns true, and nothing is turned that was there.
-/
import Derived.Test.YtgnobljdcnkjnaaArgs6
namespace Go.Proofs.Ytgnobljdcnkjnaa
open Go.RowKit Mem Spans
open Classical
set_option linter.unusedSimpArgs false
set_option linter.unusedVariables false
set_option maxRecDepth 100000

/-- The canonical list of a right one. -/
theorem canon_of {l : List Sp} (h : chk l = 0) : frm (pls l) = 0 ∧ cne l = 0 ∧ cnl l = rns 0 (pls l) ∧ chk (rns 0 (pls l)) = 0 ∧ shp true (rns 0 (pls l)) ∧ pls (rns 0 (pls l)) = pls l ∧ (rns 0 (pls l)).length ≤ l.length := by
  have hp : pls l = plc 0 l := by unfold pls; rw [if_pos h]
  have hs : (rns 0 (pls l)).length ≤ l.length := by rw [hp]; exact rns_short l
  have h0 : frm (pls l) = 0 := frm_zero.2 ⟨pls_rises l, pls_le l, by have := (chk_zero.1 h).1; omega⟩
  have hk := frm_ok h0
  refine ⟨h0, by unfold cne; rw [if_pos h, h0], by unfold cnl frl; rw [if_pos h, if_pos h0], hk.1, hk.2.1, ?_, hs⟩
  show (if chk (rns 0 (pls l)) = 0 then plc 0 (rns 0 (pls l)) else []) = pls l
  rw [if_pos hk.1, hk.2.2]
theorem canon_self {l : List Sp} (h : chk l = 0) : cne (rns 0 (pls l)) = 0 ∧ cnl (rns 0 (pls l)) = rns 0 (pls l) := by
  obtain ⟨_, _, _, h4, _, h6, _⟩ := canon_of h
  obtain ⟨_, i2, i3, _⟩ := canon_of h4
  exact ⟨i2, by rw [i3, h6]⟩
theorem canon_in {l : List Sp} (h : chk l = 0) : ∀ s ∈ rns 0 (pls l), in64 s.1 ∧ in64 s.2 := by
  have := frl_in (pls l)
  unfold frl at this
  rw [if_pos (canon_of h).1] at this
  exact this

set_option maxHeartbeats 4000000 in
theorem canon_walk (a0 : Option Addr) (len0 cap0 : Nat) (z0 : List Sp) (w : World) (w0 : IsSpans w a0 len0 cap0 z0) :
    Calls Try.prog 6 #[.slice a0 len0 cap0] w fun e w' => e = .returned (.bool true) ∧ Below w.heap.size w w' := by
  obtain ⟨rfl, hsrc⟩ := w0
  have HS : Hid (SSrc w (.slice a0 z0.length cap0) z0) := hsrc
  clear hsrc
  go_enter Try.func6, Try.ntmps6
  go_wp2_with fail
  refine (small_any _ z0 w HS.out).mono ?_
  rintro e w1 ⟨r, rfl, hr, hf1⟩
  have HF1 : Hid (Fr [] w w1) := hf1
  clear hf1
  cases r
  · go_wp2_with fail
    refine (awake_any _).mono ?_
    rintro e w2 ⟨rfl, hf2⟩
    have HF2 : Hid (Fr [] w w2) := HF1.out.trans hf2 (by simp)
    clear hf2
    go_wp2
    go_ret
    exact ⟨rfl, HF2.out.below (Nat.le_refl _) (by simp)⟩
  · have hl := hr rfl
    clear hr
    go_wp2_with fail
    refine (canon_any _ z0 w1 (HS.out.kept HF1.out)).mono ?_
    rintro e w2 ⟨c, rfl, hc, hf2⟩
    have HF2 : Hid (Fr [] w w2) := HF1.out.trans hf2 (by simp)
    have HC2 : Hid (SOwn 47 0 w2 c (cnl z0)) := hc.mono (Nat.zero_le _)
    clear hc hf2 HF1
    go_wp2_with fail
    refine (check_any _ z0 w2 (HS.out.kept HF2.out)).mono ?_
    rintro e w3 ⟨rfl, hf3⟩
    have HF3 : Hid (Fr [] w w3) := HF2.out.trans hf3 (by simp)
    have HC3 : Hid (SOwn 47 0 w3 c (cnl z0)) := HC2.out.kept hf3
    clear hf3 HF2 HC2
    by_cases hk : chk z0 = 0
    · obtain ⟨_, hE, hL, h4, h5, h6, h7⟩ := canon_of hk
      obtain ⟨hE2, hL2⟩ := canon_self hk
      have HIN : Hid (∀ s ∈ rns 0 (pls z0), in64 s.1 ∧ in64 s.2) := canon_in hk
      have HEQ : Hid (eqn (rns 0 (pls z0)) z0 = true ∧ cnn (rns 0 (pls z0)) = true) := ⟨by unfold eqn; exact decide_eq_true ⟨h4, hk, h6⟩, by rw [cnn_def]; exact decide_eq_true ⟨h4, h5⟩⟩
      have HSL : Hid ((rns 0 (pls z0)).length ≤ z0.length) := h7
      rw [hE, hk]
      have HC4 : Hid (SOwn 47 0 w3 c (rns 0 (pls z0))) := by rw [Hid, ← hL]; exact HC3.out
      have HE2 : Hid (cne (rns 0 (pls z0)) = 0 ∧ cnl (rns 0 (pls z0)) = rns 0 (pls z0)) := ⟨hE2, hL2⟩
      clear HC3 hE hL h4 h5 h6 h7 hE2 hL2 hk
      generalize rns 0 (pls z0) = C at *
      obtain ⟨ao, cap, rfl⟩ := HC4.out.val
      have hCl : C.length ≤ 600 := by have := HSL.out; omega
      have hCz : C.length ≤ z0.length := HSL.out
      go_wp2_with fail
      refine (canon_any _ C w3 (HC4.out.src HIN.out)).mono ?_
      rintro e w4 ⟨d, rfl, hd, hf4⟩
      rw [HE2.out.1]
      rw [HE2.out.2] at hd
      have HF4 : Hid (Fr [] w w4) := HF3.out.trans hf4 (by simp)
      have HC5 : Hid (SOwn 47 0 w4 (.slice ao C.length cap) C) := HC4.out.kept hf4
      have HD5 : Hid (SOwn 47 0 w4 d C) := hd.mono (Nat.zero_le _)
      clear hd hf4 HF3 HC4 HE2
      obtain ⟨ao2, cap2, rfl⟩ := HD5.out.val
      obtain ⟨_, _, e1, _, _, _, b, off, ha, hc⟩ := HC5.out.src HIN.out
      obtain ⟨_, _, e2, _, _, _, b2, off2, ha2, hc2⟩ := HD5.out.src HIN.out
      simp only [Value.slice.injEq, true_and] at e1 e2
      obtain ⟨rfl, rfl⟩ := e1
      obtain ⟨rfl, rfl⟩ := e2
      have HCC : Hid (∀ j s, C[j]? = some s → w4.cell? ⟨b, off + j * 2, none⟩ = some (.int .i64 s.1) ∧ w4.cell? ⟨b, off + j * 2 + 1, none⟩ = some (.int .i64 s.2)) := hc
      have HCD : Hid (∀ j s, C[j]? = some s → w4.cell? ⟨b2, off2 + j * 2, none⟩ = some (.int .i64 s.1) ∧ w4.cell? ⟨b2, off2 + j * 2 + 1, none⟩ = some (.int .i64 s.2)) := hc2
      have HA : Hid (0 < C.length → ao = some ⟨b, off, none⟩) := ha
      have HA2 : Hid (0 < C.length → ao2 = some ⟨b2, off2, none⟩) := ha2
      clear hc hc2 ha ha2
      go_wp2
      go_loopw [53] (fun i wr => ∃ (k : Nat), k ≤ C.length ∧ i = .int .i64 (k : Int) ∧ Fr [] w4 wr) (fun i _ => C.length - (intOf i).toNat)
      case atStart => exact ⟨0, by omega, rfl, Fr.refl _ _⟩
      case round =>
        obtain ⟨k, hk, rfl, hf⟩ := hrel
        have HFk : Hid (Fr [] w4 wr) := hf
        clear hf
        by_cases hlt : k < C.length
        · obtain rfl := HA.out (by omega)
          obtain rfl := HA2.out (by omega)
          obtain ⟨s, hs⟩ := at_lt hlt
          have c0 : wr.cell? ⟨b, off + k * 2, none⟩ = some (.int .i64 s.1) := HFk.out.cell_some (HCC.out k s hs).1 (by simp)
          have c1 : wr.cell? ⟨b, off + k * 2 + 1, none⟩ = some (.int .i64 s.2) := HFk.out.cell_some (HCC.out k s hs).2 (by simp)
          have d0 : wr.cell? ⟨b2, off2 + k * 2, none⟩ = some (.int .i64 s.1) := HFk.out.cell_some (HCD.out k s hs).1 (by simp)
          have d1 : wr.cell? ⟨b2, off2 + k * 2 + 1, none⟩ = some (.int .i64 s.2) := HFk.out.cell_some (HCD.out k s hs).2 (by simp)
          clear hs
          go_wp2_with fail
          go_quiet (fail)
          go_wp2
          go_roundw
          case rel => exact ⟨k + 1, by omega, by go_num, HFk.out.drewN _⟩
          case measure => simp [intOf]; omega
        · have HF5 : Hid (Fr [] w wr) := HF4.out.trans HFk.out (by simp)
          have HC6 : Hid (SOwn 47 0 wr (.slice ao C.length cap) C) := HC5.out.kept HFk.out
          go_wp2_with fail
          refine (canonical_any _ C wr (HC6.out.src HIN.out)).mono ?_
          rintro e w6 ⟨rfl, hf6⟩
          rw [HEQ.out.2]
          have HF6 : Hid (Fr [] w w6) := HF5.out.trans hf6 (by simp)
          have HC7 : Hid (SOwn 47 0 w6 (.slice ao C.length cap) C) := HC6.out.kept hf6
          clear hf6 HF5 HC6
          go_wp2_with fail
          refine (equal_any _ _ C z0 w6 (HC7.out.src HIN.out) (HS.out.kept HF6.out)).mono ?_
          rintro e w7 ⟨rfl, hf7⟩
          rw [HEQ.out.1]
          have HF7 : Hid (Fr [] w w7) := HF6.out.trans hf7 (by simp)
          clear hf7 HF6
          go_wp2_with fail
          refine (awake_any _).mono ?_
          rintro e w8 ⟨rfl, hf8⟩
          have HF8 : Hid (Fr [] w w8) := HF7.out.trans hf8 (by simp)
          clear hf8
          go_wp2
          go_ret
          exact ⟨rfl, HF8.out.below (Nat.le_refl _) (by simp)⟩
    · have hE : cne z0 = chk z0 := by unfold cne; rw [if_neg hk]
      have hL : cnl z0 = [] := by unfold cnl; rw [if_neg hk]
      have hcn : c = .slice none 0 0 := by
        rcases HC3.out with ⟨_, h⟩ | ⟨g, _, h, _⟩
        · exact h
        · rw [hL] at h; simp at h
      subst hcn
      rw [hE]
      clear hE hL HC3
      go_wp2_with fail
      refine (awake_any _).mono ?_
      rintro e w4 ⟨rfl, hf4⟩
      have HF4 : Hid (Fr [] w w4) := HF3.out.trans hf4 (by simp)
      clear hf4
      go_wp2
      go_ret
      exact ⟨rfl, HF4.out.below (Nat.le_refl _) (by simp)⟩
end Go.Proofs.Ytgnobljdcnkjnaa
