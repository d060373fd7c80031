/-
  PairsZip: whatever spans and values, the law returns true, and nothing is turned that was there.
-/
import Derived.Test.YtlcnjiibapehbaaAwake7
import Derived.Test.YtlcnjiibapehbaaLaw7
import Derived.Test.YtlcnjiibapehbaaArgsP
import Derived.Test.YtlcnjiibapehbaaRef6C
namespace Go.Proofs.Ytlcnjiibapehbaa
open Go.RowKit Mem Spans
open Classical
set_option linter.unusedSimpArgs false
set_option linter.unusedVariables false
set_option maxRecDepth 100000

theorem zip_fsts (ps vs : List Int) (h : ps.length = vs.length) : fsts (ps.zip vs) = ps := by
  unfold fsts
  rw [List.map_fst_zip (by omega)]
theorem zip_snds (ps vs : List Int) (h : ps.length = vs.length) : snds (ps.zip vs) = vs := by
  unfold snds
  rw [List.map_snd_zip (by omega)]

set_option maxHeartbeats 4000000 in
theorem pzip_walk (a0 : Option Addr) (len0 cap0 : Nat) (z0 : List Sp) (a1 : Option Addr) (len1 cap1 : Nat) (z1 : List Int) (w : World) (w0 : IsSpans w a0 len0 cap0 z0) (w1 : IsRow .i64 w a1 len1 cap1 z1) :
    Calls Try.prog 3 #[.slice a0 len0 cap0, .slice a1 len1 cap1] w fun e w' => e = .returned (.bool true) ∧ Below w.heap.size w w' := by
  obtain ⟨rfl, hsrc⟩ := w0
  obtain ⟨vs, rfl, hsrc1⟩ := w1.isrc
  have HS : Hid (SSrc w (.slice a0 z0.length cap0) z0) := hsrc
  have HV : Hid (ISrc w (.slice a1 vs.length cap1) vs) := hsrc1
  obtain ⟨_, _, hv, hcap, hmax, h64, b, off, ha, hc⟩ := hsrc1
  simp only [Value.slice.injEq] at hv
  obtain ⟨rfl, _, rfl⟩ := hv
  have HC : Hid (∀ j s, vs[j]? = some s → w.cell? ⟨b, off + j, none⟩ = some (.int .i64 s)) := hc
  have HA : Hid (0 < vs.length → a1 = some ⟨b, off, none⟩) := ha
  have H64 : Hid (∀ z ∈ vs, in64 z) := h64
  have HZ0 : Hid (∀ s ∈ z0, in64 s.1 ∧ in64 s.2) := by obtain ⟨_, _, _, _, _, h, _⟩ := hsrc; exact h
  clear ha hc h64 hsrc w1
  go_enter Try.func3, Try.ntmps3
  go_wp2_with fail
  refine (small7_any _ z0 w HS.out).mono ?_
  rintro e x1 ⟨r, rfl, hr, hf1⟩
  have HF1 : Hid (Fr [] w x1) := hf1
  clear hf1
  cases r with
  | false =>
    go_wp2_with fail
    refine (awake7_any _).mono ?_
    rintro e w9 ⟨rfl, hf9⟩
    have HF9 : Hid (Fr [] w w9) := HF1.out.trans hf9 (by simp)
    clear hf9
    go_wp2
    go_ret
    exact ⟨rfl, HF9.out.below (Nat.le_refl _) (by simp)⟩
  | true =>
    have HLE : Hid (z0.length ≤ 1024) := by have := hr rfl; rw [Hid]; omega
    clear hr
    by_cases hl : 300 < vs.length
    · go_wp2_with fail
      refine (awake7_any _).mono ?_
      rintro e w9 ⟨rfl, hf9⟩
      have HF9 : Hid (Fr [] w w9) := HF1.out.trans hf9 (by simp)
      clear hf9
      go_wp2
      go_ret
      exact ⟨rfl, HF9.out.below (Nat.le_refl _) (by simp)⟩
    · have hle : vs.length ≤ 300 := by omega
      clear hl
      go_wp2_with fail
      refine (zip_any _ _ z0 vs x1 (HS.out.kept HF1.out) (HV.out.kept HF1.out)).mono ?_
      rintro e x2 ⟨p, rfl, hp, hf2⟩
      have HP2 : Hid (SOwn 36 0 x2 p (zpl z0 vs)) := hp.mono (Nat.zero_le _)
      have HF2 : Hid (Fr [] w x2) := HF1.out.trans hf2 (by simp)
      clear hp hf2 HF1
      go_wp2_with fail
      refine (lref7_any _ z0 x2 (HS.out.kept HF2.out) HLE.out).mono ?_
      rintro e x3 ⟨u3, rfl, h3, hf3⟩
      have HR3 : Hid (SOwn 69 x2.heap.size x3 u3 z0) := h3
      have HP3 : Hid (SOwn 36 0 x3 p (zpl z0 vs)) := HP2.out.kept hf3
      have HF3 : Hid (Fr [] w x3) := HF2.out.trans hf3 (by simp)
      clear h3 hf3 HP2 HF2
      go_wp2_with fail
      refine (lcheck_any _ z0 x3 (HR3.out.src HZ0.out)).mono ?_
      rintro e x4 ⟨rfl, hf4⟩
      have HP4 : Hid (SOwn 36 0 x4 p (zpl z0 vs)) := HP3.out.kept hf4
      have HF4 : Hid (Fr [] w x4) := HF3.out.trans hf4 (by simp)
      clear hf4 HP3 HF3 HR3
      by_cases hk0 : chk z0 = 0
      · rw [hk0]
        go_wp2_with fail
        refine (lref7_any _ z0 x4 (HS.out.kept HF4.out) HLE.out).mono ?_
        rintro e x5 ⟨u5, rfl, h5, hf5⟩
        have HR5 : Hid (SOwn 69 x4.heap.size x5 u5 z0) := h5
        have HP5 : Hid (SOwn 36 0 x5 p (zpl z0 vs)) := HP4.out.kept hf5
        have HF5 : Hid (Fr [] w x5) := HF4.out.trans hf5 (by simp)
        clear h5 hf5 HP4 HF4
        go_wp2_with fail
        refine (lplaces_any _ z0 x5 (HR5.out.src HZ0.out) hk0).mono ?_
        rintro e x6 ⟨u6, rfl, h6, hf6⟩
        have HQ6 : Hid (IOwn 0 x6 u6 (pls z0)) := h6.mono (Nat.zero_le _)
        have HP6 : Hid (SOwn 36 0 x6 p (zpl z0 vs)) := HP5.out.kept hf6
        have HF6 : Hid (Fr [] w x6) := HF5.out.trans hf6 (by simp)
        clear h6 hf6 HP5 HF5 HR5
        obtain ⟨qo, qcap, rfl⟩ := HQ6.out.val
        by_cases hlen : (pls z0).length = vs.length
        · have e0 : zpe z0 vs = 0 := by unfold zpe; rw [if_pos hk0, if_pos hlen.symm]
          have HZL : Hid (zpl z0 vs = (pls z0).zip vs) := by unfold Hid zpl; rw [if_pos e0]
          have HPL : Hid ((pls z0).length = vs.length) := hlen
          rw [e0, hlen]
          have HQ7 : Hid (IOwn 0 x6 (.slice qo vs.length qcap) (pls z0)) := by have := HQ6.out; rw [hlen] at this; exact this
          have HP7 : Hid (SOwn 36 0 x6 p ((pls z0).zip vs)) := by have := HP6.out; rw [HZL.out] at this; exact this
          have HZN : Hid (((pls z0).zip vs).length = vs.length) := by rw [Hid, List.length_zip]; omega
          have hpv := HP7.out.val
          rw [HZN.out] at hpv
          obtain ⟨po, pcap, rfl⟩ := hpv
          clear HQ6 HP6 e0 hlen
          generalize hPS : pls z0 = ps at *
          have HIN : Hid (∀ s ∈ ps.zip vs, in64 s.1 ∧ in64 s.2) := by
            intro s hs
            have h1 := List.of_mem_zip hs
            exact ⟨pls_in z0 s.1 (by rw [hPS]; exact h1.1), H64.out s.2 h1.2⟩
          have HPI : Hid (∀ z ∈ ps, in64 z) := by rw [Hid, ← hPS]; exact pls_in z0
          have HRI : Hid (rises (-1048576) ps) := by rw [Hid, ← hPS]; exact pls_rises z0
          clear hPS
          obtain ⟨_, _, hv, hpcap, hpmax, _, bp, offp, hap, hcp⟩ := HP7.out.src HIN.out
          simp only [Value.slice.injEq] at hv
          obtain ⟨rfl, hq, rfl⟩ := hv
          clear hq
          rw [HZN.out] at hpcap hap
          obtain ⟨_, _, hv, hqcap, hqmax, _, bq, offq, haq, hcq⟩ := HQ7.out.src HPI.out
          simp only [Value.slice.injEq] at hv
          obtain ⟨rfl, hq, rfl⟩ := hv
          clear hq
          rw [HPL.out] at hqcap haq
          have HCP : Hid (∀ j x y, ps[j]? = some x → vs[j]? = some y → x6.cell? ⟨bp, offp + j * 2, none⟩ = some (.int .i64 x) ∧ x6.cell? ⟨bp, offp + j * 2 + 1, none⟩ = some (.int .i64 y)) := by
            intro j x y hx hy
            exact hcp j (x, y) (List.getElem?_zip_eq_some.2 ⟨hx, hy⟩)
          have HCQ : Hid (∀ j x, ps[j]? = some x → x6.cell? ⟨bq, offq + j, none⟩ = some (.int .i64 x)) := hcq
          have HAP : Hid (0 < vs.length → po = some ⟨bp, offp, none⟩) := hap
          have HAQ : Hid (0 < vs.length → qo = some ⟨bq, offq, none⟩) := haq
          clear hap hcp haq hcq
          have HPZ : Hid (SSrc x6 (.slice po vs.length pcap) (ps.zip vs)) := HP7.out.src HIN.out
          clear HP7 HQ7
          go_wp2
          go_loopw [75] (fun i wr => ∃ (k : Nat), k ≤ vs.length ∧ i = .int .i64 (k : Int) ∧ Fr [] x6 wr) (fun i _ => vs.length - (intOf i).toNat)
          case atStart => exact ⟨0, by omega, rfl, Fr.refl _ _⟩
          case round =>
            obtain ⟨k, hk, rfl, hf⟩ := hrel
            have HF : Hid (Fr [] x6 wr) := hf
            clear hf
            by_cases hlt : k < vs.length
            · obtain rfl := HA.out (by omega)
              obtain rfl := HAP.out (by omega)
              obtain rfl := HAQ.out (by omega)
              obtain ⟨y, hy⟩ := at_lt hlt
              obtain ⟨x, hx⟩ := at_lt (l := ps) (k := k) (by rw [HPL.out]; exact hlt)
              have c1 : wr.cell? ⟨b, off + k, none⟩ = some (.int .i64 y) := (HF6.out.trans HF.out (by simp)).cell_some (HC.out k y hy) (by simp)
              have c2 : wr.cell? ⟨bp, offp + k * 2, none⟩ = some (.int .i64 x) := HF.out.cell_some (HCP.out k x y hx hy).1 (by simp)
              have c3 : wr.cell? ⟨bp, offp + k * 2 + 1, none⟩ = some (.int .i64 y) := HF.out.cell_some (HCP.out k x y hx hy).2 (by simp)
              have c4 : wr.cell? ⟨bq, offq + k, none⟩ = some (.int .i64 x) := HF.out.cell_some (HCQ.out k x hx) (by simp)
              clear hx hy
              go_wp2_with fail
              go_quiet (fail)
              go_wp2
              go_roundw
              case rel => exact ⟨k + 1, by omega, by go_num, HF.out.drewN _⟩
              case measure => simp [intOf]; omega
            · have HFW : Hid (Fr [] w wr) := HF6.out.trans HF.out (by simp)
              have hz1 : fsts (ps.zip vs) = ps := zip_fsts ps vs HPL.out
              have h0 : frm ps = 0 := frm_zero.2 ⟨HRI.out, by rw [HPL.out]; omega, by rw [rns_runs]; have := rn_le_length none ps; rw [HPL.out] at this; omega⟩
              have HL : Hid (frl ps = rns 0 ps) := by unfold Hid frl; rw [if_pos h0]
              have HK : Hid (chk (rns 0 ps) = 0 ∧ shp true (rns 0 ps) ∧ plc 0 (rns 0 ps) = ps) := frm_ok h0
              have HPP : Hid (pls (rns 0 ps) = ps) := by unfold Hid pls; rw [if_pos HK.out.1]; exact HK.out.2.2
              have HRIN : Hid (∀ s ∈ rns 0 ps, in64 s.1 ∧ in64 s.2) := by rw [Hid, ← HL.out]; exact frl_in ps
              have HUZ : Hid (uzv (ps.zip vs) = vs) := by unfold Hid uzv; rw [hz1, if_pos h0, zip_snds ps vs HPL.out]
              have HE2 : Hid (zpe (rns 0 ps) vs = 0 ∧ zpl (rns 0 ps) vs = ps.zip vs) := by
                have e : zpe (rns 0 ps) vs = 0 := by unfold zpe; rw [if_pos HK.out.1, HPP.out, if_pos HPL.out.symm]
                unfold Hid zpl
                rw [if_pos e, HPP.out]
                exact ⟨e, rfl⟩
              have HFM : Hid (frm (fsts (ps.zip vs)) = 0 ∧ frl (fsts (ps.zip vs)) = rns 0 ps) := by rw [Hid, hz1]; exact ⟨h0, HL.out⟩
              clear hz1 h0
              go_wp2_with fail
              refine (unzip_any _ (ps.zip vs) wr (HPZ.out.kept HF.out) (by rw [HZN.out]; omega)).mono ?_
              rintro e x7 ⟨u7, v7, rfl, h7, g7, hf7⟩
              rw [HFM.out.1]
              rw [HFM.out.2] at h7
              rw [HUZ.out] at g7
              have HU7 : Hid (SOwn 63 0 x7 u7 (rns 0 ps)) := h7.mono (Nat.zero_le _)
              have HG7 : Hid (NOwn 2 0 x7 v7 vs) := g7.mono (Nat.zero_le _)
              have HF7 : Hid (Fr [] x6 x7) := HF.out.trans hf7 (by simp)
              clear h7 g7 hf7 HF HFW
              go_wp2_with fail
              refine (zip_any _ _ (rns 0 ps) vs x7 (HU7.out.src HRIN.out) (HG7.out.src H64.out)).mono ?_
              rintro e x8 ⟨p8, rfl, h8, hf8⟩
              rw [HE2.out.1]
              rw [HE2.out.2] at h8
              have HP8 : Hid (SOwn 36 0 x8 p8 (ps.zip vs)) := h8.mono (Nat.zero_le _)
              have HU8 : Hid (SOwn 63 0 x8 u7 (rns 0 ps)) := HU7.out.kept hf8
              have HF8 : Hid (Fr [] x6 x8) := HF7.out.trans hf8 (by simp)
              clear h8 hf8 HF7 HG7 HU7
              go_wp2_with fail
              refine (canonical_any _ (rns 0 ps) x8 (HU8.out.src HRIN.out)).mono ?_
              rintro e x9 ⟨rfl, hf9⟩
              rw [show cnn (rns 0 ps) = true from by rw [cnn_def]; exact decide_eq_true ⟨HK.out.1, HK.out.2.1⟩]
              have HP9 : Hid (SOwn 36 0 x9 p8 (ps.zip vs)) := HP8.out.kept hf9
              have HF9 : Hid (Fr [] x6 x9) := HF8.out.trans hf9 (by simp)
              clear hf9 HF8 HP8 HU8
              go_wp2_with fail
              refine (pequal_any _ _ (ps.zip vs) (ps.zip vs) x9 (HP9.out.src HIN.out) (HPZ.out.kept HF9.out)).mono ?_
              rintro e x10 ⟨rfl, hf10⟩
              rw [show decide (ps.zip vs = ps.zip vs) = true from by simp]
              have HF10 : Hid (Fr [] w x10) := (HF6.out.trans HF9.out (by simp)).trans hf10 (by simp)
              clear hf10 HF9 HP9
              go_wp2_with fail
              refine (awake7_any _).mono ?_
              rintro e w11 ⟨rfl, hf11⟩
              have HF11 : Hid (Fr [] w w11) := HF10.out.trans hf11 (by simp)
              clear hf11
              go_wp2
              go_ret
              exact ⟨rfl, HF11.out.below (Nat.le_refl _) (by simp)⟩
        · have e0 : zpe z0 vs = 10 := by unfold zpe; rw [if_pos hk0, if_neg (fun h => hlen h.symm)]
          have HZL : Hid (zpl z0 vs = []) := by unfold Hid zpl; rw [e0]; rfl
          have hp : p = .slice none 0 0 := by have := HP6.out; rw [HZL.out] at this; exact this.nil
          subst hp
          rw [e0]
          have hlen2 : ¬ ((pls z0).length : Int) = (vs.length : Int) := by omega
          clear HP6 HQ6 e0 hlen
          go_wp2_with fail
          refine (awake7_any _).mono ?_
          rintro e w9 ⟨rfl, hf9⟩
          have HF9 : Hid (Fr [] w w9) := HF6.out.trans hf9 (by simp)
          clear hf9
          go_wp2
          go_ret
          exact ⟨rfl, HF9.out.below (Nat.le_refl _) (by simp)⟩
      · have e0 : zpe z0 vs = chk z0 := by unfold zpe; rw [if_neg hk0]
        have HZL : Hid (zpl z0 vs = []) := by unfold Hid zpl; rw [e0, if_neg hk0]
        have hp : p = .slice none 0 0 := by have := HP4.out; rw [HZL.out] at this; exact this.nil
        subst hp
        rw [e0]
        clear HP4 e0
        go_wp2_with fail
        refine (awake7_any _).mono ?_
        rintro e w9 ⟨rfl, hf9⟩
        have HF9 : Hid (Fr [] w w9) := HF4.out.trans hf9 (by simp)
        clear hf9
        go_wp2
        go_ret
        exact ⟨rfl, HF9.out.below (Nat.le_refl _) (by simp)⟩
end Go.Proofs.Ytlcnjiibapehbaa
