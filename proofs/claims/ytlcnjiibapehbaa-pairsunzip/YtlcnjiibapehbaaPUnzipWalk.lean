/-
  PairsUnzip: whatever pairs, the law returns true, and nothing is turned that was there.
-/
import Derived.Test.YtlcnjiibapehbaaAwake7
import Derived.Test.YtlcnjiibapehbaaLaw7
import Derived.Test.YtlcnjiibapehbaaArgsP
namespace Go.Proofs.Ytlcnjiibapehbaa
open Go.RowKit Mem Spans
open Classical
set_option linter.unusedSimpArgs false
set_option linter.unusedVariables false
set_option maxRecDepth 100000

set_option maxHeartbeats 4000000 in
theorem punzip_walk (a0 : Option Addr) (len0 cap0 : Nat) (z0 : List Sp) (w : World) (w0 : IsSpans w a0 len0 cap0 z0) :
    Calls Try.prog 4 #[.slice a0 len0 cap0] w fun e w' => e = .returned (.bool true) ∧ Below w.heap.size w w' := by
  obtain ⟨rfl, hsrc⟩ := w0
  have HS : Hid (SSrc w (.slice a0 z0.length cap0) z0) := hsrc
  obtain ⟨_, _, hv, hcap, hmax, h64, b, off, ha, hc⟩ := hsrc
  simp only [Value.slice.injEq] at hv
  obtain ⟨rfl, _, rfl⟩ := hv
  have HC : Hid (∀ j s, z0[j]? = some s → w.cell? ⟨b, off + j * 2, none⟩ = some (.int .i64 s.1) ∧ w.cell? ⟨b, off + j * 2 + 1, none⟩ = some (.int .i64 s.2)) := hc
  have HA : Hid (0 < z0.length → a0 = some ⟨b, off, none⟩) := ha
  have HZ : Hid (∀ s ∈ z0, in64 s.1 ∧ in64 s.2) := h64
  obtain ⟨i1, hi1⟩ := ninfo_int
  have HI1 : Hid (NInfo 3 i1) := hi1
  clear ha hc h64 hi1
  go_enter Try.func4, Try.ntmps4
  by_cases hl : 300 < z0.length
  · go_wp2_with fail
    refine (awake7_any _).mono ?_
    rintro e w1 ⟨rfl, hf1⟩
    go_wp2
    go_ret
    exact ⟨rfl, hf1.below (Nat.le_refl _) (by simp)⟩
  · have hle : z0.length ≤ 300 := by omega
    clear hl
    go_wp2
    go_loopw [3, 16] (fun u i wr => ∃ (k : Nat), k ≤ z0.length ∧ i = .int .i64 (k : Int) ∧ NOwn 3 w.heap.size wr u (fsts (z0.take k)) ∧ Fr [] w wr) (fun _ i _ => z0.length - (intOf i).toNat)
    case atStart => exact ⟨0, by omega, rfl, .inl ⟨by simp [fsts], rfl⟩, Fr.refl _ _⟩
    case round =>
      obtain ⟨k, hk, rfl, hso, hf⟩ := hrel
      have HF : Hid (Fr [] w wr) := hf
      have HN : Hid (NOwn 3 w.heap.size wr u3 (fsts (z0.take k))) := hso
      clear hf hso
      by_cases hlt : k < z0.length
      · obtain rfl := HA.out (by omega)
        obtain ⟨s, hs⟩ := at_lt hlt
        have c0 : wr.cell? ⟨b, off + k * 2, none⟩ = some (.int .i64 s.1) := HF.out.cell_some (HC.out k s hs).1 (by simp)
        have c1 : wr.cell? ⟨b, off + k * 2 + 1, none⟩ = some (.int .i64 s.2) := HF.out.cell_some (HC.out k s hs).2 (by simp)
        have HT : Hid (fsts (z0.take (k + 1)) = fsts (z0.take k) ++ [s.1]) := by rw [Hid, take_at hs]; simp [fsts]
        have HL : Hid ((fsts (z0.take k)).length ≤ 1000000) := by rw [Hid, fsts_length, List.length_take]; omega
        have HSZ : Hid (w.heap.size ≤ wr.heap.size) := HF.out.size
        clear hs
        obtain ⟨o, n⟩ := s
        simp only at c0 c1
        go_wp2_with (at_builtin; refine wpList_append_n _ rfl _ _ 33 rfl Try.underlying33 HI1.out.1 HI1.out.2.1 HI1.out.2.2.1 HI1.out.2.2.2 (B := w.heap.size) (s := o) (by have := HSZ.out; simp; omega) rfl rfl (HN.out.kept (((Fr.refl [] _).alloc _).alloc _)) (lit_n 3 (wr.alloc _) [o] (World.size_alloc _ _) (by have := HSZ.out; omega) (by simp) (by unfold maxLen; simp)) HL.out ?_; intro v3 w3 ho3 hb3; have HO3 : Hid (NOwn 3 w.heap.size w3 v3 (fsts (z0.take k) ++ [o])) := ho3; have HB3 : Hid (Fr [] w w3) := Fr.ofBelow ((((HF.out.alloc _).alloc _).below (Nat.le_refl _) (by simp)).trans hb3); clear ho3 hb3)
        go_roundw
        case rel => exact ⟨k + 1, by omega, by go_num, by rw [HT.out]; exact HO3.out, HB3.out⟩
        case measure => simp [intOf]; omega
      · have HN2 : Hid (NOwn 3 w.heap.size wr u3 (fsts z0)) := by
          have := HN.out
          rw [List.take_of_length_le (by omega)] at this
          exact this
        have HFI : Hid (∀ z ∈ fsts z0, in64 z) := by
          intro z hz
          obtain ⟨s, hs, rfl⟩ := List.mem_map.1 hz
          exact (HZ.out s hs).1
        have HSI : Hid (∀ z ∈ snds z0, in64 z) := by
          intro z hz
          obtain ⟨s, hs, rfl⟩ := List.mem_map.1 hz
          exact (HZ.out s hs).2
        clear HN
        go_wp2_with fail
        refine (unzip_any _ z0 wr (HS.out.kept HF.out) (by omega)).mono ?_
        rintro e w1 ⟨u, x, rfl, hu, hx, hf1⟩
        have HF1 : Hid (Fr [] w w1) := HF.out.trans hf1 (by simp)
        have HN1 : Hid (NOwn 3 w.heap.size w1 u3 (fsts z0)) := HN2.out.kept hf1
        have HU1 : Hid (SOwn 63 0 w1 u (frl (fsts z0))) := hu.mono (Nat.zero_le _)
        have HX1 : Hid (NOwn 2 0 w1 x (uzv z0)) := hx.mono (Nat.zero_le _)
        clear hu hx hf1 HF HN2
        go_wp2_with fail
        refine (rising_any _ (fsts z0) w1 (HN1.out.src HFI.out)).mono ?_
        rintro e w2 ⟨rfl, hf2⟩
        have HF2 : Hid (Fr [] w w2) := HF1.out.trans hf2 (by simp)
        have HN2 : Hid (NOwn 3 w.heap.size w2 u3 (fsts z0)) := HN1.out.kept hf2
        have HU2 : Hid (SOwn 63 0 w2 u (frl (fsts z0))) := HU1.out.kept hf2
        have HX2 : Hid (NOwn 2 0 w2 x (uzv z0)) := HX1.out.kept hf2
        clear hf2 HF1 HN1 HU1 HX1
        have HFL : Hid ((fsts z0).length = z0.length) := fsts_length z0
        by_cases hr : rises (-1048576) (fsts z0)
        · rw [decide_eq_true hr]
          have h0 : frm (fsts z0) = 0 := frm_zero.2 ⟨hr, by rw [HFL.out]; omega, by rw [rns_runs]; have := rn_le_length none (fsts z0); rw [HFL.out] at this; omega⟩
          have HL : Hid (frl (fsts z0) = rns 0 (fsts z0)) := by unfold Hid frl; rw [if_pos h0]
          have HK : Hid (chk (rns 0 (fsts z0)) = 0 ∧ shp true (rns 0 (fsts z0)) ∧ plc 0 (rns 0 (fsts z0)) = fsts z0) := frm_ok h0
          have HP : Hid (pls (rns 0 (fsts z0)) = fsts z0) := by unfold Hid pls; rw [if_pos HK.out.1]; exact HK.out.2.2
          have HRL : Hid ((rns 0 (fsts z0)).length ≤ 300) := by rw [Hid, rns_runs]; have := rn_le_length none (fsts z0); rw [HFL.out] at this; omega
          have HIN : Hid (∀ s ∈ rns 0 (fsts z0), in64 s.1 ∧ in64 s.2) := by rw [Hid, ← HL.out]; exact frl_in (fsts z0)
          have HX3 : Hid (NOwn 2 0 w2 x (snds z0)) := by have := HX2.out; rw [uzv, if_pos h0] at this; exact this
          have HU3 : Hid (SOwn 63 0 w2 u (rns 0 (fsts z0))) := by rw [Hid, ← HL.out]; exact HU2.out
          rw [h0]
          have hxv := HX3.out.val
          rw [snds_length] at hxv
          obtain ⟨xo, xcap, rfl⟩ := hxv
          clear HU2 HX2 hr h0 HL
          go_wp2_with fail
          refine (lref7_any _ (rns 0 (fsts z0)) w2 (HU3.out.src HIN.out) (by have := HRL.out; omega)).mono ?_
          rintro e w3 ⟨v3, rfl, h3, hf3⟩
          have HF3 : Hid (Fr [] w w3) := HF2.out.trans hf3 (by simp)
          have HN3 : Hid (NOwn 3 w.heap.size w3 u3 (fsts z0)) := HN2.out.kept hf3
          have HX4 : Hid (NOwn 2 0 w3 (.slice xo z0.length xcap) (snds z0)) := HX3.out.kept hf3
          have HV3 : Hid (SOwn 69 w2.heap.size w3 v3 (rns 0 (fsts z0))) := h3
          clear h3 hf3 HF2 HN2 HX3 HU3
          go_wp2_with fail
          refine (lplaces_any _ (rns 0 (fsts z0)) w3 (HV3.out.src HIN.out) HK.out.1).mono ?_
          rintro e w4 ⟨v4, rfl, h4, hf4⟩
          rw [HP.out] at h4
          have HF4 : Hid (Fr [] w w4) := HF3.out.trans hf4 (by simp)
          have HN4 : Hid (NOwn 3 w.heap.size w4 u3 (fsts z0)) := HN3.out.kept hf4
          have HX5 : Hid (NOwn 2 0 w4 (.slice xo z0.length xcap) (snds z0)) := HX4.out.kept hf4
          have HV4 : Hid (IOwn w3.heap.size w4 v4 (fsts z0)) := h4
          clear h4 hf4 HF3 HN3 HX4 HV3
          go_wp2_with fail
          refine (same_any _ _ (fsts z0) (fsts z0) w4 (HV4.out.src HFI.out) (HN4.out.src HFI.out)).mono ?_
          rintro e w5 ⟨rfl, hf5⟩
          rw [show decide (fsts z0 = fsts z0) = true from by simp]
          have HF5 : Hid (Fr [] w w5) := HF4.out.trans hf5 (by simp)
          have HX6 : Hid (NOwn 2 0 w5 (.slice xo z0.length xcap) (snds z0)) := HX5.out.kept hf5
          clear hf5 HF4 HN4 HX5 HV4
          obtain ⟨_, _, hv, hxcap, hxmax, _, bx, offx, hax, hcx⟩ := HX6.out.src HSI.out
          simp only [Value.slice.injEq] at hv
          obtain ⟨rfl, hq, rfl⟩ := hv
          clear hq
          rw [snds_length] at hxcap hax
          have HCX : Hid (∀ j s, z0[j]? = some s → w5.cell? ⟨bx, offx + j, none⟩ = some (.int .i64 s.2)) := by
            intro j s hj
            refine hcx j s.2 ?_
            rw [snds, List.getElem?_map, hj]; rfl
          have HAX : Hid (0 < z0.length → xo = some ⟨bx, offx, none⟩) := hax
          clear hax hcx
          clear hlt hk
          go_wp2
          go_loopw [69] (fun i wr => ∃ (k : Nat), k ≤ z0.length ∧ i = .int .i64 (k : Int) ∧ Fr [] w5 wr) (fun i _ => z0.length - (intOf i).toNat)
          case atStart => exact ⟨0, by omega, rfl, Fr.refl _ _⟩
          case round =>
            obtain ⟨k2, hk2, rfl, hf⟩ := hrel
            have HF : Hid (Fr [] w5 wr) := hf
            clear hf
            by_cases hlt2 : k2 < z0.length
            · obtain rfl := HA.out (by omega)
              obtain rfl := HAX.out (by omega)
              obtain ⟨s, hs⟩ := at_lt hlt2
              have c1 : wr.cell? ⟨b, off + k2 * 2 + 1, none⟩ = some (.int .i64 s.2) := (HF5.out.trans HF.out (by simp)).cell_some (HC.out k2 s hs).2 (by simp)
              have c2 : wr.cell? ⟨bx, offx + k2, none⟩ = some (.int .i64 s.2) := HF.out.cell_some (HCX.out k2 s hs) (by simp)
              clear hs
              go_wp2_with fail
              go_quiet (fail)
              go_wp2
              go_roundw
              case rel => exact ⟨k2 + 1, by omega, by go_num, HF.out.drewN _⟩
              case measure => simp [intOf]; omega
            · go_wp2_with fail
              refine (awake7_any _).mono ?_
              rintro e w8 ⟨rfl, hf8⟩
              have HF8 : Hid (Fr [] w w8) := (HF5.out.trans HF.out (by simp)).trans hf8 (by simp)
              clear hf8
              go_wp2
              go_ret
              exact ⟨rfl, HF8.out.below (Nat.le_refl _) (by simp)⟩
        · rw [decide_eq_false hr]
          have h0 : frm (fsts z0) = 11 := by rw [frm_def]; rw [if_neg hr]
          have HL : Hid (frl (fsts z0) = []) := by unfold Hid frl; rw [h0]; rfl
          have HL2 : Hid (uzv z0 = []) := by unfold Hid uzv; rw [h0]; rfl
          have hu : u = .slice none 0 0 := by have := HU2.out; rw [HL.out] at this; exact this.nil
          have hx : x = .slice none 0 0 := by have := HX2.out; rw [HL2.out] at this; exact this.nil
          subst hu hx
          rw [h0]
          clear HU2 HX2 hr h0
          go_wp2_with fail
          refine (awake7_any _).mono ?_
          rintro e w3 ⟨rfl, hf3⟩
          have HF3 : Hid (Fr [] w w3) := HF2.out.trans hf3 (by simp)
          clear hf3
          go_wp2
          go_ret
          exact ⟨rfl, HF3.out.below (Nat.le_refl _) (by simp)⟩
end Go.Proofs.Ytlcnjiibapehbaa
