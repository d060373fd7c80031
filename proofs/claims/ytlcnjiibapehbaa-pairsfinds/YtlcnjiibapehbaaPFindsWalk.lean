/-
  PairsFinds: whatever pairs, place and value, the law returns true, and nothing is turned that was there.
-/
import Derived.Test.YtlcnjiibapehbaaAwake7
import Derived.Test.YtlcnjiibapehbaaLaw7
import Derived.Test.YtlcnjiibapehbaaArgsP
import Derived.Test.YtlcnjiibapehbaaRefF7
namespace Go.Proofs.Ytlcnjiibapehbaa
open Go.RowKit Mem Spans
open Classical
set_option linter.unusedSimpArgs false
set_option linter.unusedVariables false
set_option maxRecDepth 100000

theorem wio_le (l : List Sp) (z : Int) : (wio l z).length ≤ l.length := List.length_filter_le _ _
theorem wio_in {l : List Sp} (h : ∀ s ∈ l, in64 s.1 ∧ in64 s.2) (z : Int) : ∀ s ∈ wio l z, in64 s.1 ∧ in64 s.2 := fun s hs => h s (List.mem_filter.1 hs).1
theorem wio_len (l : List Sp) (z : Int) : (wio l z).length = l.length ↔ l = wio l z := by
  constructor
  · intro h
    exact ((List.filter_sublist (l := l) (p := fun s : Sp => !decide (s.2 = z))).eq_of_length h).symm
  · intro h
    rw [← h]

set_option maxHeartbeats 4000000 in
theorem pfinds_walk (a0 : Option Addr) (len0 cap0 : Nat) (z0 : List Sp) (pl z : Int) (w : World) (w0 : IsSpans w a0 len0 cap0 z0) (w1 : (Lit.int .i64 pl).wf = true) (w2 : (Lit.int .i64 z).wf = true) :
    Calls Try.prog 5 #[.slice a0 len0 cap0, .int .i64 pl, .int .i64 z] w fun e w' => e = .returned (.bool true) ∧ Below w.heap.size w w' := by
  clear w1 w2
  obtain ⟨rfl, hsrc⟩ := w0
  have HS : Hid (SSrc w (.slice a0 z0.length cap0) z0) := hsrc
  obtain ⟨_, _, hv, hcap, hmax, h64, b, off, ha, hc⟩ := hsrc
  simp only [Value.slice.injEq] at hv
  obtain ⟨rfl, _, rfl⟩ := hv
  have HC : Hid (∀ j s, z0[j]? = some s → w.cell? ⟨b, off + j * 2, none⟩ = some (.int .i64 s.1) ∧ w.cell? ⟨b, off + j * 2 + 1, none⟩ = some (.int .i64 s.2)) := hc
  have HA : Hid (0 < z0.length → a0 = some ⟨b, off, none⟩) := ha
  have HZ : Hid (∀ s ∈ z0, in64 s.1 ∧ in64 s.2) := h64
  clear ha hc h64
  go_enter Try.func5, Try.ntmps5
  by_cases hl : 300 < z0.length
  · go_wp2_with fail
    refine (awake7_any _).mono ?_
    rintro e w1 ⟨rfl, hf1⟩
    go_wp2
    go_ret
    exact ⟨rfl, hf1.below (Nat.le_refl _) (by simp)⟩
  · have hle : z0.length ≤ 300 := by omega
    clear hl
    go_wp2_with fail
    refine (find_any _ z0 pl w HS.out).mono ?_
    rintro e x1 ⟨rfl, hf1⟩
    have HF1 : Hid (Fr [] w x1) := hf1
    clear hf1
    go_wp2_with fail
    refine (plain_any _ z0 x1 (HS.out.kept HF1.out) (by omega)).mono ?_
    rintro e x2 ⟨u2, rfl, h2, hf2⟩
    have HP2 : Hid (SSrc x2 u2 z0) := h2.src HZ.out
    have HF2 : Hid (Fr [] w x2) := HF1.out.trans hf2 (by simp)
    clear h2 hf2 HF1
    go_wp2_with fail
    refine (lfind_any _ z0 pl x2 HP2.out (by omega)).mono ?_
    rintro e x3 ⟨rfl, rfl⟩
    have HWT : Hid (∀ wx, Fr [] w wx → Calls Try.prog 22 #[.slice a0 z0.length cap0, .int .i64 z] wx fun e w' => ∃ u, e = .returned u ∧ SOwn 36 0 w' u (wio z0 z) ∧ Fr [] wx w') := by
      intro wx hf
      refine (without_any _ z0 z wx (HS.out.kept hf) (by omega)).mono ?_
      rintro e w' ⟨u, rfl, h, hf'⟩
      exact ⟨u, rfl, h.mono (Nat.zero_le _), hf'⟩
    by_cases hx : fdx z0 pl < z0.length
    · obtain ⟨s, hs, hs1⟩ := fdx_at hx
      have e1 : fnv z0 pl = s.2 := by unfold fnv; rw [hs]
      have e2 : fnb z0 pl = true := decide_eq_true hx
      have e3 : lfx z0 pl = (fdx z0 pl : Int) := by unfold lfx; rw [if_pos hx]
      obtain rfl := HA.out (by omega)
      have c1 : x2.cell? ⟨b, off + fdx z0 pl * 2 + 1, none⟩ = some (.int .i64 s.2) := HF2.out.cell_some (HC.out _ s hs).2 (by simp)
      rw [e1, e2, e3]
      clear e1 e2 e3 hs hs1
      generalize fdx z0 pl = X at *
      obtain ⟨o, n⟩ := s
      simp only at c1
      go_wp2_with fail
      refine (HWT.out x2 HF2.out).mono ?_
      rintro e x4 ⟨m, rfl, hm, hf4⟩
      obtain ⟨mo, mcap, rfl⟩ := hm.val
      have HM4 : Hid (SSrc x4 (.slice mo (wio z0 z).length mcap) (wio z0 z)) := hm.src (wio_in HZ.out z)
      have HF4 : Hid (Fr [] w x4) := HF2.out.trans hf4 (by simp)
      obtain ⟨_, _, hv, hmcap, hmmax, _, bm, offm, ham, hcm⟩ := HM4.out
      simp only [Value.slice.injEq] at hv
      obtain ⟨rfl, _, rfl⟩ := hv
      have HCM : Hid (∀ j s, (wio z0 z)[j]? = some s → x4.cell? ⟨bm, offm + j * 2, none⟩ = some (.int .i64 s.1) ∧ x4.cell? ⟨bm, offm + j * 2 + 1, none⟩ = some (.int .i64 s.2)) := hcm
      have HAM : Hid (0 < (wio z0 z).length → mo = some ⟨bm, offm, none⟩) := ham
      have hml := wio_le z0 z
      clear hm hf4 HF2 ham hcm HP2
      go_wp2
      go_loopw [11, 58] (fun c i wr => ∃ (k K : Nat), k ≤ z0.length ∧ i = .int .i64 (k : Int) ∧ c = .int .i64 (K : Int) ∧ K = (wio (z0.take k) z).length ∧ Fr [] x4 wr) (fun _ i _ => z0.length - (intOf i).toNat)
      case atStart => exact ⟨0, 0, by omega, rfl, rfl, by simp [wio], Fr.refl _ _⟩
      case round =>
        obtain ⟨k, K, hk, rfl, rfl, hK, hf⟩ := hrel
        have HF : Hid (Fr [] x4 wr) := hf
        have HK : Hid (K = (wio (z0.take k) z).length) := hK
        clear hf hK
        by_cases hlt : k < z0.length
        · have ha0 := HA.out (by omega)
          (try subst ha0)
          obtain ⟨s, hs⟩ := at_lt hlt
          have c0 : wr.cell? ⟨b, off + k * 2, none⟩ = some (.int .i64 s.1) := (HF4.out.trans HF.out (by simp)).cell_some (HC.out k s hs).1 (by simp)
          have c1 : wr.cell? ⟨b, off + k * 2 + 1, none⟩ = some (.int .i64 s.2) := (HF4.out.trans HF.out (by simp)).cell_some (HC.out k s hs).2 (by simp)
          have HT : Hid (wio (z0.take (k + 1)) z = wio (z0.take k) z ++ wio [s] z) := by rw [Hid, take_at hs]; simp [wio]
          have HD : Hid (wio z0 z = wio (z0.take k) z ++ (wio [s] z ++ wio (z0.drop (k + 1)) z)) := by
            rw [Hid]
            conv => lhs; rw [← List.take_append_drop k z0, drop_at hs]
            simp [wio]
            rw [List.filter_cons]
            split <;> simp_all
          clear hs
          obtain ⟨o, n⟩ := s
          simp only at c0 c1
          have HF2 : Hid (Fr [] x4 (wr.alloc (.cells #[.int .i64 o, .int .i64 n] 36))) := HF.out.alloc _
          by_cases hn : n = z
          · have HT2 : Hid (K = (wio (z0.take (k + 1)) z).length) := by rw [Hid, HT.out, HK.out]; simp [wio, hn]
            subst hn
            go_wp2
            go_roundw
            case rel => exact ⟨k + 1, K, by omega, by go_num, rfl, HT2.out, HF2.out⟩
            case measure => simp [intOf]; omega
          · have HT2 : Hid (K + 1 = (wio (z0.take (k + 1)) z).length) := by rw [Hid, HT.out, HK.out]; simp [wio, hn]
            have hat : (wio z0 z)[K]? = some (o, n) := by
              rw [HD.out, HK.out, List.getElem?_append_right (Nat.le_refl _), Nat.sub_self]
              simp [wio, hn]
            have hKl : K < (wio z0 z).length := (List.getElem?_eq_some_iff.1 hat).1
            have hmo := HAM.out (by omega)
            (try subst hmo)
            have m0 : (wr.alloc (.cells #[.int .i64 o, .int .i64 n] 36)).cell? ⟨bm, offm + K * 2, none⟩ = some (.int .i64 o) := HF2.out.cell_some (HCM.out K _ hat).1 (by simp)
            have m1 : (wr.alloc (.cells #[.int .i64 o, .int .i64 n] 36)).cell? ⟨bm, offm + K * 2 + 1, none⟩ = some (.int .i64 n) := HF2.out.cell_some (HCM.out K _ hat).2 (by simp)
            have p0 : (wr.alloc (.cells #[.int .i64 o, .int .i64 n] 36)).cell? ⟨wr.heap.size, 0, none⟩ = some (.int .i64 o) := by rw [World.cell?_alloc_at _ _ _ _ rfl]; rfl
            have p1 : (wr.alloc (.cells #[.int .i64 o, .int .i64 n] 36)).cell? ⟨wr.heap.size, 1, none⟩ = some (.int .i64 n) := by rw [World.cell?_alloc_at _ _ _ _ rfl]; rfl
            have d1 : decide (((wio z0 z).length : Int) ≤ (K : Int)) = false := decide_eq_false (by omega)
            have hKI : (K : Int) < ((wio z0 z).length : Int) := by omega
            clear hat
            go_wp2_with fail
            generalize hW : wr.alloc (.cells #[.int .i64 o, .int .i64 n] 36) = wA at *
            clear hW
            go_quiet (fail)
            go_wp2
            go_roundw
            case rel => exact ⟨k + 1, K + 1, by omega, by go_num, by go_num, HT2.out, HF2.out.drewN _⟩
            case measure => simp [intOf]; omega
        · have hKe : K = (wio z0 z).length := by
            have := HK.out
            rw [List.take_of_length_le (by omega)] at this
            exact this
          subst hKe
          have HFW : Hid (Fr [] w wr) := HF4.out.trans HF.out (by simp)
          have HMW : Hid (SSrc wr (.slice mo (wio z0 z).length mcap) (wio z0 z)) := HM4.out.kept HF.out
          clear HK HM4 HCM HAM HF
          go_wp2_with fail
          refine (pequal_any _ _ z0 z0 wr (HS.out.kept HFW.out) (HS.out.kept HFW.out)).mono ?_
          rintro e x5 ⟨rfl, hf5⟩
          rw [show decide (z0 = z0) = true from by simp]
          have HF5 : Hid (Fr [] w x5) := HFW.out.trans hf5 (by simp)
          have HM5 : Hid (SSrc x5 (.slice mo (wio z0 z).length mcap) (wio z0 z)) := HMW.out.kept hf5
          clear hf5 HFW HMW
          have HQ : Hid (((wio z0 z).length : Int) = (z0.length : Int) ↔ z0 = wio z0 z) := by rw [Hid, ← wio_len]; omega
          go_wp2_with fail
          refine (pequal_any _ _ z0 (wio z0 z) x5 (HS.out.kept HF5.out) HM5.out).mono ?_
          rintro e x6 ⟨rfl, hf6⟩
          have HF6 : Hid (Fr [] w x6) := HF5.out.trans hf6 (by simp)
          clear hf6 HF5 HM5
          rw [show decide (z0 = wio z0 z) = decide (((wio z0 z).length : Int) = (z0.length : Int)) from decide_eq_decide.2 HQ.out.symm]
          by_cases hq : ((wio z0 z).length : Int) = (z0.length : Int)
          · rw [decide_eq_true hq]
            go_wp2_with fail
            refine (awake7_any _).mono ?_
            rintro e w9 ⟨rfl, hf9⟩
            have HF9 : Hid (Fr [] w w9) := HF6.out.trans hf9 (by simp)
            clear hf9
            go_wp2
            go_ret
            exact ⟨rfl, HF9.out.below (Nat.le_refl _) (by simp)⟩
          · rw [decide_eq_false hq]
            have HB : Hid ((((wio z0 z).length : Int) == (z0.length : Int)) = false) := beq_eq_false_iff_ne.2 hq
            go_wp2_with fail
            refine (awake7_any _).mono ?_
            rintro e w9 ⟨rfl, hf9⟩
            have HF9 : Hid (Fr [] w w9) := HF6.out.trans hf9 (by simp)
            clear hf9
            go_wp2
            go_ret
            exact ⟨by show Ending.returned (Value.bool (!(((wio z0 z).length : Int) == (z0.length : Int)))) = _; rw [HB.out]; rfl, HF9.out.below (Nat.le_refl _) (by simp)⟩
    · have e1 : fnv z0 pl = 0 := by unfold fnv; rw [List.getElem?_eq_none (by omega)]
      have e2 : fnb z0 pl = false := decide_eq_false hx
      have e3 : lfx z0 pl = -1 := by unfold lfx; rw [if_neg hx]
      rw [e1, e2, e3]
      clear e1 e2 e3 hx
      go_wp2_with fail
      refine (HWT.out x2 HF2.out).mono ?_
      rintro e x4 ⟨m, rfl, hm, hf4⟩
      obtain ⟨mo, mcap, rfl⟩ := hm.val
      have HM4 : Hid (SSrc x4 (.slice mo (wio z0 z).length mcap) (wio z0 z)) := hm.src (wio_in HZ.out z)
      have HF4 : Hid (Fr [] w x4) := HF2.out.trans hf4 (by simp)
      obtain ⟨_, _, hv, hmcap, hmmax, _, bm, offm, ham, hcm⟩ := HM4.out
      simp only [Value.slice.injEq] at hv
      obtain ⟨rfl, _, rfl⟩ := hv
      have HCM : Hid (∀ j s, (wio z0 z)[j]? = some s → x4.cell? ⟨bm, offm + j * 2, none⟩ = some (.int .i64 s.1) ∧ x4.cell? ⟨bm, offm + j * 2 + 1, none⟩ = some (.int .i64 s.2)) := hcm
      have HAM : Hid (0 < (wio z0 z).length → mo = some ⟨bm, offm, none⟩) := ham
      have hml := wio_le z0 z
      clear hm hf4 HF2 ham hcm HP2
      go_wp2
      go_loopw [11, 58] (fun c i wr => ∃ (k K : Nat), k ≤ z0.length ∧ i = .int .i64 (k : Int) ∧ c = .int .i64 (K : Int) ∧ K = (wio (z0.take k) z).length ∧ Fr [] x4 wr) (fun _ i _ => z0.length - (intOf i).toNat)
      case atStart => exact ⟨0, 0, by omega, rfl, rfl, by simp [wio], Fr.refl _ _⟩
      case round =>
        obtain ⟨k, K, hk, rfl, rfl, hK, hf⟩ := hrel
        have HF : Hid (Fr [] x4 wr) := hf
        have HK : Hid (K = (wio (z0.take k) z).length) := hK
        clear hf hK
        by_cases hlt : k < z0.length
        · have ha0 := HA.out (by omega)
          (try subst ha0)
          obtain ⟨s, hs⟩ := at_lt hlt
          have c0 : wr.cell? ⟨b, off + k * 2, none⟩ = some (.int .i64 s.1) := (HF4.out.trans HF.out (by simp)).cell_some (HC.out k s hs).1 (by simp)
          have c1 : wr.cell? ⟨b, off + k * 2 + 1, none⟩ = some (.int .i64 s.2) := (HF4.out.trans HF.out (by simp)).cell_some (HC.out k s hs).2 (by simp)
          have HT : Hid (wio (z0.take (k + 1)) z = wio (z0.take k) z ++ wio [s] z) := by rw [Hid, take_at hs]; simp [wio]
          have HD : Hid (wio z0 z = wio (z0.take k) z ++ (wio [s] z ++ wio (z0.drop (k + 1)) z)) := by
            rw [Hid]
            conv => lhs; rw [← List.take_append_drop k z0, drop_at hs]
            simp [wio]
            rw [List.filter_cons]
            split <;> simp_all
          clear hs
          obtain ⟨o, n⟩ := s
          simp only at c0 c1
          have HF2 : Hid (Fr [] x4 (wr.alloc (.cells #[.int .i64 o, .int .i64 n] 36))) := HF.out.alloc _
          by_cases hn : n = z
          · have HT2 : Hid (K = (wio (z0.take (k + 1)) z).length) := by rw [Hid, HT.out, HK.out]; simp [wio, hn]
            subst hn
            go_wp2
            go_roundw
            case rel => exact ⟨k + 1, K, by omega, by go_num, rfl, HT2.out, HF2.out⟩
            case measure => simp [intOf]; omega
          · have HT2 : Hid (K + 1 = (wio (z0.take (k + 1)) z).length) := by rw [Hid, HT.out, HK.out]; simp [wio, hn]
            have hat : (wio z0 z)[K]? = some (o, n) := by
              rw [HD.out, HK.out, List.getElem?_append_right (Nat.le_refl _), Nat.sub_self]
              simp [wio, hn]
            have hKl : K < (wio z0 z).length := (List.getElem?_eq_some_iff.1 hat).1
            have hmo := HAM.out (by omega)
            (try subst hmo)
            have m0 : (wr.alloc (.cells #[.int .i64 o, .int .i64 n] 36)).cell? ⟨bm, offm + K * 2, none⟩ = some (.int .i64 o) := HF2.out.cell_some (HCM.out K _ hat).1 (by simp)
            have m1 : (wr.alloc (.cells #[.int .i64 o, .int .i64 n] 36)).cell? ⟨bm, offm + K * 2 + 1, none⟩ = some (.int .i64 n) := HF2.out.cell_some (HCM.out K _ hat).2 (by simp)
            have p0 : (wr.alloc (.cells #[.int .i64 o, .int .i64 n] 36)).cell? ⟨wr.heap.size, 0, none⟩ = some (.int .i64 o) := by rw [World.cell?_alloc_at _ _ _ _ rfl]; rfl
            have p1 : (wr.alloc (.cells #[.int .i64 o, .int .i64 n] 36)).cell? ⟨wr.heap.size, 1, none⟩ = some (.int .i64 n) := by rw [World.cell?_alloc_at _ _ _ _ rfl]; rfl
            have d1 : decide (((wio z0 z).length : Int) ≤ (K : Int)) = false := decide_eq_false (by omega)
            have hKI : (K : Int) < ((wio z0 z).length : Int) := by omega
            clear hat
            go_wp2_with fail
            generalize hW : wr.alloc (.cells #[.int .i64 o, .int .i64 n] 36) = wA at *
            clear hW
            go_quiet (fail)
            go_wp2
            go_roundw
            case rel => exact ⟨k + 1, K + 1, by omega, by go_num, by go_num, HT2.out, HF2.out.drewN _⟩
            case measure => simp [intOf]; omega
        · have hKe : K = (wio z0 z).length := by
            have := HK.out
            rw [List.take_of_length_le (by omega)] at this
            exact this
          subst hKe
          have HFW : Hid (Fr [] w wr) := HF4.out.trans HF.out (by simp)
          have HMW : Hid (SSrc wr (.slice mo (wio z0 z).length mcap) (wio z0 z)) := HM4.out.kept HF.out
          clear HK HM4 HCM HAM HF
          go_wp2_with fail
          refine (pequal_any _ _ z0 z0 wr (HS.out.kept HFW.out) (HS.out.kept HFW.out)).mono ?_
          rintro e x5 ⟨rfl, hf5⟩
          rw [show decide (z0 = z0) = true from by simp]
          have HF5 : Hid (Fr [] w x5) := HFW.out.trans hf5 (by simp)
          have HM5 : Hid (SSrc x5 (.slice mo (wio z0 z).length mcap) (wio z0 z)) := HMW.out.kept hf5
          clear hf5 HFW HMW
          have HQ : Hid (((wio z0 z).length : Int) = (z0.length : Int) ↔ z0 = wio z0 z) := by rw [Hid, ← wio_len]; omega
          go_wp2_with fail
          refine (pequal_any _ _ z0 (wio z0 z) x5 (HS.out.kept HF5.out) HM5.out).mono ?_
          rintro e x6 ⟨rfl, hf6⟩
          have HF6 : Hid (Fr [] w x6) := HF5.out.trans hf6 (by simp)
          clear hf6 HF5 HM5
          rw [show decide (z0 = wio z0 z) = decide (((wio z0 z).length : Int) = (z0.length : Int)) from decide_eq_decide.2 HQ.out.symm]
          by_cases hq : ((wio z0 z).length : Int) = (z0.length : Int)
          · rw [decide_eq_true hq]
            go_wp2_with fail
            refine (awake7_any _).mono ?_
            rintro e w9 ⟨rfl, hf9⟩
            have HF9 : Hid (Fr [] w w9) := HF6.out.trans hf9 (by simp)
            clear hf9
            go_wp2
            go_ret
            exact ⟨rfl, HF9.out.below (Nat.le_refl _) (by simp)⟩
          · rw [decide_eq_false hq]
            have HB : Hid ((((wio z0 z).length : Int) == (z0.length : Int)) = false) := beq_eq_false_iff_ne.2 hq
            go_wp2_with fail
            refine (awake7_any _).mono ?_
            rintro e w9 ⟨rfl, hf9⟩
            have HF9 : Hid (Fr [] w w9) := HF6.out.trans hf9 (by simp)
            clear hf9
            go_wp2
            go_ret
            exact ⟨by show Ending.returned (Value.bool (!(((wio z0 z).length : Int) == (z0.length : Int)))) = _; rw [HB.out]; rfl, HF9.out.below (Nat.le_refl _) (by simp)⟩
end Go.Proofs.Ytlcnjiibapehbaa
