/-
  PairsMerge: whatever two lists of pairs, the law returns true, and nothing is turned that was there.
-/
import Derived.Test.YtlcnjiibapehbaaAwake7
import Derived.Test.YtlcnjiibapehbaaLaw7
import Derived.Test.YtlcnjiibapehbaaArgsP
import Derived.Test.YtlcnjiibapehbaaPMergeL
import Derived.Test.YtlcnjiibapehbaaPMergeW
namespace Go.Proofs.Ytlcnjiibapehbaa
open Go.RowKit Mem Spans
set_option linter.unusedSimpArgs false
set_option linter.unusedVariables false
set_option maxRecDepth 100000

/-- The law's own way to join. -/
def jn (x y : Int) : Int := wrap64 (wrap64 (3 * x) + y)
theorem wrap_i64 (z : Int) : IntKind.i64.wrap z = wrap64 z := by unfold IntKind.wrap wrap64; simp [IntKind.bits, IntKind.signed]; omega
theorem jn_in (x y : Int) : in64 (jn x y) := by unfold jn in64 wrap64; omega
set_option maxHeartbeats 400000 in
theorem join_any (x y : Int) (w : World) : Calls Try.prog 25 #[.int .i64 x, .int .i64 y] w fun e w' => e = .returned (.int .i64 (jn x y)) ∧ w' = w := by
  go_enter Try.func25, Try.ntmps25
  go_wp2
  go_ret
  exact ⟨rfl, rfl⟩

set_option maxHeartbeats 4000000 in
theorem pmerge_walk (a0 : Option Addr) (len0 cap0 : Nat) (z0 : List Sp) (a1 : Option Addr) (len1 cap1 : Nat) (z1 : List Sp) (w : World) (w0 : IsSpans w a0 len0 cap0 z0) (w1 : IsSpans w a1 len1 cap1 z1) :
    Calls Try.prog 6 #[.slice a0 len0 cap0, .slice a1 len1 cap1] w fun e w' => e = .returned (.bool true) ∧ Below w.heap.size w w' := by
  obtain ⟨rfl, hsrc⟩ := w0
  obtain ⟨rfl, hsrc1⟩ := w1
  have HS : Hid (SSrc w (.slice a0 z0.length cap0) z0) := hsrc
  have HT : Hid (SSrc w (.slice a1 z1.length cap1) z1) := hsrc1
  obtain ⟨_, _, hv, hcap, hmax, h64, b, off, ha, hc⟩ := hsrc
  simp only [Value.slice.injEq] at hv
  obtain ⟨rfl, _, rfl⟩ := hv
  obtain ⟨_, _, hv, hcap1, hmax1, h641, b1, off1, ha1, hc1⟩ := hsrc1
  simp only [Value.slice.injEq] at hv
  obtain ⟨rfl, _, rfl⟩ := hv
  have HC : Hid (∀ j s, z0[j]? = some s → w.cell? ⟨b, off + j * 2, none⟩ = some (.int .i64 s.1) ∧ w.cell? ⟨b, off + j * 2 + 1, none⟩ = some (.int .i64 s.2)) := hc
  have HA : Hid (0 < z0.length → a0 = some ⟨b, off, none⟩) := ha
  have HZ : Hid (∀ s ∈ z0, in64 s.1 ∧ in64 s.2) := h64
  have HC1 : Hid (∀ j s, z1[j]? = some s → w.cell? ⟨b1, off1 + j * 2, none⟩ = some (.int .i64 s.1) ∧ w.cell? ⟨b1, off1 + j * 2 + 1, none⟩ = some (.int .i64 s.2)) := hc1
  have HA1 : Hid (0 < z1.length → a1 = some ⟨b1, off1, none⟩) := ha1
  have HZ1 : Hid (∀ s ∈ z1, in64 s.1 ∧ in64 s.2) := h641
  clear ha hc h64 ha1 hc1 h641
  have HAW : Hid (∀ wx, Fr [] w wx → Calls Try.prog 9 #[] wx fun e w' => e = .returned (.bool true) ∧ Fr [] w w') := by
    intro wx hf
    refine (awake7_any wx).mono ?_
    rintro e w' ⟨rfl, hf'⟩
    exact ⟨rfl, hf.trans hf' (by simp)⟩
  have HEND : Hid (∀ wx, Fr [] w wx → Below w.heap.size w wx) := fun wx hf => hf.below (Nat.le_refl _) (by simp)
  go_enter Try.func6, Try.ntmps6
  by_cases hl : 200 < z0.length
  · go_wp2_with fail
    refine (HAW.out _ (Fr.refl _ _)).mono ?_
    rintro e w1 ⟨rfl, hf1⟩
    go_wp2
    go_ret
    exact ⟨rfl, HEND.out _ hf1⟩
  by_cases hl1 : 200 < z1.length
  · go_wp2_with fail
    refine (HAW.out _ (Fr.refl _ _)).mono ?_
    rintro e w1 ⟨rfl, hf1⟩
    go_wp2
    go_ret
    exact ⟨rfl, HEND.out _ hf1⟩
  have hle : z0.length ≤ 200 := by omega
  have hle1 : z1.length ≤ 200 := by omega
  clear hl hl1
  go_wp2_with fail
  refine (plain_any _ z0 w HS.out (by omega)).mono ?_
  rintro e x1 ⟨u1, rfl, h1, hf1⟩
  have HP1 : Hid (SSrc x1 u1 z0) := h1.src HZ.out
  have HF1 : Hid (Fr [] w x1) := hf1
  clear h1 hf1
  go_wp2_with fail
  refine (lrisingP_any _ z0 x1 HP1.out (by omega)).mono ?_
  rintro e x2 ⟨rfl, hf2⟩
  have HF2 : Hid (Fr [] w x2) := HF1.out.trans hf2 (by simp)
  clear hf2 HP1 HF1
  by_cases hr0 : risB z0 = true
  rotate_left
  · rw [show risB z0 = false from by simpa using hr0]
    go_wp2_with fail
    refine (HAW.out _ HF2.out).mono ?_
    rintro e w1 ⟨rfl, hf1⟩
    go_wp2
    go_ret
    exact ⟨rfl, HEND.out _ hf1⟩
  rw [hr0]
  have HR0 : Hid (asc z0) := (asc_iff z0).1 hr0
  clear hr0
  go_wp2_with fail
  refine (plain_any _ z1 x2 (HT.out.kept HF2.out) (by omega)).mono ?_
  rintro e x3 ⟨u3, rfl, h3, hf3⟩
  have HP3 : Hid (SSrc x3 u3 z1) := h3.src HZ1.out
  have HF3 : Hid (Fr [] w x3) := HF2.out.trans hf3 (by simp)
  clear h3 hf3 HF2
  go_wp2_with fail
  refine (lrisingP_any _ z1 x3 HP3.out (by omega)).mono ?_
  rintro e x4 ⟨rfl, hf4⟩
  have HF4 : Hid (Fr [] w x4) := HF3.out.trans hf4 (by simp)
  clear hf4 HP3 HF3
  by_cases hr1 : risB z1 = true
  rotate_left
  · rw [show risB z1 = false from by simpa using hr1]
    go_wp2_with fail
    refine (HAW.out _ HF4.out).mono ?_
    rintro e w1 ⟨rfl, hf1⟩
    go_wp2
    go_ret
    exact ⟨rfl, HEND.out _ hf1⟩
  rw [hr1]
  have HR1 : Hid (asc z1) := (asc_iff z1).1 hr1
  clear hr1
  have HMK : Hid (MOk jn z0 z1 (mrp jn z0 z1)) := mrp_ok jn HR0.out HR1.out
  have HML : Hid ((mrp jn z0 z1).length ≤ 400) := by have := HMK.out.2.2; rw [Hid]; omega
  have HMI : Hid (∀ s ∈ mrp jn z0 z1, in64 s.1 ∧ in64 s.2) := mok_in HMK.out HZ.out HZ1.out jn_in
  have HENT : Hid (∀ args w, (callFunc 25 args).run Try.prog w = .ok (.enter 25 args) w) := enters_of Try.func25 (by kernel_rfl) rfl
  have HMG : Hid (∀ wx, Fr [] w wx → Calls Try.prog 24 #[.slice a0 z0.length cap0, .slice a1 z1.length cap1, .func (.func 25) #[] #[]] wx fun e w' => ∃ r, e = .returned r ∧ SOwn 36 wx.heap.size w' r (mrp jn z0 z1) ∧ Fr [] wx w') := by
    intro wx hf
    exact merge_any jn _ HENT.out (fun x y w _ _ => join_any x y w) _ _ z0 z1 wx (HS.out.kept hf) (HT.out.kept hf) (by omega)
  clear HENT
  generalize hM : mrp jn z0 z1 = M at *
  clear hM
  go_wp2_with fail
  refine (HMG.out _ HF4.out).mono ?_
  rintro e x5 ⟨m, rfl, hm, hf5⟩
  have HF5 : Hid (Fr [] w x5) := HF4.out.trans hf5 (by simp)
  have HM5 : Hid (SSrc x5 m M) := hm.src HMI.out
  obtain ⟨mo, mcap, rfl⟩ := hm.val
  clear hm hf5 HF4 HMG
  go_wp2_with fail
  refine (plain_any _ M x5 HM5.out (by have := HML.out; omega)).mono ?_
  rintro e x6 ⟨u6, rfl, h6, hf6⟩
  have HP6 : Hid (SSrc x6 u6 M) := h6.src HMI.out
  have HM6 : Hid (SSrc x6 (.slice mo M.length mcap) M) := HM5.out.kept hf6
  have HF6 : Hid (Fr [] w x6) := HF5.out.trans hf6 (by simp)
  clear h6 hf6 HF5 HM5
  go_wp2_with fail
  refine (lrisingP_any _ M x6 HP6.out (by have := HML.out; omega)).mono ?_
  rintro e x7 ⟨rfl, hf7⟩
  rw [(asc_iff M).2 HMK.out.1]
  have HM7 : Hid (SSrc x7 (.slice mo M.length mcap) M) := HM6.out.kept hf7
  have HF7 : Hid (Fr [] w x7) := HF6.out.trans hf7 (by simp)
  clear hf7 HF6 HP6 HM6
  obtain ⟨_, _, hv, hmcap, hmmax, _, bm, offm, ham, hcm⟩ := HM7.out
  simp only [Value.slice.injEq] at hv
  obtain ⟨rfl, _, rfl⟩ := hv
  have HCM : Hid (∀ j s, M[j]? = some s → x7.cell? ⟨bm, offm + j * 2, none⟩ = some (.int .i64 s.1) ∧ x7.cell? ⟨bm, offm + j * 2 + 1, none⟩ = some (.int .i64 s.2)) := hcm
  have HAM : Hid (0 < M.length → mo = some ⟨bm, offm, none⟩) := ham
  have hml := HML.out
  clear ham hcm HM7
  go_wp2
  go_loopw [6, 42] (fun c i wr => ∃ (k K : Nat), k ≤ M.length ∧ i = .int .i64 (k : Int) ∧ c = .int .i64 (K : Int) ∧ K = bth z0 z1 (M.take k) ∧ Fr [] x7 wr) (fun _ i _ => M.length - (intOf i).toNat)
  case atStart => exact ⟨0, 0, by omega, rfl, rfl, by simp [bth], Fr.refl _ _⟩
  case round =>
    obtain ⟨k, K, hk, rfl, rfl, hK, hf⟩ := hrel
    have HF : Hid (Fr [] x7 wr) := hf
    have HK : Hid (K = bth z0 z1 (M.take k)) := hK
    have hKb : K ≤ 400 := by
      have h1 : bth z0 z1 (M.take k) ≤ (M.take k).length := List.length_filter_le _ _
      rw [List.length_take] at h1
      omega
    clear hf hK
    by_cases hlt : k < M.length
    · obtain rfl := HAM.out (by omega)
      obtain ⟨s, hs⟩ := at_lt hlt
      have c0 : wr.cell? ⟨bm, offm + k * 2, none⟩ = some (.int .i64 s.1) := HF.out.cell_some (HCM.out k s hs).1 (by simp)
      have c1 : wr.cell? ⟨bm, offm + k * 2 + 1, none⟩ = some (.int .i64 s.2) := HF.out.cell_some (HCM.out k s hs).2 (by simp)
      have HW : Hid (wnt jn z0 z1 s.1 = some s.2) := HMK.out.2.1 s (List.mem_of_getElem? hs)
      have HB : Hid (bth z0 z1 (M.take (k + 1)) = K + if inB z0 z1 s = true then 1 else 0) := by
        rw [Hid, take_at hs, HK.out]
        unfold bth
        rw [List.filter_append, List.length_append, List.filter_cons]
        split <;> simp
      clear hs
      obtain ⟨o, n⟩ := s
      simp only at c0 c1
      have p0 : (wr.alloc (.cells #[.int .i64 o, .int .i64 n] 36)).cell? ⟨wr.heap.size, 0, none⟩ = some (.int .i64 o) := by rw [World.cell?_alloc_at _ _ _ _ rfl]; rfl
      have p1 : (wr.alloc (.cells #[.int .i64 o, .int .i64 n] 36)).cell? ⟨wr.heap.size, 1, none⟩ = some (.int .i64 n) := by rw [World.cell?_alloc_at _ _ _ _ rfl]; rfl
      have HFP : Hid (Fr [] x7 (wr.alloc (.cells #[.int .i64 o, .int .i64 n] 36))) := HF.out.alloc _
      go_upto_region 10 with fail
      generalize hG : wr.heap.size = G at *
      generalize hW : wr.alloc (.cells #[.int .i64 o, .int .i64 n] 36) = wP at *
      clear hW hG c0 c1
      have HFW : Hid (Fr [] w wP) := HF7.out.trans HFP.out (by simp)
      have HPA : Hid (∀ wx, Fr [] wP wx → Calls Try.prog 21 #[.slice a0 z0.length cap0] wx fun e w' => ∃ u, e = .returned u ∧ SSrc w' u z0 ∧ Fr [] wP w') := by
        intro wx hf
        refine (plain_any _ z0 wx (HS.out.kept (HFW.out.trans hf (by simp))) (by omega)).mono ?_
        rintro e w' ⟨u, rfl, h, hf'⟩
        exact ⟨u, rfl, h.src HZ.out, hf.trans hf' (by simp)⟩
      have HPB : Hid (∀ wx, Fr [] wP wx → Calls Try.prog 21 #[.slice a1 z1.length cap1] wx fun e w' => ∃ u, e = .returned u ∧ SSrc w' u z1 ∧ Fr [] wP w') := by
        intro wx hf
        refine (plain_any _ z1 wx (HT.out.kept (HFW.out.trans hf (by simp))) (by omega)).mono ?_
        rintro e w' ⟨u, rfl, h, hf'⟩
        exact ⟨u, rfl, h.src HZ1.out, hf.trans hf' (by simp)⟩
      have F0 : Fr [] wP wP.drew := (Fr.refl _ _).drew
      go_cut [9, 10] from 46 to 55 (fun c9 c10 wx => c9 = .int .i64 (lfx z0 o) ∧ c10 = .int .i64 (lfx z1 o) ∧ Fr [] wP wx)
      case first =>
        go_region_held3 (fun w' => w'.cell? ⟨G, 0, none⟩ = some (.int .i64 o)) (go_keep) (first
          | (go_at_call 21; with_reducible refine (HPA.out _ F0).mono ?_; rintro e wa ⟨ua, rfl, hua, hfa⟩; have ka := hfa.cell_some (p := ⟨G, 0, none⟩) p0 (by simp))
          | (go_at_call 21; with_reducible refine (HPB.out _ hfa).mono ?_; rintro e wb ⟨ub, rfl, hub, hfb⟩; have kb := hfb.cell_some (p := ⟨G, 0, none⟩) p0 (by simp))
          | (go_at_call 20; with_reducible refine (lfind_any _ z0 o _ hua (by omega)).mono ?_; rintro e wy ⟨rfl, rfl⟩)
          | (go_at_call 20; with_reducible refine (lfind_any _ z1 o _ hub (by omega)).mono ?_; rintro e wz ⟨rfl, rfl⟩))
        all_goals (go_wp2_with fail; go_meet; exact ⟨rfl, rfl, hfb⟩)
      case rest =>
        obtain ⟨rfl, rfl, hfc⟩ := hcut
        have HFC : Hid (Fr [] x7 wc) := HFP.out.trans hfc (by simp)
        have q1 : wc.cell? ⟨G, 1, none⟩ = some (.int .i64 n) := hfc.cell_some p1 (by simp)
        clear hfc p0 p1 F0 HFP HFW HPA HPB HF
        by_cases h0 : fdx z0 o < z0.length
        · obtain ⟨s0, hs0, he0⟩ := fdx_at h0
          obtain rfl := HA.out (by omega)
          have ca : wc.cell? ⟨b, off + fdx z0 o * 2 + 1, none⟩ = some (.int .i64 s0.2) := (HF7.out.trans HFC.out (by simp)).cell_some (HC.out _ s0 hs0).2 (by simp)
          have la : lk z0 o = some s0.2 := by rw [lk_fdx, hs0]; rfl
          rw [show lfx z0 o = (fdx z0 o : Int) from by unfold lfx; rw [if_pos h0]]
          generalize fdx z0 o = X at *
          obtain ⟨so, x⟩ := s0
          simp only at ca la
          clear hs0 he0
          by_cases h1 : fdx z1 o < z1.length
          · obtain ⟨s1, hs1, he1⟩ := fdx_at h1
            obtain rfl := HA1.out (by omega)
            have cb : wc.cell? ⟨b1, off1 + fdx z1 o * 2 + 1, none⟩ = some (.int .i64 s1.2) := (HF7.out.trans HFC.out (by simp)).cell_some (HC1.out _ s1 hs1).2 (by simp)
            have lb : lk z1 o = some s1.2 := by rw [lk_fdx, hs1]; rfl
            rw [show lfx z1 o = (fdx z1 o : Int) from by unfold lfx; rw [if_pos h1]]
            generalize fdx z1 o = Y at *
            obtain ⟨so1, y⟩ := s1
            simp only at cb lb
            clear hs1 he1
            have hn : jn x y = n := by
              have := HW.out
              unfold wnt at this
              simp only [la, lb] at this
              exact Option.some.inj this
            have HK2 : Hid (K + 1 = bth z0 z1 (M.take (k + 1))) := by
              rw [Hid, HB.out]
              simp [inB, la, lb]
            obtain ⟨T1, hT1⟩ : ∃ T1, wrap64 (3 * x) = T1 := ⟨_, rfl⟩
            have hT2 : wrap64 (T1 + y) = n := by rw [← hn, ← hT1]; rfl
            have hT3 : IntKind.i64.wrap (3 * x) = T1 := by rw [wrap_i64]; exact hT1
            have hT4 : IntKind.i64.wrap (T1 + y) = n := by rw [wrap_i64]; exact hT2
            have hXI : (X : Int) < (z0.length : Int) := by omega
            have hYI : (Y : Int) < (z1.length : Int) := by omega
            clear hn la lb HW HB
            go_wp2_with fail
            go_quiet (fail)
            go_wp2
            go_roundw
            case rel => exact ⟨k + 1, K + 1, by omega, by go_num, by go_num, HK2.out, HFC.out.drewN _⟩
            case measure => simp [intOf]; omega
          · have lb : lk z1 o = none := by rw [lk_fdx, List.getElem?_eq_none (by omega)]; rfl
            rw [show lfx z1 o = -1 from by unfold lfx; rw [if_neg h1]]
            have hn : x = n := by
              have := HW.out
              unfold wnt at this
              simp only [la, lb] at this
              exact Option.some.inj this
            have HK2 : Hid (K = bth z0 z1 (M.take (k + 1))) := by
              rw [Hid, HB.out]
              simp [inB, la, lb]
            subst hn
            clear la lb HW HB h1
            go_wp2
            go_roundw
            case rel => exact ⟨k + 1, K, by omega, by go_num, rfl, HK2.out, HFC.out⟩
            case measure => simp [intOf]; omega
        · have la : lk z0 o = none := by rw [lk_fdx, List.getElem?_eq_none (by omega)]; rfl
          rw [show lfx z0 o = -1 from by unfold lfx; rw [if_neg h0]]
          by_cases h1 : fdx z1 o < z1.length
          · obtain ⟨s1, hs1, he1⟩ := fdx_at h1
            obtain rfl := HA1.out (by omega)
            have cb : wc.cell? ⟨b1, off1 + fdx z1 o * 2 + 1, none⟩ = some (.int .i64 s1.2) := (HF7.out.trans HFC.out (by simp)).cell_some (HC1.out _ s1 hs1).2 (by simp)
            have lb : lk z1 o = some s1.2 := by rw [lk_fdx, hs1]; rfl
            rw [show lfx z1 o = (fdx z1 o : Int) from by unfold lfx; rw [if_pos h1]]
            generalize fdx z1 o = Y at *
            obtain ⟨so1, y⟩ := s1
            simp only at cb lb
            have hn : y = n := by
              have := HW.out
              unfold wnt at this
              simp only [la, lb] at this
              exact Option.some.inj this
            have HK2 : Hid (K = bth z0 z1 (M.take (k + 1))) := by
              rw [Hid, HB.out]
              simp [inB, la, lb]
            subst hn
            clear la lb HW HB h0 hs1 he1
            go_wp2
            go_roundw
            case rel => exact ⟨k + 1, K, by omega, by go_num, rfl, HK2.out, HFC.out⟩
            case measure => simp [intOf]; omega
          · have lb : lk z1 o = none := by rw [lk_fdx, List.getElem?_eq_none (by omega)]; rfl
            have := HW.out
            unfold wnt at this
            simp only [la, lb] at this
            cases this
    · have HKE : Hid (M.length + K = z0.length + z1.length) := by
        have h1 := HK.out
        rw [List.take_of_length_le (by omega)] at h1
        rw [Hid, h1]
        exact HMK.out.2.2
      have hke := HKE.out
      have HFW : Hid (Fr [] w wr) := HF7.out.trans HF.out (by simp)
      have hsum : (M.length : Int) + (K : Int) = (z0.length : Int) + (z1.length : Int) := by omega
      clear hke HKE
      go_wp2_with fail
      refine (HAW.out _ HFW.out).mono ?_
      rintro e w1 ⟨rfl, hf1⟩
      go_wp2
      go_ret
      exact ⟨rfl, HEND.out _ hf1⟩
end Go.Proofs.Ytlcnjiibapehbaa
