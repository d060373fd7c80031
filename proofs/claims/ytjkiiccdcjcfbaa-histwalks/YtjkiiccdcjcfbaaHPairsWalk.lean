/-
  HistPairs: the walk.
-/
import Derived.Test.YtjkiiccdcjcfbaaHChecksWalk
import Derived.Test.YtjkiiccdcjcfbaaHPure
namespace Go.Proofs.Ytjkiiccdcjcfbaa
open Go.RowKit Mem Spans
set_option linter.unusedSimpArgs false
set_option linter.unusedVariables false
set_option maxRecDepth 100000


set_option maxHeartbeats 2000000 in
theorem like_any (v u u2 : Value) (l : List Sp) (ps cs : List Int) (w : World) (h : SSrc w v l) (h2 : ISrc w u ps) (h3 : ISrc w u2 cs) (e1 : ps = fsts l) (e2 : cs = snds l) :
    Calls Try.prog 22 #[v, u, u2] w fun e w' => e = .returned (.bool true) ∧ Fr [] w w' := by
  obtain ⟨ao, cap, rfl, hcap, hmax, _, b, off, ha, hc⟩ := h
  obtain ⟨ao2, cap2, rfl, hcap2, hmax2, _, b2, off2, ha2, hc2⟩ := h2
  obtain ⟨ao3, cap3, rfl, hcap3, hmax3, _, b3, off3, ha3, hc3⟩ := h3
  have HC : Hid (∀ j s, l[j]? = some s → w.cell? ⟨b, off + j * 2, none⟩ = some (.int .i64 s.1) ∧ w.cell? ⟨b, off + j * 2 + 1, none⟩ = some (.int .i64 s.2)) := hc
  have HC2 : Hid (∀ j s, ps[j]? = some s → w.cell? ⟨b2, off2 + j, none⟩ = some (.int .i64 s)) := hc2
  have HC3 : Hid (∀ j s, cs[j]? = some s → w.cell? ⟨b3, off3 + j, none⟩ = some (.int .i64 s)) := hc3
  have HA : Hid (0 < l.length → ao = some ⟨b, off, none⟩) := ha
  have HA2 : Hid (0 < ps.length → ao2 = some ⟨b2, off2, none⟩) := ha2
  have HA3 : Hid (0 < cs.length → ao3 = some ⟨b3, off3, none⟩) := ha3
  have hml : l.length ≤ 9223372036854775807 := by unfold maxLen at hmax; omega
  have HLP : Hid (ps.length = l.length ∧ cs.length = l.length) := by rw [Hid, e1, e2, fsts_length, snds_length]; exact ⟨rfl, rfl⟩
  have HPS : Hid (∀ (k : Nat) (s : Sp), l[k]? = some s → ps[k]? = some s.1 ∧ cs[k]? = some s.2) := by
    intro k s hs
    rw [e1, e2]
    unfold fsts snds
    rw [List.getElem?_map, List.getElem?_map, hs]
    exact ⟨rfl, rfl⟩
  have hb1 : ((l.length : Int) != (ps.length : Int)) = false := by simp; have := HLP.out; omega
  have hb2 : ((l.length : Int) != (cs.length : Int)) = false := by simp; have := HLP.out; omega
  clear hc ha hc2 ha2 hc3 ha3 e1 e2
  go_enter Try.func22, Try.ntmps22
  go_wp2
  clear hb1 hb2
  go_loopw [22] (fun i wr => ∃ (k : Nat), k ≤ l.length ∧ i = .int .i64 (k : Int) ∧ Fr [] w wr) (fun i _ => l.length - (intOf i).toNat)
  case atStart => exact ⟨0, by omega, rfl, Fr.refl _ _⟩
  case round =>
    obtain ⟨k, hk, rfl, hf⟩ := hrel
    have HF : Hid (Fr [] w wr) := hf
    clear hf
    by_cases hlt : k < l.length
    · have hp2 : k < ps.length := by have := HLP.out; omega
      have hp3 : k < cs.length := by have := HLP.out; omega
      obtain rfl := HA.out (by omega)
      obtain rfl := HA2.out (by omega)
      obtain rfl := HA3.out (by omega)
      obtain ⟨s, hs⟩ := at_lt hlt
      have c0 : wr.cell? ⟨b, off + k * 2, none⟩ = some (.int .i64 s.1) := HF.out.cell_some (HC.out k s hs).1 (by simp)
      have c1 : wr.cell? ⟨b, off + k * 2 + 1, none⟩ = some (.int .i64 s.2) := HF.out.cell_some (HC.out k s hs).2 (by simp)
      have c2 : wr.cell? ⟨b2, off2 + k, none⟩ = some (.int .i64 s.1) := HF.out.cell_some (HC2.out k s.1 (HPS.out k s hs).1) (by simp)
      have c3 : wr.cell? ⟨b3, off3 + k, none⟩ = some (.int .i64 s.2) := HF.out.cell_some (HC3.out k s.2 (HPS.out k s hs).2) (by simp)
      clear hs
      obtain ⟨o, n⟩ := s
      simp only at c0 c1 c2 c3
      go_wp2_with fail
      go_quiet (fail)
      go_wp2
      go_roundw
      case rel => exact ⟨k + 1, by omega, by go_num, HF.out.drewN _⟩
      case measure => simp [intOf]; omega
    · go_wp2
      go_ret
      exact ⟨rfl, HF.out⟩

theorem sdp_sp {h : Hs} (k : che h = 0) : spl h.P h.pd = fsts (sdp h) ∧ svl h.P h.pd = snds (sdp h) ∧ spl h.N h.nd = fsts (sdn h) ∧ svl h.N h.nd = snds (sdn h) := by
  have k1 := che_zero.1 k
  have e1 : sdp h = sdl h.P h.pd ∧ sdn h = sdl h.N h.nd := by unfold sdp sdn; rw [if_pos k, if_pos k]; exact ⟨rfl, rfl⟩
  rw [e1.1, e1.2]
  exact ⟨(spl_sdl k1.2.1).1, (spl_sdl k1.2.1).2, (spl_sdl k1.2.2.1).1, (spl_sdl k1.2.2.1).2⟩

set_option maxHeartbeats 8000000 in
theorem hpairs_walk (v0 : Value) (h : Hs) (d : Int) (w : World) (w0 : HSrc w v0 h) (w1 : (Lit.int .i64 d).wf = true) :
    Calls Try.prog 4 #[v0, .int .i64 d] w fun e w' => e = .returned (.bool true) ∧ Below w.heap.size w w' := by
  have HH : Hid (∀ wx, Fr [] w wx → HSrc wx v0 h) := fun wx hx => w0.kept hx
  obtain ⟨po, pc, no, nc, qo, qc, ro, rc, rfl, _, hsr, _⟩ := w0.opens
  have HSR : Hid (SSrc w (.slice po h.P.length pc) h.P ∧ SSrc w (.slice no h.N.length nc) h.N ∧ ISrc w (.slice qo h.pd.length qc) h.pd ∧ ISrc w (.slice ro h.nd.length rc) h.nd) := hsr
  clear w0 w1 hsr
  go_enter Try.func4, Try.ntmps4
  have HN0 : Hid (Nine (w.alloc (.cells #[.int .i64 h.s, .int .u64 h.z, .int .u64 h.zc, .int .u64 h.c, .int .u64 h.sm, .slice po h.P.length pc, .slice no h.N.length nc, .slice qo h.pd.length qc, .slice ro h.nd.length rc] 26)) w.heap.size #[.int .i64 h.s, .int .u64 h.z, .int .u64 h.zc, .int .u64 h.c, .int .u64 h.sm, .slice po h.P.length pc, .slice no h.N.length nc, .slice qo h.pd.length qc, .slice ro h.nd.length rc]) := Nine.new _ _
  have HF0 : Hid (Fr [] w (w.alloc (.cells #[.int .i64 h.s, .int .u64 h.z, .int .u64 h.zc, .int .u64 h.c, .int .u64 h.sm, .slice po h.P.length pc, .slice no h.N.length nc, .slice qo h.pd.length qc, .slice ro h.nd.length rc] 26))) := (Fr.refl [] w).alloc _
  go_wp2_with fail
  refine (hsmall_any _ h _ (HH.out _ HF0.out)).mono ?_
  rintro e w1 ⟨r, rfl, hr, hf1⟩
  have HF1 : Hid (Fr [] w w1) := HF0.out.trans hf1 (by simp)
  have HN1 : Hid (Nine w1 w.heap.size _) := HN0.out.kept hf1 (by simp)
  have HR : Hid (r = true → Few h) := hr
  clear hf1 hr HN0 HF0
  cases r with
  | false =>
    go_wp2_with fail
    refine (awake9_any w1).mono ?_
    rintro e w2 ⟨rfl, hf2⟩
    have HF2 : Hid (Fr [] w w2) := HF1.out.trans hf2 (by simp)
    clear hf2
    go_wp2
    go_ret
    exact ⟨rfl, HF2.out.below (Nat.le_refl _) (by simp)⟩
  | true =>
    have HLE : Hid (h.P.length ≤ 1024 ∧ h.N.length ≤ 1024) := few_le (HR.out rfl)
    clear HR
    have c0 := HN1.out.cell 0 rfl
    have c1 := HN1.out.cell 1 rfl
    have c2 := HN1.out.cell 2 rfl
    have c3 := HN1.out.cell 3 rfl
    have c4 := HN1.out.cell 4 rfl
    have c5 := HN1.out.cell 5 rfl
    have c6 := HN1.out.cell 6 rfl
    have c7 := HN1.out.cell 7 rfl
    have c8 := HN1.out.cell 8 rfl
    go_wp2_with fail
    refine (hpairs_any _ h d w1 (HH.out _ HF1.out)).mono ?_
    rintro e w2 ⟨x, rfl, hx, hf2⟩
    have HF2 : Hid (Fr [] w w2) := HF1.out.trans hf2 (by simp)
    have HX : Hid (SOwn 72 w1.heap.size w2 x (prl h d)) := hx
    have HN2 : Hid (Nine w2 w.heap.size _) := HN1.out.kept hf2 (by simp)
    obtain ⟨xa, xc, rfl⟩ := HX.out.val
    clear hf2 hx c0 c1 c2 c3 c4 c5 c6 c7 c8 HN1
    by_cases hd : d = 0 ∨ d = 1
    case neg =>
      have HP : Hid (pre h d = 11 ∧ (prl h d).length = 0) := by
        unfold Hid pre prl
        rw [if_neg hd, if_neg (fun e => hd (.inl e)), if_neg (fun e => hd (.inr e))]
        exact ⟨rfl, rfl⟩
      have d0 : (d != 0) = true := by simp; omega
      have d1 : (d != 1) = true := by simp; omega
      rw [HP.out.1]
      have hl := HP.out.2
      rw [hl] at HX ⊢
      clear hl HX hd
      go_wp2_with fail
      refine (awake9_any w2).mono ?_
      rintro e w3 ⟨rfl, hf3⟩
      have HF3 : Hid (Fr [] w w3) := HF2.out.trans hf3 (by simp)
      clear hf3
      go_wp2
      go_ret
      exact ⟨rfl, HF3.out.below (Nat.le_refl _) (by simp)⟩
    have HP : Hid (pre h d = che h ∧ (che h ≠ 0 → (prl h d).length = 0)) := by
      unfold Hid pre prl
      rw [if_pos hd]
      refine ⟨rfl, fun k => ?_⟩
      have := sd_nil k
      by_cases h0 : d = 0
      · rw [if_pos h0, this.1]; rfl
      · rw [if_neg h0, if_pos (by omega), this.2]; rfl
    rw [HP.out.1]
    have dd : ((d != 0) && (d != 1)) = false := by rcases hd with rfl | rfl <;> rfl
    have c0 := HN2.out.cell 0 rfl
    have c1 := HN2.out.cell 1 rfl
    have c2 := HN2.out.cell 2 rfl
    have c3 := HN2.out.cell 3 rfl
    have c4 := HN2.out.cell 4 rfl
    have c5 := HN2.out.cell 5 rfl
    have c6 := HN2.out.cell 6 rfl
    have c7 := HN2.out.cell 7 rfl
    have c8 := HN2.out.cell 8 rfl
    have HREF : Hid (∀ wx, Fr [] w wx → Calls Try.prog 14 #[.agg #[.int .i64 h.s, .int .u64 h.z, .int .u64 h.zc, .int .u64 h.c, .int .u64 h.sm, .slice po h.P.length pc, .slice no h.N.length nc, .slice qo h.pd.length qc, .slice ro h.nd.length rc]] wx fun e w' => ∃ u, e = .returned u ∧ HSrc w' u h ∧ Fr [] wx w') := fun wx hx => href_any _ h wx (HH.out _ hx) HLE.out
    rcases hd with rfl | rfl
    · clear dd
      go_wp2_with fail
      refine (HREF.out _ HF2.out).mono ?_
      rintro e w3 ⟨u, rfl, hu, hf3⟩
      have HF3 : Hid (Fr [] w w3) := HF2.out.trans hf3 (by simp)
      have HX3 : Hid (SOwn 72 w1.heap.size w3 (.slice xa (prl h 0).length xc) (prl h 0)) := HX.out.kept hf3
      have HN3 : Hid (Nine w3 w.heap.size _) := HN2.out.kept hf3 (by simp)
      have HU : Hid (HSrc w3 u h) := hu
      clear hf3 hu c0 c1 c2 c3 c4 c5 c6 c7 c8 HX HN2 HF2
      go_wp2_with fail
      refine (lcheck9_any _ h _ HU.out).mono ?_
      rintro e w4 ⟨rfl, hf4⟩
      have HF4 : Hid (Fr [] w w4) := HF3.out.trans hf4 (by simp)
      have HX4 : Hid (SOwn 72 w1.heap.size w4 (.slice xa (prl h 0).length xc) (prl h 0)) := HX3.out.kept hf4
      have HN4 : Hid (Nine w4 w.heap.size _) := HN3.out.kept hf4 (by simp)
      clear hf4 HX3 HN3 HU HF3
      by_cases hk : che h = 0
      case neg =>
        have hl := HP.out.2 hk
        have hb : (che h != 0) = true := by simpa using hk
        rw [hl]
        clear hl hk
        generalize che h = C at *
        go_wp2_with fail
        refine (awake9_any w4).mono ?_
        rintro e w5 ⟨rfl, hf5⟩
        have HF5 : Hid (Fr [] w w5) := HF4.out.trans hf5 (by simp)
        clear hf5
        go_wp2
        go_ret
        exact ⟨rfl, HF5.out.below (Nat.le_refl _) (by simp)⟩
      have HK : Hid (che h = 0) := hk
      rw [hk]
      clear hk
      have L0 : ∀ wx, Fr [] w4 wx → wx.cell? ⟨w.heap.size, 0, none⟩ = some (.int .i64 h.s) := fun wx hx => hx.cell_some (HN4.out.cell 0 rfl) List.not_mem_nil
      have L1 : ∀ wx, Fr [] w4 wx → wx.cell? ⟨w.heap.size, 1, none⟩ = some (.int .u64 h.z) := fun wx hx => hx.cell_some (HN4.out.cell 1 rfl) List.not_mem_nil
      have L2 : ∀ wx, Fr [] w4 wx → wx.cell? ⟨w.heap.size, 2, none⟩ = some (.int .u64 h.zc) := fun wx hx => hx.cell_some (HN4.out.cell 2 rfl) List.not_mem_nil
      have L3 : ∀ wx, Fr [] w4 wx → wx.cell? ⟨w.heap.size, 3, none⟩ = some (.int .u64 h.c) := fun wx hx => hx.cell_some (HN4.out.cell 3 rfl) List.not_mem_nil
      have L4 : ∀ wx, Fr [] w4 wx → wx.cell? ⟨w.heap.size, 4, none⟩ = some (.int .u64 h.sm) := fun wx hx => hx.cell_some (HN4.out.cell 4 rfl) List.not_mem_nil
      have L5 : ∀ wx, Fr [] w4 wx → wx.cell? ⟨w.heap.size, 5, none⟩ = some (.slice po h.P.length pc) := fun wx hx => hx.cell_some (HN4.out.cell 5 rfl) List.not_mem_nil
      have L6 : ∀ wx, Fr [] w4 wx → wx.cell? ⟨w.heap.size, 6, none⟩ = some (.slice no h.N.length nc) := fun wx hx => hx.cell_some (HN4.out.cell 6 rfl) List.not_mem_nil
      have L7 : ∀ wx, Fr [] w4 wx → wx.cell? ⟨w.heap.size, 7, none⟩ = some (.slice qo h.pd.length qc) := fun wx hx => hx.cell_some (HN4.out.cell 7 rfl) List.not_mem_nil
      have L8 : ∀ wx, Fr [] w4 wx → wx.cell? ⟨w.heap.size, 8, none⟩ = some (.slice ro h.nd.length rc) := fun wx hx => hx.cell_some (HN4.out.cell 8 rfl) List.not_mem_nil
      have F0 : Fr [] w4 w4.drew := (Fr.refl _ _).drew
      have HS1 : Hid (∀ wx, Fr [] w4 wx → Calls Try.prog 21 #[.slice po h.P.length pc] wx fun e w' => ∃ u, e = .returned u ∧ SSrc w' u h.P ∧ Fr [] w4 w') := by
        intro wx hx
        have hs := HSR.out.1.kept (HF4.out.trans hx (by simp))
        refine (spans_any _ h.P wx hs HLE.out.1).mono ?_
        rintro e w' ⟨u, rfl, hu, hf⟩
        exact ⟨u, rfl, hu.src (by obtain ⟨_, _, _, _, _, h64, _⟩ := hs; exact h64), hx.trans hf (by simp)⟩
      have HS2 : Hid (∀ wx u, Fr [] w4 wx → SSrc wx u h.P → Calls Try.prog 20 #[u, .slice qo h.pd.length qc] wx fun e w' => ∃ x y, e = .returned (.tuple #[x, y, .int .i64 (sde h.P h.pd)]) ∧ ISrc w' x (spl h.P h.pd) ∧ ISrc w' y (svl h.P h.pd) ∧ Fr [] w4 w') := by
        intro wx u hx hu
        refine (lside_any _ _ h.P h.pd wx hu (HSR.out.2.2.1.kept (HF4.out.trans hx (by simp)))).mono ?_
        rintro e w' ⟨x, y, rfl, hxx, hy, hf⟩
        exact ⟨x, y, rfl, IOwn.src hxx (spl_in _ _), hy.src (svl_in _ _), hx.trans hf (by simp)⟩
      go_wp2_with fail
      go_region_held3 (fun w' => w'.cell? ⟨w.heap.size, 5, none⟩ = some (.slice po h.P.length pc) ∧ w'.cell? ⟨w.heap.size, 7, none⟩ = some (.slice qo h.pd.length qc)) (go_keep) (first
        | (go_at_call 21; with_reducible refine (HS1.out _ F0).mono ?_; rintro e wa ⟨ua, rfl, hua, hfa⟩)
        | (go_at_call 20; with_reducible refine (HS2.out _ _ hfa hua).mono ?_; rintro e wb ⟨x, y, rfl, hx, hy, hfb⟩))
      have HFb : Hid (Fr [] w4 wb) := hfb
      have HX5 : Hid (SOwn 72 w1.heap.size wb (.slice xa (prl h 0).length xc) (prl h 0)) := HX4.out.kept hfb
      have HXX : Hid (ISrc wb x (spl h.P h.pd)) := hx
      have HYY : Hid (ISrc wb y (svl h.P h.pd)) := hy
      have HPL : Hid (prl h 0 = sdp h) := by unfold Hid prl; rw [if_pos rfl]
      have HSD : Hid (spl h.P h.pd = fsts (prl h 0) ∧ svl h.P h.pd = snds (prl h 0)) := by rw [Hid, HPL.out]; exact ⟨(sdp_sp HK.out).1, (sdp_sp HK.out).2.1⟩
      have HIN : Hid (∀ s ∈ prl h 0, in64 s.1 ∧ in64 s.2) := by rw [Hid, HPL.out]; exact sdp_in h
      clear hx hy hfb hua hfa
      go_wp2_with fail
      refine (like_any _ _ _ _ _ _ wb (HX5.out.src HIN.out) HXX.out HYY.out HSD.out.1 HSD.out.2).mono ?_
      rintro e wc ⟨rfl, hfc⟩
      have HFc : Hid (Fr [] w wc) := (HF4.out.trans HFb.out (by simp)).trans hfc (by simp)
      clear hfc
      go_wp2_with fail
      refine (awake9_any wc).mono ?_
      rintro e we ⟨rfl, hfe⟩
      have HFe : Hid (Fr [] w we) := HFc.out.trans hfe (by simp)
      clear hfe
      go_wp2
      go_ret
      exact ⟨rfl, HFe.out.below (Nat.le_refl _) (by simp)⟩
    · clear dd
      go_wp2_with fail
      refine (HREF.out _ HF2.out).mono ?_
      rintro e w3 ⟨u, rfl, hu, hf3⟩
      have HF3 : Hid (Fr [] w w3) := HF2.out.trans hf3 (by simp)
      have HX3 : Hid (SOwn 72 w1.heap.size w3 (.slice xa (prl h 1).length xc) (prl h 1)) := HX.out.kept hf3
      have HN3 : Hid (Nine w3 w.heap.size _) := HN2.out.kept hf3 (by simp)
      have HU : Hid (HSrc w3 u h) := hu
      clear hf3 hu c0 c1 c2 c3 c4 c5 c6 c7 c8 HX HN2 HF2
      go_wp2_with fail
      refine (lcheck9_any _ h _ HU.out).mono ?_
      rintro e w4 ⟨rfl, hf4⟩
      have HF4 : Hid (Fr [] w w4) := HF3.out.trans hf4 (by simp)
      have HX4 : Hid (SOwn 72 w1.heap.size w4 (.slice xa (prl h 1).length xc) (prl h 1)) := HX3.out.kept hf4
      have HN4 : Hid (Nine w4 w.heap.size _) := HN3.out.kept hf4 (by simp)
      clear hf4 HX3 HN3 HU HF3
      by_cases hk : che h = 0
      case neg =>
        have hl := HP.out.2 hk
        have hb : (che h != 0) = true := by simpa using hk
        rw [hl]
        clear hl hk
        generalize che h = C at *
        go_wp2_with fail
        refine (awake9_any w4).mono ?_
        rintro e w5 ⟨rfl, hf5⟩
        have HF5 : Hid (Fr [] w w5) := HF4.out.trans hf5 (by simp)
        clear hf5
        go_wp2
        go_ret
        exact ⟨rfl, HF5.out.below (Nat.le_refl _) (by simp)⟩
      have HK : Hid (che h = 0) := hk
      rw [hk]
      clear hk
      have L0 : ∀ wx, Fr [] w4 wx → wx.cell? ⟨w.heap.size, 0, none⟩ = some (.int .i64 h.s) := fun wx hx => hx.cell_some (HN4.out.cell 0 rfl) List.not_mem_nil
      have L1 : ∀ wx, Fr [] w4 wx → wx.cell? ⟨w.heap.size, 1, none⟩ = some (.int .u64 h.z) := fun wx hx => hx.cell_some (HN4.out.cell 1 rfl) List.not_mem_nil
      have L2 : ∀ wx, Fr [] w4 wx → wx.cell? ⟨w.heap.size, 2, none⟩ = some (.int .u64 h.zc) := fun wx hx => hx.cell_some (HN4.out.cell 2 rfl) List.not_mem_nil
      have L3 : ∀ wx, Fr [] w4 wx → wx.cell? ⟨w.heap.size, 3, none⟩ = some (.int .u64 h.c) := fun wx hx => hx.cell_some (HN4.out.cell 3 rfl) List.not_mem_nil
      have L4 : ∀ wx, Fr [] w4 wx → wx.cell? ⟨w.heap.size, 4, none⟩ = some (.int .u64 h.sm) := fun wx hx => hx.cell_some (HN4.out.cell 4 rfl) List.not_mem_nil
      have L5 : ∀ wx, Fr [] w4 wx → wx.cell? ⟨w.heap.size, 5, none⟩ = some (.slice po h.P.length pc) := fun wx hx => hx.cell_some (HN4.out.cell 5 rfl) List.not_mem_nil
      have L6 : ∀ wx, Fr [] w4 wx → wx.cell? ⟨w.heap.size, 6, none⟩ = some (.slice no h.N.length nc) := fun wx hx => hx.cell_some (HN4.out.cell 6 rfl) List.not_mem_nil
      have L7 : ∀ wx, Fr [] w4 wx → wx.cell? ⟨w.heap.size, 7, none⟩ = some (.slice qo h.pd.length qc) := fun wx hx => hx.cell_some (HN4.out.cell 7 rfl) List.not_mem_nil
      have L8 : ∀ wx, Fr [] w4 wx → wx.cell? ⟨w.heap.size, 8, none⟩ = some (.slice ro h.nd.length rc) := fun wx hx => hx.cell_some (HN4.out.cell 8 rfl) List.not_mem_nil
      have F0 : Fr [] w4 w4.drew := (Fr.refl _ _).drew
      have HS1 : Hid (∀ wx, Fr [] w4 wx → Calls Try.prog 21 #[.slice po h.P.length pc] wx fun e w' => ∃ u, e = .returned u ∧ SSrc w' u h.P ∧ Fr [] w4 w') := by
        intro wx hx
        have hs := HSR.out.1.kept (HF4.out.trans hx (by simp))
        refine (spans_any _ h.P wx hs HLE.out.1).mono ?_
        rintro e w' ⟨u, rfl, hu, hf⟩
        exact ⟨u, rfl, hu.src (by obtain ⟨_, _, _, _, _, h64, _⟩ := hs; exact h64), hx.trans hf (by simp)⟩
      have HS2 : Hid (∀ wx u, Fr [] w4 wx → SSrc wx u h.P → Calls Try.prog 20 #[u, .slice qo h.pd.length qc] wx fun e w' => ∃ x y, e = .returned (.tuple #[x, y, .int .i64 (sde h.P h.pd)]) ∧ ISrc w' x (spl h.P h.pd) ∧ ISrc w' y (svl h.P h.pd) ∧ Fr [] w4 w') := by
        intro wx u hx hu
        refine (lside_any _ _ h.P h.pd wx hu (HSR.out.2.2.1.kept (HF4.out.trans hx (by simp)))).mono ?_
        rintro e w' ⟨x, y, rfl, hxx, hy, hf⟩
        exact ⟨x, y, rfl, IOwn.src hxx (spl_in _ _), hy.src (svl_in _ _), hx.trans hf (by simp)⟩
      go_wp2_with fail
      go_region_held3 (fun w' => w'.cell? ⟨w.heap.size, 5, none⟩ = some (.slice po h.P.length pc) ∧ w'.cell? ⟨w.heap.size, 7, none⟩ = some (.slice qo h.pd.length qc)) (go_keep) (first
        | (go_at_call 21; with_reducible refine (HS1.out _ F0).mono ?_; rintro e wa ⟨ua, rfl, hua, hfa⟩)
        | (go_at_call 20; with_reducible refine (HS2.out _ _ hfa hua).mono ?_; rintro e wb ⟨x, y, rfl, hx, hy, hfb⟩))
      have HFb : Hid (Fr [] w4 wb) := hfb
      have HX5 : Hid (SOwn 72 w1.heap.size wb (.slice xa (prl h 1).length xc) (prl h 1)) := HX4.out.kept hfb
      have M6 : ∀ wx, Fr [] wb wx → wx.cell? ⟨w.heap.size, 6, none⟩ = some (.slice no h.N.length nc) := fun wx hx => L6 wx (HFb.out.trans hx (by simp))
      have M8 : ∀ wx, Fr [] wb wx → wx.cell? ⟨w.heap.size, 8, none⟩ = some (.slice ro h.nd.length rc) := fun wx hx => L8 wx (HFb.out.trans hx (by simp))
      have F1 : Fr [] wb wb.drew := (Fr.refl _ _).drew
      have HT1 : Hid (∀ wx, Fr [] wb wx → Calls Try.prog 21 #[.slice no h.N.length nc] wx fun e w' => ∃ u, e = .returned u ∧ SSrc w' u h.N ∧ Fr [] wb w') := by
        intro wx hx
        have hs := HSR.out.2.1.kept ((HF4.out.trans HFb.out (by simp)).trans hx (by simp))
        refine (spans_any _ h.N wx hs HLE.out.2).mono ?_
        rintro e w' ⟨u, rfl, hu, hf⟩
        exact ⟨u, rfl, hu.src (by obtain ⟨_, _, _, _, _, h64, _⟩ := hs; exact h64), hx.trans hf (by simp)⟩
      have HT2 : Hid (∀ wx u, Fr [] wb wx → SSrc wx u h.N → Calls Try.prog 20 #[u, .slice ro h.nd.length rc] wx fun e w' => ∃ x y, e = .returned (.tuple #[x, y, .int .i64 (sde h.N h.nd)]) ∧ ISrc w' x (spl h.N h.nd) ∧ ISrc w' y (svl h.N h.nd) ∧ Fr [] wb w') := by
        intro wx u hx hu
        refine (lside_any _ _ h.N h.nd wx hu (HSR.out.2.2.2.kept ((HF4.out.trans HFb.out (by simp)).trans hx (by simp)))).mono ?_
        rintro e w' ⟨x, y, rfl, hxx, hy, hf⟩
        exact ⟨x, y, rfl, IOwn.src hxx (spl_in _ _), hy.src (svl_in _ _), hx.trans hf (by simp)⟩
      clear hx hy hfb hua hfa L0 L1 L2 L3 L4 L5 L6 L7 L8
      go_wp2_with fail
      go_region_held3 (fun w' => w'.cell? ⟨w.heap.size, 6, none⟩ = some (.slice no h.N.length nc) ∧ w'.cell? ⟨w.heap.size, 8, none⟩ = some (.slice ro h.nd.length rc)) (go_keep) (first
        | (go_at_call 21; with_reducible refine (HT1.out _ F1).mono ?_; rintro e wa2 ⟨ua2, rfl, hua2, hfa2⟩)
        | (go_at_call 20; with_reducible refine (HT2.out _ _ hfa2 hua2).mono ?_; rintro e wd ⟨x2, y2, rfl, hx2, hy2, hfd⟩))
      have HFd : Hid (Fr [] w wd) := (HF4.out.trans HFb.out (by simp)).trans hfd (by simp)
      have HX6 : Hid (SOwn 72 w1.heap.size wd (.slice xa (prl h 1).length xc) (prl h 1)) := HX5.out.kept hfd
      have HXX : Hid (ISrc wd x2 (spl h.N h.nd)) := hx2
      have HYY : Hid (ISrc wd y2 (svl h.N h.nd)) := hy2
      have HPL : Hid (prl h 1 = sdn h) := by unfold Hid prl; rw [if_neg (by decide), if_pos rfl]
      have HSD : Hid (spl h.N h.nd = fsts (prl h 1) ∧ svl h.N h.nd = snds (prl h 1)) := by rw [Hid, HPL.out]; exact ⟨(sdp_sp HK.out).2.2.1, (sdp_sp HK.out).2.2.2⟩
      have HIN : Hid (∀ s ∈ prl h 1, in64 s.1 ∧ in64 s.2) := by rw [Hid, HPL.out]; exact sdn_in h
      clear hx2 hy2 hfd hua2 hfa2 M6 M8
      go_wp2_with fail
      refine (like_any _ _ _ _ _ _ wd (HX6.out.src HIN.out) HXX.out HYY.out HSD.out.1 HSD.out.2).mono ?_
      rintro e wc ⟨rfl, hfc⟩
      have HFc : Hid (Fr [] w wc) := HFd.out.trans hfc (by simp)
      clear hfc
      go_wp2_with fail
      refine (awake9_any wc).mono ?_
      rintro e we ⟨rfl, hfe⟩
      have HFe : Hid (Fr [] w we) := HFc.out.trans hfe (by simp)
      clear hfe
      go_wp2
      go_ret
      exact ⟨rfl, HFe.out.below (Nat.le_refl _) (by simp)⟩
end Go.Proofs.Ytjkiiccdcjcfbaa
