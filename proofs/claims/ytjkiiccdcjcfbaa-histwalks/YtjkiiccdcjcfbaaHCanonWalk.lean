/-
  HistCanon: the walk.
-/
import Derived.Test.YtjkiiccdcjcfbaaLawF9
namespace Go.Proofs.Ytjkiiccdcjcfbaa
open Go.RowKit Mem Spans
set_option linter.unusedSimpArgs false
set_option linter.unusedVariables false
set_option maxRecDepth 100000


theorem cah_in (h : Hs) : hin (cah h) := by
  unfold cah
  split
  · exact mkh_in _ _ _
  · unfold hin hzero; simp
theorem che_len {h : Hs} (k : che h = 0) : h.P.length ≤ 1024 ∧ h.N.length ≤ 1024 := by
  have kz := che_zero.1 k
  exact ⟨(chk_zero.1 (sde_zero.1 kz.2.1).1).1, (chk_zero.1 (sde_zero.1 kz.2.2.1).1).1⟩

set_option maxHeartbeats 8000000 in
theorem hcanon_walk (v0 : Value) (h : Hs) (w : World) (w0 : HSrc w v0 h) :
    Calls Try.prog 6 #[v0] w fun e w' => e = .returned (.bool true) ∧ Below w.heap.size w w' := by
  have HH : Hid (∀ wx, Fr [] w wx → HSrc wx v0 h) := fun wx hx => w0.kept hx
  obtain ⟨po, pc, no, nc, qo, qc, ro, rc, rfl, _⟩ := w0.opens
  clear w0
  go_enter Try.func6, Try.ntmps6
  have HN0 : Hid (Nine (w.alloc (.cells #[.int .i64 h.s, .int .u64 h.z, .int .u64 h.zc, .int .u64 h.c, .int .u64 h.sm, .slice po h.P.length pc, .slice no h.N.length nc, .slice qo h.pd.length qc, .slice ro h.nd.length rc] 26)) w.heap.size #[.int .i64 h.s, .int .u64 h.z, .int .u64 h.zc, .int .u64 h.c, .int .u64 h.sm, .slice po h.P.length pc, .slice no h.N.length nc, .slice qo h.pd.length qc, .slice ro h.nd.length rc]) := Nine.new _ _
  have HF0 : Hid (Fr [] w (w.alloc (.cells #[.int .i64 h.s, .int .u64 h.z, .int .u64 h.zc, .int .u64 h.c, .int .u64 h.sm, .slice po h.P.length pc, .slice no h.N.length nc, .slice qo h.pd.length qc, .slice ro h.nd.length rc] 26))) := (Fr.refl [] w).alloc _
  go_wp2_with fail
  refine (hsmall_any _ h _ (HH.out _ HF0.out)).mono ?_
  rintro e w1 ⟨r, rfl, hr, hf1⟩
  have HF1 : Hid (Fr [] w w1) := HF0.out.trans hf1 (by simp)
  have HN1 : Hid (Nine w1 w.heap.size _) := HN0.out.kept hf1 (by simp)
  have HR : Hid (r = true → Few h) := hr
  clear hf1 hr HN0 HF0
  cases r with
  | false =>
    go_wp2_with fail
    refine (awake9_any w1).mono ?_
    rintro e w2 ⟨rfl, hf2⟩
    have HF2 : Hid (Fr [] w w2) := HF1.out.trans hf2 (by simp)
    clear hf2
    go_wp2
    go_ret
    exact ⟨rfl, HF2.out.below (Nat.le_refl _) (by simp)⟩
  | true =>
    have HFEW : Hid (Few h) := HR.out rfl
    clear HR
    have q0 := HN1.out.cell 0 rfl
    have q1 := HN1.out.cell 1 rfl
    have q2 := HN1.out.cell 2 rfl
    have q3 := HN1.out.cell 3 rfl
    have q4 := HN1.out.cell 4 rfl
    have q5 := HN1.out.cell 5 rfl
    have q6 := HN1.out.cell 6 rfl
    have q7 := HN1.out.cell 7 rfl
    have q8 := HN1.out.cell 8 rfl
    go_wp2_with fail
    refine (hcanon_any _ h w1 (HH.out _ HF1.out)).mono ?_
    rintro e w2 ⟨u, rfl, hu, hf2⟩
    have HCO : Hid (che h = 0 → cae h = 0 ∧ cae (cah h) = 0 ∧ cah (cah h) = cah h ∧ heq (cah h) h = true ∧ che (cah h) = 0 ∧ wio (sdp (cah h)) 0 = sdp (cah h) ∧ wio (sdn (cah h)) 0 = sdn (cah h) ∧ cnn (cah h).P = true ∧ cnn (cah h).N = true) := by
      intro k
      have c := canon_ok k ⟨HFEW.out.2.2.1, HFEW.out.2.2.2⟩
      have t := canon_twice k ⟨HFEW.out.2.2.1, HFEW.out.2.2.2⟩
      refine ⟨c.1, t.1, t.2.1, t.2.2, ?_⟩
      rw [c.2.1]
      refine ⟨c.2.2.1, ?_, ?_, c.2.2.2.2.2.1, c.2.2.2.2.2.2⟩
      · rw [c.2.2.2.1, wio_wio]
      · rw [c.2.2.2.2.1, wio_wio]
    have HNC : Hid (che h ≠ 0 → cae h = che h ∧ cah h = hzero) := fun k => by unfold cae cah; rw [if_neg k, if_neg k]; exact ⟨rfl, rfl⟩
    have HIN : Hid (hin (cah h)) := cah_in h
    generalize cah h = c at hu HCO HNC HIN
    obtain ⟨ca1, cc1, ca2, cc2, ca3, cc3, ca4, cc4, rfl⟩ := hu.form
    have HNA : Hid (Nine (w2.alloc (.cells #[.int .i64 c.s, .int .u64 c.z, .int .u64 c.zc, .int .u64 c.c, .int .u64 c.sm, .slice ca1 c.P.length cc1, .slice ca2 c.N.length cc2, .slice ca3 c.pd.length cc3, .slice ca4 c.nd.length cc4] 26)) w2.heap.size #[.int .i64 c.s, .int .u64 c.z, .int .u64 c.zc, .int .u64 c.c, .int .u64 c.sm, .slice ca1 c.P.length cc1, .slice ca2 c.N.length cc2, .slice ca3 c.pd.length cc3, .slice ca4 c.nd.length cc4]) := Nine.new _ _
    have HWA : Hid (Fr [] w (w2.alloc (.cells #[.int .i64 c.s, .int .u64 c.z, .int .u64 c.zc, .int .u64 c.c, .int .u64 c.sm, .slice ca1 c.P.length cc1, .slice ca2 c.N.length cc2, .slice ca3 c.pd.length cc3, .slice ca4 c.nd.length cc4] 26)) ∧ Fr [] w1 (w2.alloc (.cells #[.int .i64 c.s, .int .u64 c.z, .int .u64 c.zc, .int .u64 c.c, .int .u64 c.sm, .slice ca1 c.P.length cc1, .slice ca2 c.N.length cc2, .slice ca3 c.pd.length cc3, .slice ca4 c.nd.length cc4] 26))) := ⟨(HF1.out.trans hf2 (by simp)).alloc _, hf2.alloc _⟩
    have HCA : Hid (HSrc (w2.alloc (.cells #[.int .i64 c.s, .int .u64 c.z, .int .u64 c.zc, .int .u64 c.c, .int .u64 c.sm, .slice ca1 c.P.length cc1, .slice ca2 c.N.length cc2, .slice ca3 c.pd.length cc3, .slice ca4 c.nd.length cc4] 26)) (.agg #[.int .i64 c.s, .int .u64 c.z, .int .u64 c.zc, .int .u64 c.c, .int .u64 c.sm, .slice ca1 c.P.length cc1, .slice ca2 c.N.length cc2, .slice ca3 c.pd.length cc3, .slice ca4 c.nd.length cc4]) c) := (hu.src HIN.out).kept ((Fr.refl [] _).alloc _)
    clear hu hf2 q0 q1 q2 q3 q4 q5 q6 q7 q8
    go_upto_region 4 with fail
    generalize w2.alloc (.cells _ _) = wA at HNA HWA HCA ⊢
    generalize w2.heap.size = G3 at HNA ⊢
    have HF2 : Hid (Fr [] w wA) := HWA.out.1
    have HN2 : Hid (Nine wA w.heap.size _) := HN1.out.kept HWA.out.2 (by simp)
    clear HWA HN1 HF1
    have HLE : Hid (h.P.length ≤ 1024 ∧ h.N.length ≤ 1024) := few_le HFEW.out
    have q0 := HN2.out.cell 0 rfl
    have q1 := HN2.out.cell 1 rfl
    have q2 := HN2.out.cell 2 rfl
    have q3 := HN2.out.cell 3 rfl
    have q4 := HN2.out.cell 4 rfl
    have q5 := HN2.out.cell 5 rfl
    have q6 := HN2.out.cell 6 rfl
    have q7 := HN2.out.cell 7 rfl
    have q8 := HN2.out.cell 8 rfl
    go_wp2_with fail
    refine (href_any _ h wA (HH.out _ HF2.out) HLE.out).mono ?_
    rintro e w3 ⟨u3, rfl, hu3, hf3⟩
    have HU3 : Hid (HSrc w3 u3 h) := hu3
    have HFA3 : Hid (Fr [] wA w3) := hf3
    clear hu3 hf3 q0 q1 q2 q3 q4 q5 q6 q7 q8
    go_wp2_with fail
    refine (lcheck9_any _ h w3 HU3.out).mono ?_
    rintro e w4 ⟨rfl, hf4⟩
    have HFA4 : Hid (Fr [] wA w4) := HFA3.out.trans hf4 (by simp)
    have HF4 : Hid (Fr [] w w4) := HF2.out.trans HFA4.out (by simp)
    have HN4 : Hid (Nine w4 w.heap.size _) := HN2.out.kept HFA4.out (by simp)
    have HG4 : Hid (Nine w4 G3 #[.int .i64 c.s, .int .u64 c.z, .int .u64 c.zc, .int .u64 c.c, .int .u64 c.sm, .slice ca1 c.P.length cc1, .slice ca2 c.N.length cc2, .slice ca3 c.pd.length cc3, .slice ca4 c.nd.length cc4]) := HNA.out.kept HFA4.out (by simp)
    have HC4 : Hid (HSrc w4 (.agg #[.int .i64 c.s, .int .u64 c.z, .int .u64 c.zc, .int .u64 c.c, .int .u64 c.sm, .slice ca1 c.P.length cc1, .slice ca2 c.N.length cc2, .slice ca3 c.pd.length cc3, .slice ca4 c.nd.length cc4]) c) := HCA.out.kept HFA4.out
    clear hf4 HFA3 HFA4 HU3 HF2 HN2 HNA HCA
    by_cases hk : che h = 0
    case neg =>
      have he := HNC.out hk
      have hb : (che h != 0) = true := by simpa using hk
      rw [he.1]
      have HCZ : Hid (HSrc w4 (.agg #[.int .i64 c.s, .int .u64 c.z, .int .u64 c.zc, .int .u64 c.c, .int .u64 c.sm, .slice ca1 c.P.length cc1, .slice ca2 c.N.length cc2, .slice ca3 c.pd.length cc3, .slice ca4 c.nd.length cc4]) hzero) := by have := HC4.out; rw [he.2] at this ⊢; exact this
      clear he HNC HCO
      have g0 := HG4.out.cell 0 rfl
      have g1 := HG4.out.cell 1 rfl
      have g2 := HG4.out.cell 2 rfl
      have g3 := HG4.out.cell 3 rfl
      have g4 := HG4.out.cell 4 rfl
      have g5 := HG4.out.cell 5 rfl
      have g6 := HG4.out.cell 6 rfl
      have g7 := HG4.out.cell 7 rfl
      have g8 := HG4.out.cell 8 rfl
      generalize che h = C at *
      go_wp2_with fail
      refine (empty_any _ w4 HCZ.out).mono ?_
      rintro e w5 ⟨rfl, hf5⟩
      have HF5 : Hid (Fr [] w w5) := HF4.out.trans hf5 (by simp)
      clear hf5 g0 g1 g2 g3 g4 g5 g6 g7 g8
      go_wp2_with fail
      refine (awake9_any w5).mono ?_
      rintro e w6 ⟨rfl, hf6⟩
      have HF6 : Hid (Fr [] w w6) := HF5.out.trans hf6 (by simp)
      clear hf6
      go_wp2
      go_ret
      exact ⟨rfl, HF6.out.below (Nat.le_refl _) (by simp)⟩
    have HK := HCO.out hk
    have HE : Hid (cae h = 0 ∧ cae c = 0 ∧ cah c = c ∧ heq c h = true ∧ che c = 0 ∧ wio (sdp c) 0 = sdp c ∧ wio (sdn c) 0 = sdn c ∧ cnn c.P = true ∧ cnn c.N = true) := HK
    rw [hk, HE.out.1]
    clear HK hk HNC HCO
    have g0 := HG4.out.cell 0 rfl
    have g1 := HG4.out.cell 1 rfl
    have g2 := HG4.out.cell 2 rfl
    have g3 := HG4.out.cell 3 rfl
    have g4 := HG4.out.cell 4 rfl
    have g5 := HG4.out.cell 5 rfl
    have g6 := HG4.out.cell 6 rfl
    have g7 := HG4.out.cell 7 rfl
    have g8 := HG4.out.cell 8 rfl
    go_wp2_with fail
    refine (hcanon_any _ c w4 HC4.out).mono ?_
    rintro e w5 ⟨u5, rfl, hu5, hf5⟩
    rw [HE.out.2.1]
    rw [HE.out.2.2.1] at hu5
    obtain ⟨da1, dc1, da2, dc2, da3, dc3, da4, dc4, rfl⟩ := hu5.form
    have HNB : Hid (Nine (w5.alloc (.cells #[.int .i64 c.s, .int .u64 c.z, .int .u64 c.zc, .int .u64 c.c, .int .u64 c.sm, .slice da1 c.P.length dc1, .slice da2 c.N.length dc2, .slice da3 c.pd.length dc3, .slice da4 c.nd.length dc4] 26)) w5.heap.size #[.int .i64 c.s, .int .u64 c.z, .int .u64 c.zc, .int .u64 c.c, .int .u64 c.sm, .slice da1 c.P.length dc1, .slice da2 c.N.length dc2, .slice da3 c.pd.length dc3, .slice da4 c.nd.length dc4]) := Nine.new _ _
    have HWB : Hid (Fr [] w (w5.alloc (.cells #[.int .i64 c.s, .int .u64 c.z, .int .u64 c.zc, .int .u64 c.c, .int .u64 c.sm, .slice da1 c.P.length dc1, .slice da2 c.N.length dc2, .slice da3 c.pd.length dc3, .slice da4 c.nd.length dc4] 26)) ∧ Fr [] w4 (w5.alloc (.cells #[.int .i64 c.s, .int .u64 c.z, .int .u64 c.zc, .int .u64 c.c, .int .u64 c.sm, .slice da1 c.P.length dc1, .slice da2 c.N.length dc2, .slice da3 c.pd.length dc3, .slice da4 c.nd.length dc4] 26))) := ⟨(HF4.out.trans hf5 (by simp)).alloc _, hf5.alloc _⟩
    have HDB : Hid (HSrc (w5.alloc (.cells #[.int .i64 c.s, .int .u64 c.z, .int .u64 c.zc, .int .u64 c.c, .int .u64 c.sm, .slice da1 c.P.length dc1, .slice da2 c.N.length dc2, .slice da3 c.pd.length dc3, .slice da4 c.nd.length dc4] 26)) (.agg #[.int .i64 c.s, .int .u64 c.z, .int .u64 c.zc, .int .u64 c.c, .int .u64 c.sm, .slice da1 c.P.length dc1, .slice da2 c.N.length dc2, .slice da3 c.pd.length dc3, .slice da4 c.nd.length dc4]) c) := (hu5.src HIN.out).kept ((Fr.refl [] _).alloc _)
    clear hu5 hf5 g0 g1 g2 g3 g4 g5 g6 g7 g8
    go_upto_region 8 with fail
    generalize w5.alloc (.cells _ _) = wB at HNB HWB HDB ⊢
    generalize w5.heap.size = G6 at HNB ⊢
    have HFB : Hid (Fr [] w wB) := HWB.out.1
    have HN5 : Hid (Nine wB w.heap.size #[.int .i64 h.s, .int .u64 h.z, .int .u64 h.zc, .int .u64 h.c, .int .u64 h.sm, .slice po h.P.length pc, .slice no h.N.length nc, .slice qo h.pd.length qc, .slice ro h.nd.length rc]) := HN4.out.kept HWB.out.2 (by simp)
    have HG5 : Hid (Nine wB G3 #[.int .i64 c.s, .int .u64 c.z, .int .u64 c.zc, .int .u64 c.c, .int .u64 c.sm, .slice ca1 c.P.length cc1, .slice ca2 c.N.length cc2, .slice ca3 c.pd.length cc3, .slice ca4 c.nd.length cc4]) := HG4.out.kept HWB.out.2 (by simp)
    have HC5 : Hid (HSrc wB (.agg #[.int .i64 c.s, .int .u64 c.z, .int .u64 c.zc, .int .u64 c.c, .int .u64 c.sm, .slice ca1 c.P.length cc1, .slice ca2 c.N.length cc2, .slice ca3 c.pd.length cc3, .slice ca4 c.nd.length cc4]) c) := HC4.out.kept HWB.out.2
    clear HWB HN4 HG4 HC4 HF4
    obtain ⟨hsc1, hsc2, hsc3, hsc4⟩ : SSrc wB (.slice ca1 c.P.length cc1) c.P ∧ SSrc wB (.slice ca2 c.N.length cc2) c.N ∧ ISrc wB (.slice ca3 c.pd.length cc3) c.pd ∧ ISrc wB (.slice ca4 c.nd.length cc4) c.nd := by
      obtain ⟨_, _, _, _, hv, _, _, k1, k2, k3, k4⟩ := HC5.out
      simp only [Value.agg.injEq, Array.mk.injEq, List.cons.injEq, and_true, true_and] at hv
      obtain ⟨rfl, rfl, rfl, rfl⟩ := hv
      exact ⟨k1, k2, k3, k4⟩
    obtain ⟨hsd1, hsd2, hsd3, hsd4⟩ : SSrc wB (.slice da1 c.P.length dc1) c.P ∧ SSrc wB (.slice da2 c.N.length dc2) c.N ∧ ISrc wB (.slice da3 c.pd.length dc3) c.pd ∧ ISrc wB (.slice da4 c.nd.length dc4) c.nd := by
      obtain ⟨_, _, _, _, hv, _, _, k1, k2, k3, k4⟩ := HDB.out
      simp only [Value.agg.injEq, Array.mk.injEq, List.cons.injEq, and_true, true_and] at hv
      obtain ⟨rfl, rfl, rfl, rfl⟩ := hv
      exact ⟨k1, k2, k3, k4⟩
    have HSC : Hid (SSrc wB (.slice ca1 c.P.length cc1) c.P ∧ SSrc wB (.slice ca2 c.N.length cc2) c.N ∧ ISrc wB (.slice ca3 c.pd.length cc3) c.pd ∧ ISrc wB (.slice ca4 c.nd.length cc4) c.nd) := ⟨hsc1, hsc2, hsc3, hsc4⟩
    have HSD : Hid (SSrc wB (.slice da1 c.P.length dc1) c.P ∧ SSrc wB (.slice da2 c.N.length dc2) c.N ∧ ISrc wB (.slice da3 c.pd.length dc3) c.pd ∧ ISrc wB (.slice da4 c.nd.length dc4) c.nd) := ⟨hsd1, hsd2, hsd3, hsd4⟩
    clear hsc1 hsc2 hsc3 hsc4 hsd1 hsd2 hsd3 hsd4
    have HLC : Hid (c.P.length ≤ 1024 ∧ c.N.length ≤ 1024) := che_len HE.out.2.2.2.2.1
    have L0 : ∀ wx, Fr [] wB wx → wx.cell? ⟨w.heap.size, 0, none⟩ = some (.int .i64 h.s) := fun wx hx => hx.cell_some (HN5.out.cell 0 rfl) List.not_mem_nil
    have L1 : ∀ wx, Fr [] wB wx → wx.cell? ⟨w.heap.size, 1, none⟩ = some (.int .u64 h.z) := fun wx hx => hx.cell_some (HN5.out.cell 1 rfl) List.not_mem_nil
    have L2 : ∀ wx, Fr [] wB wx → wx.cell? ⟨w.heap.size, 2, none⟩ = some (.int .u64 h.zc) := fun wx hx => hx.cell_some (HN5.out.cell 2 rfl) List.not_mem_nil
    have L3 : ∀ wx, Fr [] wB wx → wx.cell? ⟨w.heap.size, 3, none⟩ = some (.int .u64 h.c) := fun wx hx => hx.cell_some (HN5.out.cell 3 rfl) List.not_mem_nil
    have L4 : ∀ wx, Fr [] wB wx → wx.cell? ⟨w.heap.size, 4, none⟩ = some (.int .u64 h.sm) := fun wx hx => hx.cell_some (HN5.out.cell 4 rfl) List.not_mem_nil
    have L5 : ∀ wx, Fr [] wB wx → wx.cell? ⟨w.heap.size, 5, none⟩ = some (.slice po h.P.length pc) := fun wx hx => hx.cell_some (HN5.out.cell 5 rfl) List.not_mem_nil
    have L6 : ∀ wx, Fr [] wB wx → wx.cell? ⟨w.heap.size, 6, none⟩ = some (.slice no h.N.length nc) := fun wx hx => hx.cell_some (HN5.out.cell 6 rfl) List.not_mem_nil
    have L7 : ∀ wx, Fr [] wB wx → wx.cell? ⟨w.heap.size, 7, none⟩ = some (.slice qo h.pd.length qc) := fun wx hx => hx.cell_some (HN5.out.cell 7 rfl) List.not_mem_nil
    have L8 : ∀ wx, Fr [] wB wx → wx.cell? ⟨w.heap.size, 8, none⟩ = some (.slice ro h.nd.length rc) := fun wx hx => hx.cell_some (HN5.out.cell 8 rfl) List.not_mem_nil
    have M0 : ∀ wx, Fr [] wB wx → wx.cell? ⟨G3, 0, none⟩ = some (.int .i64 c.s) := fun wx hx => hx.cell_some (HG5.out.cell 0 rfl) List.not_mem_nil
    have M1 : ∀ wx, Fr [] wB wx → wx.cell? ⟨G3, 1, none⟩ = some (.int .u64 c.z) := fun wx hx => hx.cell_some (HG5.out.cell 1 rfl) List.not_mem_nil
    have M2 : ∀ wx, Fr [] wB wx → wx.cell? ⟨G3, 2, none⟩ = some (.int .u64 c.zc) := fun wx hx => hx.cell_some (HG5.out.cell 2 rfl) List.not_mem_nil
    have M3 : ∀ wx, Fr [] wB wx → wx.cell? ⟨G3, 3, none⟩ = some (.int .u64 c.c) := fun wx hx => hx.cell_some (HG5.out.cell 3 rfl) List.not_mem_nil
    have M4 : ∀ wx, Fr [] wB wx → wx.cell? ⟨G3, 4, none⟩ = some (.int .u64 c.sm) := fun wx hx => hx.cell_some (HG5.out.cell 4 rfl) List.not_mem_nil
    have M5 : ∀ wx, Fr [] wB wx → wx.cell? ⟨G3, 5, none⟩ = some (.slice ca1 c.P.length cc1) := fun wx hx => hx.cell_some (HG5.out.cell 5 rfl) List.not_mem_nil
    have M6 : ∀ wx, Fr [] wB wx → wx.cell? ⟨G3, 6, none⟩ = some (.slice ca2 c.N.length cc2) := fun wx hx => hx.cell_some (HG5.out.cell 6 rfl) List.not_mem_nil
    have M7 : ∀ wx, Fr [] wB wx → wx.cell? ⟨G3, 7, none⟩ = some (.slice ca3 c.pd.length cc3) := fun wx hx => hx.cell_some (HG5.out.cell 7 rfl) List.not_mem_nil
    have M8 : ∀ wx, Fr [] wB wx → wx.cell? ⟨G3, 8, none⟩ = some (.slice ca4 c.nd.length cc4) := fun wx hx => hx.cell_some (HG5.out.cell 8 rfl) List.not_mem_nil
    have F0 : Fr [] wB wB.drew := (Fr.refl _ _).drew
    have HP1 : Hid (∀ wx, Fr [] wB wx → Calls Try.prog 14 #[.agg #[.int .i64 c.s, .int .u64 c.z, .int .u64 c.zc, .int .u64 c.c, .int .u64 c.sm, .slice ca1 c.P.length cc1, .slice ca2 c.N.length cc2, .slice ca3 c.pd.length cc3, .slice ca4 c.nd.length cc4]] wx fun e w' => ∃ u, e = .returned u ∧ HSrc w' u c ∧ Fr [] wB w') := by
      intro wx hx
      refine (href_any _ c wx (HC5.out.kept hx) HLC.out).mono ?_
      rintro e w' ⟨u, rfl, hu, hf⟩
      exact ⟨u, rfl, hu, hx.trans hf (by simp)⟩
    have HP2 : Hid (∀ wx, Fr [] wB wx → Calls Try.prog 14 #[.agg #[.int .i64 h.s, .int .u64 h.z, .int .u64 h.zc, .int .u64 h.c, .int .u64 h.sm, .slice po h.P.length pc, .slice no h.N.length nc, .slice qo h.pd.length qc, .slice ro h.nd.length rc]] wx fun e w' => ∃ u, e = .returned u ∧ HSrc w' u h ∧ Fr [] wx w' ∧ Fr [] wB w') := by
      intro wx hx
      refine (href_any _ h wx (HH.out _ (HFB.out.trans hx (by simp))) HLE.out).mono ?_
      rintro e w' ⟨u, rfl, hu, hf⟩
      exact ⟨u, rfl, hu, hf, hx.trans hf (by simp)⟩
    have HP3 : Hid (∀ wx u u2, Fr [] wB wx → HSrc wx u c → HSrc wx u2 h → Calls Try.prog 30 #[u, u2] wx fun e w' => e = .returned (.bool true) ∧ Fr [] wB w') := by
      intro wx u u2 hx hu hu2
      refine (lequal9_any _ _ c h wx hu hu2).mono ?_
      rintro e w' ⟨rfl, hf⟩
      exact ⟨by rw [req_heq, HE.out.2.2.2.1], hx.trans hf (by simp)⟩
    have HP4 : Hid (∀ wx, Fr [] wB wx → Calls Try.prog 31 #[.agg #[.int .i64 c.s, .int .u64 c.z, .int .u64 c.zc, .int .u64 c.c, .int .u64 c.sm, .slice ca1 c.P.length cc1, .slice ca2 c.N.length cc2, .slice ca3 c.pd.length cc3, .slice ca4 c.nd.length cc4]] wx fun e w' => e = .returned (.bool true) ∧ Fr [] wB w') := by
      intro wx hx
      refine (full_any _ c wx (HC5.out.kept hx) HE.out.2.2.2.2.1 HE.out.2.2.2.2.2.1 HE.out.2.2.2.2.2.2.1).mono ?_
      rintro e w' ⟨rfl, hf⟩
      exact ⟨rfl, hx.trans hf (by simp)⟩
    have HP5 : Hid (∀ wx, Fr [] wB wx → Calls Try.prog 27 #[.slice ca1 c.P.length cc1] wx fun e w' => e = .returned (.bool true) ∧ Fr [] wB w') := by
      intro wx hx
      refine (canonical_any _ c.P wx (HSC.out.1.kept hx)).mono ?_
      rintro e w' ⟨rfl, hf⟩
      exact ⟨by rw [HE.out.2.2.2.2.2.2.2.1], hx.trans hf (by simp)⟩
    have HP6 : Hid (∀ wx, Fr [] wB wx → Calls Try.prog 27 #[.slice ca2 c.N.length cc2] wx fun e w' => e = .returned (.bool true) ∧ Fr [] wB w') := by
      intro wx hx
      refine (canonical_any _ c.N wx (HSC.out.2.1.kept hx)).mono ?_
      rintro e w' ⟨rfl, hf⟩
      exact ⟨by rw [HE.out.2.2.2.2.2.2.2.2], hx.trans hf (by simp)⟩
    go_region_held3 (fun w' => w'.cell? ⟨w.heap.size, 0, none⟩ = some (.int .i64 h.s) ∧ w'.cell? ⟨w.heap.size, 1, none⟩ = some (.int .u64 h.z) ∧ w'.cell? ⟨w.heap.size, 2, none⟩ = some (.int .u64 h.zc) ∧ w'.cell? ⟨w.heap.size, 3, none⟩ = some (.int .u64 h.c) ∧ w'.cell? ⟨w.heap.size, 4, none⟩ = some (.int .u64 h.sm) ∧ w'.cell? ⟨w.heap.size, 5, none⟩ = some (.slice po h.P.length pc) ∧ w'.cell? ⟨w.heap.size, 6, none⟩ = some (.slice no h.N.length nc) ∧ w'.cell? ⟨w.heap.size, 7, none⟩ = some (.slice qo h.pd.length qc) ∧ w'.cell? ⟨w.heap.size, 8, none⟩ = some (.slice ro h.nd.length rc) ∧ w'.cell? ⟨G3, 0, none⟩ = some (.int .i64 c.s) ∧ w'.cell? ⟨G3, 1, none⟩ = some (.int .u64 c.z) ∧ w'.cell? ⟨G3, 2, none⟩ = some (.int .u64 c.zc) ∧ w'.cell? ⟨G3, 3, none⟩ = some (.int .u64 c.c) ∧ w'.cell? ⟨G3, 4, none⟩ = some (.int .u64 c.sm) ∧ w'.cell? ⟨G3, 5, none⟩ = some (.slice ca1 c.P.length cc1) ∧ w'.cell? ⟨G3, 6, none⟩ = some (.slice ca2 c.N.length cc2) ∧ w'.cell? ⟨G3, 7, none⟩ = some (.slice ca3 c.pd.length cc3) ∧ w'.cell? ⟨G3, 8, none⟩ = some (.slice ca4 c.nd.length cc4)) (go_keep) (first
      | (go_at_call 14; first
        | (with_reducible refine (HP1.out _ F0).mono ?_; rintro e wa ⟨ua, rfl, hua, hfa⟩)
        | (with_reducible refine (HP2.out _ hfa).mono ?_; rintro e wb ⟨ub, rfl, hub, hfab, hfb⟩))
      | (go_at_call 30; with_reducible refine (HP3.out _ _ _ hfb (hua.kept hfab) hub).mono ?_; rintro e wc ⟨rfl, hfc⟩)
      | (go_at_call 31; with_reducible refine (HP4.out _ hfc).mono ?_; rintro e wd ⟨rfl, hfd⟩)
      | (go_at_call 27; first
        | (with_reducible refine (HP5.out _ hfd).mono ?_; rintro e we ⟨rfl, hfe⟩)
        | (with_reducible refine (HP6.out _ hfe).mono ?_; rintro e wf ⟨rfl, hff⟩)))
    have HF10 : Hid (Fr [] wB wf) := hff
    clear hua hub hfa hfb hfab hfc hfd hfe hff F0
    have x0 : wf.cell? ⟨G3, 0, none⟩ = some (.int .i64 c.s) := M0 _ HF10.out
    have y0 : wf.cell? ⟨G6, 0, none⟩ = some (.int .i64 c.s) := HF10.out.cell_some (HNB.out.cell 0 rfl) List.not_mem_nil
    have x1 : wf.cell? ⟨G3, 1, none⟩ = some (.int .u64 c.z) := M1 _ HF10.out
    have y1 : wf.cell? ⟨G6, 1, none⟩ = some (.int .u64 c.z) := HF10.out.cell_some (HNB.out.cell 1 rfl) List.not_mem_nil
    have x2 : wf.cell? ⟨G3, 2, none⟩ = some (.int .u64 c.zc) := M2 _ HF10.out
    have y2 : wf.cell? ⟨G6, 2, none⟩ = some (.int .u64 c.zc) := HF10.out.cell_some (HNB.out.cell 2 rfl) List.not_mem_nil
    have x3 : wf.cell? ⟨G3, 3, none⟩ = some (.int .u64 c.c) := M3 _ HF10.out
    have y3 : wf.cell? ⟨G6, 3, none⟩ = some (.int .u64 c.c) := HF10.out.cell_some (HNB.out.cell 3 rfl) List.not_mem_nil
    have x4 : wf.cell? ⟨G3, 4, none⟩ = some (.int .u64 c.sm) := M4 _ HF10.out
    have y4 : wf.cell? ⟨G6, 4, none⟩ = some (.int .u64 c.sm) := HF10.out.cell_some (HNB.out.cell 4 rfl) List.not_mem_nil
    have x5 : wf.cell? ⟨G3, 5, none⟩ = some (.slice ca1 c.P.length cc1) := M5 _ HF10.out
    have y5 : wf.cell? ⟨G6, 5, none⟩ = some (.slice da1 c.P.length dc1) := HF10.out.cell_some (HNB.out.cell 5 rfl) List.not_mem_nil
    have x6 : wf.cell? ⟨G3, 6, none⟩ = some (.slice ca2 c.N.length cc2) := M6 _ HF10.out
    have y6 : wf.cell? ⟨G6, 6, none⟩ = some (.slice da2 c.N.length dc2) := HF10.out.cell_some (HNB.out.cell 6 rfl) List.not_mem_nil
    have x7 : wf.cell? ⟨G3, 7, none⟩ = some (.slice ca3 c.pd.length cc3) := M7 _ HF10.out
    have y7 : wf.cell? ⟨G6, 7, none⟩ = some (.slice da3 c.pd.length dc3) := HF10.out.cell_some (HNB.out.cell 7 rfl) List.not_mem_nil
    have x8 : wf.cell? ⟨G3, 8, none⟩ = some (.slice ca4 c.nd.length cc4) := M8 _ HF10.out
    have y8 : wf.cell? ⟨G6, 8, none⟩ = some (.slice da4 c.nd.length dc4) := HF10.out.cell_some (HNB.out.cell 8 rfl) List.not_mem_nil
    go_wp2_with fail
    refine (numbers_any _ _ c c wf (HC5.out.kept HF10.out) (HDB.out.kept HF10.out) ⟨rfl, rfl, rfl, rfl, rfl⟩).mono ?_
    rintro e w11 ⟨rfl, hf11⟩
    have HF11 : Hid (Fr [] wB w11) := HF10.out.trans hf11 (by simp)
    clear hf11
    clear x0 y0 x1 y1 x2 y2 x3 y3 x4 y4 x5 y5 x6 y6 x7 y7 x8 y8
    have x5 : w11.cell? ⟨G3, 5, none⟩ = some (.slice ca1 c.P.length cc1) := M5 _ HF11.out
    have y5 : w11.cell? ⟨G6, 5, none⟩ = some (.slice da1 c.P.length dc1) := HF11.out.cell_some (HNB.out.cell 5 rfl) List.not_mem_nil
    go_wp2_with fail
    refine (same9_any _ _ c.P w11 (HSC.out.1.kept HF11.out) (HSD.out.1.kept HF11.out)).mono ?_
    rintro e w12 ⟨rfl, hf12⟩
    have HF12 : Hid (Fr [] wB w12) := HF11.out.trans hf12 (by simp)
    clear hf12
    clear x5 y5
    have x6 : w12.cell? ⟨G3, 6, none⟩ = some (.slice ca2 c.N.length cc2) := M6 _ HF12.out
    have y6 : w12.cell? ⟨G6, 6, none⟩ = some (.slice da2 c.N.length dc2) := HF12.out.cell_some (HNB.out.cell 6 rfl) List.not_mem_nil
    go_wp2_with fail
    refine (same9_any _ _ c.N w12 (HSC.out.2.1.kept HF12.out) (HSD.out.2.1.kept HF12.out)).mono ?_
    rintro e w13 ⟨rfl, hf13⟩
    have HF13 : Hid (Fr [] wB w13) := HF12.out.trans hf13 (by simp)
    clear hf13
    clear x6 y6
    have x7 : w13.cell? ⟨G3, 7, none⟩ = some (.slice ca3 c.pd.length cc3) := M7 _ HF13.out
    have y7 : w13.cell? ⟨G6, 7, none⟩ = some (.slice da3 c.pd.length dc3) := HF13.out.cell_some (HNB.out.cell 7 rfl) List.not_mem_nil
    go_wp2_with fail
    refine (like2_any _ _ c.pd w13 (HSC.out.2.2.1.kept HF13.out) (HSD.out.2.2.1.kept HF13.out)).mono ?_
    rintro e w14 ⟨rfl, hf14⟩
    have HF14 : Hid (Fr [] wB w14) := HF13.out.trans hf14 (by simp)
    clear hf14
    clear x7 y7
    have x8 : w14.cell? ⟨G3, 8, none⟩ = some (.slice ca4 c.nd.length cc4) := M8 _ HF14.out
    have y8 : w14.cell? ⟨G6, 8, none⟩ = some (.slice da4 c.nd.length dc4) := HF14.out.cell_some (HNB.out.cell 8 rfl) List.not_mem_nil
    go_wp2_with fail
    refine (like2_any _ _ c.nd w14 (HSC.out.2.2.2.kept HF14.out) (HSD.out.2.2.2.kept HF14.out)).mono ?_
    rintro e w15 ⟨rfl, hf15⟩
    have HF15 : Hid (Fr [] wB w15) := HF14.out.trans hf15 (by simp)
    clear hf15
    clear x8 y8
    go_wp2_with fail
    refine (awake9_any w15).mono ?_
    rintro e w16 ⟨rfl, hf16⟩
    have HF16 : Hid (Fr [] wB w16) := HF15.out.trans hf16 (by simp)
    clear hf16
    go_wp2
    go_ret
    exact ⟨rfl, (HFB.out.trans HF16.out (by simp)).below (Nat.le_refl _) (by simp)⟩
end Go.Proofs.Ytjkiiccdcjcfbaa
