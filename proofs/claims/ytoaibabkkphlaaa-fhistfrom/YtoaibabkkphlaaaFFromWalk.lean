/-
  FhistFrom: the walk.
-/
import Derived.Test.YtoaibabkkphlaaaGG
import Derived.Test.YtoaibabkkphlaaaGL
import Derived.Test.YtoaibabkkphlaaaGB
namespace Go.Proofs.Ytoaibabkkphlaaa
open Go.RowKit Mem Spans
set_option linter.unusedSimpArgs false
set_option linter.unusedVariables false
set_option maxRecDepth 100000

theorem fsrc4 {w : World} {h : Fs} {s z zc c sm : Value} {a1 a2 a3 a4 : Option Addr} {n1 n2 n3 n4 c1 c2 c3 c4 : Nat} (k : FSrc w (.agg #[s, z, zc, c, sm, .slice a1 n1 c1, .slice a2 n2 c2, .slice a3 n3 c3, .slice a4 n4 c4]) h) :
    SSrc w (.slice a1 n1 c1) h.P ∧ SSrc w (.slice a2 n2 c2) h.N ∧ USrc w (.slice a3 n3 c3) h.pd ∧ USrc w (.slice a4 n4 c4) h.nd := by
  obtain ⟨_, _, _, _, hv, _, _, k1, k2, k3, k4⟩ := k
  simp only [Value.agg.injEq, Array.mk.injEq, List.cons.injEq, and_true, true_and] at hv
  obtain ⟨rfl, rfl, rfl, rfl, rfl, h1, h2, h3, h4⟩ := hv
  exact ⟨h1 ▸ k1, h2 ▸ k2, h3 ▸ k3, h4 ▸ k4⟩
theorem hsrc4 {w : World} {h : Hs} {s z zc c sm : Value} {a1 a2 a3 a4 : Option Addr} {n1 n2 n3 n4 c1 c2 c3 c4 : Nat} (k : HSrc w (.agg #[s, z, zc, c, sm, .slice a1 n1 c1, .slice a2 n2 c2, .slice a3 n3 c3, .slice a4 n4 c4]) h) :
    SSrc w (.slice a1 n1 c1) h.P ∧ SSrc w (.slice a2 n2 c2) h.N ∧ ISrc w (.slice a3 n3 c3) h.pd ∧ ISrc w (.slice a4 n4 c4) h.nd := by
  obtain ⟨_, _, _, _, hv, _, _, k1, k2, k3, k4⟩ := k
  simp only [Value.agg.injEq, Array.mk.injEq, List.cons.injEq, and_true, true_and] at hv
  obtain ⟨rfl, rfl, rfl, rfl, rfl, h1, h2, h3, h4⟩ := hv
  exact ⟨h1 ▸ k1, h2 ▸ k2, h3 ▸ k3, h4 ▸ k4⟩

theorem eqt (v u : Value) (h : Hs) (w : World) (h1 : HSrc w v h) (h2 : HSrc w u h) (e : heq h h = true) :
    Calls Try.prog 47 #[v, u] w fun e w' => e = .returned (.bool true) ∧ Fr [] w w' := by
  have := hequal_any v u h h w h1 h2
  rwa [e] at this

set_option maxHeartbeats 16000000 in
theorem ffrom_walk (v0 : Value) (h : Hs) (w : World) (w0 : HSrc w v0 h) :
    Calls Try.prog 10 #[v0] w fun e w' => e = .returned (.bool true) ∧ Below w.heap.size w w' := by
  have HH : Hid (∀ wx, Fr [] w wx → HSrc wx v0 h) := fun wx hx => w0.kept hx
  obtain ⟨po, pc, no, nc, qo, qc, ro, rc, rfl, -⟩ := w0.opens
  have HINU : Hid (inu h.zc ∧ inu h.c) := by obtain ⟨_, _, _, _, _, _, _, _, _, hi, _⟩ := w0.opens; exact ⟨hi.2.2.1, hi.2.2.2.1⟩
  have HSR : Hid (∀ wx, Fr [] w wx → SSrc wx (.slice po h.P.length pc) h.P ∧ SSrc wx (.slice no h.N.length nc) h.N ∧ ISrc wx (.slice qo h.pd.length qc) h.pd ∧ ISrc wx (.slice ro h.nd.length rc) h.nd) := fun wx hx => hsrc4 (w0.kept hx)
  clear w0
  go_enter Try.func10, Try.ntmps10
  have HN0 : Hid (Nine (w.alloc (.cells #[.int .i64 h.s, .int .u64 h.z, .int .u64 h.zc, .int .u64 h.c, .int .u64 h.sm, .slice po h.P.length pc, .slice no h.N.length nc, .slice qo h.pd.length qc, .slice ro h.nd.length rc] 70)) w.heap.size #[.int .i64 h.s, .int .u64 h.z, .int .u64 h.zc, .int .u64 h.c, .int .u64 h.sm, .slice po h.P.length pc, .slice no h.N.length nc, .slice qo h.pd.length qc, .slice ro h.nd.length rc]) := Nine.new _ _
  have HF0 : Hid (Fr [] w (w.alloc (.cells #[.int .i64 h.s, .int .u64 h.z, .int .u64 h.zc, .int .u64 h.c, .int .u64 h.sm, .slice po h.P.length pc, .slice no h.N.length nc, .slice qo h.pd.length qc, .slice ro h.nd.length rc] 70))) := (Fr.refl [] w).alloc _
  go_wp2_with fail
  refine (few10_any _ h.P _ (HSR.out _ HF0.out).1).mono ?_
  rintro e w1 ⟨r1, rfl, hr1, hf1⟩
  have HF1 : Hid (Fr [] w w1) := HF0.out.trans hf1 (by simp)
  have HN1 : Hid (Nine w1 w.heap.size #[.int .i64 h.s, .int .u64 h.z, .int .u64 h.zc, .int .u64 h.c, .int .u64 h.sm, .slice po h.P.length pc, .slice no h.N.length nc, .slice qo h.pd.length qc, .slice ro h.nd.length rc]) := HN0.out.kept hf1 (by simp)
  have HR1 : Hid (r1 = true → h.P.length ≤ 400) := hr1
  clear hf1 hr1 HN0 HF0
  cases r1 with
  | false =>
    go_wp2_with fail
    refine (awake10_any w1).mono ?_
    rintro e wz9 ⟨rfl, hfz⟩
    have HFZ : Hid (Fr [] w wz9) := HF1.out.trans hfz (by simp)
    clear hfz
    go_wp2
    go_ret
    exact ⟨rfl, HFZ.out.below (Nat.le_refl _) (by simp)⟩
  | true =>
  have HL1 : Hid (h.P.length ≤ 400) := HR1.out rfl
  clear HR1
  have c6 := HN1.out.cell 6 rfl
  go_wp2_with fail
  refine (few10_any _ h.N _ (HSR.out _ HF1.out).2.1).mono ?_
  rintro e w2 ⟨r2, rfl, hr2, hf2⟩
  have HF2 : Hid (Fr [] w w2) := HF1.out.trans hf2 (by simp)
  have HN2 : Hid (Nine w2 w.heap.size #[.int .i64 h.s, .int .u64 h.z, .int .u64 h.zc, .int .u64 h.c, .int .u64 h.sm, .slice po h.P.length pc, .slice no h.N.length nc, .slice qo h.pd.length qc, .slice ro h.nd.length rc]) := HN1.out.kept hf2 (by simp)
  have HR2 : Hid (r2 = true → h.N.length ≤ 400) := hr2
  clear hf2 hr2 HN1 HF1 c6
  cases r2 with
  | false =>
    go_wp2_with fail
    refine (awake10_any w2).mono ?_
    rintro e wz9 ⟨rfl, hfz⟩
    have HFZ : Hid (Fr [] w wz9) := HF2.out.trans hfz (by simp)
    clear hfz
    go_wp2
    go_ret
    exact ⟨rfl, HFZ.out.below (Nat.le_refl _) (by simp)⟩
  | true =>
  have HL2 : Hid (h.N.length ≤ 400) := HR2.out rfl
  clear HR2
  have c7 := HN2.out.cell 7 rfl
  have c8 := HN2.out.cell 8 rfl
  by_cases h3 : h.pd.length ≤ 300
  case neg =>
    have d3 : decide ((h.pd.length : Int) > 300) = true := decide_eq_true (by omega)
    have d4 : (300 : Int) < (h.pd.length : Int) := by omega
    go_wp2_with fail
    refine (awake10_any w2).mono ?_
    rintro e wz9 ⟨rfl, hfz⟩
    have HFZ : Hid (Fr [] w wz9) := HF2.out.trans hfz (by simp)
    clear hfz
    go_wp2
    go_ret
    exact ⟨rfl, HFZ.out.below (Nat.le_refl _) (by simp)⟩
  have d3 : ¬ (300 : Int) < (h.pd.length : Int) := by omega
  have HL3 : Hid (h.pd.length ≤ 300) := h3
  by_cases h4 : h.nd.length ≤ 300
  case neg =>
    have d4 : (300 : Int) < (h.nd.length : Int) := by omega
    go_wp2_with fail
    refine (awake10_any w2).mono ?_
    rintro e wz9 ⟨rfl, hfz⟩
    have HFZ : Hid (Fr [] w wz9) := HF2.out.trans hfz (by simp)
    clear hfz
    go_wp2
    go_ret
    exact ⟨rfl, HFZ.out.below (Nat.le_refl _) (by simp)⟩
  have d4 : ¬ (300 : Int) < (h.nd.length : Int) := by omega
  have HL4 : Hid (h.nd.length ≤ 300) := h4
  clear h3 h4
  have c0 := HN2.out.cell 0 rfl
  have c1 := HN2.out.cell 1 rfl
  have c2 := HN2.out.cell 2 rfl
  have c3 := HN2.out.cell 3 rfl
  have c4 := HN2.out.cell 4 rfl
  have c5 := HN2.out.cell 5 rfl
  have c6 := HN2.out.cell 6 rfl
  go_wp2_with fail
  refine (ffrom_any _ h w2 (HH.out _ HF2.out)).mono ?_
  rintro e w3 ⟨u, rfl, hu, hf3⟩
  have HCQ : Hid (frh h = if che h = 0 then frs h else fzero) := rfl
  have HFC : Hid (frh h = frh h) := rfl
  obtain ⟨c, hc⟩ : ∃ c, c = frh h := ⟨_, rfl⟩
  rw [← hc] at hu HCQ
  clear HFC hc
  obtain ⟨ca1, cc1, ca2, cc2, ca3, cc3, ca4, cc4, rfl, -⟩ := hu.src.opens
  have HNA : Hid (NineF (w3.alloc (.cells #[.int .i64 c.s, .int .u64 c.z, .int .u64 c.zc, .int .u64 c.c, .int .u64 c.sm, .slice ca1 c.P.length cc1, .slice ca2 c.N.length cc2, .slice ca3 c.pd.length cc3, .slice ca4 c.nd.length cc4] 26)) w3.heap.size #[.int .i64 c.s, .int .u64 c.z, .int .u64 c.zc, .int .u64 c.c, .int .u64 c.sm, .slice ca1 c.P.length cc1, .slice ca2 c.N.length cc2, .slice ca3 c.pd.length cc3, .slice ca4 c.nd.length cc4]) := NineF.new _ _
  have HWA : Hid (Fr [] w2 (w3.alloc (.cells #[.int .i64 c.s, .int .u64 c.z, .int .u64 c.zc, .int .u64 c.c, .int .u64 c.sm, .slice ca1 c.P.length cc1, .slice ca2 c.N.length cc2, .slice ca3 c.pd.length cc3, .slice ca4 c.nd.length cc4] 26))) := hf3.alloc _
  have HCA : Hid (FSrc (w3.alloc (.cells #[.int .i64 c.s, .int .u64 c.z, .int .u64 c.zc, .int .u64 c.c, .int .u64 c.sm, .slice ca1 c.P.length cc1, .slice ca2 c.N.length cc2, .slice ca3 c.pd.length cc3, .slice ca4 c.nd.length cc4] 26)) (.agg #[.int .i64 c.s, .int .u64 c.z, .int .u64 c.zc, .int .u64 c.c, .int .u64 c.sm, .slice ca1 c.P.length cc1, .slice ca2 c.N.length cc2, .slice ca3 c.pd.length cc3, .slice ca4 c.nd.length cc4]) c) := hu.src.kept ((Fr.refl [] _).alloc _)
  clear hu hf3 d3 d4 c0 c1 c2 c3 c4 c5 c6 c7 c8
  go_upto_region 4 with fail
  generalize w3.alloc (.cells _ _) = w4 at HNA HWA HCA ⊢
  generalize w3.heap.size = G3 at HNA ⊢
  have HF4 : Hid (Fr [] w w4) := HF2.out.trans HWA.out (by simp)
  have HN4 : Hid (Nine w4 w.heap.size #[.int .i64 h.s, .int .u64 h.z, .int .u64 h.zc, .int .u64 h.c, .int .u64 h.sm, .slice po h.P.length pc, .slice no h.N.length nc, .slice qo h.pd.length qc, .slice ro h.nd.length rc]) := HN2.out.kept HWA.out (by simp)
  clear HWA HN2 HF2
  have HLE : Hid (h.P.length ≤ 1024 ∧ h.N.length ≤ 1024) := by have := HL1.out; have := HL2.out; rw [Hid]; omega
  have q0 := HN4.out.cell 0 rfl
  have q1 := HN4.out.cell 1 rfl
  have q2 := HN4.out.cell 2 rfl
  have q3 := HN4.out.cell 3 rfl
  have q4 := HN4.out.cell 4 rfl
  have q5 := HN4.out.cell 5 rfl
  have q6 := HN4.out.cell 6 rfl
  have q7 := HN4.out.cell 7 rfl
  have q8 := HN4.out.cell 8 rfl
  go_wp2_with fail
  refine (hwhole10_any _ h w4 (HH.out _ HF4.out) HLE.out).mono ?_
  rintro e w5 ⟨u5, rfl, hu5, hf5⟩
  have HU5 : Hid (HSrc w5 u5 h) := hu5
  have HFA5 : Hid (Fr [] w4 w5) := hf5
  clear hu5 hf5 q0 q1 q2 q3 q4 q5 q6 q7 q8
  go_wp2_with fail
  refine (lcheck9_any _ h w5 HU5.out).mono ?_
  rintro e w6 ⟨rfl, hf6⟩
  have HFA6 : Hid (Fr [] w4 w6) := HFA5.out.trans hf6 (by simp)
  have HF6 : Hid (Fr [] w w6) := HF4.out.trans HFA6.out (by simp)
  have HN6 : Hid (Nine w6 w.heap.size #[.int .i64 h.s, .int .u64 h.z, .int .u64 h.zc, .int .u64 h.c, .int .u64 h.sm, .slice po h.P.length pc, .slice no h.N.length nc, .slice qo h.pd.length qc, .slice ro h.nd.length rc]) := HN4.out.kept HFA6.out (by simp)
  have HG6 : Hid (NineF w6 G3 #[.int .i64 c.s, .int .u64 c.z, .int .u64 c.zc, .int .u64 c.c, .int .u64 c.sm, .slice ca1 c.P.length cc1, .slice ca2 c.N.length cc2, .slice ca3 c.pd.length cc3, .slice ca4 c.nd.length cc4]) := HNA.out.kept HFA6.out (by simp)
  have HC6 : Hid (FSrc w6 (.agg #[.int .i64 c.s, .int .u64 c.z, .int .u64 c.zc, .int .u64 c.c, .int .u64 c.sm, .slice ca1 c.P.length cc1, .slice ca2 c.N.length cc2, .slice ca3 c.pd.length cc3, .slice ca4 c.nd.length cc4]) c) := HCA.out.kept HFA6.out
  clear hf6 HFA5 HFA6 HU5 HF4 HN4 HNA HCA
  by_cases hk : che h = 0
  case neg =>
    have hb : (che h != 0) = true := by simpa using hk
    have HCZ : Hid (FSrc w6 (.agg #[.int .i64 c.s, .int .u64 c.z, .int .u64 c.zc, .int .u64 c.c, .int .u64 c.sm, .slice ca1 c.P.length cc1, .slice ca2 c.N.length cc2, .slice ca3 c.pd.length cc3, .slice ca4 c.nd.length cc4]) fzero) := by have e := HCQ.out; rw [if_neg hk] at e; have := HC6.out; rw [e] at this ⊢; exact this
    clear HCQ
    generalize che h = C at *
    have g0 := HG6.out.cell 0 rfl
    have g1 := HG6.out.cell 1 rfl
    have g2 := HG6.out.cell 2 rfl
    have g3 := HG6.out.cell 3 rfl
    have g4 := HG6.out.cell 4 rfl
    have g5 := HG6.out.cell 5 rfl
    have g6 := HG6.out.cell 6 rfl
    have g7 := HG6.out.cell 7 rfl
    have g8 := HG6.out.cell 8 rfl
    go_wp2_with fail
    refine (empty10_any _ w6 HCZ.out).mono ?_
    rintro e w7 ⟨rfl, hf7⟩
    have HF7 : Hid (Fr [] w w7) := HF6.out.trans hf7 (by simp)
    clear hf7 g0 g1 g2 g3 g4 g5 g6 g7 g8
    go_wp2_with fail
    refine (awake10_any w7).mono ?_
    rintro e wz9 ⟨rfl, hfz⟩
    have HFZ : Hid (Fr [] w wz9) := HF7.out.trans hfz (by simp)
    clear hfz
    go_wp2
    go_ret
    exact ⟨rfl, HFZ.out.below (Nat.le_refl _) (by simp)⟩
  have HK : Hid (che h = 0) := hk
  have HCF : Hid (c = frs h) := by have e := HCQ.out; rw [if_pos hk] at e; exact e
  rw [hk]
  clear hk HCQ
  have c7 := HN6.out.cell 7 rfl
  go_wp2_with fail
  refine (labsolute_any _ h.pd w6 (HSR.out _ HF6.out).2.2.1 (by have := HL3.out; omega)).mono ?_
  rintro e w7 ⟨u7, rfl, hu7, hf7⟩
  have HF7 : Hid (Fr [] w w7) := HF6.out.trans hf7 (by simp)
  have HN7 : Hid (Nine w7 w.heap.size #[.int .i64 h.s, .int .u64 h.z, .int .u64 h.zc, .int .u64 h.c, .int .u64 h.sm, .slice po h.P.length pc, .slice no h.N.length nc, .slice qo h.pd.length qc, .slice ro h.nd.length rc]) := HN6.out.kept hf7 (by simp)
  have HG7 : Hid (NineF w7 G3 #[.int .i64 c.s, .int .u64 c.z, .int .u64 c.zc, .int .u64 c.c, .int .u64 c.sm, .slice ca1 c.P.length cc1, .slice ca2 c.N.length cc2, .slice ca3 c.pd.length cc3, .slice ca4 c.nd.length cc4]) := HG6.out.kept hf7 (by simp)
  have HC7 : Hid (FSrc w7 (.agg #[.int .i64 c.s, .int .u64 c.z, .int .u64 c.zc, .int .u64 c.c, .int .u64 c.sm, .slice ca1 c.P.length cc1, .slice ca2 c.N.length cc2, .slice ca3 c.pd.length cc3, .slice ca4 c.nd.length cc4]) c) := HC6.out.kept hf7
  have HU7 : Hid (ISrc w7 u7 (abv h.pd)) := hu7.src (abv_in h.pd)
  clear hu7 hf7 c7 HF6 HN6 HG6 HC6
  have c8 := HN7.out.cell 8 rfl
  go_wp2_with fail
  refine (labsolute_any _ h.nd w7 (HSR.out _ HF7.out).2.2.2 (by have := HL4.out; omega)).mono ?_
  rintro e w8 ⟨u8, rfl, hu8, hf8⟩
  have HF8 : Hid (Fr [] w w8) := HF7.out.trans hf8 (by simp)
  have HN8 : Hid (Nine w8 w.heap.size #[.int .i64 h.s, .int .u64 h.z, .int .u64 h.zc, .int .u64 h.c, .int .u64 h.sm, .slice po h.P.length pc, .slice no h.N.length nc, .slice qo h.pd.length qc, .slice ro h.nd.length rc]) := HN7.out.kept hf8 (by simp)
  have HG8 : Hid (NineF w8 G3 #[.int .i64 c.s, .int .u64 c.z, .int .u64 c.zc, .int .u64 c.c, .int .u64 c.sm, .slice ca1 c.P.length cc1, .slice ca2 c.N.length cc2, .slice ca3 c.pd.length cc3, .slice ca4 c.nd.length cc4]) := HG7.out.kept hf8 (by simp)
  have HC8 : Hid (FSrc w8 (.agg #[.int .i64 c.s, .int .u64 c.z, .int .u64 c.zc, .int .u64 c.c, .int .u64 c.sm, .slice ca1 c.P.length cc1, .slice ca2 c.N.length cc2, .slice ca3 c.pd.length cc3, .slice ca4 c.nd.length cc4]) c) := HC7.out.kept hf8
  have HU8 : Hid (ISrc w8 u8 (abv h.nd)) := hu8.src (abv_in h.nd)
  have HV8 : Hid (ISrc w8 u7 (abv h.pd)) := HU7.out.kept hf8
  clear hu8 hf8 c8 HF7 HN7 HG7 HC7 HU7
  have HD : Hid (NineF w8 G3 #[.int .i64 h.s, .int .u64 h.z, .int .u64 (flI h.zc), .int .u64 (flI h.c), .int .u64 h.sm, .slice ca1 h.P.length cc1, .slice ca2 h.N.length cc2, .slice ca3 (fla h.pd).length cc3, .slice ca4 (fla h.nd).length cc4] ∧ FSrc w8 (.agg #[.int .i64 h.s, .int .u64 h.z, .int .u64 (flI h.zc), .int .u64 (flI h.c), .int .u64 h.sm, .slice ca1 h.P.length cc1, .slice ca2 h.N.length cc2, .slice ca3 (fla h.pd).length cc3, .slice ca4 (fla h.nd).length cc4]) (frs h)) := by
    have h1 := HG8.out
    have h2 := HC8.out
    rw [HCF.out] at h1 h2
    exact ⟨h1, h2⟩
  have HX8 : Hid (NineF w8 G3 #[.int .i64 h.s, .int .u64 h.z, .int .u64 (flI h.zc), .int .u64 (flI h.c), .int .u64 h.sm, .slice ca1 h.P.length cc1, .slice ca2 h.N.length cc2, .slice ca3 (fla h.pd).length cc3, .slice ca4 (fla h.nd).length cc4]) := HD.out.1
  have HS8 : Hid (FSrc w8 (.agg #[.int .i64 h.s, .int .u64 h.z, .int .u64 (flI h.zc), .int .u64 (flI h.c), .int .u64 h.sm, .slice ca1 h.P.length cc1, .slice ca2 h.N.length cc2, .slice ca3 (fla h.pd).length cc3, .slice ca4 (fla h.nd).length cc4]) (frs h)) := HD.out.2
  have HXS : Hid (SSrc w8 (.slice ca1 h.P.length cc1) h.P ∧ SSrc w8 (.slice ca2 h.N.length cc2) h.N ∧ USrc w8 (.slice ca3 (fla h.pd).length cc3) (fla h.pd) ∧ USrc w8 (.slice ca4 (fla h.nd).length cc4) (fla h.nd)) := fsrc4 HD.out.2
  clear HD HG8 HC8 HCF
  have HNN : Hid ((∀ z ∈ abv h.pd, 0 ≤ z) ∧ (∀ z ∈ abv h.nd, 0 ≤ z)) := ⟨nng_iff.1 (sde_zero.1 (che_zero.1 HK.out).2.1).2.2.2, nng_iff.1 (sde_zero.1 (che_zero.1 HK.out).2.2.1).2.2.2⟩
  have HLA : Hid ((abv h.pd).length ≤ 1000000 ∧ (abv h.nd).length ≤ 1000000) := by
    rw [Hid, abv_length (sde_zero.1 (che_zero.1 HK.out).2.1).2.2.1, abv_length (sde_zero.1 (che_zero.1 HK.out).2.2.1).2.2.1]
    have := HL3.out; have := HL4.out; omega
  have HP1 : Hid (∀ wx, Fr [] w8 wx → Calls Try.prog 40 #[.int .u64 h.c] wx fun e w' => e = .returned (.int .u64 (flI h.c)) ∧ Fr [] w8 w') := by
    intro wx hx
    refine (lfloatI_any h.c wx HINU.out.2).mono ?_
    rintro e w' ⟨rfl, hf⟩
    exact ⟨rfl, hx.trans hf (by simp)⟩
  have HP2 : Hid (∀ wx, Fr [] w8 wx → Calls Try.prog 40 #[.int .u64 h.zc] wx fun e w' => e = .returned (.int .u64 (flI h.zc)) ∧ Fr [] w8 w') := by
    intro wx hx
    refine (lfloatI_any h.zc wx HINU.out.1).mono ?_
    rintro e w' ⟨rfl, hf⟩
    exact ⟨rfl, hx.trans hf (by simp)⟩
  have HP3 : Hid (∀ wx, Fr [] w8 wx → Calls Try.prog 36 #[.slice ca1 h.P.length cc1, .slice po h.P.length pc] wx fun e w' => e = .returned (.bool true) ∧ Fr [] w8 w') := by
    intro wx hx
    refine (alike10_any _ _ h.P wx (HXS.out.1.kept hx) (HSR.out _ (HF8.out.trans hx (by simp))).1).mono ?_
    rintro e w' ⟨rfl, hf⟩
    exact ⟨rfl, hx.trans hf (by simp)⟩
  have HP4 : Hid (∀ wx, Fr [] w8 wx → Calls Try.prog 36 #[.slice ca2 h.N.length cc2, .slice no h.N.length nc] wx fun e w' => e = .returned (.bool true) ∧ Fr [] w8 w') := by
    intro wx hx
    refine (alike10_any _ _ h.N wx (HXS.out.2.1.kept hx) (HSR.out _ (HF8.out.trans hx (by simp))).2.1).mono ?_
    rintro e w' ⟨rfl, hf⟩
    exact ⟨rfl, hx.trans hf (by simp)⟩
  have HP5 : Hid (∀ wx, Fr [] w8 wx → Calls Try.prog 45 #[u7] wx fun e w' => ∃ y, e = .returned y ∧ USrc w' y (fla h.pd) ∧ Fr [] w8 w') := by
    intro wx hx
    refine (lfloats10_any _ (abv h.pd) wx (HV8.out.kept hx) HLA.out.1 HNN.out.1).mono ?_
    rintro e w' ⟨y, rfl, hy, hf⟩
    exact ⟨y, rfl, UOwn.src hy (fla_in h.pd HNN.out.1), hx.trans hf (by simp)⟩
  have HP6 : Hid (∀ wx, Fr [] w8 wx → Calls Try.prog 45 #[u8] wx fun e w' => ∃ y, e = .returned y ∧ USrc w' y (fla h.nd) ∧ Fr [] w8 w') := by
    intro wx hx
    refine (lfloats10_any _ (abv h.nd) wx (HU8.out.kept hx) HLA.out.2 HNN.out.2).mono ?_
    rintro e w' ⟨y, rfl, hy, hf⟩
    exact ⟨y, rfl, UOwn.src hy (fla_in h.nd HNN.out.2), hx.trans hf (by simp)⟩
  have HP7 : Hid (∀ wx y, Fr [] w8 wx → USrc wx y (fla h.pd) → Calls Try.prog 21 #[.slice ca3 (fla h.pd).length cc3, y] wx fun e w' => e = .returned (.bool true) ∧ Fr [] w8 w') := by
    intro wx y hx hy
    refine (sameU10_any _ _ (fla h.pd) wx (HXS.out.2.2.1.kept hx) hy).mono ?_
    rintro e w' ⟨rfl, hf⟩
    exact ⟨rfl, hx.trans hf (by simp)⟩
  have HP8 : Hid (∀ wx y, Fr [] w8 wx → USrc wx y (fla h.nd) → Calls Try.prog 21 #[.slice ca4 (fla h.nd).length cc4, y] wx fun e w' => e = .returned (.bool true) ∧ Fr [] w8 w') := by
    intro wx y hx hy
    refine (sameU10_any _ _ (fla h.nd) wx (HXS.out.2.2.2.kept hx) hy).mono ?_
    rintro e w' ⟨rfl, hf⟩
    exact ⟨rfl, hx.trans hf (by simp)⟩
  have L0 : ∀ wx, Fr [] w8 wx → wx.cell? ⟨w.heap.size, 0, none⟩ = some (.int .i64 h.s) := fun wx hx => hx.cell_some (HN8.out.cell 0 rfl) List.not_mem_nil
  have L1 : ∀ wx, Fr [] w8 wx → wx.cell? ⟨w.heap.size, 1, none⟩ = some (.int .u64 h.z) := fun wx hx => hx.cell_some (HN8.out.cell 1 rfl) List.not_mem_nil
  have L2 : ∀ wx, Fr [] w8 wx → wx.cell? ⟨w.heap.size, 2, none⟩ = some (.int .u64 h.zc) := fun wx hx => hx.cell_some (HN8.out.cell 2 rfl) List.not_mem_nil
  have L3 : ∀ wx, Fr [] w8 wx → wx.cell? ⟨w.heap.size, 3, none⟩ = some (.int .u64 h.c) := fun wx hx => hx.cell_some (HN8.out.cell 3 rfl) List.not_mem_nil
  have L4 : ∀ wx, Fr [] w8 wx → wx.cell? ⟨w.heap.size, 4, none⟩ = some (.int .u64 h.sm) := fun wx hx => hx.cell_some (HN8.out.cell 4 rfl) List.not_mem_nil
  have L5 : ∀ wx, Fr [] w8 wx → wx.cell? ⟨w.heap.size, 5, none⟩ = some (.slice po h.P.length pc) := fun wx hx => hx.cell_some (HN8.out.cell 5 rfl) List.not_mem_nil
  have L6 : ∀ wx, Fr [] w8 wx → wx.cell? ⟨w.heap.size, 6, none⟩ = some (.slice no h.N.length nc) := fun wx hx => hx.cell_some (HN8.out.cell 6 rfl) List.not_mem_nil
  have L7 : ∀ wx, Fr [] w8 wx → wx.cell? ⟨w.heap.size, 7, none⟩ = some (.slice qo h.pd.length qc) := fun wx hx => hx.cell_some (HN8.out.cell 7 rfl) List.not_mem_nil
  have L8 : ∀ wx, Fr [] w8 wx → wx.cell? ⟨w.heap.size, 8, none⟩ = some (.slice ro h.nd.length rc) := fun wx hx => hx.cell_some (HN8.out.cell 8 rfl) List.not_mem_nil
  have M0 : ∀ wx, Fr [] w8 wx → wx.cell? ⟨G3, 0, none⟩ = some (.int .i64 h.s) := fun wx hx => hx.cell_some (HX8.out.cell 0 rfl) List.not_mem_nil
  have M1 : ∀ wx, Fr [] w8 wx → wx.cell? ⟨G3, 1, none⟩ = some (.int .u64 h.z) := fun wx hx => hx.cell_some (HX8.out.cell 1 rfl) List.not_mem_nil
  have M2 : ∀ wx, Fr [] w8 wx → wx.cell? ⟨G3, 2, none⟩ = some (.int .u64 (flI h.zc)) := fun wx hx => hx.cell_some (HX8.out.cell 2 rfl) List.not_mem_nil
  have M3 : ∀ wx, Fr [] w8 wx → wx.cell? ⟨G3, 3, none⟩ = some (.int .u64 (flI h.c)) := fun wx hx => hx.cell_some (HX8.out.cell 3 rfl) List.not_mem_nil
  have M4 : ∀ wx, Fr [] w8 wx → wx.cell? ⟨G3, 4, none⟩ = some (.int .u64 h.sm) := fun wx hx => hx.cell_some (HX8.out.cell 4 rfl) List.not_mem_nil
  have M5 : ∀ wx, Fr [] w8 wx → wx.cell? ⟨G3, 5, none⟩ = some (.slice ca1 h.P.length cc1) := fun wx hx => hx.cell_some (HX8.out.cell 5 rfl) List.not_mem_nil
  have M6 : ∀ wx, Fr [] w8 wx → wx.cell? ⟨G3, 6, none⟩ = some (.slice ca2 h.N.length cc2) := fun wx hx => hx.cell_some (HX8.out.cell 6 rfl) List.not_mem_nil
  have M7 : ∀ wx, Fr [] w8 wx → wx.cell? ⟨G3, 7, none⟩ = some (.slice ca3 (fla h.pd).length cc3) := fun wx hx => hx.cell_some (HX8.out.cell 7 rfl) List.not_mem_nil
  have M8 : ∀ wx, Fr [] w8 wx → wx.cell? ⟨G3, 8, none⟩ = some (.slice ca4 (fla h.nd).length cc4) := fun wx hx => hx.cell_some (HX8.out.cell 8 rfl) List.not_mem_nil
  have F0 : Fr [] w8 w8.drew := (Fr.refl _ _).drew
  go_wp2_with fail
  simp only [List.append]
  go_region_held3 (fun w' => w'.cell? ⟨w.heap.size, 0, none⟩ = some (.int .i64 h.s) ∧ w'.cell? ⟨w.heap.size, 1, none⟩ = some (.int .u64 h.z) ∧ w'.cell? ⟨w.heap.size, 2, none⟩ = some (.int .u64 h.zc) ∧ w'.cell? ⟨w.heap.size, 3, none⟩ = some (.int .u64 h.c) ∧ w'.cell? ⟨w.heap.size, 4, none⟩ = some (.int .u64 h.sm) ∧ w'.cell? ⟨w.heap.size, 5, none⟩ = some (.slice po h.P.length pc) ∧ w'.cell? ⟨w.heap.size, 6, none⟩ = some (.slice no h.N.length nc) ∧ w'.cell? ⟨w.heap.size, 7, none⟩ = some (.slice qo h.pd.length qc) ∧ w'.cell? ⟨w.heap.size, 8, none⟩ = some (.slice ro h.nd.length rc) ∧ w'.cell? ⟨G3, 0, none⟩ = some (.int .i64 h.s) ∧ w'.cell? ⟨G3, 1, none⟩ = some (.int .u64 h.z) ∧ w'.cell? ⟨G3, 2, none⟩ = some (.int .u64 (flI h.zc)) ∧ w'.cell? ⟨G3, 3, none⟩ = some (.int .u64 (flI h.c)) ∧ w'.cell? ⟨G3, 4, none⟩ = some (.int .u64 h.sm) ∧ w'.cell? ⟨G3, 5, none⟩ = some (.slice ca1 h.P.length cc1) ∧ w'.cell? ⟨G3, 6, none⟩ = some (.slice ca2 h.N.length cc2) ∧ w'.cell? ⟨G3, 7, none⟩ = some (.slice ca3 (fla h.pd).length cc3) ∧ w'.cell? ⟨G3, 8, none⟩ = some (.slice ca4 (fla h.nd).length cc4)) (go_keep) (first
    | (go_at_call 40; first
      | (with_reducible refine (HP1.out _ F0).mono ?_; rintro e wa ⟨rfl, hfa⟩)
      | (with_reducible refine (HP2.out _ hfa).mono ?_; rintro e wb ⟨rfl, hfb⟩))
    | (go_at_call 36; first
      | (with_reducible refine (HP3.out _ hfb).mono ?_; rintro e wc ⟨rfl, hfc⟩)
      | (with_reducible refine (HP4.out _ hfc).mono ?_; rintro e wd ⟨rfl, hfd⟩))
    | (go_at_call 45; first
      | (with_reducible refine (HP5.out _ hfd).mono ?_; rintro e we ⟨ye, rfl, hye, hfe⟩)
      | (with_reducible refine (HP6.out _ hff).mono ?_; rintro e wg ⟨yg, rfl, hyg, hfg⟩))
    | (go_at_call 21; first
      | (with_reducible refine (HP7.out _ _ hfe hye).mono ?_; rintro e wf ⟨rfl, hff⟩)
      | (with_reducible refine (HP8.out _ _ hfg hyg).mono ?_; rintro e w9 ⟨rfl, hf9⟩)))
  have HF9 : Hid (Fr [] w w9) := HF8.out.trans hf9 (by simp)
  have HN9 : Hid (Nine w9 w.heap.size #[.int .i64 h.s, .int .u64 h.z, .int .u64 h.zc, .int .u64 h.c, .int .u64 h.sm, .slice po h.P.length pc, .slice no h.N.length nc, .slice qo h.pd.length qc, .slice ro h.nd.length rc]) := HN8.out.kept hf9 (by simp)
  have HX9 : Hid (NineF w9 G3 #[.int .i64 h.s, .int .u64 h.z, .int .u64 (flI h.zc), .int .u64 (flI h.c), .int .u64 h.sm, .slice ca1 h.P.length cc1, .slice ca2 h.N.length cc2, .slice ca3 (fla h.pd).length cc3, .slice ca4 (fla h.nd).length cc4]) := HX8.out.kept hf9 (by simp)
  have HS9 : Hid (FSrc w9 (.agg #[.int .i64 h.s, .int .u64 h.z, .int .u64 (flI h.zc), .int .u64 (flI h.c), .int .u64 h.sm, .slice ca1 h.P.length cc1, .slice ca2 h.N.length cc2, .slice ca3 (fla h.pd).length cc3, .slice ca4 (fla h.nd).length cc4]) (frs h)) := HS8.out.kept hf9
  have HPD : Hid ((∀ z ∈ h.pd, in64 z) ∧ (∀ z ∈ h.nd, in64 z)) := by
    obtain ⟨_, _, ⟨_, _, _, _, _, k1, _⟩, ⟨_, _, _, _, _, k2, _⟩⟩ := HSR.out _ HF8.out
    exact ⟨k1, k2⟩
  clear HF8 HN8 HX8 HS8 hfa hfb hfc hfd hfe hff hfg hf9 hye hyg F0 HP1 HP2 HP3 HP4 HP5 HP6 HP7 HP8 HU8 HV8 HXS HNN HLA L0 M0 L1 M1 L2 M2 L3 M3 L4 M4 L5 M5 L6 M6 L7 M7 L8 M8
  have q3 := HN9.out.cell 3 rfl
  by_cases hbig : 9007199254740992 < h.c
  case pos =>
    go_wp2_with fail
    refine (awake10_any w9).mono ?_
    rintro e wz9 ⟨rfl, hfz⟩
    have HFZ : Hid (Fr [] w wz9) := HF9.out.trans hfz (by simp)
    clear hfz
    go_wp2
    go_ret
    exact ⟨rfl, HFZ.out.below (Nat.le_refl _) (by simp)⟩
  have HBK : Hid (bke (frs h) = 0 ∧ bkh (frs h) = h) := bk_frs HK.out HINU.out HPD.out (by omega)
  clear q3
  have q3 := HN9.out.cell 3 rfl
  have g0 := HX9.out.cell 0 rfl
  have g1 := HX9.out.cell 1 rfl
  have g2 := HX9.out.cell 2 rfl
  have g3 := HX9.out.cell 3 rfl
  have g4 := HX9.out.cell 4 rfl
  have g5 := HX9.out.cell 5 rfl
  have g6 := HX9.out.cell 6 rfl
  have g7 := HX9.out.cell 7 rfl
  have g8 := HX9.out.cell 8 rfl
  go_wp2_with fail
  refine (back_any _ (frs h) w9 HS9.out).mono ?_
  rintro e w10 ⟨u, rfl, hu, hf10⟩
  rw [HBK.out.1]
  rw [HBK.out.2] at hu
  obtain ⟨ba1, bc1, ba2, bc2, ba3, bc3, ba4, bc4, rfl, -⟩ := hu.src.opens
  have HNB : Hid (Nine (w10.alloc (.cells #[.int .i64 h.s, .int .u64 h.z, .int .u64 h.zc, .int .u64 h.c, .int .u64 h.sm, .slice ba1 h.P.length bc1, .slice ba2 h.N.length bc2, .slice ba3 h.pd.length bc3, .slice ba4 h.nd.length bc4] 70)) w10.heap.size #[.int .i64 h.s, .int .u64 h.z, .int .u64 h.zc, .int .u64 h.c, .int .u64 h.sm, .slice ba1 h.P.length bc1, .slice ba2 h.N.length bc2, .slice ba3 h.pd.length bc3, .slice ba4 h.nd.length bc4]) := Nine.new _ _
  have HWB : Hid (Fr [] w9 (w10.alloc (.cells #[.int .i64 h.s, .int .u64 h.z, .int .u64 h.zc, .int .u64 h.c, .int .u64 h.sm, .slice ba1 h.P.length bc1, .slice ba2 h.N.length bc2, .slice ba3 h.pd.length bc3, .slice ba4 h.nd.length bc4] 70))) := hf10.alloc _
  have HBB : Hid (HSrc (w10.alloc (.cells #[.int .i64 h.s, .int .u64 h.z, .int .u64 h.zc, .int .u64 h.c, .int .u64 h.sm, .slice ba1 h.P.length bc1, .slice ba2 h.N.length bc2, .slice ba3 h.pd.length bc3, .slice ba4 h.nd.length bc4] 70)) (.agg #[.int .i64 h.s, .int .u64 h.z, .int .u64 h.zc, .int .u64 h.c, .int .u64 h.sm, .slice ba1 h.P.length bc1, .slice ba2 h.N.length bc2, .slice ba3 h.pd.length bc3, .slice ba4 h.nd.length bc4]) h) := hu.src.kept ((Fr.refl [] _).alloc _)
  clear hu hf10 hbig q3 g0 g1 g2 g3 g4 g5 g6 g7 g8
  go_upto_region 14 with fail
  generalize w10.alloc (.cells _ _) = w11 at HNB HWB HBB ⊢
  generalize w10.heap.size = G7 at HNB ⊢
  have HF11 : Hid (Fr [] w w11) := HF9.out.trans HWB.out (by simp)
  have HN11 : Hid (Nine w11 w.heap.size #[.int .i64 h.s, .int .u64 h.z, .int .u64 h.zc, .int .u64 h.c, .int .u64 h.sm, .slice po h.P.length pc, .slice no h.N.length nc, .slice qo h.pd.length qc, .slice ro h.nd.length rc]) := HN9.out.kept HWB.out (by simp)
  have HB11 : Hid (Nine w11 G7 #[.int .i64 h.s, .int .u64 h.z, .int .u64 h.zc, .int .u64 h.c, .int .u64 h.sm, .slice ba1 h.P.length bc1, .slice ba2 h.N.length bc2, .slice ba3 h.pd.length bc3, .slice ba4 h.nd.length bc4]) := HNB.out
  have HS11 : Hid (HSrc w11 (.agg #[.int .i64 h.s, .int .u64 h.z, .int .u64 h.zc, .int .u64 h.c, .int .u64 h.sm, .slice ba1 h.P.length bc1, .slice ba2 h.N.length bc2, .slice ba3 h.pd.length bc3, .slice ba4 h.nd.length bc4]) h) := HBB.out
  have HEQ : Hid (heq h h = true) := by unfold Hid heq; rw [decide_eq_true_iff]; exact ⟨HK.out, HK.out, rfl, rfl, rfl, rfl, rfl, rfl, rfl⟩
  clear HWB HN9 HF9 HNB HBB HX9 HS9
  have q0 := HN11.out.cell 0 rfl
  have q1 := HN11.out.cell 1 rfl
  have q2 := HN11.out.cell 2 rfl
  have q3 := HN11.out.cell 3 rfl
  have q4 := HN11.out.cell 4 rfl
  have q5 := HN11.out.cell 5 rfl
  have q6 := HN11.out.cell 6 rfl
  have q7 := HN11.out.cell 7 rfl
  have q8 := HN11.out.cell 8 rfl
  have g0 := HB11.out.cell 0 rfl
  have g1 := HB11.out.cell 1 rfl
  have g2 := HB11.out.cell 2 rfl
  have g3 := HB11.out.cell 3 rfl
  have g4 := HB11.out.cell 4 rfl
  have g5 := HB11.out.cell 5 rfl
  have g6 := HB11.out.cell 6 rfl
  have g7 := HB11.out.cell 7 rfl
  have g8 := HB11.out.cell 8 rfl
  go_wp2_with fail
  refine (eqt _ _ h w11 HS11.out (HH.out _ HF11.out) HEQ.out).mono ?_
  rintro e w12 ⟨rfl, hf12⟩
  have HF12 : Hid (Fr [] w w12) := HF11.out.trans hf12 (by simp)
  have HN12 : Hid (Nine w12 w.heap.size #[.int .i64 h.s, .int .u64 h.z, .int .u64 h.zc, .int .u64 h.c, .int .u64 h.sm, .slice po h.P.length pc, .slice no h.N.length nc, .slice qo h.pd.length qc, .slice ro h.nd.length rc]) := HN11.out.kept hf12 (by simp)
  have HB12 : Hid (Nine w12 G7 #[.int .i64 h.s, .int .u64 h.z, .int .u64 h.zc, .int .u64 h.c, .int .u64 h.sm, .slice ba1 h.P.length bc1, .slice ba2 h.N.length bc2, .slice ba3 h.pd.length bc3, .slice ba4 h.nd.length bc4]) := HB11.out.kept hf12 (by simp)
  have HS12 : Hid (HSrc w12 (.agg #[.int .i64 h.s, .int .u64 h.z, .int .u64 h.zc, .int .u64 h.c, .int .u64 h.sm, .slice ba1 h.P.length bc1, .slice ba2 h.N.length bc2, .slice ba3 h.pd.length bc3, .slice ba4 h.nd.length bc4]) h) := HS11.out.kept hf12
  clear HF11 HN11 HB11 HS11 hf12 q0 q1 q2 q3 q4 q5 q6 q7 q8 g0 g1 g2 g3 g4 g5 g6 g7 g8
  have q0 := HN12.out.cell 0 rfl
  have q1 := HN12.out.cell 1 rfl
  have q2 := HN12.out.cell 2 rfl
  have q3 := HN12.out.cell 3 rfl
  have q4 := HN12.out.cell 4 rfl
  have q5 := HN12.out.cell 5 rfl
  have q6 := HN12.out.cell 6 rfl
  have q7 := HN12.out.cell 7 rfl
  have q8 := HN12.out.cell 8 rfl
  have g0 := HB12.out.cell 0 rfl
  have g1 := HB12.out.cell 1 rfl
  have g2 := HB12.out.cell 2 rfl
  have g3 := HB12.out.cell 3 rfl
  have g4 := HB12.out.cell 4 rfl
  have g5 := HB12.out.cell 5 rfl
  have g6 := HB12.out.cell 6 rfl
  have g7 := HB12.out.cell 7 rfl
  have g8 := HB12.out.cell 8 rfl
  go_wp2_with fail
  refine (alike10_any _ _ h.P w12 (hsrc4 HS12.out).1 (HSR.out _ HF12.out).1).mono ?_
  rintro e w13 ⟨rfl, hf13⟩
  have HF13 : Hid (Fr [] w w13) := HF12.out.trans hf13 (by simp)
  have HN13 : Hid (Nine w13 w.heap.size #[.int .i64 h.s, .int .u64 h.z, .int .u64 h.zc, .int .u64 h.c, .int .u64 h.sm, .slice po h.P.length pc, .slice no h.N.length nc, .slice qo h.pd.length qc, .slice ro h.nd.length rc]) := HN12.out.kept hf13 (by simp)
  have HB13 : Hid (Nine w13 G7 #[.int .i64 h.s, .int .u64 h.z, .int .u64 h.zc, .int .u64 h.c, .int .u64 h.sm, .slice ba1 h.P.length bc1, .slice ba2 h.N.length bc2, .slice ba3 h.pd.length bc3, .slice ba4 h.nd.length bc4]) := HB12.out.kept hf13 (by simp)
  have HS13 : Hid (HSrc w13 (.agg #[.int .i64 h.s, .int .u64 h.z, .int .u64 h.zc, .int .u64 h.c, .int .u64 h.sm, .slice ba1 h.P.length bc1, .slice ba2 h.N.length bc2, .slice ba3 h.pd.length bc3, .slice ba4 h.nd.length bc4]) h) := HS12.out.kept hf13
  clear HF12 HN12 HB12 HS12 hf13 q0 q1 q2 q3 q4 q5 q6 q7 q8 g0 g1 g2 g3 g4 g5 g6 g7 g8
  go_wp2_with fail
  refine (awake10_any w13).mono ?_
  rintro e wz9 ⟨rfl, hfz⟩
  have HFZ : Hid (Fr [] w wz9) := HF13.out.trans hfz (by simp)
  clear hfz
  go_wp2
  go_ret
  exact ⟨rfl, HFZ.out.below (Nat.le_refl _) (by simp)⟩
end Go.Proofs.Ytoaibabkkphlaaa
