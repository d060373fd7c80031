/-
  Package hist: Canon, Equal.
-/
import Derived.Test.YtoaibabkkphlaaaHMade
import Derived.Deep.RegionHeld3
namespace Go.Proofs.Ytoaibabkkphlaaa
open Go.RowKit Mem Spans
set_option linter.unusedSimpArgs false
set_option linter.unusedVariables false
set_option maxRecDepth 100000

theorem HOwn.form {B : Nat} {w : World} {v : Value} {h : Hs} (k : HOwn B w v h) : ∃ a1 c1 a2 c2 a3 c3 a4 c4, v = .agg #[.int .i64 h.s, .int .u64 h.z, .int .u64 h.zc, .int .u64 h.c, .int .u64 h.sm, .slice a1 h.P.length c1, .slice a2 h.N.length c2, .slice a3 h.pd.length c3, .slice a4 h.nd.length c4] := by
  obtain ⟨a, b, c, d, rfl, h2, h3, h4, h5, h6, h7⟩ := k
  obtain ⟨_, _, rfl⟩ := h4.val
  obtain ⟨_, _, rfl⟩ := h5.val
  obtain ⟨_, _, rfl⟩ := h6.val
  obtain ⟨_, _, rfl⟩ := h7.val
  exact ⟨_, _, _, _, _, _, _, _, rfl⟩
theorem wio_mem {l : List Sp} {z : Int} {s : Sp} : s ∈ wio l z ↔ s ∈ l ∧ s.2 ≠ z := by unfold wio; simp
theorem wio_le (l : List Sp) (z : Int) : (wio l z).length ≤ l.length := List.length_filter_le _ _
theorem wio_in {l : List Sp} {z : Int} (h : ∀ s ∈ l, in64 s.1 ∧ in64 s.2) : ∀ s ∈ wio l z, in64 s.1 ∧ in64 s.2 := fun s hs => h s (wio_mem.1 hs).1
/-- Canon's error; what it tells. -/
def cae (h : Hs) : Int := if che h = 0 then mke h (wio (sdp h) 0) (wio (sdn h) 0) else che h
def cah (h : Hs) : Hs := if che h = 0 then mkh h (wio (sdp h) 0) (wio (sdn h) 0) else hzero

/-- Do both count the same? -/
def heq (a b : Hs) : Bool := decide (che a = 0 ∧ che b = 0 ∧ a.s = b.s ∧ a.z = b.z ∧ a.zc = b.zc ∧ a.c = b.c ∧ a.sm = b.sm ∧ wio (sdp a) 0 = wio (sdp b) 0 ∧ wio (sdn a) 0 = wio (sdn b) 0)

set_option maxHeartbeats 4000000 in
theorem hequal_any (v u : Value) (a b : Hs) (w : World) (h1 : HSrc w v a) (h2 : HSrc w u b) :
    Calls Try.prog 47 #[v, u] w fun e w' => e = .returned (.bool (heq a b)) ∧ Fr [] w w' := by
  have H1 : Hid (∀ wx, Fr [] w wx → HSrc wx v a) := fun wx hx => h1.kept hx
  have H2 : Hid (∀ wx, Fr [] w wx → HSrc wx u b) := fun wx hx => h2.kept hx
  obtain ⟨po, pc, no, nc, qo, qc, ro, rc, rfl, _⟩ := h1.opens
  obtain ⟨po2, pc2, no2, nc2, qo2, qc2, ro2, rc2, rfl, _⟩ := h2.opens
  clear h1 h2
  go_enter Try.func47, Try.ntmps47
  have HA : Hid (Nine ((w.alloc (.cells #[.int .i64 a.s, .int .u64 a.z, .int .u64 a.zc, .int .u64 a.c, .int .u64 a.sm, .slice po a.P.length pc, .slice no a.N.length nc, .slice qo a.pd.length qc, .slice ro a.nd.length rc] 70)).alloc (.cells #[.int .i64 b.s, .int .u64 b.z, .int .u64 b.zc, .int .u64 b.c, .int .u64 b.sm, .slice po2 b.P.length pc2, .slice no2 b.N.length nc2, .slice qo2 b.pd.length qc2, .slice ro2 b.nd.length rc2] 70)) w.heap.size #[.int .i64 a.s, .int .u64 a.z, .int .u64 a.zc, .int .u64 a.c, .int .u64 a.sm, .slice po a.P.length pc, .slice no a.N.length nc, .slice qo a.pd.length qc, .slice ro a.nd.length rc] ∧ Nine ((w.alloc (.cells #[.int .i64 a.s, .int .u64 a.z, .int .u64 a.zc, .int .u64 a.c, .int .u64 a.sm, .slice po a.P.length pc, .slice no a.N.length nc, .slice qo a.pd.length qc, .slice ro a.nd.length rc] 70)).alloc (.cells #[.int .i64 b.s, .int .u64 b.z, .int .u64 b.zc, .int .u64 b.c, .int .u64 b.sm, .slice po2 b.P.length pc2, .slice no2 b.N.length nc2, .slice qo2 b.pd.length qc2, .slice ro2 b.nd.length rc2] 70)) (w.heap.size + 1) #[.int .i64 b.s, .int .u64 b.z, .int .u64 b.zc, .int .u64 b.c, .int .u64 b.sm, .slice po2 b.P.length pc2, .slice no2 b.N.length nc2, .slice qo2 b.pd.length qc2, .slice ro2 b.nd.length rc2] ∧ Fr [] w ((w.alloc (.cells #[.int .i64 a.s, .int .u64 a.z, .int .u64 a.zc, .int .u64 a.c, .int .u64 a.sm, .slice po a.P.length pc, .slice no a.N.length nc, .slice qo a.pd.length qc, .slice ro a.nd.length rc] 70)).alloc (.cells #[.int .i64 b.s, .int .u64 b.z, .int .u64 b.zc, .int .u64 b.c, .int .u64 b.sm, .slice po2 b.P.length pc2, .slice no2 b.N.length nc2, .slice qo2 b.pd.length qc2, .slice ro2 b.nd.length rc2] 70))) := ⟨nine_mid _ _ _, nine_top _ _ _, ((Fr.refl [] w).alloc _).alloc _⟩
  go_wp2_with fail
  obtain ⟨hA3, hA6, hAF⟩ := HA.out
  clear HA
  generalize (w.alloc (.cells _ _)).alloc (.cells _ _) = wA at hA3 hA6 hAF ⊢
  refine (sides_any _ a wA (H1.out _ hAF)).mono ?_
  rintro e w1 ⟨x, y, rfl, hx, hy, hf1⟩
  have HX : Hid (SSrc w1 x (sdp a)) := hx.src (sdp_in a)
  have HY : Hid (SSrc w1 y (sdn a)) := hy.src (sdn_in a)
  have HF1 : Hid (Fr [] w w1) := hAF.trans hf1 (by simp)
  have H3 : Hid (Nine w1 w.heap.size _) := hA3.kept hf1 (by simp)
  have H6 : Hid (Nine w1 (w.heap.size + 1) _) := hA6.kept hf1 (by simp)
  clear hx hy hf1 hA3 hA6 hAF
  by_cases h0 : che a = 0
  · have HC0 : Hid (che a = 0) := h0
    rw [h0]
    clear h0
    have d0 := H6.out.cell 0 rfl
    have d1 := H6.out.cell 1 rfl
    have d2 := H6.out.cell 2 rfl
    have d3 := H6.out.cell 3 rfl
    have d4 := H6.out.cell 4 rfl
    have d5 := H6.out.cell 5 rfl
    have d6 := H6.out.cell 6 rfl
    have d7 := H6.out.cell 7 rfl
    have d8 := H6.out.cell 8 rfl
    go_wp2_with fail
    refine (sides_any _ b w1 (H2.out _ HF1.out)).mono ?_
    rintro e w2 ⟨x2, y2, rfl, hx, hy, hf2⟩
    have HX2 : Hid (SSrc w2 x2 (sdp b)) := hx.src (sdp_in b)
    have HY2 : Hid (SSrc w2 y2 (sdn b)) := hy.src (sdn_in b)
    have HX1 : Hid (SSrc w2 x (sdp a)) := HX.out.kept hf2
    have HY1 : Hid (SSrc w2 y (sdn a)) := HY.out.kept hf2
    have HF2 : Hid (Fr [] w w2) := HF1.out.trans hf2 (by simp)
    have h3 := H3.out.kept hf2 (by simp)
    have h6 := H6.out.kept hf2 (by simp)
    clear hx hy hf2 HX HY HF1 H3 H6 d0 d1 d2 d3 d4 d5 d6 d7 d8
    by_cases h0 : che b = 0
    · have HC1 : Hid (che b = 0) := h0
      rw [h0]
      clear h0
      have c0 := h3.cell 0 rfl
      have c1 := h3.cell 1 rfl
      have c2 := h3.cell 2 rfl
      have c3 := h3.cell 3 rfl
      have c4 := h3.cell 4 rfl
      have d0 := h6.cell 0 rfl
      have d1 := h6.cell 1 rfl
      have d2 := h6.cell 2 rfl
      have d3 := h6.cell 3 rfl
      have d4 := h6.cell 4 rfl
      clear h3 h6
      have HNO : Hid (¬ (a.s = b.s ∧ a.z = b.z ∧ a.zc = b.zc ∧ a.c = b.c ∧ a.sm = b.sm ∧ wio (sdp a) 0 = wio (sdp b) 0 ∧ wio (sdn a) 0 = wio (sdn b) 0) → heq a b = false) := fun h => decide_eq_false (fun k => h k.2.2)
      have HYES : Hid (a.s = b.s → a.z = b.z → a.zc = b.zc → a.c = b.c → a.sm = b.sm → wio (sdp a) 0 = wio (sdp b) 0 → wio (sdn a) 0 = wio (sdn b) 0 → heq a b = true) := fun k1 k2 k3 k4 k5 k6 k7 => decide_eq_true ⟨HC0.out, HC1.out, k1, k2, k3, k4, k5, k6, k7⟩
      have HWP : Hid (∀ wx, Fr [] w2 wx → ∀ t l, SSrc w2 t l → l.length ≤ 4096 → Calls Try.prog 77 #[t, .int .i64 0] wx fun e w' => ∃ u, e = .returned u ∧ SOwn 141 wx.heap.size w' u (wio l 0) ∧ Fr [] wx w' ∧ Fr [] w2 w') := by
        intro wx hf t l ht hl
        refine (without_any _ l 0 wx (ht.kept hf) (by omega)).mono ?_
        rintro e w' ⟨u, rfl, hu, hf'⟩
        exact ⟨u, rfl, hu, hf', hf.trans hf' (by simp)⟩
      have HI : Hid ((∀ s ∈ sdp a, in64 s.1 ∧ in64 s.2) ∧ (∀ s ∈ sdn a, in64 s.1 ∧ in64 s.2) ∧ (∀ s ∈ sdp b, in64 s.1 ∧ in64 s.2) ∧ (∀ s ∈ sdn b, in64 s.1 ∧ in64 s.2)) := ⟨sdp_in a, sdn_in a, sdp_in b, sdn_in b⟩
      have HL : Hid ((sdp a).length ≤ 4096 ∧ (sdn a).length ≤ 4096 ∧ (sdp b).length ≤ 4096 ∧ (sdn b).length ≤ 4096) := ⟨sdp_le a, sdn_le a, sdp_le b, sdn_le b⟩
      generalize sdp a = PA at *
      generalize sdn a = NA at *
      generalize sdp b = PB at *
      generalize sdn b = NB at *
      obtain ⟨R, hqq⟩ : ∃ R, heq a b = R := ⟨_, rfl⟩
      have HQ : Hid (heq a b = R) := hqq
      rw [hqq] at HNO HYES
      clear hqq
      obtain ⟨s, z, zc, c, sm, P, N, pd, nd⟩ := a
      obtain ⟨s2, z2, zc2, c2', sm2, P2, N2, pd2, nd2⟩ := b
      simp only at *
      by_cases k0 : s = s2
      case neg =>
        have HE := HNO.out (fun k => k0 k.1)
        have HE2 : Hid (R = false) := HE
        clear HE
        have kb : (s == s2) = false := by simpa using k0
        go_wp2
        go_ret
        exact ⟨by rw [HQ.out, HE2.out]; rfl, HF2.out⟩
      subst k0
      by_cases k1 : z = z2
      case neg =>
        have HE := HNO.out (fun k => k1 k.2.1)
        have HE2 : Hid (R = false) := HE
        clear HE
        have kb : (z == z2) = false := by simpa using k1
        go_wp2
        go_ret
        exact ⟨by rw [HQ.out, HE2.out]; rfl, HF2.out⟩
      subst k1
      by_cases k2 : zc = zc2
      case neg =>
        have HE := HNO.out (fun k => k2 k.2.2.1)
        have HE2 : Hid (R = false) := HE
        clear HE
        have kb : (zc == zc2) = false := by simpa using k2
        go_wp2
        go_ret
        exact ⟨by rw [HQ.out, HE2.out]; rfl, HF2.out⟩
      subst k2
      by_cases k3 : c = c2'
      case neg =>
        have HE := HNO.out (fun k => k3 k.2.2.2.1)
        have HE2 : Hid (R = false) := HE
        clear HE
        have kb : (c == c2') = false := by simpa using k3
        go_wp2
        go_ret
        exact ⟨by rw [HQ.out, HE2.out]; rfl, HF2.out⟩
      subst k3
      by_cases k4 : sm = sm2
      case neg =>
        have HE := HNO.out (fun k => k4 k.2.2.2.2.1)
        have HE2 : Hid (R = false) := HE
        clear HE
        have kb : (sm == sm2) = false := by simpa using k4
        go_wp2
        go_ret
        exact ⟨by rw [HQ.out, HE2.out]; rfl, HF2.out⟩
      subst k4
      go_wp2_with fail
      refine (HWP.out w2 (Fr.refl _ _) x PA HX1.out HL.out.1).mono ?_
      rintro e w3 ⟨t3, rfl, ht3, _, hf3⟩
      have HT3 : Hid (SSrc w3 t3 (wio PA 0)) := ht3.src (wio_in HI.out.1)
      have HF3 : Hid (Fr [] w2 w3) := hf3
      clear ht3 hf3
      go_wp2_with fail
      refine (HWP.out w3 HF3.out x2 PB HX2.out HL.out.2.2.1).mono ?_
      rintro e w4 ⟨t4, rfl, ht4, hf34, hf4⟩
      have HT4 : Hid (SSrc w4 t4 (wio PB 0)) := ht4.src (wio_in HI.out.2.2.1)
      have HT34 : Hid (SSrc w4 t3 (wio PA 0)) := HT3.out.kept hf34
      have HF4 : Hid (Fr [] w2 w4) := hf4
      clear ht4 hf34 hf4 HT3 HF3
      go_wp2_with fail
      refine (pequal_any t3 t4 _ _ w4 HT34.out HT4.out).mono ?_
      rintro e w5 ⟨rfl, hf5⟩
      have HF5 : Hid (Fr [] w2 w5) := HF4.out.trans hf5 (by simp)
      clear hf5 HT34 HT4 HF4
      by_cases k5 : wio PA 0 = wio PB 0
      case neg =>
        have HE2 : Hid (R = false) := HNO.out (fun k => k5 k.2.2.2.2.2.1)
        rw [decide_eq_false k5]
        go_wp2
        go_ret
        exact ⟨by rw [HQ.out, HE2.out]; rfl, HF2.out.trans HF5.out (by simp)⟩
      have HK5 : Hid (wio PA 0 = wio PB 0) := k5
      rw [decide_eq_true k5]
      clear k5
      go_wp2_with fail
      refine (HWP.out w5 HF5.out y NA HY1.out HL.out.2.1).mono ?_
      rintro e w6 ⟨t6, rfl, ht6, _, hf6⟩
      have HT6 : Hid (SSrc w6 t6 (wio NA 0)) := ht6.src (wio_in HI.out.2.1)
      have HF6 : Hid (Fr [] w2 w6) := hf6
      clear ht6 hf6
      go_wp2_with fail
      refine (HWP.out w6 HF6.out y2 NB HY2.out HL.out.2.2.2).mono ?_
      rintro e w7 ⟨t7, rfl, ht7, hf67, hf7⟩
      have HT7 : Hid (SSrc w7 t7 (wio NB 0)) := ht7.src (wio_in HI.out.2.2.2)
      have HT67 : Hid (SSrc w7 t6 (wio NA 0)) := HT6.out.kept hf67
      have HF7 : Hid (Fr [] w2 w7) := hf7
      clear ht7 hf67 hf7 HT6 HF6
      go_wp2_with fail
      refine (pequal_any t6 t7 _ _ w7 HT67.out HT7.out).mono ?_
      rintro e w8 ⟨rfl, hf8⟩
      have HF8 : Hid (Fr [] w w8) := HF2.out.trans (HF7.out.trans hf8 (by simp)) (by simp)
      have HR : Hid (R = decide (wio NA 0 = wio NB 0)) := by
        by_cases k6 : wio NA 0 = wio NB 0
        · rw [Hid, decide_eq_true k6]; exact HYES.out (by trivial) (by trivial) (by trivial) (by trivial) (by trivial) HK5.out k6
        · rw [Hid, decide_eq_false k6]; exact HNO.out (fun k => k6 k.2.2.2.2.2.2)
      clear hf8
      generalize decide (wio NA 0 = wio NB 0) = RR at *
      go_wp2
      go_ret
      exact ⟨by rw [HQ.out, HR.out]; rfl, HF8.out⟩
    · have HE : Hid (heq a b = false) := decide_eq_false (fun k => h0 k.2.1)
      clear h3 h6
      go_wp2
      go_ret
      exact ⟨by rw [HE.out]; rfl, HF2.out⟩
  · have HE : Hid (heq a b = false) := decide_eq_false (fun k => h0 k.1)
    go_wp2
    go_ret
    exact ⟨by rw [HE.out]; rfl, HF1.out⟩
end Go.Proofs.Ytoaibabkkphlaaa
