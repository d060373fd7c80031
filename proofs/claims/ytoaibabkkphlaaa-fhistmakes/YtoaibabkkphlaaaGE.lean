/-
  FNum, FEqual, FSpread, FOver, FFloat, FParts.
-/
import Derived.Test.YtoaibabkkphlaaaGD
import Derived.Deep.RegionHeld3
import Derived.Test.YtoaibabkkphlaaaGC
import Derived.Laws.Externs
/-
  Package fhist: numbers, Equal.
-/
namespace Go.Proofs.Ytoaibabkkphlaaa
open Go.RowKit Mem Spans
set_option linter.unusedSimpArgs false
set_option linter.unusedVariables false
set_option maxRecDepth 100000

theorem Try.sizeOf98 : (Try.prog.info? 98).map (·.size) = some 5 := by kernel_rfl
theorem five_res {fn : Func} {p : Tmp} (h : fn.results = #[.cell p 98]) (tmps : Array Value) (w : World) (g : Nat) (a0 a1 a2 a3 a4 : Value)
    (hp : tmps.getD p undef = .pointer (some ⟨g, 0, none⟩)) (hg : w.heap[g]? = some (.cells #[a0, a1, a2, a3, a4] 98 (0, 0))) : (results fn tmps).run Try.prog w = .ok (.agg #[a0, a1, a2, a3, a4]) w :=
  results_cell_row h tmps w g 98 #[a0, a1, a2, a3, a4] (0, 0) _ hp hg Try.underlying98 rfl Try.sizeOf98
@[go_sem] theorem build5 (a b c d e : Int) (w : World) : (Instr.build 98 #[(0, .int .u64 a), (1, .int .u64 b), (2, .int .u64 c), (3, .int .u64 d), (4, .int .u64 e)]).run Try.prog w = .ok (.agg #[.int .u64 a, .int .u64 b, .int .u64 c, .int .u64 d, .int .u64 e]) w := run_build w 98 _ _ (by kernel_rfl)
theorem set5_row {w : World} {g : Nat} {t : TypeId} {a0 a1 a2 a3 a4 : Value} (h : w.heap[g]? = some (.cells #[a0, a1, a2, a3, a4] t (0, 0))) (u0 u1 u2 u3 u4 : Value) :
    (((((w.setCell ⟨g, 0, none⟩ u0).setCell ⟨g, 1, none⟩ u1).setCell ⟨g, 2, none⟩ u2).setCell ⟨g, 3, none⟩ u3).setCell ⟨g, 4, none⟩ u4).heap[g]? = some (.cells #[u0, u1, u2, u3, u4] t (0, 0)) := by
  simp [World.setCell, Array.getElem?_modify, h]

/-- A schema as a number without a sign. -/
def usg (s : Int) : Int := s % 18446744073709551616
theorem usg_inj {a b : Int} (ha : in64 a) (hb : in64 b) : usg a = usg b ↔ a = b := by
  unfold in64 at ha hb
  unfold usg
  omega
def nmb (h : Fs) : Array Value := #[.int .u64 (usg h.s), .int .u64 h.z, .int .u64 h.zc, .int .u64 h.c, .int .u64 h.sm]

set_option maxHeartbeats 2000000 in
theorem nmb_any (v : Value) (h : Fs) (w : World) (hh : FSrc w v h) :
    Calls Try.prog 60 #[v] w fun e w' => e = .returned (.agg (nmb h)) ∧ Fr [] w w' := by
  obtain ⟨po, pc, no, nc, qo, qc, ro, rc, rfl, _⟩ := hh.opens
  clear hh
  obtain ⟨s, z, zc, c, sm, P, N, pd, nd⟩ := h
  simp only [nmb]
  go_enter Try.func60, Try.ntmps60
  obtain ⟨cs, hcs⟩ : ∃ cs : Array Value, cs = #[.int .i64 s, .int .u64 z, .int .u64 zc, .int .u64 c, .int .u64 sm, .slice po P.length pc, .slice no N.length nc, .slice qo pd.length qc, .slice ro nd.length rc] := ⟨_, rfl⟩
  have HA : Hid (∀ z, NineF ((w.alloc (.cells cs 26)).alloc (.cells z 98)) w.heap.size cs ∧ ((w.alloc (.cells cs 26)).alloc (.cells z 98)).heap[w.heap.size + 1]? = some (.cells z 98 (0, 0)) ∧ Fr [] w ((w.alloc (.cells cs 26)).alloc (.cells z 98))) := by
    intro z
    refine ⟨nineF_mid _ _ _, ?_, ((Fr.refl [] w).alloc _).alloc _⟩
    have := heap_alloc_new (w.alloc (.cells cs 26)) (.cells z 98)
    rwa [World.size_alloc] at this
  subst hcs
  have hw : IntKind.u64.wrap s = usg s := by rw [IntKind.wrap_u64]; rfl
  go_upto_region 1 with fail
  obtain ⟨hA3, hA6, hAF⟩ := HA.out #[.int .u64 0, .int .u64 0, .int .u64 0, .int .u64 0, .int .u64 0]
  clear HA
  generalize (w.alloc (.cells _ _)).alloc (.cells _ _) = wA at hA3 hA6 hAF ⊢
  have c0 := hA3.cell 0 rfl
  have c1 := hA3.cell 1 rfl
  have c2 := hA3.cell 2 rfl
  have c3 := hA3.cell 3 rfl
  have c4 := hA3.cell 4 rfl
  have d0 : wA.cell? ⟨w.heap.size + 1, 0, none⟩ = some (.int .u64 0) := by rw [cell_at hA6]; rfl
  have d1 : wA.cell? ⟨w.heap.size + 1, 1, none⟩ = some (.int .u64 0) := by rw [cell_at hA6]; rfl
  have d2 : wA.cell? ⟨w.heap.size + 1, 2, none⟩ = some (.int .u64 0) := by rw [cell_at hA6]; rfl
  have d3 : wA.cell? ⟨w.heap.size + 1, 3, none⟩ = some (.int .u64 0) := by rw [cell_at hA6]; rfl
  have d4 : wA.cell? ⟨w.heap.size + 1, 4, none⟩ = some (.int .u64 0) := by rw [cell_at hA6]; rfl
  have f0 := frozen_at hA6 0
  have f1 := frozen_at hA6 1
  have f2 := frozen_at hA6 2
  have f3 := frozen_at hA6 3
  have f4 := frozen_at hA6 4
  have H6 : Hid (wA.heap[w.heap.size + 1]? = some (.cells #[.int .u64 0, .int .u64 0, .int .u64 0, .int .u64 0, .int .u64 0] 98 (0, 0))) := hA6
  have HF : Hid (Fr [] w wA) := hAF
  clear hA3 hA6 hAF
  go_wp2
  refine bodyPost_ret (five_res rfl _ _ (w.heap.size + 1) _ _ _ _ _ rfl (set5_row H6.out (.int .u64 (usg s)) (.int .u64 z) (.int .u64 zc) (.int .u64 c) (.int .u64 sm))) rfl ?_
  exact ⟨rfl, ((((HF.out.setCell _ _ (.inr (by simp))).setCell _ _ (.inr (by simp))).setCell _ _ (.inr (by simp))).setCell _ _ (.inr (by simp))).setCell _ _ (.inr (by simp))⟩
end Go.Proofs.Ytoaibabkkphlaaa

/-
  Package fhist: Equal.
-/
namespace Go.Proofs.Ytoaibabkkphlaaa
open Go.RowKit Mem Spans
set_option linter.unusedSimpArgs false
set_option linter.unusedVariables false
set_option maxRecDepth 100000

/-- Are two histograms' five numbers the same? -/
def eqr (a b c d e a' b' c' d' e' : Int) : Bool := decide (a = a' ∧ b = b' ∧ c = c' ∧ d = d' ∧ e = e')
@[go_sem] theorem eq5_run (a b c d e a' b' c' d' e' : Int) (w : World) :
    (Op.equalIn 10000 98 (.agg #[.int .u64 a, .int .u64 b, .int .u64 c, .int .u64 d, .int .u64 e]) (.agg #[.int .u64 a', .int .u64 b', .int .u64 c', .int .u64 d', .int .u64 e'])).run Try.prog w = .ok (eqr a b c d e a' b' c' d' e') w := by
  have u3 := Try.underlying22
  have a3 := Try.isAgg22
  have z3 := Try.sizeOf22
  unfold eqr
  rw [show (10000 : Nat) = 9999 + 1 from rfl, Op.equalIn]
  simp only [Sem.run_bind, run_underlying Try.underlying98, Result.andThen_ok]
  simp only [Std.Legacy.Range.forIn_eq_forIn_range', Std.Legacy.Range.size, Nat.sub_zero, Nat.add_sub_cancel, Nat.div_one, List.range'_succ, List.range'_zero, List.forIn_cons, List.forIn_nil]
  go_simp
  by_cases h1 : a = a' <;> by_cases h2 : b = b' <;> by_cases h3 : c = c' <;> by_cases h4 : d = d' <;> by_cases h5 : e = e' <;> simp [h1, h2, h3, h4, h5]
@[go_sem] theorem eq5_max (a b c d e a' b' c' d' e' : Int) (w : World) :
    (Op.equalIn Op.maxDepth 98 (.agg #[.int .u64 a, .int .u64 b, .int .u64 c, .int .u64 d, .int .u64 e]) (.agg #[.int .u64 a', .int .u64 b', .int .u64 c', .int .u64 d', .int .u64 e'])).run Try.prog w = .ok (eqr a b c d e a' b' c' d' e') w := eq5_run ..

set_option maxHeartbeats 8000000 in
theorem fequal_any (v u : Value) (a b : Fs) (w : World) (h1 : FSrc w v a) (h2 : FSrc w u b) :
    Calls Try.prog 30 #[v, u] w fun e w' => e = .returned (.bool (feq a b)) ∧ Fr [] w w' := by
  have H1 : Hid (∀ wx, Fr [] w wx → FSrc wx v a) := fun wx hx => h1.kept hx
  have H2 : Hid (∀ wx, Fr [] w wx → FSrc wx u b) := fun wx hx => h2.kept hx
  have HFI : Hid (fin9 a ∧ fin9 b) := ⟨h1.fin, h2.fin⟩
  obtain ⟨po, pc, no, nc, qo, qc, ro, rc, rfl, hina, _⟩ := h1.opens
  obtain ⟨po2, pc2, no2, nc2, qo2, qc2, ro2, rc2, rfl, hinb, _⟩ := h2.opens
  have HIN : Hid (in64 a.s ∧ in64 b.s) := ⟨hina.1, hinb.1⟩
  clear h1 h2 hina hinb
  go_enter Try.func30, Try.ntmps30
  have HA : Hid (NineF ((w.alloc (.cells #[.int .i64 a.s, .int .u64 a.z, .int .u64 a.zc, .int .u64 a.c, .int .u64 a.sm, .slice po a.P.length pc, .slice no a.N.length nc, .slice qo a.pd.length qc, .slice ro a.nd.length rc] 26)).alloc (.cells #[.int .i64 b.s, .int .u64 b.z, .int .u64 b.zc, .int .u64 b.c, .int .u64 b.sm, .slice po2 b.P.length pc2, .slice no2 b.N.length nc2, .slice qo2 b.pd.length qc2, .slice ro2 b.nd.length rc2] 26)) w.heap.size #[.int .i64 a.s, .int .u64 a.z, .int .u64 a.zc, .int .u64 a.c, .int .u64 a.sm, .slice po a.P.length pc, .slice no a.N.length nc, .slice qo a.pd.length qc, .slice ro a.nd.length rc] ∧ NineF ((w.alloc (.cells #[.int .i64 a.s, .int .u64 a.z, .int .u64 a.zc, .int .u64 a.c, .int .u64 a.sm, .slice po a.P.length pc, .slice no a.N.length nc, .slice qo a.pd.length qc, .slice ro a.nd.length rc] 26)).alloc (.cells #[.int .i64 b.s, .int .u64 b.z, .int .u64 b.zc, .int .u64 b.c, .int .u64 b.sm, .slice po2 b.P.length pc2, .slice no2 b.N.length nc2, .slice qo2 b.pd.length qc2, .slice ro2 b.nd.length rc2] 26)) (w.heap.size + 1) #[.int .i64 b.s, .int .u64 b.z, .int .u64 b.zc, .int .u64 b.c, .int .u64 b.sm, .slice po2 b.P.length pc2, .slice no2 b.N.length nc2, .slice qo2 b.pd.length qc2, .slice ro2 b.nd.length rc2] ∧ Fr [] w ((w.alloc (.cells #[.int .i64 a.s, .int .u64 a.z, .int .u64 a.zc, .int .u64 a.c, .int .u64 a.sm, .slice po a.P.length pc, .slice no a.N.length nc, .slice qo a.pd.length qc, .slice ro a.nd.length rc] 26)).alloc (.cells #[.int .i64 b.s, .int .u64 b.z, .int .u64 b.zc, .int .u64 b.c, .int .u64 b.sm, .slice po2 b.P.length pc2, .slice no2 b.N.length nc2, .slice qo2 b.pd.length qc2, .slice ro2 b.nd.length rc2] 26))) := ⟨nineF_mid _ _ _, nineF_top _ _ _, ((Fr.refl [] w).alloc _).alloc _⟩
  go_wp2_with fail
  obtain ⟨hA3, hA6, hAF⟩ := HA.out
  clear HA
  generalize (w.alloc (.cells _ _)).alloc (.cells _ _) = wA at hA3 hA6 hAF ⊢
  refine (fsides_any _ a wA (H1.out _ hAF)).mono ?_
  rintro e w1 ⟨x, y, rfl, hx, hy, hf1⟩
  have HX : Hid (PSrc w1 x (fdp a)) := hx.src (fdp_in a HFI.out.1)
  have HY : Hid (PSrc w1 y (fdn a)) := hy.src (fdn_in a HFI.out.1)
  have HF1 : Hid (Fr [] w w1) := hAF.trans hf1 (by simp)
  have H3 : Hid (NineF w1 w.heap.size _) := hA3.kept hf1 (by simp)
  have H6 : Hid (NineF w1 (w.heap.size + 1) _) := hA6.kept hf1 (by simp)
  clear hx hy hf1 hA3 hA6 hAF
  by_cases h0 : fce a = 0
  · have HC0 : Hid (fce a = 0) := h0
    rw [h0]
    clear h0
    have d0 := H6.out.cell 0 rfl
    have d1 := H6.out.cell 1 rfl
    have d2 := H6.out.cell 2 rfl
    have d3 := H6.out.cell 3 rfl
    have d4 := H6.out.cell 4 rfl
    have d5 := H6.out.cell 5 rfl
    have d6 := H6.out.cell 6 rfl
    have d7 := H6.out.cell 7 rfl
    have d8 := H6.out.cell 8 rfl
    go_wp2_with fail
    refine (fsides_any _ b w1 (H2.out _ HF1.out)).mono ?_
    rintro e w2 ⟨x2, y2, rfl, hx, hy, hf2⟩
    have HX2 : Hid (PSrc w2 x2 (fdp b)) := hx.src (fdp_in b HFI.out.2)
    have HY2 : Hid (PSrc w2 y2 (fdn b)) := hy.src (fdn_in b HFI.out.2)
    have HX1 : Hid (PSrc w2 x (fdp a)) := HX.out.kept hf2
    have HY1 : Hid (PSrc w2 y (fdn a)) := HY.out.kept hf2
    have HF2 : Hid (Fr [] w w2) := HF1.out.trans hf2 (by simp)
    have h3 := H3.out.kept hf2 (by simp)
    have h6 := H6.out.kept hf2 (by simp)
    clear hx hy hf2 HX HY HF1 H3 H6 d0 d1 d2 d3 d4 d5 d6 d7 d8
    by_cases h0 : fce b = 0
    · have HC1 : Hid (fce b = 0) := h0
      rw [h0]
      clear h0
      have c0 := h3.cell 0 rfl
      have c1 := h3.cell 1 rfl
      have c2 := h3.cell 2 rfl
      have c3 := h3.cell 3 rfl
      have c4 := h3.cell 4 rfl
      have c5 := h3.cell 5 rfl
      have c6 := h3.cell 6 rfl
      have c7 := h3.cell 7 rfl
      have c8 := h3.cell 8 rfl
      have d0 := h6.cell 0 rfl
      have d1 := h6.cell 1 rfl
      have d2 := h6.cell 2 rfl
      have d3 := h6.cell 3 rfl
      have d4 := h6.cell 4 rfl
      have d5 := h6.cell 5 rfl
      have d6 := h6.cell 6 rfl
      have d7 := h6.cell 7 rfl
      have d8 := h6.cell 8 rfl
      clear h3 h6
      have HNO : Hid (¬ (a.s = b.s ∧ a.z = b.z ∧ a.zc = b.zc ∧ a.c = b.c ∧ a.sm = b.sm ∧ wio (fdp a) 0 = wio (fdp b) 0 ∧ wio (fdn a) 0 = wio (fdn b) 0) → feq a b = false) := fun h => decide_eq_false (fun k => h k.2.2)
      have HYES : Hid ((a.s = b.s ∧ a.z = b.z ∧ a.zc = b.zc ∧ a.c = b.c ∧ a.sm = b.sm) → wio (fdp a) 0 = wio (fdp b) 0 → wio (fdn a) 0 = wio (fdn b) 0 → feq a b = true) := fun k k6 k7 => decide_eq_true ⟨HC0.out, HC1.out, k.1, k.2.1, k.2.2.1, k.2.2.2.1, k.2.2.2.2, k6, k7⟩
      have HWP : Hid (∀ wx, Fr [] w2 wx → ∀ t l, PSrc w2 t l → l.length ≤ 4096 → Calls Try.prog 58 #[t, .int .u64 0] wx fun e w' => ∃ u, e = .returned u ∧ POwn 43 wx.heap.size w' u (wio l 0) ∧ Fr [] wx w' ∧ Fr [] w2 w') := by
        intro wx hf t l ht hl
        refine (withoutU_any _ l 0 wx (ht.kept hf) (by omega)).mono ?_
        rintro e w' ⟨u, rfl, hu, hf'⟩
        exact ⟨u, rfl, hu, hf', hf.trans hf' (by simp)⟩
      have HEP : Hid (∀ wx, Fr [] w2 wx → ∀ t u xs ys, PSrc wx t xs → PSrc wx u ys → Calls Try.prog 61 #[t, u] wx fun e w' => e = .returned (.bool (decide (xs = ys))) ∧ Fr [] w2 w') := by
        intro wx hf t u xs ys h1 h2
        refine (pequalU_any _ _ xs ys wx h1 h2).mono ?_
        rintro e w' ⟨rfl, hf'⟩
        exact ⟨rfl, hf.trans hf' (by simp)⟩
      have HNA : Hid (∀ wx, Fr [] w2 wx → Calls Try.prog 60 #[.agg #[.int .i64 a.s, .int .u64 a.z, .int .u64 a.zc, .int .u64 a.c, .int .u64 a.sm, .slice po a.P.length pc, .slice no a.N.length nc, .slice qo a.pd.length qc, .slice ro a.nd.length rc]] wx fun e w' => e = .returned (.agg #[.int .u64 (usg a.s), .int .u64 a.z, .int .u64 a.zc, .int .u64 a.c, .int .u64 a.sm]) ∧ Fr [] w2 w') := by
        intro wx hf
        refine (nmb_any _ a wx (H1.out _ (HF2.out.trans hf (by simp)))).mono ?_
        rintro e w' ⟨rfl, hf'⟩
        exact ⟨rfl, hf.trans hf' (by simp)⟩
      have HNB : Hid (∀ wx, Fr [] w2 wx → Calls Try.prog 60 #[.agg #[.int .i64 b.s, .int .u64 b.z, .int .u64 b.zc, .int .u64 b.c, .int .u64 b.sm, .slice po2 b.P.length pc2, .slice no2 b.N.length nc2, .slice qo2 b.pd.length qc2, .slice ro2 b.nd.length rc2]] wx fun e w' => e = .returned (.agg #[.int .u64 (usg b.s), .int .u64 b.z, .int .u64 b.zc, .int .u64 b.c, .int .u64 b.sm]) ∧ Fr [] w2 w') := by
        intro wx hf
        refine (nmb_any _ b wx (H2.out _ (HF2.out.trans hf (by simp)))).mono ?_
        rintro e w' ⟨rfl, hf'⟩
        exact ⟨rfl, hf.trans hf' (by simp)⟩
      have HI : Hid ((∀ s ∈ fdp a, in64 s.1 ∧ inu s.2) ∧ (∀ s ∈ fdn a, in64 s.1 ∧ inu s.2) ∧ (∀ s ∈ fdp b, in64 s.1 ∧ inu s.2) ∧ (∀ s ∈ fdn b, in64 s.1 ∧ inu s.2)) := ⟨fdp_in a HFI.out.1, fdn_in a HFI.out.1, fdp_in b HFI.out.2, fdn_in b HFI.out.2⟩
      have HL : Hid ((fdp a).length ≤ 4096 ∧ (fdn a).length ≤ 4096 ∧ (fdp b).length ≤ 4096 ∧ (fdn b).length ≤ 4096) := ⟨fdp_le a, fdn_le a, fdp_le b, fdn_le b⟩
      generalize fdp a = PA at *
      generalize fdn a = NA at *
      generalize fdp b = PB at *
      generalize fdn b = NB at *
      obtain ⟨R, hqq⟩ : ∃ R, feq a b = R := ⟨_, rfl⟩
      have HQ : Hid (feq a b = R) := hqq
      rw [hqq] at HNO HYES
      clear hqq
      have F0 : Fr [] w2 w2.drew := (Fr.refl _ _).drew
      have hqi : eqr (usg a.s) a.z a.zc a.c a.sm (usg b.s) b.z b.zc b.c b.sm = decide (a.s = b.s ∧ a.z = b.z ∧ a.zc = b.zc ∧ a.c = b.c ∧ a.sm = b.sm) := by unfold eqr; exact decide_eq_decide.2 (and_congr (usg_inj HIN.out.1 HIN.out.2) Iff.rfl)
      by_cases kn : a.s = b.s ∧ a.z = b.z ∧ a.zc = b.zc ∧ a.c = b.c ∧ a.sm = b.sm
      case neg =>
        have HE2 : Hid (R = false) := HNO.out (fun k => kn ⟨k.1, k.2.1, k.2.2.1, k.2.2.2.1, k.2.2.2.2.1⟩)
        rw [decide_eq_false kn] at hqi
        clear kn
        go_wp2_with fail
        have hmx : Try.prog.follows .mixedOrders = true := by kernel_rfl
        refine wp_region_noPanic ?_
        refine wp_region_held_drew (S := fun w' => w'.cell? ⟨w.heap.size, 0, none⟩ = some (.int .i64 a.s) ∧ w'.cell? ⟨w.heap.size, 1, none⟩ = some (.int .u64 a.z) ∧ w'.cell? ⟨w.heap.size, 2, none⟩ = some (.int .u64 a.zc) ∧ w'.cell? ⟨w.heap.size, 3, none⟩ = some (.int .u64 a.c) ∧ w'.cell? ⟨w.heap.size, 4, none⟩ = some (.int .u64 a.sm) ∧ w'.cell? ⟨w.heap.size, 5, none⟩ = some (.slice po a.P.length pc) ∧ w'.cell? ⟨w.heap.size, 6, none⟩ = some (.slice no a.N.length nc) ∧ w'.cell? ⟨w.heap.size, 7, none⟩ = some (.slice qo a.pd.length qc) ∧ w'.cell? ⟨w.heap.size, 8, none⟩ = some (.slice ro a.nd.length rc) ∧ w'.cell? ⟨w.heap.size + 1, 0, none⟩ = some (.int .i64 b.s) ∧ w'.cell? ⟨w.heap.size + 1, 1, none⟩ = some (.int .u64 b.z) ∧ w'.cell? ⟨w.heap.size + 1, 2, none⟩ = some (.int .u64 b.zc) ∧ w'.cell? ⟨w.heap.size + 1, 3, none⟩ = some (.int .u64 b.c) ∧ w'.cell? ⟨w.heap.size + 1, 4, none⟩ = some (.int .u64 b.sm) ∧ w'.cell? ⟨w.heap.size + 1, 5, none⟩ = some (.slice po2 b.P.length pc2) ∧ w'.cell? ⟨w.heap.size + 1, 6, none⟩ = some (.slice no2 b.N.length nc2) ∧ w'.cell? ⟨w.heap.size + 1, 7, none⟩ = some (.slice qo2 b.pd.length qc2) ∧ w'.cell? ⟨w.heap.size + 1, 8, none⟩ = some (.slice ro2 b.nd.length rc2)) hmx ?_ (fun hS0 => ?_)
        · (try dsimp only)
          go_keep
        refine wpAnyH_take (i := 0) (oi := { dst := some 26, op := Op.load 26 (Operand.tmp 2), type := 26, pos := "fhist.go:113", after := #[], guard := none }) (v := .agg #[.int .i64 a.s, .int .u64 a.z, .int .u64 a.zc, .int .u64 a.c, .int .u64 a.sm, .slice po a.P.length pc, .slice no a.N.length nc, .slice qo a.pd.length qc, .slice ro a.nd.length rc]) rfl (by kernel_rfl) (by kernel_rfl) (by kernel_rfl) (fun _ _ _ h => h) (Or.inl ⟨by rfl, ?_⟩) (by assumption) ?_
        · intro w hSw
          (try dsimp only at hSw)
          go_simp
        try simp only [Act.put, List.setIfInBounds_toArray, List.set_cons_zero, List.set_cons_succ]
        refine wpAnyH_take (i := 2) (oi := { dst := some 28, op := Op.load 26 (Operand.tmp 3), type := 26, pos := "fhist.go:113", after := #[], guard := none }) (v := .agg #[.int .i64 b.s, .int .u64 b.z, .int .u64 b.zc, .int .u64 b.c, .int .u64 b.sm, .slice po2 b.P.length pc2, .slice no2 b.N.length nc2, .slice qo2 b.pd.length qc2, .slice ro2 b.nd.length rc2]) rfl (by kernel_rfl) (by kernel_rfl) (by kernel_rfl) (fun _ _ _ h => h) (Or.inl ⟨by rfl, ?_⟩) (by assumption) ?_
        · intro w hSw
          (try dsimp only at hSw)
          go_simp
        try simp only [Act.put, List.setIfInBounds_toArray, List.set_cons_zero, List.set_cons_succ]
        refine wpAnyH_ready (rs := [1]) (by kernel_rfl) (by simp) ?_
        refine AllReadyH.cons (o := { dst := some 27, op := Op.call { callee := Callee.value (Operand.func 60), args := #[Operand.tmp 26], argTypes := #[26] }, type := 98, pos := "fhist.go:113", after := #[{ on := 0, ground := Ground.data }], guard := none }) rfl (fun K hK => ?_) AllReadyH.nil
        go_simp
        go_at_call 60; with_reducible refine (HNA.out _ F0).mono ?_; rintro e wa ⟨rfl, hfa⟩; have ka0 := hfa.cell_some c0 (by simp); have ka1 := hfa.cell_some c1 (by simp); have ka2 := hfa.cell_some c2 (by simp); have ka3 := hfa.cell_some c3 (by simp); have ka4 := hfa.cell_some c4 (by simp); have ka5 := hfa.cell_some c5 (by simp); have ka6 := hfa.cell_some c6 (by simp); have ka7 := hfa.cell_some c7 (by simp); have ka8 := hfa.cell_some c8 (by simp); have ma0 := hfa.cell_some d0 (by simp); have ma1 := hfa.cell_some d1 (by simp); have ma2 := hfa.cell_some d2 (by simp); have ma3 := hfa.cell_some d3 (by simp); have ma4 := hfa.cell_some d4 (by simp); have ma5 := hfa.cell_some d5 (by simp); have ma6 := hfa.cell_some d6 (by simp); have ma7 := hfa.cell_some d7 (by simp); have ma8 := hfa.cell_some d8 (by simp)
        refine hK.out _ _ ?_ (fun hS1 => ?_)
        · (try dsimp only)
          go_keep
        clear hK K
        refine wpAnyH_ready (rs := [3]) (by kernel_rfl) (by simp) ?_
        refine AllReadyH.cons (o := { dst := some 29, op := Op.call { callee := Callee.value (Operand.func 60), args := #[Operand.tmp 28], argTypes := #[26] }, type := 98, pos := "fhist.go:113", after := #[{ on := 2, ground := Ground.data }, { on := 1, ground := Ground.chain }], guard := none }) rfl (fun K hK => ?_) AllReadyH.nil
        go_simp
        go_at_call 60; with_reducible refine (HNB.out _ hfa).mono ?_; rintro e wb ⟨rfl, hfb⟩; have kb0 := hfb.cell_some c0 (by simp); have kb1 := hfb.cell_some c1 (by simp); have kb2 := hfb.cell_some c2 (by simp); have kb3 := hfb.cell_some c3 (by simp); have kb4 := hfb.cell_some c4 (by simp); have kb5 := hfb.cell_some c5 (by simp); have kb6 := hfb.cell_some c6 (by simp); have kb7 := hfb.cell_some c7 (by simp); have kb8 := hfb.cell_some c8 (by simp); have mb0 := hfb.cell_some d0 (by simp); have mb1 := hfb.cell_some d1 (by simp); have mb2 := hfb.cell_some d2 (by simp); have mb3 := hfb.cell_some d3 (by simp); have mb4 := hfb.cell_some d4 (by simp); have mb5 := hfb.cell_some d5 (by simp); have mb6 := hfb.cell_some d6 (by simp); have mb7 := hfb.cell_some d7 (by simp); have mb8 := hfb.cell_some d8 (by simp)
        refine hK.out _ _ ?_ (fun hS2 => ?_)
        · (try dsimp only)
          go_keep
        clear hK K
        refine wpAnyH_take (i := 4) (oi := { dst := some 30, op := Op.binOp BinOp.eql 98 (Operand.tmp 27) (Operand.tmp 29) 98, type := 4, pos := "fhist.go:113", after := #[{ on := 1, ground := Ground.data }, { on := 3, ground := Ground.data }], guard := none }) (v := .bool false) rfl (by kernel_rfl) (by kernel_rfl) (by kernel_rfl) (fun _ _ _ h => h) (Or.inl ⟨by rfl, ?_⟩) (by assumption) ?_
        · intro w hSw
          (try dsimp only at hSw)
          go_simp
        try simp only [Act.put, List.setIfInBounds_toArray, List.set_cons_zero, List.set_cons_succ]
        refine wpAnyH_take (i := 5) (oi := { dst := some 31, op := Op.move (Operand.tmp 30), type := 4, pos := "fhist.go:113", after := #[{ on := 4, ground := Ground.data }, { on := 3, ground := Ground.chain }], guard := none }) (v := .bool false) rfl (by kernel_rfl) (by kernel_rfl) (by kernel_rfl) (fun _ _ _ h => h) (Or.inl ⟨by rfl, ?_⟩) (by assumption) ?_
        · intro w hSw
          (try dsimp only at hSw)
          go_simp
        try simp only [Act.put, List.setIfInBounds_toArray, List.set_cons_zero, List.set_cons_succ]
        refine wpAnyH_take (i := 6) (oi := { dst := some 32, op := Op.move (Operand.tmp 5), type := 38, pos := "fhist.go:113", after := #[{ on := 5, ground := Ground.guard }], guard := some (5, true) }) (v := undef) rfl (by kernel_rfl) (by kernel_rfl) (by kernel_rfl) (fun _ _ _ h => h) (Or.inr ⟨by rfl, rfl⟩) (by assumption) ?_
        try simp only [Act.put, List.setIfInBounds_toArray, List.set_cons_zero, List.set_cons_succ]
        refine wpAnyH_take (i := 7) (oi := { dst := some 33, op := Op.call { callee := Callee.value (Operand.func 58), args := #[Operand.tmp 32, Operand.const (Value.int IntKind.u64 0)], argTypes := #[38, 22] }, type := 38, pos := "fhist.go:114", after := #[{ on := 6, ground := Ground.data }, { on := 5, ground := Ground.chain }, { on := 5, ground := Ground.guard }], guard := some (5, true) }) (v := undef) rfl (by kernel_rfl) (by kernel_rfl) (by kernel_rfl) (fun _ _ _ h => h) (Or.inr ⟨by rfl, rfl⟩) (by assumption) ?_
        try simp only [Act.put, List.setIfInBounds_toArray, List.set_cons_zero, List.set_cons_succ]
        refine wpAnyH_take (i := 8) (oi := { dst := some 34, op := Op.move (Operand.tmp 8), type := 38, pos := "fhist.go:113", after := #[{ on := 5, ground := Ground.guard }], guard := some (5, true) }) (v := undef) rfl (by kernel_rfl) (by kernel_rfl) (by kernel_rfl) (fun _ _ _ h => h) (Or.inr ⟨by rfl, rfl⟩) (by assumption) ?_
        try simp only [Act.put, List.setIfInBounds_toArray, List.set_cons_zero, List.set_cons_succ]
        refine wpAnyH_take (i := 9) (oi := { dst := some 35, op := Op.call { callee := Callee.value (Operand.func 58), args := #[Operand.tmp 34, Operand.const (Value.int IntKind.u64 0)], argTypes := #[38, 22] }, type := 38, pos := "fhist.go:114", after := #[{ on := 8, ground := Ground.data }, { on := 7, ground := Ground.chain }, { on := 5, ground := Ground.guard }], guard := some (5, true) }) (v := undef) rfl (by kernel_rfl) (by kernel_rfl) (by kernel_rfl) (fun _ _ _ h => h) (Or.inr ⟨by rfl, rfl⟩) (by assumption) ?_
        try simp only [Act.put, List.setIfInBounds_toArray, List.set_cons_zero, List.set_cons_succ]
        refine wpAnyH_take (i := 10) (oi := { dst := some 36, op := Op.call { callee := Callee.value (Operand.func 61), args := #[Operand.tmp 33, Operand.tmp 35], argTypes := #[38, 38] }, type := 4, pos := "fhist.go:114", after := #[{ on := 7, ground := Ground.data }, { on := 9, ground := Ground.data }, { on := 9, ground := Ground.chain }, { on := 5, ground := Ground.guard }], guard := some (5, true) }) (v := undef) rfl (by kernel_rfl) (by kernel_rfl) (by kernel_rfl) (fun _ _ _ h => h) (Or.inr ⟨by rfl, rfl⟩) (by assumption) ?_
        try simp only [Act.put, List.setIfInBounds_toArray, List.set_cons_zero, List.set_cons_succ]
        refine wpAnyH_take (i := 11) (oi := { dst := some 37, op := Op.pick (Operand.tmp 31) (Operand.tmp 36) (Operand.const (Value.bool false)), type := 4, pos := "fhist.go:113", after := #[{ on := 5, ground := Ground.data }, { on := 10, ground := Ground.data }], guard := none }) (v := .bool false) rfl (by kernel_rfl) (by kernel_rfl) (by kernel_rfl) (fun _ _ _ h => h) (Or.inl ⟨by rfl, ?_⟩) (by assumption) ?_
        · intro w hSw
          (try dsimp only at hSw)
          go_simp
        try simp only [Act.put, List.setIfInBounds_toArray, List.set_cons_zero, List.set_cons_succ]
        refine wpAnyH_take (i := 12) (oi := { dst := some 38, op := Op.move (Operand.tmp 37), type := 4, pos := "fhist.go:113", after := #[{ on := 11, ground := Ground.data }, { on := 10, ground := Ground.chain }], guard := none }) (v := .bool false) rfl (by kernel_rfl) (by kernel_rfl) (by kernel_rfl) (fun _ _ _ h => h) (Or.inl ⟨by rfl, ?_⟩) (by assumption) ?_
        · intro w hSw
          (try dsimp only at hSw)
          go_simp
        try simp only [Act.put, List.setIfInBounds_toArray, List.set_cons_zero, List.set_cons_succ]
        refine wpAnyH_take (i := 13) (oi := { dst := some 39, op := Op.move (Operand.tmp 6), type := 38, pos := "fhist.go:113", after := #[{ on := 12, ground := Ground.guard }], guard := some (12, true) }) (v := undef) rfl (by kernel_rfl) (by kernel_rfl) (by kernel_rfl) (fun _ _ _ h => h) (Or.inr ⟨by rfl, rfl⟩) (by assumption) ?_
        try simp only [Act.put, List.setIfInBounds_toArray, List.set_cons_zero, List.set_cons_succ]
        refine wpAnyH_take (i := 14) (oi := { dst := some 40, op := Op.call { callee := Callee.value (Operand.func 58), args := #[Operand.tmp 39, Operand.const (Value.int IntKind.u64 0)], argTypes := #[38, 22] }, type := 38, pos := "fhist.go:115", after := #[{ on := 13, ground := Ground.data }, { on := 12, ground := Ground.chain }, { on := 12, ground := Ground.guard }], guard := some (12, true) }) (v := undef) rfl (by kernel_rfl) (by kernel_rfl) (by kernel_rfl) (fun _ _ _ h => h) (Or.inr ⟨by rfl, rfl⟩) (by assumption) ?_
        try simp only [Act.put, List.setIfInBounds_toArray, List.set_cons_zero, List.set_cons_succ]
        refine wpAnyH_take (i := 15) (oi := { dst := some 41, op := Op.move (Operand.tmp 9), type := 38, pos := "fhist.go:113", after := #[{ on := 12, ground := Ground.guard }], guard := some (12, true) }) (v := undef) rfl (by kernel_rfl) (by kernel_rfl) (by kernel_rfl) (fun _ _ _ h => h) (Or.inr ⟨by rfl, rfl⟩) (by assumption) ?_
        try simp only [Act.put, List.setIfInBounds_toArray, List.set_cons_zero, List.set_cons_succ]
        refine wpAnyH_take (i := 16) (oi := { dst := some 42, op := Op.call { callee := Callee.value (Operand.func 58), args := #[Operand.tmp 41, Operand.const (Value.int IntKind.u64 0)], argTypes := #[38, 22] }, type := 38, pos := "fhist.go:115", after := #[{ on := 15, ground := Ground.data }, { on := 14, ground := Ground.chain }, { on := 12, ground := Ground.guard }], guard := some (12, true) }) (v := undef) rfl (by kernel_rfl) (by kernel_rfl) (by kernel_rfl) (fun _ _ _ h => h) (Or.inr ⟨by rfl, rfl⟩) (by assumption) ?_
        try simp only [Act.put, List.setIfInBounds_toArray, List.set_cons_zero, List.set_cons_succ]
        refine wpAnyH_take (i := 17) (oi := { dst := some 43, op := Op.call { callee := Callee.value (Operand.func 61), args := #[Operand.tmp 40, Operand.tmp 42], argTypes := #[38, 38] }, type := 4, pos := "fhist.go:115", after := #[{ on := 14, ground := Ground.data }, { on := 16, ground := Ground.data }, { on := 16, ground := Ground.chain }, { on := 12, ground := Ground.guard }], guard := some (12, true) }) (v := undef) rfl (by kernel_rfl) (by kernel_rfl) (by kernel_rfl) (fun _ _ _ h => h) (Or.inr ⟨by rfl, rfl⟩) (by assumption) ?_
        try simp only [Act.put, List.setIfInBounds_toArray, List.set_cons_zero, List.set_cons_succ]
        refine wpAnyH_take (i := 18) (oi := { dst := some 44, op := Op.pick (Operand.tmp 38) (Operand.tmp 43) (Operand.const (Value.bool false)), type := 4, pos := "fhist.go:113", after := #[{ on := 12, ground := Ground.data }, { on := 17, ground := Ground.data }], guard := none }) (v := .bool false) rfl (by kernel_rfl) (by kernel_rfl) (by kernel_rfl) (fun _ _ _ h => h) (Or.inl ⟨by rfl, ?_⟩) (by assumption) ?_
        · intro w hSw
          (try dsimp only at hSw)
          go_simp
        try simp only [Act.put, List.setIfInBounds_toArray, List.set_cons_zero, List.set_cons_succ]
        refine wpAnyH_take (i := 19) (oi := { dst := some 4, op := Op.assign (Operand.tmp 44), type := 4, pos := "fhist.go:113", after := #[{ on := 18, ground := Ground.data }, { on := 17, ground := Ground.chain }, { on := 0, ground := Ground.phase }, { on := 1, ground := Ground.phase }, { on := 2, ground := Ground.phase }, { on := 3, ground := Ground.phase }, { on := 4, ground := Ground.phase }, { on := 5, ground := Ground.phase }, { on := 6, ground := Ground.phase }, { on := 7, ground := Ground.phase }, { on := 8, ground := Ground.phase }, { on := 9, ground := Ground.phase }, { on := 10, ground := Ground.phase }, { on := 11, ground := Ground.phase }, { on := 12, ground := Ground.phase }, { on := 13, ground := Ground.phase }, { on := 14, ground := Ground.phase }, { on := 15, ground := Ground.phase }, { on := 16, ground := Ground.phase }, { on := 17, ground := Ground.phase }, { on := 18, ground := Ground.phase }], guard := none }) (v := .bool false) rfl (by kernel_rfl) (by kernel_rfl) (by kernel_rfl) (fun _ _ _ h => h) (Or.inl ⟨by rfl, ?_⟩) (by assumption) ?_
        · intro w hSw
          (try dsimp only at hSw)
          go_simp
        try simp only [Act.put, List.setIfInBounds_toArray, List.set_cons_zero, List.set_cons_succ]
        refine wpAnyH_done (by kernel_rfl) ?_ _
        refine NoPanic.normal ?_
        have HFE : Hid (Fr [] w wb) := HF2.out.trans hfb (by simp)
        go_wp2
        go_ret
        exact ⟨by rw [HQ.out, HE2.out]; rfl, HFE.out⟩
      have HKN : Hid (a.s = b.s ∧ a.z = b.z ∧ a.zc = b.zc ∧ a.c = b.c ∧ a.sm = b.sm) := kn
      rw [decide_eq_true kn] at hqi
      clear kn
      by_cases k5 : wio PA 0 = wio PB 0
      case neg =>
        have HE2 : Hid (R = false) := HNO.out (fun k => k5 k.2.2.2.2.2.1)
        have hd5 := decide_eq_false k5
        clear k5
        go_wp2_with fail
        have hmx : Try.prog.follows .mixedOrders = true := by kernel_rfl
        refine wp_region_noPanic ?_
        refine wp_region_held_drew (S := fun w' => w'.cell? ⟨w.heap.size, 0, none⟩ = some (.int .i64 a.s) ∧ w'.cell? ⟨w.heap.size, 1, none⟩ = some (.int .u64 a.z) ∧ w'.cell? ⟨w.heap.size, 2, none⟩ = some (.int .u64 a.zc) ∧ w'.cell? ⟨w.heap.size, 3, none⟩ = some (.int .u64 a.c) ∧ w'.cell? ⟨w.heap.size, 4, none⟩ = some (.int .u64 a.sm) ∧ w'.cell? ⟨w.heap.size, 5, none⟩ = some (.slice po a.P.length pc) ∧ w'.cell? ⟨w.heap.size, 6, none⟩ = some (.slice no a.N.length nc) ∧ w'.cell? ⟨w.heap.size, 7, none⟩ = some (.slice qo a.pd.length qc) ∧ w'.cell? ⟨w.heap.size, 8, none⟩ = some (.slice ro a.nd.length rc) ∧ w'.cell? ⟨w.heap.size + 1, 0, none⟩ = some (.int .i64 b.s) ∧ w'.cell? ⟨w.heap.size + 1, 1, none⟩ = some (.int .u64 b.z) ∧ w'.cell? ⟨w.heap.size + 1, 2, none⟩ = some (.int .u64 b.zc) ∧ w'.cell? ⟨w.heap.size + 1, 3, none⟩ = some (.int .u64 b.c) ∧ w'.cell? ⟨w.heap.size + 1, 4, none⟩ = some (.int .u64 b.sm) ∧ w'.cell? ⟨w.heap.size + 1, 5, none⟩ = some (.slice po2 b.P.length pc2) ∧ w'.cell? ⟨w.heap.size + 1, 6, none⟩ = some (.slice no2 b.N.length nc2) ∧ w'.cell? ⟨w.heap.size + 1, 7, none⟩ = some (.slice qo2 b.pd.length qc2) ∧ w'.cell? ⟨w.heap.size + 1, 8, none⟩ = some (.slice ro2 b.nd.length rc2)) hmx ?_ (fun hS0 => ?_)
        · (try dsimp only)
          go_keep
        refine wpAnyH_take (i := 0) (oi := { dst := some 26, op := Op.load 26 (Operand.tmp 2), type := 26, pos := "fhist.go:113", after := #[], guard := none }) (v := .agg #[.int .i64 a.s, .int .u64 a.z, .int .u64 a.zc, .int .u64 a.c, .int .u64 a.sm, .slice po a.P.length pc, .slice no a.N.length nc, .slice qo a.pd.length qc, .slice ro a.nd.length rc]) rfl (by kernel_rfl) (by kernel_rfl) (by kernel_rfl) (fun _ _ _ h => h) (Or.inl ⟨by rfl, ?_⟩) (by assumption) ?_
        · intro w hSw
          (try dsimp only at hSw)
          go_simp
        try simp only [Act.put, List.setIfInBounds_toArray, List.set_cons_zero, List.set_cons_succ]
        refine wpAnyH_take (i := 2) (oi := { dst := some 28, op := Op.load 26 (Operand.tmp 3), type := 26, pos := "fhist.go:113", after := #[], guard := none }) (v := .agg #[.int .i64 b.s, .int .u64 b.z, .int .u64 b.zc, .int .u64 b.c, .int .u64 b.sm, .slice po2 b.P.length pc2, .slice no2 b.N.length nc2, .slice qo2 b.pd.length qc2, .slice ro2 b.nd.length rc2]) rfl (by kernel_rfl) (by kernel_rfl) (by kernel_rfl) (fun _ _ _ h => h) (Or.inl ⟨by rfl, ?_⟩) (by assumption) ?_
        · intro w hSw
          (try dsimp only at hSw)
          go_simp
        try simp only [Act.put, List.setIfInBounds_toArray, List.set_cons_zero, List.set_cons_succ]
        refine wpAnyH_ready (rs := [1]) (by kernel_rfl) (by simp) ?_
        refine AllReadyH.cons (o := { dst := some 27, op := Op.call { callee := Callee.value (Operand.func 60), args := #[Operand.tmp 26], argTypes := #[26] }, type := 98, pos := "fhist.go:113", after := #[{ on := 0, ground := Ground.data }], guard := none }) rfl (fun K hK => ?_) AllReadyH.nil
        go_simp
        go_at_call 60; with_reducible refine (HNA.out _ F0).mono ?_; rintro e wa ⟨rfl, hfa⟩; have ka0 := hfa.cell_some c0 (by simp); have ka1 := hfa.cell_some c1 (by simp); have ka2 := hfa.cell_some c2 (by simp); have ka3 := hfa.cell_some c3 (by simp); have ka4 := hfa.cell_some c4 (by simp); have ka5 := hfa.cell_some c5 (by simp); have ka6 := hfa.cell_some c6 (by simp); have ka7 := hfa.cell_some c7 (by simp); have ka8 := hfa.cell_some c8 (by simp); have ma0 := hfa.cell_some d0 (by simp); have ma1 := hfa.cell_some d1 (by simp); have ma2 := hfa.cell_some d2 (by simp); have ma3 := hfa.cell_some d3 (by simp); have ma4 := hfa.cell_some d4 (by simp); have ma5 := hfa.cell_some d5 (by simp); have ma6 := hfa.cell_some d6 (by simp); have ma7 := hfa.cell_some d7 (by simp); have ma8 := hfa.cell_some d8 (by simp)
        refine hK.out _ _ ?_ (fun hS1 => ?_)
        · (try dsimp only)
          go_keep
        clear hK K
        refine wpAnyH_ready (rs := [3]) (by kernel_rfl) (by simp) ?_
        refine AllReadyH.cons (o := { dst := some 29, op := Op.call { callee := Callee.value (Operand.func 60), args := #[Operand.tmp 28], argTypes := #[26] }, type := 98, pos := "fhist.go:113", after := #[{ on := 2, ground := Ground.data }, { on := 1, ground := Ground.chain }], guard := none }) rfl (fun K hK => ?_) AllReadyH.nil
        go_simp
        go_at_call 60; with_reducible refine (HNB.out _ hfa).mono ?_; rintro e wb ⟨rfl, hfb⟩; have kb0 := hfb.cell_some c0 (by simp); have kb1 := hfb.cell_some c1 (by simp); have kb2 := hfb.cell_some c2 (by simp); have kb3 := hfb.cell_some c3 (by simp); have kb4 := hfb.cell_some c4 (by simp); have kb5 := hfb.cell_some c5 (by simp); have kb6 := hfb.cell_some c6 (by simp); have kb7 := hfb.cell_some c7 (by simp); have kb8 := hfb.cell_some c8 (by simp); have mb0 := hfb.cell_some d0 (by simp); have mb1 := hfb.cell_some d1 (by simp); have mb2 := hfb.cell_some d2 (by simp); have mb3 := hfb.cell_some d3 (by simp); have mb4 := hfb.cell_some d4 (by simp); have mb5 := hfb.cell_some d5 (by simp); have mb6 := hfb.cell_some d6 (by simp); have mb7 := hfb.cell_some d7 (by simp); have mb8 := hfb.cell_some d8 (by simp)
        refine hK.out _ _ ?_ (fun hS2 => ?_)
        · (try dsimp only)
          go_keep
        clear hK K
        refine wpAnyH_take (i := 4) (oi := { dst := some 30, op := Op.binOp BinOp.eql 98 (Operand.tmp 27) (Operand.tmp 29) 98, type := 4, pos := "fhist.go:113", after := #[{ on := 1, ground := Ground.data }, { on := 3, ground := Ground.data }], guard := none }) (v := .bool true) rfl (by kernel_rfl) (by kernel_rfl) (by kernel_rfl) (fun _ _ _ h => h) (Or.inl ⟨by rfl, ?_⟩) (by assumption) ?_
        · intro w hSw
          (try dsimp only at hSw)
          go_simp
        try simp only [Act.put, List.setIfInBounds_toArray, List.set_cons_zero, List.set_cons_succ]
        refine wpAnyH_take (i := 5) (oi := { dst := some 31, op := Op.move (Operand.tmp 30), type := 4, pos := "fhist.go:113", after := #[{ on := 4, ground := Ground.data }, { on := 3, ground := Ground.chain }], guard := none }) (v := .bool true) rfl (by kernel_rfl) (by kernel_rfl) (by kernel_rfl) (fun _ _ _ h => h) (Or.inl ⟨by rfl, ?_⟩) (by assumption) ?_
        · intro w hSw
          (try dsimp only at hSw)
          go_simp
        try simp only [Act.put, List.setIfInBounds_toArray, List.set_cons_zero, List.set_cons_succ]
        refine wpAnyH_take (i := 6) (oi := { dst := some 32, op := Op.move (Operand.tmp 5), type := 38, pos := "fhist.go:113", after := #[{ on := 5, ground := Ground.guard }], guard := some (5, true) }) (v := x) rfl (by kernel_rfl) (by kernel_rfl) (by kernel_rfl) (fun _ _ _ h => h) (Or.inl ⟨by rfl, ?_⟩) (by assumption) ?_
        · intro w hSw
          (try dsimp only at hSw)
          go_simp
        try simp only [Act.put, List.setIfInBounds_toArray, List.set_cons_zero, List.set_cons_succ]
        refine wpAnyH_take (i := 8) (oi := { dst := some 34, op := Op.move (Operand.tmp 8), type := 38, pos := "fhist.go:113", after := #[{ on := 5, ground := Ground.guard }], guard := some (5, true) }) (v := x2) rfl (by kernel_rfl) (by kernel_rfl) (by kernel_rfl) (fun _ _ _ h => h) (Or.inl ⟨by rfl, ?_⟩) (by assumption) ?_
        · intro w hSw
          (try dsimp only at hSw)
          go_simp
        try simp only [Act.put, List.setIfInBounds_toArray, List.set_cons_zero, List.set_cons_succ]
        refine wpAnyH_ready (rs := [7]) (by kernel_rfl) (by simp) ?_
        refine AllReadyH.cons (o := { dst := some 33, op := Op.call { callee := Callee.value (Operand.func 58), args := #[Operand.tmp 32, Operand.const (Value.int IntKind.u64 0)], argTypes := #[38, 22] }, type := 38, pos := "fhist.go:114", after := #[{ on := 6, ground := Ground.data }, { on := 5, ground := Ground.chain }, { on := 5, ground := Ground.guard }], guard := some (5, true) }) rfl (fun K hK => ?_) AllReadyH.nil
        go_simp
        go_at_call 58; with_reducible refine (HWP.out _ hfb x PA HX1.out HL.out.1).mono ?_; rintro e wc ⟨t3, rfl, ht3, hgc, hfc⟩; have kc0 := hfc.cell_some c0 (by simp); have kc1 := hfc.cell_some c1 (by simp); have kc2 := hfc.cell_some c2 (by simp); have kc3 := hfc.cell_some c3 (by simp); have kc4 := hfc.cell_some c4 (by simp); have kc5 := hfc.cell_some c5 (by simp); have kc6 := hfc.cell_some c6 (by simp); have kc7 := hfc.cell_some c7 (by simp); have kc8 := hfc.cell_some c8 (by simp); have mc0 := hfc.cell_some d0 (by simp); have mc1 := hfc.cell_some d1 (by simp); have mc2 := hfc.cell_some d2 (by simp); have mc3 := hfc.cell_some d3 (by simp); have mc4 := hfc.cell_some d4 (by simp); have mc5 := hfc.cell_some d5 (by simp); have mc6 := hfc.cell_some d6 (by simp); have mc7 := hfc.cell_some d7 (by simp); have mc8 := hfc.cell_some d8 (by simp)
        refine hK.out _ _ ?_ (fun hS3 => ?_)
        · (try dsimp only)
          go_keep
        clear hK K
        refine wpAnyH_ready (rs := [9]) (by kernel_rfl) (by simp) ?_
        refine AllReadyH.cons (o := { dst := some 35, op := Op.call { callee := Callee.value (Operand.func 58), args := #[Operand.tmp 34, Operand.const (Value.int IntKind.u64 0)], argTypes := #[38, 22] }, type := 38, pos := "fhist.go:114", after := #[{ on := 8, ground := Ground.data }, { on := 7, ground := Ground.chain }, { on := 5, ground := Ground.guard }], guard := some (5, true) }) rfl (fun K hK => ?_) AllReadyH.nil
        go_simp
        go_at_call 58; with_reducible refine (HWP.out _ hfc x2 PB HX2.out HL.out.2.2.1).mono ?_; rintro e wd ⟨t4, rfl, ht4, hgd, hfd⟩; have kd0 := hfd.cell_some c0 (by simp); have kd1 := hfd.cell_some c1 (by simp); have kd2 := hfd.cell_some c2 (by simp); have kd3 := hfd.cell_some c3 (by simp); have kd4 := hfd.cell_some c4 (by simp); have kd5 := hfd.cell_some c5 (by simp); have kd6 := hfd.cell_some c6 (by simp); have kd7 := hfd.cell_some c7 (by simp); have kd8 := hfd.cell_some c8 (by simp); have md0 := hfd.cell_some d0 (by simp); have md1 := hfd.cell_some d1 (by simp); have md2 := hfd.cell_some d2 (by simp); have md3 := hfd.cell_some d3 (by simp); have md4 := hfd.cell_some d4 (by simp); have md5 := hfd.cell_some d5 (by simp); have md6 := hfd.cell_some d6 (by simp); have md7 := hfd.cell_some d7 (by simp); have md8 := hfd.cell_some d8 (by simp)
        refine hK.out _ _ ?_ (fun hS4 => ?_)
        · (try dsimp only)
          go_keep
        clear hK K
        refine wpAnyH_ready (rs := [10]) (by kernel_rfl) (by simp) ?_
        refine AllReadyH.cons (o := { dst := some 36, op := Op.call { callee := Callee.value (Operand.func 61), args := #[Operand.tmp 33, Operand.tmp 35], argTypes := #[38, 38] }, type := 4, pos := "fhist.go:114", after := #[{ on := 7, ground := Ground.data }, { on := 9, ground := Ground.data }, { on := 9, ground := Ground.chain }, { on := 5, ground := Ground.guard }], guard := some (5, true) }) rfl (fun K hK => ?_) AllReadyH.nil
        go_simp
        go_at_call 61; with_reducible refine (HEP.out _ hfd t3 t4 _ _ ((ht3.src (wioU_in HI.out.1)).kept hgd) (ht4.src (wioU_in HI.out.2.2.1))).mono ?_; rintro e we ⟨rfl, hfe⟩; have ke0 := hfe.cell_some c0 (by simp); have ke1 := hfe.cell_some c1 (by simp); have ke2 := hfe.cell_some c2 (by simp); have ke3 := hfe.cell_some c3 (by simp); have ke4 := hfe.cell_some c4 (by simp); have ke5 := hfe.cell_some c5 (by simp); have ke6 := hfe.cell_some c6 (by simp); have ke7 := hfe.cell_some c7 (by simp); have ke8 := hfe.cell_some c8 (by simp); have me0 := hfe.cell_some d0 (by simp); have me1 := hfe.cell_some d1 (by simp); have me2 := hfe.cell_some d2 (by simp); have me3 := hfe.cell_some d3 (by simp); have me4 := hfe.cell_some d4 (by simp); have me5 := hfe.cell_some d5 (by simp); have me6 := hfe.cell_some d6 (by simp); have me7 := hfe.cell_some d7 (by simp); have me8 := hfe.cell_some d8 (by simp)
        refine hK.out _ _ ?_ (fun hS5 => ?_)
        · (try dsimp only)
          go_keep
        clear hK K
        refine wpAnyH_take (i := 11) (oi := { dst := some 37, op := Op.pick (Operand.tmp 31) (Operand.tmp 36) (Operand.const (Value.bool false)), type := 4, pos := "fhist.go:113", after := #[{ on := 5, ground := Ground.data }, { on := 10, ground := Ground.data }], guard := none }) (v := .bool false) rfl (by kernel_rfl) (by kernel_rfl) (by kernel_rfl) (fun _ _ _ h => h) (Or.inl ⟨by rfl, ?_⟩) (by assumption) ?_
        · intro w hSw
          (try dsimp only at hSw)
          go_simp
        try simp only [Act.put, List.setIfInBounds_toArray, List.set_cons_zero, List.set_cons_succ]
        refine wpAnyH_take (i := 12) (oi := { dst := some 38, op := Op.move (Operand.tmp 37), type := 4, pos := "fhist.go:113", after := #[{ on := 11, ground := Ground.data }, { on := 10, ground := Ground.chain }], guard := none }) (v := .bool false) rfl (by kernel_rfl) (by kernel_rfl) (by kernel_rfl) (fun _ _ _ h => h) (Or.inl ⟨by rfl, ?_⟩) (by assumption) ?_
        · intro w hSw
          (try dsimp only at hSw)
          go_simp
        try simp only [Act.put, List.setIfInBounds_toArray, List.set_cons_zero, List.set_cons_succ]
        refine wpAnyH_take (i := 13) (oi := { dst := some 39, op := Op.move (Operand.tmp 6), type := 38, pos := "fhist.go:113", after := #[{ on := 12, ground := Ground.guard }], guard := some (12, true) }) (v := undef) rfl (by kernel_rfl) (by kernel_rfl) (by kernel_rfl) (fun _ _ _ h => h) (Or.inr ⟨by rfl, rfl⟩) (by assumption) ?_
        try simp only [Act.put, List.setIfInBounds_toArray, List.set_cons_zero, List.set_cons_succ]
        refine wpAnyH_take (i := 14) (oi := { dst := some 40, op := Op.call { callee := Callee.value (Operand.func 58), args := #[Operand.tmp 39, Operand.const (Value.int IntKind.u64 0)], argTypes := #[38, 22] }, type := 38, pos := "fhist.go:115", after := #[{ on := 13, ground := Ground.data }, { on := 12, ground := Ground.chain }, { on := 12, ground := Ground.guard }], guard := some (12, true) }) (v := undef) rfl (by kernel_rfl) (by kernel_rfl) (by kernel_rfl) (fun _ _ _ h => h) (Or.inr ⟨by rfl, rfl⟩) (by assumption) ?_
        try simp only [Act.put, List.setIfInBounds_toArray, List.set_cons_zero, List.set_cons_succ]
        refine wpAnyH_take (i := 15) (oi := { dst := some 41, op := Op.move (Operand.tmp 9), type := 38, pos := "fhist.go:113", after := #[{ on := 12, ground := Ground.guard }], guard := some (12, true) }) (v := undef) rfl (by kernel_rfl) (by kernel_rfl) (by kernel_rfl) (fun _ _ _ h => h) (Or.inr ⟨by rfl, rfl⟩) (by assumption) ?_
        try simp only [Act.put, List.setIfInBounds_toArray, List.set_cons_zero, List.set_cons_succ]
        refine wpAnyH_take (i := 16) (oi := { dst := some 42, op := Op.call { callee := Callee.value (Operand.func 58), args := #[Operand.tmp 41, Operand.const (Value.int IntKind.u64 0)], argTypes := #[38, 22] }, type := 38, pos := "fhist.go:115", after := #[{ on := 15, ground := Ground.data }, { on := 14, ground := Ground.chain }, { on := 12, ground := Ground.guard }], guard := some (12, true) }) (v := undef) rfl (by kernel_rfl) (by kernel_rfl) (by kernel_rfl) (fun _ _ _ h => h) (Or.inr ⟨by rfl, rfl⟩) (by assumption) ?_
        try simp only [Act.put, List.setIfInBounds_toArray, List.set_cons_zero, List.set_cons_succ]
        refine wpAnyH_take (i := 17) (oi := { dst := some 43, op := Op.call { callee := Callee.value (Operand.func 61), args := #[Operand.tmp 40, Operand.tmp 42], argTypes := #[38, 38] }, type := 4, pos := "fhist.go:115", after := #[{ on := 14, ground := Ground.data }, { on := 16, ground := Ground.data }, { on := 16, ground := Ground.chain }, { on := 12, ground := Ground.guard }], guard := some (12, true) }) (v := undef) rfl (by kernel_rfl) (by kernel_rfl) (by kernel_rfl) (fun _ _ _ h => h) (Or.inr ⟨by rfl, rfl⟩) (by assumption) ?_
        try simp only [Act.put, List.setIfInBounds_toArray, List.set_cons_zero, List.set_cons_succ]
        refine wpAnyH_take (i := 18) (oi := { dst := some 44, op := Op.pick (Operand.tmp 38) (Operand.tmp 43) (Operand.const (Value.bool false)), type := 4, pos := "fhist.go:113", after := #[{ on := 12, ground := Ground.data }, { on := 17, ground := Ground.data }], guard := none }) (v := .bool false) rfl (by kernel_rfl) (by kernel_rfl) (by kernel_rfl) (fun _ _ _ h => h) (Or.inl ⟨by rfl, ?_⟩) (by assumption) ?_
        · intro w hSw
          (try dsimp only at hSw)
          go_simp
        try simp only [Act.put, List.setIfInBounds_toArray, List.set_cons_zero, List.set_cons_succ]
        refine wpAnyH_take (i := 19) (oi := { dst := some 4, op := Op.assign (Operand.tmp 44), type := 4, pos := "fhist.go:113", after := #[{ on := 18, ground := Ground.data }, { on := 17, ground := Ground.chain }, { on := 0, ground := Ground.phase }, { on := 1, ground := Ground.phase }, { on := 2, ground := Ground.phase }, { on := 3, ground := Ground.phase }, { on := 4, ground := Ground.phase }, { on := 5, ground := Ground.phase }, { on := 6, ground := Ground.phase }, { on := 7, ground := Ground.phase }, { on := 8, ground := Ground.phase }, { on := 9, ground := Ground.phase }, { on := 10, ground := Ground.phase }, { on := 11, ground := Ground.phase }, { on := 12, ground := Ground.phase }, { on := 13, ground := Ground.phase }, { on := 14, ground := Ground.phase }, { on := 15, ground := Ground.phase }, { on := 16, ground := Ground.phase }, { on := 17, ground := Ground.phase }, { on := 18, ground := Ground.phase }], guard := none }) (v := .bool false) rfl (by kernel_rfl) (by kernel_rfl) (by kernel_rfl) (fun _ _ _ h => h) (Or.inl ⟨by rfl, ?_⟩) (by assumption) ?_
        · intro w hSw
          (try dsimp only at hSw)
          go_simp
        try simp only [Act.put, List.setIfInBounds_toArray, List.set_cons_zero, List.set_cons_succ]
        refine wpAnyH_done (by kernel_rfl) ?_ _
        refine NoPanic.normal ?_
        have HFE : Hid (Fr [] w we) := HF2.out.trans hfe (by simp)
        go_wp2
        go_ret
        exact ⟨by rw [HQ.out, HE2.out]; rfl, HFE.out⟩
      have HK5 : Hid (wio PA 0 = wio PB 0) := k5
      have hd5 := decide_eq_true k5
      clear k5
      have HR : Hid (R = decide (wio NA 0 = wio NB 0)) := by
        by_cases k6 : wio NA 0 = wio NB 0
        · rw [Hid, decide_eq_true k6]; exact HYES.out HKN.out HK5.out k6
        · rw [Hid, decide_eq_false k6]; exact HNO.out (fun k => k6 k.2.2.2.2.2.2)
      go_wp2_with fail
      have hmx : Try.prog.follows .mixedOrders = true := by kernel_rfl
      refine wp_region_noPanic ?_
      refine wp_region_held_drew (S := fun w' => w'.cell? ⟨w.heap.size, 0, none⟩ = some (.int .i64 a.s) ∧ w'.cell? ⟨w.heap.size, 1, none⟩ = some (.int .u64 a.z) ∧ w'.cell? ⟨w.heap.size, 2, none⟩ = some (.int .u64 a.zc) ∧ w'.cell? ⟨w.heap.size, 3, none⟩ = some (.int .u64 a.c) ∧ w'.cell? ⟨w.heap.size, 4, none⟩ = some (.int .u64 a.sm) ∧ w'.cell? ⟨w.heap.size, 5, none⟩ = some (.slice po a.P.length pc) ∧ w'.cell? ⟨w.heap.size, 6, none⟩ = some (.slice no a.N.length nc) ∧ w'.cell? ⟨w.heap.size, 7, none⟩ = some (.slice qo a.pd.length qc) ∧ w'.cell? ⟨w.heap.size, 8, none⟩ = some (.slice ro a.nd.length rc) ∧ w'.cell? ⟨w.heap.size + 1, 0, none⟩ = some (.int .i64 b.s) ∧ w'.cell? ⟨w.heap.size + 1, 1, none⟩ = some (.int .u64 b.z) ∧ w'.cell? ⟨w.heap.size + 1, 2, none⟩ = some (.int .u64 b.zc) ∧ w'.cell? ⟨w.heap.size + 1, 3, none⟩ = some (.int .u64 b.c) ∧ w'.cell? ⟨w.heap.size + 1, 4, none⟩ = some (.int .u64 b.sm) ∧ w'.cell? ⟨w.heap.size + 1, 5, none⟩ = some (.slice po2 b.P.length pc2) ∧ w'.cell? ⟨w.heap.size + 1, 6, none⟩ = some (.slice no2 b.N.length nc2) ∧ w'.cell? ⟨w.heap.size + 1, 7, none⟩ = some (.slice qo2 b.pd.length qc2) ∧ w'.cell? ⟨w.heap.size + 1, 8, none⟩ = some (.slice ro2 b.nd.length rc2)) hmx ?_ (fun hS0 => ?_)
      · (try dsimp only)
        go_keep
      refine wpAnyH_take (i := 0) (oi := { dst := some 26, op := Op.load 26 (Operand.tmp 2), type := 26, pos := "fhist.go:113", after := #[], guard := none }) (v := .agg #[.int .i64 a.s, .int .u64 a.z, .int .u64 a.zc, .int .u64 a.c, .int .u64 a.sm, .slice po a.P.length pc, .slice no a.N.length nc, .slice qo a.pd.length qc, .slice ro a.nd.length rc]) rfl (by kernel_rfl) (by kernel_rfl) (by kernel_rfl) (fun _ _ _ h => h) (Or.inl ⟨by rfl, ?_⟩) (by assumption) ?_
      · intro w hSw
        (try dsimp only at hSw)
        go_simp
      try simp only [Act.put, List.setIfInBounds_toArray, List.set_cons_zero, List.set_cons_succ]
      refine wpAnyH_take (i := 2) (oi := { dst := some 28, op := Op.load 26 (Operand.tmp 3), type := 26, pos := "fhist.go:113", after := #[], guard := none }) (v := .agg #[.int .i64 b.s, .int .u64 b.z, .int .u64 b.zc, .int .u64 b.c, .int .u64 b.sm, .slice po2 b.P.length pc2, .slice no2 b.N.length nc2, .slice qo2 b.pd.length qc2, .slice ro2 b.nd.length rc2]) rfl (by kernel_rfl) (by kernel_rfl) (by kernel_rfl) (fun _ _ _ h => h) (Or.inl ⟨by rfl, ?_⟩) (by assumption) ?_
      · intro w hSw
        (try dsimp only at hSw)
        go_simp
      try simp only [Act.put, List.setIfInBounds_toArray, List.set_cons_zero, List.set_cons_succ]
      refine wpAnyH_ready (rs := [1]) (by kernel_rfl) (by simp) ?_
      refine AllReadyH.cons (o := { dst := some 27, op := Op.call { callee := Callee.value (Operand.func 60), args := #[Operand.tmp 26], argTypes := #[26] }, type := 98, pos := "fhist.go:113", after := #[{ on := 0, ground := Ground.data }], guard := none }) rfl (fun K hK => ?_) AllReadyH.nil
      go_simp
      go_at_call 60; with_reducible refine (HNA.out _ F0).mono ?_; rintro e wa ⟨rfl, hfa⟩; have ka0 := hfa.cell_some c0 (by simp); have ka1 := hfa.cell_some c1 (by simp); have ka2 := hfa.cell_some c2 (by simp); have ka3 := hfa.cell_some c3 (by simp); have ka4 := hfa.cell_some c4 (by simp); have ka5 := hfa.cell_some c5 (by simp); have ka6 := hfa.cell_some c6 (by simp); have ka7 := hfa.cell_some c7 (by simp); have ka8 := hfa.cell_some c8 (by simp); have ma0 := hfa.cell_some d0 (by simp); have ma1 := hfa.cell_some d1 (by simp); have ma2 := hfa.cell_some d2 (by simp); have ma3 := hfa.cell_some d3 (by simp); have ma4 := hfa.cell_some d4 (by simp); have ma5 := hfa.cell_some d5 (by simp); have ma6 := hfa.cell_some d6 (by simp); have ma7 := hfa.cell_some d7 (by simp); have ma8 := hfa.cell_some d8 (by simp)
      refine hK.out _ _ ?_ (fun hS1 => ?_)
      · (try dsimp only)
        go_keep
      clear hK K
      refine wpAnyH_ready (rs := [3]) (by kernel_rfl) (by simp) ?_
      refine AllReadyH.cons (o := { dst := some 29, op := Op.call { callee := Callee.value (Operand.func 60), args := #[Operand.tmp 28], argTypes := #[26] }, type := 98, pos := "fhist.go:113", after := #[{ on := 2, ground := Ground.data }, { on := 1, ground := Ground.chain }], guard := none }) rfl (fun K hK => ?_) AllReadyH.nil
      go_simp
      go_at_call 60; with_reducible refine (HNB.out _ hfa).mono ?_; rintro e wb ⟨rfl, hfb⟩; have kb0 := hfb.cell_some c0 (by simp); have kb1 := hfb.cell_some c1 (by simp); have kb2 := hfb.cell_some c2 (by simp); have kb3 := hfb.cell_some c3 (by simp); have kb4 := hfb.cell_some c4 (by simp); have kb5 := hfb.cell_some c5 (by simp); have kb6 := hfb.cell_some c6 (by simp); have kb7 := hfb.cell_some c7 (by simp); have kb8 := hfb.cell_some c8 (by simp); have mb0 := hfb.cell_some d0 (by simp); have mb1 := hfb.cell_some d1 (by simp); have mb2 := hfb.cell_some d2 (by simp); have mb3 := hfb.cell_some d3 (by simp); have mb4 := hfb.cell_some d4 (by simp); have mb5 := hfb.cell_some d5 (by simp); have mb6 := hfb.cell_some d6 (by simp); have mb7 := hfb.cell_some d7 (by simp); have mb8 := hfb.cell_some d8 (by simp)
      refine hK.out _ _ ?_ (fun hS2 => ?_)
      · (try dsimp only)
        go_keep
      clear hK K
      refine wpAnyH_take (i := 4) (oi := { dst := some 30, op := Op.binOp BinOp.eql 98 (Operand.tmp 27) (Operand.tmp 29) 98, type := 4, pos := "fhist.go:113", after := #[{ on := 1, ground := Ground.data }, { on := 3, ground := Ground.data }], guard := none }) (v := .bool true) rfl (by kernel_rfl) (by kernel_rfl) (by kernel_rfl) (fun _ _ _ h => h) (Or.inl ⟨by rfl, ?_⟩) (by assumption) ?_
      · intro w hSw
        (try dsimp only at hSw)
        go_simp
      try simp only [Act.put, List.setIfInBounds_toArray, List.set_cons_zero, List.set_cons_succ]
      refine wpAnyH_take (i := 5) (oi := { dst := some 31, op := Op.move (Operand.tmp 30), type := 4, pos := "fhist.go:113", after := #[{ on := 4, ground := Ground.data }, { on := 3, ground := Ground.chain }], guard := none }) (v := .bool true) rfl (by kernel_rfl) (by kernel_rfl) (by kernel_rfl) (fun _ _ _ h => h) (Or.inl ⟨by rfl, ?_⟩) (by assumption) ?_
      · intro w hSw
        (try dsimp only at hSw)
        go_simp
      try simp only [Act.put, List.setIfInBounds_toArray, List.set_cons_zero, List.set_cons_succ]
      refine wpAnyH_take (i := 6) (oi := { dst := some 32, op := Op.move (Operand.tmp 5), type := 38, pos := "fhist.go:113", after := #[{ on := 5, ground := Ground.guard }], guard := some (5, true) }) (v := x) rfl (by kernel_rfl) (by kernel_rfl) (by kernel_rfl) (fun _ _ _ h => h) (Or.inl ⟨by rfl, ?_⟩) (by assumption) ?_
      · intro w hSw
        (try dsimp only at hSw)
        go_simp
      try simp only [Act.put, List.setIfInBounds_toArray, List.set_cons_zero, List.set_cons_succ]
      refine wpAnyH_take (i := 8) (oi := { dst := some 34, op := Op.move (Operand.tmp 8), type := 38, pos := "fhist.go:113", after := #[{ on := 5, ground := Ground.guard }], guard := some (5, true) }) (v := x2) rfl (by kernel_rfl) (by kernel_rfl) (by kernel_rfl) (fun _ _ _ h => h) (Or.inl ⟨by rfl, ?_⟩) (by assumption) ?_
      · intro w hSw
        (try dsimp only at hSw)
        go_simp
      try simp only [Act.put, List.setIfInBounds_toArray, List.set_cons_zero, List.set_cons_succ]
      refine wpAnyH_ready (rs := [7]) (by kernel_rfl) (by simp) ?_
      refine AllReadyH.cons (o := { dst := some 33, op := Op.call { callee := Callee.value (Operand.func 58), args := #[Operand.tmp 32, Operand.const (Value.int IntKind.u64 0)], argTypes := #[38, 22] }, type := 38, pos := "fhist.go:114", after := #[{ on := 6, ground := Ground.data }, { on := 5, ground := Ground.chain }, { on := 5, ground := Ground.guard }], guard := some (5, true) }) rfl (fun K hK => ?_) AllReadyH.nil
      go_simp
      go_at_call 58; with_reducible refine (HWP.out _ hfb x PA HX1.out HL.out.1).mono ?_; rintro e wc ⟨t3, rfl, ht3, hgc, hfc⟩; have kc0 := hfc.cell_some c0 (by simp); have kc1 := hfc.cell_some c1 (by simp); have kc2 := hfc.cell_some c2 (by simp); have kc3 := hfc.cell_some c3 (by simp); have kc4 := hfc.cell_some c4 (by simp); have kc5 := hfc.cell_some c5 (by simp); have kc6 := hfc.cell_some c6 (by simp); have kc7 := hfc.cell_some c7 (by simp); have kc8 := hfc.cell_some c8 (by simp); have mc0 := hfc.cell_some d0 (by simp); have mc1 := hfc.cell_some d1 (by simp); have mc2 := hfc.cell_some d2 (by simp); have mc3 := hfc.cell_some d3 (by simp); have mc4 := hfc.cell_some d4 (by simp); have mc5 := hfc.cell_some d5 (by simp); have mc6 := hfc.cell_some d6 (by simp); have mc7 := hfc.cell_some d7 (by simp); have mc8 := hfc.cell_some d8 (by simp)
      refine hK.out _ _ ?_ (fun hS3 => ?_)
      · (try dsimp only)
        go_keep
      clear hK K
      refine wpAnyH_ready (rs := [9]) (by kernel_rfl) (by simp) ?_
      refine AllReadyH.cons (o := { dst := some 35, op := Op.call { callee := Callee.value (Operand.func 58), args := #[Operand.tmp 34, Operand.const (Value.int IntKind.u64 0)], argTypes := #[38, 22] }, type := 38, pos := "fhist.go:114", after := #[{ on := 8, ground := Ground.data }, { on := 7, ground := Ground.chain }, { on := 5, ground := Ground.guard }], guard := some (5, true) }) rfl (fun K hK => ?_) AllReadyH.nil
      go_simp
      go_at_call 58; with_reducible refine (HWP.out _ hfc x2 PB HX2.out HL.out.2.2.1).mono ?_; rintro e wd ⟨t4, rfl, ht4, hgd, hfd⟩; have kd0 := hfd.cell_some c0 (by simp); have kd1 := hfd.cell_some c1 (by simp); have kd2 := hfd.cell_some c2 (by simp); have kd3 := hfd.cell_some c3 (by simp); have kd4 := hfd.cell_some c4 (by simp); have kd5 := hfd.cell_some c5 (by simp); have kd6 := hfd.cell_some c6 (by simp); have kd7 := hfd.cell_some c7 (by simp); have kd8 := hfd.cell_some c8 (by simp); have md0 := hfd.cell_some d0 (by simp); have md1 := hfd.cell_some d1 (by simp); have md2 := hfd.cell_some d2 (by simp); have md3 := hfd.cell_some d3 (by simp); have md4 := hfd.cell_some d4 (by simp); have md5 := hfd.cell_some d5 (by simp); have md6 := hfd.cell_some d6 (by simp); have md7 := hfd.cell_some d7 (by simp); have md8 := hfd.cell_some d8 (by simp)
      refine hK.out _ _ ?_ (fun hS4 => ?_)
      · (try dsimp only)
        go_keep
      clear hK K
      refine wpAnyH_ready (rs := [10]) (by kernel_rfl) (by simp) ?_
      refine AllReadyH.cons (o := { dst := some 36, op := Op.call { callee := Callee.value (Operand.func 61), args := #[Operand.tmp 33, Operand.tmp 35], argTypes := #[38, 38] }, type := 4, pos := "fhist.go:114", after := #[{ on := 7, ground := Ground.data }, { on := 9, ground := Ground.data }, { on := 9, ground := Ground.chain }, { on := 5, ground := Ground.guard }], guard := some (5, true) }) rfl (fun K hK => ?_) AllReadyH.nil
      go_simp
      go_at_call 61; with_reducible refine (HEP.out _ hfd t3 t4 _ _ ((ht3.src (wioU_in HI.out.1)).kept hgd) (ht4.src (wioU_in HI.out.2.2.1))).mono ?_; rintro e we ⟨rfl, hfe⟩; have ke0 := hfe.cell_some c0 (by simp); have ke1 := hfe.cell_some c1 (by simp); have ke2 := hfe.cell_some c2 (by simp); have ke3 := hfe.cell_some c3 (by simp); have ke4 := hfe.cell_some c4 (by simp); have ke5 := hfe.cell_some c5 (by simp); have ke6 := hfe.cell_some c6 (by simp); have ke7 := hfe.cell_some c7 (by simp); have ke8 := hfe.cell_some c8 (by simp); have me0 := hfe.cell_some d0 (by simp); have me1 := hfe.cell_some d1 (by simp); have me2 := hfe.cell_some d2 (by simp); have me3 := hfe.cell_some d3 (by simp); have me4 := hfe.cell_some d4 (by simp); have me5 := hfe.cell_some d5 (by simp); have me6 := hfe.cell_some d6 (by simp); have me7 := hfe.cell_some d7 (by simp); have me8 := hfe.cell_some d8 (by simp)
      refine hK.out _ _ ?_ (fun hS5 => ?_)
      · (try dsimp only)
        go_keep
      clear hK K
      refine wpAnyH_take (i := 11) (oi := { dst := some 37, op := Op.pick (Operand.tmp 31) (Operand.tmp 36) (Operand.const (Value.bool false)), type := 4, pos := "fhist.go:113", after := #[{ on := 5, ground := Ground.data }, { on := 10, ground := Ground.data }], guard := none }) (v := .bool true) rfl (by kernel_rfl) (by kernel_rfl) (by kernel_rfl) (fun _ _ _ h => h) (Or.inl ⟨by rfl, ?_⟩) (by assumption) ?_
      · intro w hSw
        (try dsimp only at hSw)
        go_simp
      try simp only [Act.put, List.setIfInBounds_toArray, List.set_cons_zero, List.set_cons_succ]
      refine wpAnyH_take (i := 12) (oi := { dst := some 38, op := Op.move (Operand.tmp 37), type := 4, pos := "fhist.go:113", after := #[{ on := 11, ground := Ground.data }, { on := 10, ground := Ground.chain }], guard := none }) (v := .bool true) rfl (by kernel_rfl) (by kernel_rfl) (by kernel_rfl) (fun _ _ _ h => h) (Or.inl ⟨by rfl, ?_⟩) (by assumption) ?_
      · intro w hSw
        (try dsimp only at hSw)
        go_simp
      try simp only [Act.put, List.setIfInBounds_toArray, List.set_cons_zero, List.set_cons_succ]
      refine wpAnyH_take (i := 13) (oi := { dst := some 39, op := Op.move (Operand.tmp 6), type := 38, pos := "fhist.go:113", after := #[{ on := 12, ground := Ground.guard }], guard := some (12, true) }) (v := y) rfl (by kernel_rfl) (by kernel_rfl) (by kernel_rfl) (fun _ _ _ h => h) (Or.inl ⟨by rfl, ?_⟩) (by assumption) ?_
      · intro w hSw
        (try dsimp only at hSw)
        go_simp
      try simp only [Act.put, List.setIfInBounds_toArray, List.set_cons_zero, List.set_cons_succ]
      refine wpAnyH_take (i := 15) (oi := { dst := some 41, op := Op.move (Operand.tmp 9), type := 38, pos := "fhist.go:113", after := #[{ on := 12, ground := Ground.guard }], guard := some (12, true) }) (v := y2) rfl (by kernel_rfl) (by kernel_rfl) (by kernel_rfl) (fun _ _ _ h => h) (Or.inl ⟨by rfl, ?_⟩) (by assumption) ?_
      · intro w hSw
        (try dsimp only at hSw)
        go_simp
      try simp only [Act.put, List.setIfInBounds_toArray, List.set_cons_zero, List.set_cons_succ]
      refine wpAnyH_ready (rs := [14]) (by kernel_rfl) (by simp) ?_
      refine AllReadyH.cons (o := { dst := some 40, op := Op.call { callee := Callee.value (Operand.func 58), args := #[Operand.tmp 39, Operand.const (Value.int IntKind.u64 0)], argTypes := #[38, 22] }, type := 38, pos := "fhist.go:115", after := #[{ on := 13, ground := Ground.data }, { on := 12, ground := Ground.chain }, { on := 12, ground := Ground.guard }], guard := some (12, true) }) rfl (fun K hK => ?_) AllReadyH.nil
      go_simp
      go_at_call 58; with_reducible refine (HWP.out _ hfe y NA HY1.out HL.out.2.1).mono ?_; rintro e wf ⟨t6, rfl, ht6, hgf, hff⟩; have kf0 := hff.cell_some c0 (by simp); have kf1 := hff.cell_some c1 (by simp); have kf2 := hff.cell_some c2 (by simp); have kf3 := hff.cell_some c3 (by simp); have kf4 := hff.cell_some c4 (by simp); have kf5 := hff.cell_some c5 (by simp); have kf6 := hff.cell_some c6 (by simp); have kf7 := hff.cell_some c7 (by simp); have kf8 := hff.cell_some c8 (by simp); have mf0 := hff.cell_some d0 (by simp); have mf1 := hff.cell_some d1 (by simp); have mf2 := hff.cell_some d2 (by simp); have mf3 := hff.cell_some d3 (by simp); have mf4 := hff.cell_some d4 (by simp); have mf5 := hff.cell_some d5 (by simp); have mf6 := hff.cell_some d6 (by simp); have mf7 := hff.cell_some d7 (by simp); have mf8 := hff.cell_some d8 (by simp)
      refine hK.out _ _ ?_ (fun hS6 => ?_)
      · (try dsimp only)
        go_keep
      clear hK K
      refine wpAnyH_ready (rs := [16]) (by kernel_rfl) (by simp) ?_
      refine AllReadyH.cons (o := { dst := some 42, op := Op.call { callee := Callee.value (Operand.func 58), args := #[Operand.tmp 41, Operand.const (Value.int IntKind.u64 0)], argTypes := #[38, 22] }, type := 38, pos := "fhist.go:115", after := #[{ on := 15, ground := Ground.data }, { on := 14, ground := Ground.chain }, { on := 12, ground := Ground.guard }], guard := some (12, true) }) rfl (fun K hK => ?_) AllReadyH.nil
      go_simp
      go_at_call 58; with_reducible refine (HWP.out _ hff y2 NB HY2.out HL.out.2.2.2).mono ?_; rintro e wg ⟨t7, rfl, ht7, hgg, hfg⟩; have kg0 := hfg.cell_some c0 (by simp); have kg1 := hfg.cell_some c1 (by simp); have kg2 := hfg.cell_some c2 (by simp); have kg3 := hfg.cell_some c3 (by simp); have kg4 := hfg.cell_some c4 (by simp); have kg5 := hfg.cell_some c5 (by simp); have kg6 := hfg.cell_some c6 (by simp); have kg7 := hfg.cell_some c7 (by simp); have kg8 := hfg.cell_some c8 (by simp); have mg0 := hfg.cell_some d0 (by simp); have mg1 := hfg.cell_some d1 (by simp); have mg2 := hfg.cell_some d2 (by simp); have mg3 := hfg.cell_some d3 (by simp); have mg4 := hfg.cell_some d4 (by simp); have mg5 := hfg.cell_some d5 (by simp); have mg6 := hfg.cell_some d6 (by simp); have mg7 := hfg.cell_some d7 (by simp); have mg8 := hfg.cell_some d8 (by simp)
      refine hK.out _ _ ?_ (fun hS7 => ?_)
      · (try dsimp only)
        go_keep
      clear hK K
      refine wpAnyH_ready (rs := [17]) (by kernel_rfl) (by simp) ?_
      refine AllReadyH.cons (o := { dst := some 43, op := Op.call { callee := Callee.value (Operand.func 61), args := #[Operand.tmp 40, Operand.tmp 42], argTypes := #[38, 38] }, type := 4, pos := "fhist.go:115", after := #[{ on := 14, ground := Ground.data }, { on := 16, ground := Ground.data }, { on := 16, ground := Ground.chain }, { on := 12, ground := Ground.guard }], guard := some (12, true) }) rfl (fun K hK => ?_) AllReadyH.nil
      go_simp
      go_at_call 61; with_reducible refine (HEP.out _ hfg t6 t7 _ _ ((ht6.src (wioU_in HI.out.2.1)).kept hgg) (ht7.src (wioU_in HI.out.2.2.2))).mono ?_; rintro e wh ⟨rfl, hfh⟩; have kh0 := hfh.cell_some c0 (by simp); have kh1 := hfh.cell_some c1 (by simp); have kh2 := hfh.cell_some c2 (by simp); have kh3 := hfh.cell_some c3 (by simp); have kh4 := hfh.cell_some c4 (by simp); have kh5 := hfh.cell_some c5 (by simp); have kh6 := hfh.cell_some c6 (by simp); have kh7 := hfh.cell_some c7 (by simp); have kh8 := hfh.cell_some c8 (by simp); have mh0 := hfh.cell_some d0 (by simp); have mh1 := hfh.cell_some d1 (by simp); have mh2 := hfh.cell_some d2 (by simp); have mh3 := hfh.cell_some d3 (by simp); have mh4 := hfh.cell_some d4 (by simp); have mh5 := hfh.cell_some d5 (by simp); have mh6 := hfh.cell_some d6 (by simp); have mh7 := hfh.cell_some d7 (by simp); have mh8 := hfh.cell_some d8 (by simp)
      refine hK.out _ _ ?_ (fun hS8 => ?_)
      · (try dsimp only)
        go_keep
      clear hK K
      refine wpAnyH_take (i := 18) (oi := { dst := some 44, op := Op.pick (Operand.tmp 38) (Operand.tmp 43) (Operand.const (Value.bool false)), type := 4, pos := "fhist.go:113", after := #[{ on := 12, ground := Ground.data }, { on := 17, ground := Ground.data }], guard := none }) (v := .bool (decide (wio NA 0 = wio NB 0))) rfl (by kernel_rfl) (by kernel_rfl) (by kernel_rfl) (fun _ _ _ h => h) (Or.inl ⟨by rfl, ?_⟩) (by assumption) ?_
      · intro w hSw
        (try dsimp only at hSw)
        go_simp
      try simp only [Act.put, List.setIfInBounds_toArray, List.set_cons_zero, List.set_cons_succ]
      refine wpAnyH_take (i := 19) (oi := { dst := some 4, op := Op.assign (Operand.tmp 44), type := 4, pos := "fhist.go:113", after := #[{ on := 18, ground := Ground.data }, { on := 17, ground := Ground.chain }, { on := 0, ground := Ground.phase }, { on := 1, ground := Ground.phase }, { on := 2, ground := Ground.phase }, { on := 3, ground := Ground.phase }, { on := 4, ground := Ground.phase }, { on := 5, ground := Ground.phase }, { on := 6, ground := Ground.phase }, { on := 7, ground := Ground.phase }, { on := 8, ground := Ground.phase }, { on := 9, ground := Ground.phase }, { on := 10, ground := Ground.phase }, { on := 11, ground := Ground.phase }, { on := 12, ground := Ground.phase }, { on := 13, ground := Ground.phase }, { on := 14, ground := Ground.phase }, { on := 15, ground := Ground.phase }, { on := 16, ground := Ground.phase }, { on := 17, ground := Ground.phase }, { on := 18, ground := Ground.phase }], guard := none }) (v := .bool (decide (wio NA 0 = wio NB 0))) rfl (by kernel_rfl) (by kernel_rfl) (by kernel_rfl) (fun _ _ _ h => h) (Or.inl ⟨by rfl, ?_⟩) (by assumption) ?_
      · intro w hSw
        (try dsimp only at hSw)
        go_simp
      try simp only [Act.put, List.setIfInBounds_toArray, List.set_cons_zero, List.set_cons_succ]
      refine wpAnyH_done (by kernel_rfl) ?_ _
      refine NoPanic.normal ?_
      have HFE : Hid (Fr [] w wh) := HF2.out.trans hfh (by simp)
      go_wp2
      go_ret
      exact ⟨by rw [HQ.out, HR.out]; rfl, HFE.out⟩
    · have HE : Hid (feq a b = false) := decide_eq_false (fun k => h0 k.2.1)
      clear h3 h6
      go_wp2
      go_ret
      exact ⟨by rw [HE.out]; rfl, HF2.out⟩
  · have HE : Hid (feq a b = false) := decide_eq_false (fun k => h0 k.1)
    go_wp2
    go_ret
    exact ⟨by rw [HE.out]; rfl, HF1.out⟩
end Go.Proofs.Ytoaibabkkphlaaa

/-
  Package fhist: spread.
-/
namespace Go.Proofs.Ytoaibabkkphlaaa
open Go.RowKit Go.Shelf Mem Spans
set_option linter.unusedSimpArgs false
set_option linter.unusedVariables false
set_option maxRecDepth 100000
attribute [local go_sem] Oper.semAt_some

theorem PSrc.below {n0 : Nat} {w w' : World} {v : Value} {l : List Sp} (h : PSrc w v l) (hb : Below n0 w w') (hn : w.heap.size ≤ n0) : PSrc w' v l := by
  obtain ⟨ao, cap, h1, h2, h3, h4, b, off, h5, h6⟩ := h
  refine ⟨ao, cap, h1, h2, h3, h4, b, off, h5, fun j x hj => ?_⟩
  obtain ⟨c0, c1⟩ := h6 j x hj
  have b0 : b < n0 := by have := World.block_lt_of_cell? w _ c0; simp at this; omega
  exact ⟨(hb.cell (p := ⟨b, off + j * 2, none⟩) b0).trans c0, (hb.cell (p := ⟨b, off + j * 2 + 1, none⟩) b0).trans c1⟩
theorem spsU_in_from {o : List Sp} (ho : ∀ s ∈ o, in64 s.1 ∧ inu s.2) (ps : List Int) (st : Nat × List Int) (h : ∀ z ∈ st.2, inu z) : ∀ z ∈ (ps.foldl (spt o) st).2, inu z := by
  induction ps generalizing st with
  | nil => exact h
  | cons p r ih =>
    rw [List.foldl_cons]
    refine ih _ ?_
    by_cases k : ∃ s, o[st.1]? = some s ∧ s.1 = p
    · obtain ⟨s, h1, h2⟩ := k
      rw [spt_hit h1 h2]
      intro z hz
      rcases List.mem_append.1 hz with h3 | h3
      · exact h z h3
      · rw [List.mem_singleton.1 h3]; exact (ho s (List.mem_of_getElem? h1)).2
    · rw [spt_miss (fun s h1 h2 => k ⟨s, h1, h2⟩)]
      intro z hz
      rcases List.mem_append.1 hz with h3 | h3
      · exact h z h3
      · rw [List.mem_singleton.1 h3]; unfold inu; omega
theorem spsU_in {o : List Sp} (ho : ∀ s ∈ o, in64 s.1 ∧ inu s.2) (ps : List Int) : ∀ z ∈ (sps o ps).2, inu z := spsU_in_from ho ps _ (by simp)
theorem cell_one_uat (w : World) (g : Nat) (x : Int) (t : TypeId) (hg : w.heap.size = g) : ∀ j u, [Value.int .u64 x][j]? = some u → (w.alloc (.cells #[.int .u64 x] t)).cell? ((⟨g, 0, none⟩ : Addr).add j) = some u := by
  subst hg
  intro j u hj
  have e : (⟨w.heap.size, 0, none⟩ : Addr).add j = ⟨w.heap.size, j, none⟩ := by unfold Addr.add; split <;> simp_all
  rw [e, World.cell?_alloc_at _ _ _ _ rfl]
  simpa using hj

/-- The boxes of the counts, of what came in and of the number, the counts' row. -/
def USPI (B : Nat) (w : World) (ov : Value) (A : Nat) (ls : List Int) (W : World) : Prop :=
  (((∃ v, Boxed W (B + 1) 24 v ∧ W.ownsRow B 22 1 v ls.length (unCells ls) ∧ (v = .slice none 0 0 ↔ ls = [])) ∧ Below B w W) ∧ Boxed W B 38 ov) ∧ Boxed W (B + 1 + 1) 3 (.int .i64 (A : Nat))
theorem uspi_at {B : Nat} {w : World} {ov : Value} {A : Nat} {ls : List Int} {W : World} (h : USPI B w ov A ls W) :
    KeepsOthers W (W.setCell ⟨B + 1 + 1, 0, none⟩ (.int .i64 ((A : Int) + 1))) ∧ Below B W (W.setCell ⟨B + 1 + 1, 0, none⟩ (.int .i64 ((A : Int) + 1))) ∧ USPI B w ov (A + 1) ls (W.setCell ⟨B + 1 + 1, 0, none⟩ (.int .i64 ((A : Int) + 1))) := by
  obtain ⟨⟨⟨⟨v, hv, hr, hn⟩, hb⟩, hp⟩, ha⟩ := h
  have hbl : Below B W (W.setCell ⟨B + 1 + 1, 0, none⟩ (.int .i64 ((A : Int) + 1))) := (Below.refl B W).setCell (p := ⟨B + 1 + 1, 0, none⟩) (by simp only; omega) _
  refine ⟨KeepsOthers.setCell _ _ _, hbl, ⟨⟨⟨v, hv.other (by omega) _, hr.kept (grownBy_setCell' _ _ _) (.inr (ha.not_row (by decide) hr).symm), hn⟩, hb.trans hbl⟩, hp.other (by omega) _⟩, ?_⟩
  rw [show (((A + 1 : Nat)) : Int) = (A : Int) + 1 from by omega]
  exact ha.set _
theorem uspi_app {B : Nat} {w : World} {ov v v' : Value} {A : Nat} {ls : List Int} {s : Int} {W w3 : World} {tmp : Obj} (h : USPI B w ov A ls W) (hv : Boxed W (B + 1) 24 v)
    (hown : w3.ownsRow B 22 1 v' (ls.length + 1) (unCells (ls ++ [s]))) (hgrow : (W.alloc tmp).grownBy w3 v.ownBlock) :
    Boxed w3 (B + 1) 24 v ∧ KeepsOthers W (w3.setCell ⟨B + 1, 0, none⟩ v') ∧ Below B W (w3.setCell ⟨B + 1, 0, none⟩ v') ∧ USPI B w ov A (ls ++ [s]) (w3.setCell ⟨B + 1, 0, none⟩ v') := by
  obtain ⟨⟨⟨⟨v0, hv', hr, hn⟩, hb⟩, hp⟩, ha⟩ := h
  have e : v0 = v := by
    have h1 := hv'.cell
    rw [hv.cell] at h1
    exact (Option.some.inj h1).symm
  subst e
  obtain ⟨hv1, hv2, hr2, hk2, hb2⟩ := hv.appended (by decide) hr (by have := hv.lt; omega) (by omega) hown hgrow
  refine ⟨hv1, hk2, hb2, ⟨⟨⟨_, hv2, by rw [List.length_append]; exact hr2, ?_⟩, hb.trans hb2⟩, ((hp.alloc _).kept hgrow (hp.not_row (by decide) hr)).other (by omega) _⟩, ((ha.alloc _).kept hgrow (ha.not_row (by decide) hr)).other (by omega) _⟩
  obtain ⟨g', cap', rfl⟩ := ownsRow_succ hown
  simp

theorem UOwn.put {e : TypeId} {B D : Nat} {w : World} {v : Value} {zs : List Int} {x : Option (List Deferred)} (h : UOwn e B w v zs) (hK : w.heap[D]? = some (Obj.deferred x)) : UOwn e B (w.putObj D (.deferred none)) v zs := by
  have hn : v = .slice none 0 0 ↔ zs = [] := by
    rcases h with ⟨rfl, rfl⟩ | ⟨g, _, h0, hr⟩
    · simp
    · obtain ⟨c, rfl⟩ := hr.val
      constructor
      · intro h; simp at h
      · intro h; subst h; simp at h0
  exact UOwn.of_owns (ownsRow_putObj h.owns _ hK rfl) hn
set_option maxHeartbeats 4000000 in
theorem fspread_any (v u : Value) (o l : List Sp) (w : World) (h : PSrc w v o) (h2 : SSrc w u l) (hol : o.length ≤ 1000000) :
    Calls Try.prog 62 #[v, u] w fun e w' => ∃ x, e = .returned (.tuple #[x, .bool (decide ((sps o (pls l)).1 = o.length))]) ∧ UOwn 22 w.heap.size w' x (sps o (pls l)).2 ∧ Fr [] w w' := by
  have HO : Hid (PSrc w v o) := h
  have HSR : Hid (SSrc w u l) := h2
  obtain ⟨ao, cap, rfl, hcap, hmax, _⟩ := h
  obtain ⟨ao2, cap2, rfl, hcap2, hmax2, _⟩ := h2
  obtain ⟨i0, hi⟩ := info_uint64
  have HI : Hid (UInfo 22 i0) := hi
  clear hi
  have HPL : Hid ((tot l).length ≤ 4096) := by rw [Hid, tot, prs_length]; exact pls_le l
  have bO := Boxed.new w 38 (.slice ao o.length cap)
  have bC := Boxed.new (w.alloc (.cells #[.slice ao o.length cap] 38)) 24 (.slice none 0 0)
  rw [World.size_alloc] at bC
  have bA := Boxed.new ((w.alloc (.cells #[.slice ao o.length cap] 38)).alloc (.cells #[.slice none 0 0] 24)) 3 (.int .i64 0)
  rw [World.size_alloc, World.size_alloc] at bA
  have bN := Boxed.new (((w.alloc (.cells #[.slice ao o.length cap] 38)).alloc (.cells #[.slice none 0 0] 24)).alloc (.cells #[.int .i64 0] 3)) 23 (.slice ao2 l.length cap2)
  rw [World.size_alloc, World.size_alloc, World.size_alloc] at bN
  have hB0 : Below w.heap.size w ((((w.alloc (.cells #[.slice ao o.length cap] 38)).alloc (.cells #[.slice none 0 0] 24)).alloc (.cells #[.int .i64 0] 3)).alloc (.cells #[.slice ao2 l.length cap2] 23)) := ((((Below.refl _ w).alloc (Nat.le_refl _) _).alloc (by simp) _).alloc (by simp; omega) _).alloc (by simp; omega) _
  refine (callsIn_wide (n := 3)).1 ?_
  refine callsIn_of_wp_marks Try.func62 rfl trivial ?_ rfl
  simp only [Try.ntmps62, List.size_toArray, List.length_cons, List.length_nil, Nat.reduceAdd, Nat.reduceSub, Array.replicate_succ, Array.replicate_zero, List.push_toArray, List.append_toArray, List.nil_append, List.cons_append]
  gi_wp2_with fail
  refine ⟨trivial, (all_in _ _ _ _ _).mono ?_⟩
  rintro e w2 ⟨rfl, rfl⟩
  gi_wp2_with fail
  refine wpIn_rangeFunc_ownG rfl (by decide) (gf := 99) (lb := #[.pointer (some ⟨w.heap.size + 1 + 1 + 1, 0, none⟩)]) rfl trivial (enters_of Try.func99 (by kernel_rfl) rfl)
    (all_stops (3 - 1) (by decide) (w.heap.size + 1 + 1 + 1) _ l w _ HSR.out hB0 (by simp) bN.cell) belowK_t (belowK_b (by simp; omega)) (Below.refl _ _) (fun _ => rfl)
    (fun pre W => (((∃ v, Boxed W (w.heap.size + 1) 24 v ∧ W.ownsRow w.heap.size 22 1 v (sps o (sec pre)).2.length (unCells (sps o (sec pre)).2) ∧ (v = .slice none 0 0 ↔ (sps o (sec pre)).2 = [])) ∧ Below w.heap.size w W) ∧ Boxed W w.heap.size 38 (.slice ao o.length cap)) ∧ Boxed W (w.heap.size + 1 + 1) 3 (.int .i64 ((sps o (sec pre)).1 : Nat)))
    (fun _ _ _ => False)
    (OwnFrom.and (OwnFrom.and (OwnFrom.and (Own.from (holdsRow_own w.heap.size (w.heap.size + 1) 24 22 1 (fun pre => (sps o (sec pre)).2.length) (fun pre => unCells (sps o (sec pre)).2) (fun pre v => v = .slice none 0 0 ↔ (sps o (sec pre)).2 = [])) _) (ownFrom_below (Nat.le_refl _) (by simp; omega))) (Own.from (boxed_own _ _ _) _)) (Own.from (Go.boxed_own _ _ (fun pre => .int .i64 ((sps o (sec pre)).1 : Nat))) _))
    (fun _ _ _ _ _ hs _ _ => hs)
    ⟨⟨⟨⟨_, (bC.alloc _).alloc _, World.ownsRow_nil _ _ _ _, by simp [sps, sec]⟩, hB0⟩, ((bO.alloc _).alloc _).alloc _⟩, bA.alloc _⟩
    (fun x => { tmps := #[.slice ao o.length cap, .slice ao2 l.length cap2, .pointer (some ⟨w.heap.size, 0, none⟩), undef, .slice none 0 0, .bool false, .pointer (some ⟨w.heap.size + 1, 0, none⟩), .pointer (some ⟨w.heap.size + 1 + 1, 0, none⟩), undef, .int .i64 x.2, undef, .slice ao2 l.length cap2, .func (.func 99) #[] #[.pointer (some ⟨w.heap.size + 1 + 1 + 1, 0, none⟩)], .int .i64 x.1, .int .i64 x.2, undef, undef, undef, undef, undef, undef, undef, undef, undef, undef, undef, undef, undef, undef, undef, undef, undef, undef, undef, undef, undef, undef, undef, undef, undef, undef, undef, undef, undef], defers := [] }) ?assign ?body ?done ?stop
  case assign =>
    intro lp x W K hK
    gi_wp2
    exact hK
  case body =>
    rintro lp pre x W hMI hlt
    have HMI0 : Hid (USPI w.heap.size w (.slice ao o.length cap) (sps o (sec pre)).1 (sps o (sec pre)).2 W) := hMI
    have hfr := sps_length o (sec pre)
    have hsc : (sec pre).length ≤ 4096 := by rw [sec_length]; have := HPL.out; omega
    have HST : Hid (sps o (sec (pre ++ [x])) = spt o (sps o (sec pre)) x.2) := by rw [Hid, sec_snoc, sps_snoc]
    clear hMI
    obtain ⟨xp, hxp⟩ : ∃ xp, x.2 = xp := ⟨_, rfl⟩
    rw [hxp] at HST ⊢
    have HP : Hid (∀ (N : Nat) (st : Nat × List Int) (W' : World), sps o (sec (pre ++ [x])) = st → KeepsOthers W W' ∧ Below w.heap.size W W' ∧ USPI w.heap.size w (.slice ao o.length cap) st.1 st.2 W' →
        KeepsFrom N W W' ∧ Below w.heap.size W W' ∧ USPI w.heap.size w (.slice ao o.length cap) (sps o (sec (pre ++ [x]))).1 (sps o (sec (pre ++ [x]))).2 W') := by
      rintro N st W' rfl ⟨h1, h2, h3⟩
      exact ⟨h1.from _, h2, h3⟩
    generalize sps o (sec pre) = st at HMI0 HST hfr
    obtain ⟨A, ls⟩ := st
    have HMI : Hid (USPI w.heap.size w (.slice ao o.length cap) A ls W) := HMI0.out
    obtain ⟨⟨⟨⟨v, hv, hrow, hnil⟩, hB⟩, hbp⟩, hba⟩ := HMI0.out
    have hc0 := hv.cell
    have hc1 := hbp.cell
    have hc2 := hba.cell
    have hf2 := hba.frozen
    have HV : Hid (Boxed W (w.heap.size + 1) 24 v) := hv
    have HB : Hid (Below w.heap.size w W) := hB
    have HROW : Hid (W.ownsRow w.heap.size 22 1 v ls.length (unCells ls)) := hrow
    simp only at hfr HST
    obtain ⟨hlen, hA⟩ := hfr
    have HLS : Hid (ls.length ≤ 4096) := by rw [Hid, hlen]; exact hsc
    clear hv hB hbp hba hrow hnil hlt hxp HMI0 hlen hsc
    by_cases hat : ∃ s, o[A]? = some s ∧ s.1 = xp
    · obtain ⟨s, hs, hsx⟩ := hat
      have hal := (List.getElem?_eq_some_iff.1 hs).1
      have HE : Hid (sps o (sec (pre ++ [x])) = (A + 1, ls ++ [s.2])) := HST.out.trans (spt_hit hs hsx)
      obtain ⟨_, _, hv', _, _, _, b, off, ha, hc⟩ := HO.out.below HB.out (Nat.le_refl _)
      have ha0 := ha (by omega)
      simp only [Value.slice.injEq] at hv'
      obtain ⟨rfl, _, rfl⟩ := hv'
      subst ha0
      obtain ⟨c0, c1⟩ := hc A s hs
      obtain ⟨so, sn⟩ := s
      simp only at hsx c0 c1
      subst hsx
      clear hc ha hs
      have M1 : Hid (KeepsOthers W (W.setCell ⟨w.heap.size + 1 + 1, 0, none⟩ (.int .i64 ((A : Int) + 1))) ∧ Below w.heap.size W (W.setCell ⟨w.heap.size + 1 + 1, 0, none⟩ (.int .i64 ((A : Int) + 1))) ∧ USPI w.heap.size w (.slice (some ⟨b, off, none⟩) o.length cap) (A + 1) ls (W.setCell ⟨w.heap.size + 1 + 1, 0, none⟩ (.int .i64 ((A : Int) + 1)))) := uspi_at HMI.out
      have HV1 : Hid (Boxed (W.setCell ⟨w.heap.size + 1 + 1, 0, none⟩ (.int .i64 ((A : Int) + 1))) (w.heap.size + 1) 24 v) := HV.out.other (by omega) _
      have HROW1 : Hid (World.ownsRow (W.setCell ⟨w.heap.size + 1 + 1, 0, none⟩ (.int .i64 ((A : Int) + 1))) w.heap.size 22 1 v ls.length (unCells ls)) := by
        obtain ⟨⟨⟨⟨v1, hv1, hr1, hn1⟩, _⟩, _⟩, _⟩ := M1.out.2.2
        have e := hv1.cell
        rw [HV1.out.cell] at e
        rw [Option.some.inj e]
        exact hr1
      gi_wp2_with (gi_at_builtin; refine wpListIn_append_own _ rfl _ _ 24 rfl w.heap.size 22 i0 (.int .u64 0) 1 8 Try.underlying24 HI.out.1 HI.out.2.1 HI.out.2.2.1 HI.out.2.2.2 rfl (by decide) _ _ _ rfl (World.ownsRow.alloc (w := W.setCell ⟨w.heap.size + 1 + 1, 0, none⟩ (.int .i64 ((A : Int) + 1))) HROW1.out _) ⟨W.heap.size, 0, none⟩ 1 1 [.int .u64 sn] rfl rfl (cell_one_uat _ _ _ _ (by simp)) (by simp [Value.oneCell']) (by have := HLS.out; unfold maxLen; omega) (by have := HLS.out; omega) (by have := HB.out.size; simp; omega) ?_; intro v' w3 hown' hgrow _; have hown2 : w3.ownsRow w.heap.size 22 1 v' (ls.length + 1) (unCells (ls ++ [sn])) := (by rw [unCells, List.map_append]; exact hown'); obtain ⟨hv1, hk2, hb2, hm2⟩ := uspi_app (s := sn) M1.out.2.2 HV1.out hown2 hgrow; obtain ⟨g', cap', rfl⟩ := ownsRow_succ hown'; have HM3 : Hid (KeepsOthers W _ ∧ Below w.heap.size W _ ∧ USPI w.heap.size w _ _ (ls ++ [sn]) _) := ⟨M1.out.1.trans hk2, M1.out.2.1.trans hb2, hm2⟩; have hc3 := hv1.cell; have hf3 := hv1.frozen)
      exact HP.out _ _ _ HE.out HM3.out
    · have HE : Hid (sps o (sec (pre ++ [x])) = (A, ls ++ [0])) := HST.out.trans (spt_miss (fun s h1 h2 => hat ⟨s, h1, h2⟩))
      have M1 : Hid (KeepsOthers W W ∧ Below w.heap.size W W ∧ USPI w.heap.size w (.slice ao o.length cap) A ls W) := ⟨KeepsOthers.refl W, Below.refl _ _, HMI.out⟩
      have HV1 : Hid (Boxed W (w.heap.size + 1) 24 v) := HV.out
      have HROW1 : Hid (World.ownsRow W w.heap.size 22 1 v ls.length (unCells ls)) := HROW.out
      have hor : (A < o.length ∧ ∃ b off so, ao = some ⟨b, off, none⟩ ∧ W.cell? ⟨b, off + A * 2, none⟩ = some (.int .i64 so) ∧ ¬ so = xp) ∨ ¬ A < o.length := by
        by_cases hal : A < o.length
        · obtain ⟨s, hs⟩ := at_lt hal
          obtain ⟨_, _, hv', _, _, _, b, off, ha, hc⟩ := HO.out.below HB.out (Nat.le_refl _)
          have ha0 := ha (by omega)
          simp only [Value.slice.injEq] at hv'
          obtain ⟨rfl, _, rfl⟩ := hv'
          exact .inl ⟨hal, b, off, s.1, ha0, (hc A s hs).1, fun e => hat ⟨s, hs, e⟩⟩
        · exact .inr hal
      clear hat HST
      rcases hor with ⟨hal, b, off, so, rfl, c0, hne⟩ | hal
      all_goals gi_wp2_with (gi_at_builtin; refine wpListIn_append_own _ rfl _ _ 24 rfl w.heap.size 22 i0 (.int .u64 0) 1 8 Try.underlying24 HI.out.1 HI.out.2.1 HI.out.2.2.1 HI.out.2.2.2 rfl (by decide) _ _ _ rfl (World.ownsRow.alloc (w := W) HROW1.out _) ⟨W.heap.size, 0, none⟩ 1 1 [.int .u64 0] rfl rfl (cell_one_uat _ _ _ _ (by simp)) (by simp [Value.oneCell']) (by have := HLS.out; unfold maxLen; omega) (by have := HLS.out; omega) (by have := HB.out.size; simp; omega) ?_; intro v' w3 hown' hgrow _; have hown2 : w3.ownsRow w.heap.size 22 1 v' (ls.length + 1) (unCells (ls ++ [0])) := (by rw [unCells, List.map_append]; exact hown'); obtain ⟨hv1, hk2, hb2, hm2⟩ := uspi_app (s := 0) M1.out.2.2 HV1.out hown2 hgrow; obtain ⟨g', cap', rfl⟩ := ownsRow_succ hown'; have HM3 : Hid (KeepsOthers W _ ∧ Below w.heap.size W _ ∧ USPI w.heap.size w _ _ (ls ++ [0]) _) := ⟨M1.out.1.trans hk2, M1.out.2.1.trans hb2, hm2⟩; have hc3 := hv1.cell; have hf3 := hv1.frozen)
      all_goals exact HP.out _ _ _ HE.out HM3.out
  case done =>
    rintro D ys W hD rfl ⟨⟨⟨⟨v, hv, hrow, hnil⟩, hB⟩, hbp⟩, hba⟩ hK
    have e : sec (tot l) = pls l := prs_snd 0 (pls l)
    rw [e] at hrow hnil hba
    have HN : Hid (UOwn 22 w.heap.size W v (sps o (pls l)).2) := UOwn.of_owns hrow hnil
    have HB : Hid (Below w.heap.size w W) := hB
    have HK : Hid (W.heap[D]? = _) := hK
    have HD : Hid (_ ≤ D) := hD
    have hc := hv.cell
    obtain ⟨va, vc, rfl⟩ := HN.out.val
    have hbpc := hbp.cell
    have hbac := hba.cell
    clear hv hrow hnil hB hbp hba hK hD e
    gi_wp2_with fail
    refine wpIn_wide.2 ?_
    go_quiet (fail)
    have HBQ : Hid ((((sps o (pls l)).1 : Int) == (o.length : Int)) = decide ((sps o (pls l)).1 = o.length)) := by
      rw [Hid, Bool.eq_iff_iff, beq_iff_eq, decide_eq_true_iff]; omega
    gi_wp2
    have hKq : (W.drewN nq).heap[D]? = some (Obj.deferred (some [])) := HK.out
    refine ⟨by simp, .inl ⟨_, _, rfl, run_takeDeferred hKq, ?_⟩⟩
    have hbb : Below w.heap.size w ((W.drewN nq).putObj D (.deferred none)) := (((Fr.ofBelow HB.out).trans (fr_drewN W nq) (by simp)).below (Nat.le_refl _) (by simp)).trans (belowK_b (w := w) (Nat.le_refl _) (W.drewN nq) D _ _ (by have := HD.out; simp at this; omega) hKq rfl rfl)
    exact ⟨_, results_tmp2 rfl _ _ _, _, by rw [← HBQ.out]; rfl, (HN.out.kept (fr_drewN W nq)).put hKq, Fr.ofBelow hbb⟩
  case stop =>
    rintro D c pre W _ _ h _
    exact h.elim
end Go.Proofs.Ytoaibabkkphlaaa

/-
  Package fhist: Over.
-/
namespace Go.Proofs.Ytoaibabkkphlaaa
open Go.RowKit Mem Spans
set_option linter.unusedSimpArgs false
set_option linter.unusedVariables false
set_option maxRecDepth 100000

/-- Over's error; what it tells. -/
def fove (h : Fs) (p n : List Sp) : Int :=
  if fce h = 0 then (if chk p = 0 then (if chk n = 0 then (if spb (fdp h) p = true then (if spb (fdn h) n = true then 0 else 23) else 23) else chk n) else chk p) else fce h
def fovs (h : Fs) (p n : List Sp) : Fs := ⟨h.s, h.z, h.zc, h.c, h.sm, p, n, (sps (fdp h) (pls p)).2, (sps (fdn h) (pls n)).2⟩
def fovh (h : Fs) (p n : List Sp) : Fs := if fove h p n = 0 then fovs h p n else fzero
theorem fzero_src (w : World) : FSrc w (.agg #[.int .i64 0, .int .u64 0, .int .u64 0, .int .u64 0, .int .u64 0, .slice none 0 0, .slice none 0 0, .slice none 0 0, .slice none 0 0]) fzero := (fzero_own 0 w).src (by unfold fin9 fzero; simp)
/-- A histogram that lies apart from all blocks below B. -/
def FKeep (B : Nat) (w : World) (v : Value) (h : Fs) : Prop := ∀ (S : List Nat) (w' : World), Fr S w w' → (∀ y ∈ S, y < B) → FSrc w' v h
theorem FKeep.src {B : Nat} {w : World} {v : Value} {h : Fs} (k : FKeep B w v h) : FSrc w v h := k [] w (Fr.refl _ _) (by simp)
theorem fzero_keep (B : Nat) (w : World) : FKeep B w (.agg #[.int .i64 0, .int .u64 0, .int .u64 0, .int .u64 0, .int .u64 0, .slice none 0 0, .slice none 0 0, .slice none 0 0, .slice none 0 0]) fzero := fun _ w' _ _ => fzero_src w'
set_option maxHeartbeats 8000000 in
theorem fover_any (v vp vn : Value) (h : Fs) (p n : List Sp) (w : World) (hh : FSrc w v h) (hp : SSrc w vp p) (hn : SSrc w vn n) :
    Calls Try.prog 32 #[v, vp, vn] w fun e w' => ∃ u, e = .returned (.tuple #[u, .int .i64 (fove h p n)]) ∧ FKeep w.heap.size w' u (fovh h p n) ∧ Fr [] w w' := by
  have HP : Hid (SSrc w vp p) := hp
  have HN : Hid (SSrc w vn n) := hn
  have HH : Hid (∀ wx, Fr [] w wx → FSrc wx v h) := fun wx hx => hh.kept hx
  obtain ⟨po, pc, no, nc, qo, qc, ro, rc, rfl, hin, _⟩ := hh.opens
  have HIN : Hid (in64 h.s ∧ inu h.z ∧ inu h.zc ∧ inu h.c ∧ inu h.sm) := hin
  have HFI : Hid (fin9 h) := hh.fin
  clear hh hin
  obtain ⟨ao, ac, rfl, _⟩ := hp
  obtain ⟨bo, bc, rfl, _⟩ := hn
  go_enter Try.func32, Try.ntmps32
  obtain ⟨cs, hcs⟩ : ∃ cs : Array Value, cs = #[.int .i64 h.s, .int .u64 h.z, .int .u64 h.zc, .int .u64 h.c, .int .u64 h.sm, .slice po h.P.length pc, .slice no h.N.length nc, .slice qo h.pd.length qc, .slice ro h.nd.length rc] := ⟨_, rfl⟩
  have HA : Hid (∀ z, NineF ((w.alloc (.cells cs 26)).alloc (.cells z 26)) w.heap.size cs ∧ NineF ((w.alloc (.cells cs 26)).alloc (.cells z 26)) (w.heap.size + 1) z ∧ Fr [] w ((w.alloc (.cells cs 26)).alloc (.cells z 26))) := fun z => ⟨nineF_mid _ _ _, nineF_top _ _ _, ((Fr.refl [] w).alloc _).alloc _⟩
  subst hcs
  go_wp2_with fail
  obtain ⟨hA3, hA6, hAF⟩ := HA.out #[.int .i64 0, .int .u64 0, .int .u64 0, .int .u64 0, .int .u64 0, .slice none 0 0, .slice none 0 0, .slice none 0 0, .slice none 0 0]
  clear HA
  generalize (w.alloc (.cells _ _)).alloc (.cells _ _) = wA at hA3 hA6 hAF ⊢
  have HSZ : Hid (w.heap.size + 1 < wA.heap.size) := hA6.lt
  refine (fsides_any _ h wA (HH.out _ hAF)).mono ?_
  rintro e w1 ⟨x, y, rfl, hx, hy, hf1⟩
  have HX : Hid (PSrc w1 x (fdp h)) := hx.src (fdp_in h HFI.out)
  have HY : Hid (PSrc w1 y (fdn h)) := hy.src (fdn_in h HFI.out)
  have HF1 : Hid (Fr [] w w1) := hAF.trans hf1 (by simp)
  have HS1 : Hid (wA.heap.size ≤ w1.heap.size) := hf1.size
  have H3 : Hid (NineF w1 w.heap.size _) := hA3.kept hf1 (by simp)
  have H6 : Hid (NineF w1 (w.heap.size + 1) _) := hA6.kept hf1 (by simp)
  clear hx hy hf1 hA3 hA6 hAF
  by_cases h0 : fce h = 0
  case neg =>
    have HE : Hid (fove h p n = fce h ∧ fovh h p n = fzero) := by
      have e : fove h p n = fce h := by unfold fove; rw [if_neg h0]
      unfold Hid fovh; rw [if_neg (by rw [e]; exact h0)]; exact ⟨e, rfl⟩
    have d0 := H6.out.cell 0 rfl
    have d1 := H6.out.cell 1 rfl
    have d2 := H6.out.cell 2 rfl
    have d3 := H6.out.cell 3 rfl
    have d4 := H6.out.cell 4 rfl
    have d5 := H6.out.cell 5 rfl
    have d6 := H6.out.cell 6 rfl
    have d7 := H6.out.cell 7 rfl
    have d8 := H6.out.cell 8 rfl
    have f0 := H6.out.frozen 0
    have f1 := H6.out.frozen 1
    have f2 := H6.out.frozen 2
    have f3 := H6.out.frozen 3
    have f4 := H6.out.frozen 4
    have f5 := H6.out.frozen 5
    have f6 := H6.out.frozen 6
    have f7 := H6.out.frozen 7
    have f8 := H6.out.frozen 8
    go_wp2
    refine bodyPost_ret (fhist_res rfl _ _ (w.heap.size + 1) _ _ _ _ _ _ _ _ _ rfl (set9_nineF H6.out (.int .i64 0) (.int .u64 0) (.int .u64 0) (.int .u64 0) (.int .u64 0) (.slice none 0 0) (.slice none 0 0) (.slice none 0 0) (.slice none 0 0))) rfl ?_
    exact ⟨_, by rw [HE.out.1]; rfl, by rw [HE.out.2]; exact fzero_keep _ _, set9_fr HF1.out (.inr (by simp)) (.int .i64 0) (.int .u64 0) (.int .u64 0) (.int .u64 0) (.int .u64 0) (.slice none 0 0) (.slice none 0 0) (.slice none 0 0) (.slice none 0 0)⟩
  have HC : Hid (fce h = 0) := h0
  rw [h0]
  clear h0
  go_wp2_with fail
  refine (check_any _ p _ (HP.out.kept HF1.out)).mono ?_
  rintro e w2 ⟨rfl, hf2⟩
  have HF2 : Hid (Fr [] w w2) := HF1.out.trans hf2 (by simp)
  have HX2 : Hid (PSrc w2 x (fdp h)) := HX.out.kept hf2
  have HY2 : Hid (PSrc w2 y (fdn h)) := HY.out.kept hf2
  have HS2 : Hid (wA.heap.size ≤ w2.heap.size) := Nat.le_trans HS1.out hf2.size
  have H3b : Hid (NineF w2 w.heap.size _) := H3.out.kept hf2 (by simp)
  have H6b : Hid (NineF w2 (w.heap.size + 1) _) := H6.out.kept hf2 (by simp)
  clear hf2 HX HY H3 H6 HF1 HS1
  by_cases h1 : chk p = 0
  case neg =>
    have HE : Hid (fove h p n = chk p ∧ fovh h p n = fzero) := by
      have e : fove h p n = chk p := by unfold fove; rw [if_pos HC.out, if_neg h1]
      unfold Hid fovh; rw [if_neg (by rw [e]; exact h1)]; exact ⟨e, rfl⟩
    have d0 := H6b.out.cell 0 rfl
    have d1 := H6b.out.cell 1 rfl
    have d2 := H6b.out.cell 2 rfl
    have d3 := H6b.out.cell 3 rfl
    have d4 := H6b.out.cell 4 rfl
    have d5 := H6b.out.cell 5 rfl
    have d6 := H6b.out.cell 6 rfl
    have d7 := H6b.out.cell 7 rfl
    have d8 := H6b.out.cell 8 rfl
    have f0 := H6b.out.frozen 0
    have f1 := H6b.out.frozen 1
    have f2 := H6b.out.frozen 2
    have f3 := H6b.out.frozen 3
    have f4 := H6b.out.frozen 4
    have f5 := H6b.out.frozen 5
    have f6 := H6b.out.frozen 6
    have f7 := H6b.out.frozen 7
    have f8 := H6b.out.frozen 8
    go_wp2
    refine bodyPost_ret (fhist_res rfl _ _ (w.heap.size + 1) _ _ _ _ _ _ _ _ _ rfl (set9_nineF H6b.out (.int .i64 0) (.int .u64 0) (.int .u64 0) (.int .u64 0) (.int .u64 0) (.slice none 0 0) (.slice none 0 0) (.slice none 0 0) (.slice none 0 0))) rfl ?_
    exact ⟨_, by rw [HE.out.1]; rfl, by rw [HE.out.2]; exact fzero_keep _ _, set9_fr HF2.out (.inr (by simp)) (.int .i64 0) (.int .u64 0) (.int .u64 0) (.int .u64 0) (.int .u64 0) (.slice none 0 0) (.slice none 0 0) (.slice none 0 0) (.slice none 0 0)⟩
  have HK1 : Hid (chk p = 0) := h1
  rw [h1]
  clear h1
  go_wp2_with fail
  refine (check_any _ n _ (HN.out.kept HF2.out)).mono ?_
  rintro e w3 ⟨rfl, hf3⟩
  have HF3 : Hid (Fr [] w w3) := HF2.out.trans hf3 (by simp)
  have HX3 : Hid (PSrc w3 x (fdp h)) := HX2.out.kept hf3
  have HY3 : Hid (PSrc w3 y (fdn h)) := HY2.out.kept hf3
  have HS3 : Hid (wA.heap.size ≤ w3.heap.size) := Nat.le_trans HS2.out hf3.size
  have H3c : Hid (NineF w3 w.heap.size _) := H3b.out.kept hf3 (by simp)
  have H6c : Hid (NineF w3 (w.heap.size + 1) _) := H6b.out.kept hf3 (by simp)
  clear hf3 HX2 HY2 H3b H6b HF2 HS2
  by_cases h2 : chk n = 0
  case neg =>
    have HE : Hid (fove h p n = chk n ∧ fovh h p n = fzero) := by
      have e : fove h p n = chk n := by unfold fove; rw [if_pos HC.out, if_pos HK1.out, if_neg h2]
      unfold Hid fovh; rw [if_neg (by rw [e]; exact h2)]; exact ⟨e, rfl⟩
    have d0 := H6c.out.cell 0 rfl
    have d1 := H6c.out.cell 1 rfl
    have d2 := H6c.out.cell 2 rfl
    have d3 := H6c.out.cell 3 rfl
    have d4 := H6c.out.cell 4 rfl
    have d5 := H6c.out.cell 5 rfl
    have d6 := H6c.out.cell 6 rfl
    have d7 := H6c.out.cell 7 rfl
    have d8 := H6c.out.cell 8 rfl
    have f0 := H6c.out.frozen 0
    have f1 := H6c.out.frozen 1
    have f2 := H6c.out.frozen 2
    have f3 := H6c.out.frozen 3
    have f4 := H6c.out.frozen 4
    have f5 := H6c.out.frozen 5
    have f6 := H6c.out.frozen 6
    have f7 := H6c.out.frozen 7
    have f8 := H6c.out.frozen 8
    go_wp2
    refine bodyPost_ret (fhist_res rfl _ _ (w.heap.size + 1) _ _ _ _ _ _ _ _ _ rfl (set9_nineF H6c.out (.int .i64 0) (.int .u64 0) (.int .u64 0) (.int .u64 0) (.int .u64 0) (.slice none 0 0) (.slice none 0 0) (.slice none 0 0) (.slice none 0 0))) rfl ?_
    exact ⟨_, by rw [HE.out.1]; rfl, by rw [HE.out.2]; exact fzero_keep _ _, set9_fr HF3.out (.inr (by simp)) (.int .i64 0) (.int .u64 0) (.int .u64 0) (.int .u64 0) (.int .u64 0) (.slice none 0 0) (.slice none 0 0) (.slice none 0 0) (.slice none 0 0)⟩
  have HK2 : Hid (chk n = 0) := h2
  rw [h2]
  clear h2
  go_wp2_with fail
  refine (fspread_any x _ (fdp h) p _ HX3.out (HP.out.kept HF3.out) (by have := fdp_le h; omega)).mono ?_
  rintro e w4 ⟨q, rfl, hq, hf4⟩
  have HF4 : Hid (Fr [] w w4) := HF3.out.trans hf4 (by simp)
  have HQ4 : Hid (UOwn 22 wA.heap.size w4 q ((sps (fdp h) (pls p)).2)) := hq.mono HS3.out
  have HY4 : Hid (PSrc w4 y (fdn h)) := HY3.out.kept hf4
  have HS4 : Hid (wA.heap.size ≤ w4.heap.size) := Nat.le_trans HS3.out hf4.size
  have H3d : Hid (NineF w4 w.heap.size _) := H3c.out.kept hf4 (by simp)
  have H6d : Hid (NineF w4 (w.heap.size + 1) _) := H6c.out.kept hf4 (by simp)
  clear hf4 hq HX3 HY3 H3c H6c HF3 HS3
  have HB1 : Hid (decide ((sps (fdp h) (pls p)).1 = (fdp h).length) = spb (fdp h) p) := rfl
  rw [HB1.out]
  go_wp2_with fail
  refine (fspread_any y _ (fdn h) n _ HY4.out (HN.out.kept HF4.out) (by have := fdn_le h; omega)).mono ?_
  rintro e w5 ⟨r, rfl, hr, hf5⟩
  have HF5 : Hid (Fr [] w w5) := HF4.out.trans hf5 (by simp)
  have HQ5 : Hid (UOwn 22 wA.heap.size w5 q ((sps (fdp h) (pls p)).2)) := HQ4.out.kept hf5
  have HR5 : Hid (UOwn 22 wA.heap.size w5 r ((sps (fdn h) (pls n)).2)) := hr.mono HS4.out
  have HS5 : Hid (wA.heap.size ≤ w5.heap.size) := Nat.le_trans HS4.out hf5.size
  have H3e : Hid (NineF w5 w.heap.size _) := H3d.out.kept hf5 (by simp)
  have H6e : Hid (NineF w5 (w.heap.size + 1) _) := H6d.out.kept hf5 (by simp)
  clear hf5 hr HQ4 HY4 H3d H6d HF4 HS4
  have HB2 : Hid (decide ((sps (fdn h) (pls n)).1 = (fdn h).length) = spb (fdn h) n) := rfl
  rw [HB2.out]
  clear HB1 HB2
  obtain ⟨qa, qcc, rfl⟩ := HQ5.out.val
  obtain ⟨ra, rcc, rfl⟩ := HR5.out.val
  by_cases hb1 : spb (fdp h) p = true
  case neg =>
    have hb1' : spb (fdp h) p = false := by simpa using hb1
    have HE : Hid (fove h p n = 23 ∧ fovh h p n = fzero) := by
      have e : fove h p n = 23 := by unfold fove; rw [if_pos HC.out, if_pos HK1.out, if_pos HK2.out, if_neg hb1]
      unfold Hid fovh; rw [if_neg (by rw [e]; decide)]; exact ⟨e, rfl⟩
    rw [hb1']
    clear hb1 hb1'
    have d0 := H6e.out.cell 0 rfl
    have d1 := H6e.out.cell 1 rfl
    have d2 := H6e.out.cell 2 rfl
    have d3 := H6e.out.cell 3 rfl
    have d4 := H6e.out.cell 4 rfl
    have d5 := H6e.out.cell 5 rfl
    have d6 := H6e.out.cell 6 rfl
    have d7 := H6e.out.cell 7 rfl
    have d8 := H6e.out.cell 8 rfl
    have f0 := H6e.out.frozen 0
    have f1 := H6e.out.frozen 1
    have f2 := H6e.out.frozen 2
    have f3 := H6e.out.frozen 3
    have f4 := H6e.out.frozen 4
    have f5 := H6e.out.frozen 5
    have f6 := H6e.out.frozen 6
    have f7 := H6e.out.frozen 7
    have f8 := H6e.out.frozen 8
    go_wp2
    refine bodyPost_ret (fhist_res rfl _ _ (w.heap.size + 1) _ _ _ _ _ _ _ _ _ rfl (set9_nineF H6e.out (.int .i64 0) (.int .u64 0) (.int .u64 0) (.int .u64 0) (.int .u64 0) (.slice none 0 0) (.slice none 0 0) (.slice none 0 0) (.slice none 0 0))) rfl ?_
    exact ⟨_, by rw [HE.out.1]; rfl, by rw [HE.out.2]; exact fzero_keep _ _, set9_fr HF5.out (.inr (by simp)) (.int .i64 0) (.int .u64 0) (.int .u64 0) (.int .u64 0) (.int .u64 0) (.slice none 0 0) (.slice none 0 0) (.slice none 0 0) (.slice none 0 0)⟩
  have HB1 : Hid (spb (fdp h) p = true) := hb1
  rw [hb1]
  clear hb1
  by_cases hb2 : spb (fdn h) n = true
  case neg =>
    have hb2' : spb (fdn h) n = false := by simpa using hb2
    have HE : Hid (fove h p n = 23 ∧ fovh h p n = fzero) := by
      have e : fove h p n = 23 := by unfold fove; rw [if_pos HC.out, if_pos HK1.out, if_pos HK2.out, if_pos HB1.out, if_neg hb2]
      unfold Hid fovh; rw [if_neg (by rw [e]; decide)]; exact ⟨e, rfl⟩
    rw [hb2']
    clear hb2 hb2'
    have d0 := H6e.out.cell 0 rfl
    have d1 := H6e.out.cell 1 rfl
    have d2 := H6e.out.cell 2 rfl
    have d3 := H6e.out.cell 3 rfl
    have d4 := H6e.out.cell 4 rfl
    have d5 := H6e.out.cell 5 rfl
    have d6 := H6e.out.cell 6 rfl
    have d7 := H6e.out.cell 7 rfl
    have d8 := H6e.out.cell 8 rfl
    have f0 := H6e.out.frozen 0
    have f1 := H6e.out.frozen 1
    have f2 := H6e.out.frozen 2
    have f3 := H6e.out.frozen 3
    have f4 := H6e.out.frozen 4
    have f5 := H6e.out.frozen 5
    have f6 := H6e.out.frozen 6
    have f7 := H6e.out.frozen 7
    have f8 := H6e.out.frozen 8
    go_wp2
    refine bodyPost_ret (fhist_res rfl _ _ (w.heap.size + 1) _ _ _ _ _ _ _ _ _ rfl (set9_nineF H6e.out (.int .i64 0) (.int .u64 0) (.int .u64 0) (.int .u64 0) (.int .u64 0) (.slice none 0 0) (.slice none 0 0) (.slice none 0 0) (.slice none 0 0))) rfl ?_
    exact ⟨_, by rw [HE.out.1]; rfl, by rw [HE.out.2]; exact fzero_keep _ _, set9_fr HF5.out (.inr (by simp)) (.int .i64 0) (.int .u64 0) (.int .u64 0) (.int .u64 0) (.int .u64 0) (.slice none 0 0) (.slice none 0 0) (.slice none 0 0) (.slice none 0 0)⟩
  have HE : Hid (fove h p n = 0 ∧ fovh h p n = fovs h p n) := by
    have e : fove h p n = 0 := by unfold fove; rw [if_pos HC.out, if_pos HK1.out, if_pos HK2.out, if_pos HB1.out, if_pos hb2]
    unfold Hid fovh; rw [if_pos e]; exact ⟨e, rfl⟩
  rw [hb2]
  clear hb2
  go_wp2_with fail
  refine (clone_any _ p w5 (HP.out.kept HF5.out) (chk_len HK1.out)).mono ?_
  rintro e w6 ⟨ka, kc, rfl, hk, hf6⟩
  have HKP : Hid (w6.ownsRow wA.heap.size 95 2 (.slice ka p.length kc) p.length (spCells p)) := ownsRow_mono hk HS5.out
  have HF6 : Hid (Fr [] w w6) := HF5.out.trans hf6 (by simp)
  have HQ6 : Hid (UOwn 22 wA.heap.size w6 _ ((sps (fdp h) (pls p)).2)) := HQ5.out.kept hf6
  have HR6 : Hid (UOwn 22 wA.heap.size w6 _ ((sps (fdn h) (pls n)).2)) := HR5.out.kept hf6
  have HS6 : Hid (wA.heap.size ≤ w6.heap.size) := Nat.le_trans HS5.out hf6.size
  have h3 := H3e.out.kept hf6 (by simp)
  have h6 := H6e.out.kept hf6 (by simp)
  clear hk hf6 HQ5 HR5 H3e H6e HF5 HS5
  have c5 := h3.cell 5 rfl
  have c7 := h3.cell 7 rfl
  have f5 := h3.frozen 5
  have f7 := h3.frozen 7
  have H3 : Hid (NineF ((w6.setCell ⟨w.heap.size, 5, none⟩ (.slice ka p.length kc)).setCell ⟨w.heap.size, 7, none⟩ (.slice qa (sps (fdp h) (pls p)).2.length qcc)) w.heap.size _) := h3.set57 (.slice ka p.length kc) (.slice qa (sps (fdp h) (pls p)).2.length qcc)
  have H6 : Hid (NineF ((w6.setCell ⟨w.heap.size, 5, none⟩ (.slice ka p.length kc)).setCell ⟨w.heap.size, 7, none⟩ (.slice qa (sps (fdp h) (pls p)).2.length qcc)) (w.heap.size + 1) _) := (h6.other (i := 5) (v := (.slice ka p.length kc)) (by omega)).other (i := 7) (v := (.slice qa (sps (fdp h) (pls p)).2.length qcc)) (by omega)
  have HFS : Hid (Fr [w.heap.size] w6 ((w6.setCell ⟨w.heap.size, 5, none⟩ (.slice ka p.length kc)).setCell ⟨w.heap.size, 7, none⟩ (.slice qa (sps (fdp h) (pls p)).2.length qcc))) := ((Fr.refl _ _).setCell _ _ (.inl (by simp))).setCell _ _ (.inl (by simp))
  clear h3 h6
  go_upto_region 15 with fail
  clear c5 c7 f5 f7
  generalize (w6.setCell ⟨w.heap.size, 5, none⟩ (.slice ka p.length kc)).setCell ⟨w.heap.size, 7, none⟩ (.slice qa (sps (fdp h) (pls p)).2.length qcc) = wB at H3 H6 HFS ⊢
  have hb : ∀ y ∈ [w.heap.size], y < wA.heap.size := by have := HSZ.out; simp; omega
  have HKB : Hid (wB.ownsRow wA.heap.size 95 2 (.slice ka p.length kc) p.length (spCells p)) := ownsRow_keptS HKP.out HFS.out hb
  have HQB : Hid (UOwn 22 wA.heap.size wB _ ((sps (fdp h) (pls p)).2)) := HQ6.out.keptS HFS.out hb
  have HRB : Hid (UOwn 22 wA.heap.size wB _ ((sps (fdn h) (pls n)).2)) := HR6.out.keptS HFS.out hb
  have HFB : Hid (Fr [] w wB) := HF6.out.trans HFS.out (by simp)
  have HSB : Hid (wA.heap.size ≤ wB.heap.size) := Nat.le_trans HS6.out HFS.out.size
  clear HKP HQ6 HR6 HF6 HFS HS6 hb
  go_wp2_with fail
  refine (clone_any _ n wB (HN.out.kept HFB.out) (chk_len HK2.out)).mono ?_
  rintro e w7 ⟨ka2, kc2, rfl, hk, hf7⟩
  have HKN : Hid (w7.ownsRow wA.heap.size 95 2 (.slice ka2 n.length kc2) n.length (spCells n)) := ownsRow_mono hk HSB.out
  have HKP : Hid (w7.ownsRow wA.heap.size 95 2 (.slice ka p.length kc) p.length (spCells p)) := ownsRow_keptS HKB.out hf7 (by simp)
  have HF7 : Hid (Fr [] w w7) := HFB.out.trans hf7 (by simp)
  have HQ7 : Hid (UOwn 22 wA.heap.size w7 _ ((sps (fdp h) (pls p)).2)) := HQB.out.kept hf7
  have HR7 : Hid (UOwn 22 wA.heap.size w7 _ ((sps (fdn h) (pls n)).2)) := HRB.out.kept hf7
  have h3 := H3.out.kept hf7 (by simp)
  have h6 := H6.out.kept hf7 (by simp)
  clear hk hf7 HQB HRB HKB H3 H6 HFB HSB
  have c6 := h3.cell 6 rfl
  have c8 := h3.cell 8 rfl
  have f6 := h3.frozen 6
  have f8 := h3.frozen 8
  have H3 : Hid (NineF ((w7.setCell ⟨w.heap.size, 6, none⟩ (.slice ka2 n.length kc2)).setCell ⟨w.heap.size, 8, none⟩ (.slice ra (sps (fdn h) (pls n)).2.length rcc)) w.heap.size _) := h3.set68 (.slice ka2 n.length kc2) (.slice ra (sps (fdn h) (pls n)).2.length rcc)
  have H6 : Hid (NineF ((w7.setCell ⟨w.heap.size, 6, none⟩ (.slice ka2 n.length kc2)).setCell ⟨w.heap.size, 8, none⟩ (.slice ra (sps (fdn h) (pls n)).2.length rcc)) (w.heap.size + 1) _) := (h6.other (i := 6) (v := (.slice ka2 n.length kc2)) (by omega)).other (i := 8) (v := (.slice ra (sps (fdn h) (pls n)).2.length rcc)) (by omega)
  have HFS : Hid (Fr [w.heap.size] w7 ((w7.setCell ⟨w.heap.size, 6, none⟩ (.slice ka2 n.length kc2)).setCell ⟨w.heap.size, 8, none⟩ (.slice ra (sps (fdn h) (pls n)).2.length rcc))) := ((Fr.refl _ _).setCell _ _ (.inl (by simp))).setCell _ _ (.inl (by simp))
  clear h3 h6
  go_upto_region 16 with fail
  clear c6 c8 f6 f8
  generalize (w7.setCell ⟨w.heap.size, 6, none⟩ (.slice ka2 n.length kc2)).setCell ⟨w.heap.size, 8, none⟩ (.slice ra (sps (fdn h) (pls n)).2.length rcc) = wC at H3 H6 HFS ⊢
  have c0 := H3.out.cell 0 rfl
  have c1 := H3.out.cell 1 rfl
  have c2 := H3.out.cell 2 rfl
  have c3 := H3.out.cell 3 rfl
  have c4 := H3.out.cell 4 rfl
  have c5 := H3.out.cell 5 rfl
  have c6 := H3.out.cell 6 rfl
  have c7 := H3.out.cell 7 rfl
  have c8 := H3.out.cell 8 rfl
  have d0 := H6.out.cell 0 rfl
  have d1 := H6.out.cell 1 rfl
  have d2 := H6.out.cell 2 rfl
  have d3 := H6.out.cell 3 rfl
  have d4 := H6.out.cell 4 rfl
  have d5 := H6.out.cell 5 rfl
  have d6 := H6.out.cell 6 rfl
  have d7 := H6.out.cell 7 rfl
  have d8 := H6.out.cell 8 rfl
  have f0 := H6.out.frozen 0
  have f1 := H6.out.frozen 1
  have f2 := H6.out.frozen 2
  have f3 := H6.out.frozen 3
  have f4 := H6.out.frozen 4
  have f5 := H6.out.frozen 5
  have f6 := H6.out.frozen 6
  have f7 := H6.out.frozen 7
  have f8 := H6.out.frozen 8
  go_wp2
  have hs9 := set9_fr (S := [w.heap.size, w.heap.size + 1]) (g := w.heap.size + 1) (HFS.out.mono (S' := [w.heap.size, w.heap.size + 1]) (by simp)) (.inl (by simp)) (.int .i64 h.s) (.int .u64 h.z) (.int .u64 h.zc) (.int .u64 h.c) (.int .u64 h.sm) (.slice ka p.length kc) (.slice ka2 n.length kc2) (.slice qa (sps (fdp h) (pls p)).2.length qcc) (.slice ra (sps (fdn h) (pls n)).2.length rcc)
  have hb : ∀ y ∈ [w.heap.size, w.heap.size + 1], y < wA.heap.size := by have := HSZ.out; simp; omega
  have k1 := ownsRow_keptS HKP.out hs9 hb
  have k2 := ownsRow_keptS HKN.out hs9 hb
  have k3 := HQ7.out.keptS hs9 hb
  have k4 := HR7.out.keptS hs9 hb
  have hp64 : ∀ s ∈ p, in64 s.1 ∧ in64 s.2 := by obtain ⟨_, _, _, _, _, h64, _⟩ := HP.out; exact h64
  have hn64 : ∀ s ∈ n, in64 s.1 ∧ in64 s.2 := by obtain ⟨_, _, _, _, _, h64, _⟩ := HN.out; exact h64
  refine bodyPost_ret (fhist_res rfl _ _ (w.heap.size + 1) _ _ _ _ _ _ _ _ _ rfl (set9_nineF H6.out _ _ _ _ _ _ _ _ _)) rfl ?_
  refine ⟨_, by rw [HE.out.1]; rfl, ?_, set9_fr ((HF7.out.trans HFS.out (by simp)) : Fr [] w wC) (.inr (by simp)) _ _ _ _ _ _ _ _ _⟩
  rw [HE.out.2]
  intro S w2 hS hbS
  have hb3 : ∀ y ∈ S, y < wA.heap.size := fun y hy => by have := hbS y hy; have := HSZ.out; omega
  obtain ⟨_, _, _, k5⟩ := ssrc_of_owns (ownsRow_keptS k1 hS hb3) hp64
  obtain ⟨_, _, _, k6⟩ := ssrc_of_owns (ownsRow_keptS k2 hS hb3) hn64
  exact ⟨_, _, _, _, rfl, HIN.out.1, HIN.out.2, k5, k6, (k3.keptS hS hb3).src (spsU_in (fdp_in h HFI.out) _), (k4.keptS hS hb3).src (spsU_in (fdn_in h HFI.out) _)⟩
end Go.Proofs.Ytoaibabkkphlaaa

/-
  Package fhist: Float, Whole.
-/
namespace Go.Proofs.Ytoaibabkkphlaaa
open Go.RowKit Mem Spans Floats
set_option linter.unusedSimpArgs false
set_option linter.unusedVariables false
set_option maxRecDepth 100000

theorem run_bits (v : Nat) (w : World) : (callFunc 66 #[.float .f64 v]).run Try.prog w = .ok (.value (.int .u64 (v : Int))) w := by
  rw [run_callFunc_extern Try.func66 (by kernel_rfl) (by kernel_rfl) (by kernel_rfl) (e := Extern.MathFloatBits.float64bits) (by kernel_rfl)]
  rfl
theorem run_frombits (v : Nat) (w : World) : (callFunc 65 #[.int .u64 (v : Int)]).run Try.prog w = .ok (.value (.float .f64 v)) w := by
  rw [run_callFunc_extern Try.func65 (by kernel_rfl) (by kernel_rfl) (by kernel_rfl) (e := Extern.MathFloatBits.float64frombits) (by kernel_rfl)]
  rfl

set_option maxHeartbeats 400000 in
theorem float_any (n : Nat) (w : World) (h : n < 18446744073709551616) :
    Calls Try.prog 39 #[.int .u64 (n : Int)] w fun e w' => e = .returned (.int .u64 (flt n : Int)) ∧ w = w' := by
  have hb := run_bits
  have hc : ∀ w, (convert 22 106 (.int .u64 (n : Int))).run Try.prog w = .ok (.float .f64 (flt n)) w := by
    intro w
    rw [run_convert_int_float w 22 106 .u64 .f64 n (by rw [Try.underlying22]; rfl) Try.underlying106, nearest_flt h]
  go_enter Try.func39, Try.ntmps39
  go_wp2_with (simp only [hc])
  go_ret
  exact ⟨rfl, rfl⟩

/-- Whole's answers. -/
def whv (v : Nat) : Nat := (whl v).getD 0
def whb (v : Nat) : Bool := (whl v).isSome
theorem whl_pos {v : Nat} (h : v < 4895412794951729152) (e : flt (trn v) = v) : whl v = some (trn v) := by unfold whl; rw [if_pos h, if_pos e]
theorem whl_neg {v : Nat} (h : ¬ (v < 4895412794951729152 ∧ flt (trn v) = v)) : whl v = none := by
  unfold whl
  split
  · rename_i h1
    rw [if_neg (fun e => h ⟨h1, e⟩)]
  · rfl

set_option maxHeartbeats 1000000 in
theorem whole_any (v : Nat) (w : World) :
    Calls Try.prog 37 #[.int .u64 (v : Int)] w fun e w' => e = .returned (.tuple #[.int .u64 (whv v : Int), .bool (whb v)]) ∧ w = w' := by
  have hb := run_frombits v
  go_enter Try.func37, Try.ntmps37
  by_cases h1 : v < 9218868437227405312
  · have HR : Hid (rgt (v : Int) = true) := decide_eq_true (by omega)
    have ho := order_two h1
    by_cases h2 : v < 4895412794951729152
    · have hd : decide (4895412794951729152 ≤ v) = false := decide_eq_false (by omega)
      rw [hd] at ho
      have hc : ∀ w, (convert 106 22 (.float .f64 v)).run Try.prog w = .ok (.int .u64 (trn v : Int)) w := fun w => run_convert_float_int w 106 22 .f64 .u64 v _ (by rw [Try.underlying106]; rfl) Try.underlying22 (toInt_trn h2)
      have HT : Hid (trn v < 18446744073709551616) := trn_lt h2
      have HV : Hid (v < 4895412794951729152) := h2
      clear h1 h2 hd
      go_wp2_with fail
      refine (right_any (v : Int) _).mono ?_
      rintro e w1 ⟨rfl, rfl⟩
      rw [HR.out]
      go_wp2_with (first | simp only [hc] | fail)
      refine (float_any (trn v) _ HT.out).mono ?_
      rintro e w1 ⟨rfl, rfl⟩
      clear ho hb
      by_cases h3 : flt (trn v) = v
      · have HW : Hid (whv v = trn v ∧ whb v = true) := by unfold Hid whv whb; rw [whl_pos HV.out h3]; exact ⟨rfl, rfl⟩
        rw [h3]
        go_wp2
        go_ret2
        exact ⟨by rw [HW.out.1, HW.out.2]; rfl, rfl⟩
      · have HW : Hid (whv v = 0 ∧ whb v = false) := by unfold Hid whv whb; rw [whl_neg (fun k => h3 k.2)]; exact ⟨rfl, rfl⟩
        have h4 : ¬ (flt (trn v) : Int) = (v : Int) := by omega
        have h5 : ((flt (trn v) : Int) != (v : Int)) = true := by simp only [bne_iff_ne, ne_eq]; exact h4
        clear h3
        generalize (flt (trn v) : Int) = X at *
        go_wp2
        go_ret2
        exact ⟨by rw [HW.out.1, HW.out.2]; rfl, rfl⟩
    · have hd : decide (4895412794951729152 ≤ v) = true := decide_eq_true (by omega)
      rw [hd] at ho
      have HW : Hid (whv v = 0 ∧ whb v = false) := by unfold Hid whv whb; rw [whl_neg (fun k => h2 k.1)]; exact ⟨rfl, rfl⟩
      clear h1 h2 hd
      go_wp2_with fail
      refine (right_any (v : Int) _).mono ?_
      rintro e w1 ⟨rfl, rfl⟩
      rw [HR.out]
      go_wp2
      go_ret2
      exact ⟨by rw [HW.out.1, HW.out.2]; rfl, rfl⟩
  · have HR : Hid (rgt (v : Int) = false) := decide_eq_false (by omega)
    have HW : Hid (whv v = 0 ∧ whb v = false) := by unfold Hid whv whb; rw [whl_neg (fun k => by omega)]; exact ⟨rfl, rfl⟩
    clear h1
    go_wp2_with fail
    refine (right_any (v : Int) _).mono ?_
    rintro e w1 ⟨rfl, rfl⟩
    rw [HR.out]
    go_wp2
    go_ret2
    exact ⟨by rw [HW.out.1, HW.out.2]; rfl, rfl⟩
end Go.Proofs.Ytoaibabkkphlaaa

/-
  Package fhist: floats, wholes, differences.
-/
namespace Go.Proofs.Ytoaibabkkphlaaa
open Go.RowKit Mem Spans Floats
set_option linter.unusedSimpArgs false
set_option linter.unusedVariables false
set_option maxRecDepth 100000

/-- The float of a number; the number of a float, and whether it has one. -/
def flI (z : Int) : Int := (flt z.toNat : Nat)
def wvI (z : Int) : Int := (whv z.toNat : Nat)
def wbI (z : Int) : Bool := whb z.toNat
theorem flI_in {z : Int} (h : inu z) : inu (flI z) := by
  unfold inu at h
  have := flt_lt (n := z.toNat) (by omega)
  unfold inu flI; omega
theorem wvI_in (z : Int) : inu (wvI z) := by
  unfold wvI whv whl
  split
  · rename_i h
    split
    · have := trn_lt h; unfold inu; simp; omega
    · unfold inu; simp
  · unfold inu; simp
theorem floatI_any (z : Int) (w : World) (h : inu z) :
    Calls Try.prog 39 #[.int .u64 z] w fun e w' => e = .returned (.int .u64 (flI z)) ∧ w = w' := by
  unfold inu at h
  obtain ⟨n, rfl⟩ := Int.eq_ofNat_of_zero_le h.1
  have := float_any n w (by omega)
  simpa [flI] using this
theorem wholeI_any (z : Int) (w : World) (h : inu z) :
    Calls Try.prog 37 #[.int .u64 z] w fun e w' => e = .returned (.tuple #[.int .u64 (wvI z), .bool (wbI z)]) ∧ w = w' := by
  unfold inu at h
  obtain ⟨n, rfl⟩ := Int.eq_ofNat_of_zero_le h.1
  have := whole_any n w
  simpa [wvI, wbI] using this

/-- floats' list. -/
def fla (d : List Int) : List Int := (abv d).map flI

set_option maxHeartbeats 2000000 in
theorem floats_any (v : Value) (d : List Int) (w : World) (h : ISrc w v d) (hl : d.length ≤ 1000000) (hn : ∀ z ∈ abv d, 0 ≤ z) :
    Calls Try.prog 68 #[v] w fun e w' => ∃ u, e = .returned u ∧ UOwn 22 w.heap.size w' u (fla d) ∧ Fr [] w w' := by
  have HIS : Hid (ISrc w v d) := h
  have HNN : Hid (∀ z ∈ abv d, 0 ≤ z) := hn
  have HLV : Hid ((abv d).length ≤ 1000000) := by
    rcases abe_cases d with h0 | h0
    · rw [Hid, abv_length h0]; exact hl
    · unfold abe at h0
      unfold Hid abv
      cases hh : absl 0 d with
      | none => simp
      | some o => rw [hh] at h0; cases h0
  obtain ⟨ao, cap, rfl, _⟩ := h
  obtain ⟨i0, hi⟩ := info_uint64
  have HI : Hid (UInfo 22 i0) := hi
  clear hi hn
  go_enter Try.func68, Try.ntmps68
  go_wp2_with fail
  refine (absolute_any _ d _ HIS.out hl).mono ?_
  rintro e w1 ⟨u, rfl, hu, hf1⟩
  have HU : Hid (∀ wx, Fr [] w1 wx → ISrc wx u (abv d)) := fun wx hx => (hu.src (abv_in d)).kept hx
  have HF1 : Hid (Fr [] w w1) := hf1
  have HFL : Hid (fla d = (abv d).map flI) := rfl
  have H64 : Hid (∀ z ∈ abv d, in64 z) := abv_in d
  clear hu hf1
  generalize abv d = A at *
  obtain ⟨bo, bcap, rfl, hbc, hbm, _, b, off, ha, hc⟩ := HU.out w1 (Fr.refl _ _)
  have HC : Hid (∀ j s, A[j]? = some s → w1.cell? ⟨b, off + j, none⟩ = some (.int .i64 s)) := hc
  have HA : Hid (0 < A.length → bo = some ⟨b, off, none⟩) := ha
  have hml : A.length ≤ 9223372036854775807 := by unfold maxLen at hbm; omega
  clear ha hc HU
  go_wp2
  go_loopw [5, 15] (fun u i wr => ∃ (k : Nat), k ≤ A.length ∧ i = .int .i64 (k : Int) ∧ UOwn 22 w1.heap.size wr u ((A.take k).map flI) ∧ Fr [] w1 wr) (fun _ i _ => A.length - (intOf i).toNat)
  case atStart => exact ⟨0, by omega, rfl, .inl ⟨by simp, rfl⟩, Fr.refl _ _⟩
  case round =>
    obtain ⟨k, hk, rfl, hso, hf⟩ := hrel
    have HF : Hid (Fr [] w1 wr) := hf
    have HS : Hid (UOwn 22 w1.heap.size wr u5 ((A.take k).map flI)) := hso
    have HSZ : Hid (w1.heap.size ≤ wr.heap.size) := HF.out.size
    clear hf hso
    by_cases hlt : k < A.length
    · obtain rfl := HA.out (by omega)
      obtain ⟨s, hs⟩ := at_lt hlt
      have c0 : wr.cell? ⟨b, off + k, none⟩ = some (.int .i64 s) := HF.out.cell_some (HC.out k s hs) (by simp)
      have hm := List.mem_of_getElem? hs
      have hin := H64.out s hm
      have hpos := HNN.out s hm
      have HT : Hid ((A.take (k + 1)).map flI = (A.take k).map flI ++ [flI s]) := by rw [Hid, take_at hs]; simp
      have HL : Hid (((A.take k).map flI).length ≤ 1000000) := by rw [Hid, List.length_map, List.length_take]; have := HLV.out; omega
      have HIU : Hid (inu s) := by unfold in64 at hin; unfold Hid inu; omega
      have hw : IntKind.u64.wrap s = s := by rw [IntKind.wrap_u64]; have := HIU.out; unfold inu at this; omega
      clear hs hm hin hpos
      go_wp2_with fail
      refine (floatI_any s _ HIU.out).mono ?_
      rintro e w2 ⟨rfl, rfl⟩
      generalize flI s = F at *
      go_wp2_with (at_builtin; refine wpList_append_u _ rfl _ _ 24 rfl Try.underlying24 HI.out.1 HI.out.2.1 HI.out.2.2.1 HI.out.2.2.2 (B := w1.heap.size) (s := F) (by have := HSZ.out; simp; omega) rfl rfl (HS.out.kept ((Fr.refl [] _).alloc _)) (lit_u 22 wr [F] rfl HSZ.out (by simp) (by unfold maxLen; simp)) HL.out ?_; intro v3 w3 ho3 hb3; have HO3 : Hid (UOwn 22 w1.heap.size w3 v3 (((A.take k).map flI) ++ [F])) := ho3; have HB3 : Hid (Fr [] w1 w3) := Fr.ofBelow (((HF.out.alloc _).below (Nat.le_refl _) (by simp)).trans hb3); clear ho3 hb3)
      go_roundw
      case rel => exact ⟨k + 1, by omega, by go_num, by rw [HT.out]; exact HO3.out, HB3.out⟩
      case measure => simp [intOf]; omega
    · have HS2 : Hid (UOwn 22 w.heap.size wr u5 (A.map flI)) := by
        have := HS.out
        rw [List.take_of_length_le (by omega)] at this
        exact this.mono HF1.out.size
      have HF2 : Hid (Fr [] w wr) := HF1.out.trans HF.out (by simp)
      clear HS
      go_wp2
      go_ret
      exact ⟨_, rfl, by rw [HFL.out]; exact HS2.out, HF2.out⟩

/-- wholes' answers. -/
def wab (l : List Int) : Bool := l.all wbI
def wal (l : List Int) : List Int := if wab l = true then l.map wvI else []

set_option maxHeartbeats 2000000 in
theorem wholes_any (v : Value) (l : List Int) (w : World) (h : USrc w v l) (hl : l.length ≤ 1000000) :
    Calls Try.prog 73 #[v] w fun e w' => ∃ u, e = .returned (.tuple #[u, .bool (wab l)]) ∧ UOwn 22 w.heap.size w' u (wal l) ∧ Fr [] w w' := by
  obtain ⟨ao, cap, rfl, hcap, hmax, h64, b, off, ha, hc⟩ := h
  have HC : Hid (∀ j s, l[j]? = some s → w.cell? ⟨b, off + j, none⟩ = some (.int .u64 s)) := hc
  have HA : Hid (0 < l.length → ao = some ⟨b, off, none⟩) := ha
  have H64 : Hid (∀ z ∈ l, inu z) := h64
  obtain ⟨i0, hi⟩ := info_uint64
  have HI : Hid (UInfo 22 i0) := hi
  have hml : l.length ≤ 9223372036854775807 := by omega
  clear hi ha hc h64
  go_enter Try.func73, Try.ntmps73
  go_wp2
  go_loopw [4, 11] (fun u i wr => ∃ (k : Nat), k ≤ l.length ∧ i = .int .i64 (k : Int) ∧ wab (l.take k) = true ∧ UOwn 22 w.heap.size wr u ((l.take k).map wvI) ∧ Fr [] w wr) (fun _ i _ => l.length - (intOf i).toNat)
  case atStart => exact ⟨0, by omega, rfl, by simp [wab], .inl ⟨by simp, rfl⟩, Fr.refl _ _⟩
  case round =>
    obtain ⟨k, hk, rfl, hwb, hso, hf⟩ := hrel
    have HF : Hid (Fr [] w wr) := hf
    have HWB : Hid (wab (l.take k) = true) := hwb
    have HS : Hid (UOwn 22 w.heap.size wr u4 ((l.take k).map wvI)) := hso
    have HSZ : Hid (w.heap.size ≤ wr.heap.size) := HF.out.size
    clear hf hso hwb
    by_cases hlt : k < l.length
    · obtain rfl := HA.out (by omega)
      obtain ⟨s, hs⟩ := at_lt hlt
      have c0 : wr.cell? ⟨b, off + k, none⟩ = some (.int .u64 s) := HF.out.cell_some (HC.out k s hs) (by simp)
      have HIU : Hid (inu s) := H64.out s (List.mem_of_getElem? hs)
      have HM : Hid (s ∈ l) := List.mem_of_getElem? hs
      have HT : Hid ((l.take (k + 1)).map wvI = (l.take k).map wvI ++ [wvI s]) := by rw [Hid, take_at hs]; simp
      have HT2 : Hid (wbI s = true → wab (l.take (k + 1)) = true) := by
        intro h
        have := HWB.out
        rw [take_at hs]
        simp only [wab, List.all_append, List.all_cons, List.all_nil, Bool.and_eq_true, Bool.and_true] at this ⊢
        exact ⟨this, h⟩
      have HL : Hid (((l.take k).map wvI).length ≤ 1000000) := by rw [Hid, List.length_map, List.length_take]; omega
      clear hs
      go_wp2_with fail
      refine (wholeI_any s _ HIU.out).mono ?_
      rintro e w2 ⟨rfl, rfl⟩
      by_cases hb : wbI s = true
      · have HT3 : Hid (wab (l.take (k + 1)) = true) := HT2.out hb
        rw [hb]
        clear hb HT2
        generalize wvI s = F at *
        go_wp2_with (at_builtin; refine wpList_append_u _ rfl _ _ 24 rfl Try.underlying24 HI.out.1 HI.out.2.1 HI.out.2.2.1 HI.out.2.2.2 (B := w.heap.size) (s := F) (by have := HSZ.out; simp; omega) rfl rfl (HS.out.kept ((Fr.refl [] _).alloc _)) (lit_u 22 wr [F] rfl HSZ.out (by simp) (by unfold maxLen; simp)) HL.out ?_; intro v3 w3 ho3 hb3; have HO3 : Hid (UOwn 22 w.heap.size w3 v3 (((l.take k).map wvI) ++ [F])) := ho3; have HB3 : Hid (Fr [] w w3) := Fr.ofBelow (((HF.out.alloc _).below (Nat.le_refl _) (by simp)).trans hb3); clear ho3 hb3)
        go_roundw
        case rel => exact ⟨k + 1, by omega, by go_num, HT3.out, by rw [HT.out]; exact HO3.out, HB3.out⟩
        case measure => simp [intOf]; omega
      · have hb2 : wbI s = false := by simpa using hb
        have HE : Hid (wab l = false ∧ wal l = []) := by
          have e : wab l = false := by
            rw [Bool.eq_false_iff]
            intro h
            exact hb (List.all_eq_true.1 h s HM.out)
          refine ⟨e, ?_⟩
          unfold wal; rw [e]; rfl
        rw [hb2]
        clear hb hb2
        go_wp2
        go_ret2
        exact ⟨_, by rw [HE.out.1]; rfl, .inl ⟨HE.out.2, rfl⟩, HF.out⟩
    · have hkl : l.take k = l := List.take_of_length_le (by omega)
      have HE : Hid (wab l = true ∧ wal l = l.map wvI) := by
        have := HWB.out
        rw [hkl] at this
        refine ⟨this, ?_⟩
        unfold wal; rw [if_pos this]
      have HS2 : Hid (UOwn 22 w.heap.size wr u4 (l.map wvI)) := by have := HS.out; rw [hkl] at this; exact this
      clear HS hkl HWB
      go_wp2
      go_ret2
      exact ⟨_, by rw [HE.out.1]; rfl, by rw [HE.out.2]; exact HS2.out, HF.out⟩

/-- differences' answers. -/
def dfb (l : List Int) : Bool := l.all fun z => decide (z ≤ 9223372036854775807)
def dfe (l : List Int) : Int := if dfb l = true then dle l else 28
def dfl (l : List Int) : List Int := if dfb l = true then dlv l else []

set_option maxHeartbeats 2000000 in
theorem differences_any (v : Value) (l : List Int) (w : World) (h : USrc w v l) (hl : l.length ≤ 1000000) :
    Calls Try.prog 74 #[v] w fun e w' => ∃ u, e = .returned (.tuple #[u, .int .i64 (dfe l)]) ∧ NOwn 2 w.heap.size w' u (dfl l) ∧ Fr [] w w' := by
  obtain ⟨ao, cap, rfl, hcap, hmax, h64, b, off, ha, hc⟩ := h
  have HC : Hid (∀ j s, l[j]? = some s → w.cell? ⟨b, off + j, none⟩ = some (.int .u64 s)) := hc
  have HA : Hid (0 < l.length → ao = some ⟨b, off, none⟩) := ha
  have H64 : Hid (∀ z ∈ l, inu z) := h64
  obtain ⟨i0, hi⟩ := info_int64
  have HI : Hid (NInfo 2 i0) := hi
  have hml : l.length ≤ 9223372036854775807 := by omega
  clear hi ha hc h64
  go_enter Try.func74, Try.ntmps74
  go_wp2
  go_loopw [4, 9] (fun u i wr => ∃ (k : Nat), k ≤ l.length ∧ i = .int .i64 (k : Int) ∧ dfb (l.take k) = true ∧ NOwn 2 w.heap.size wr u (l.take k) ∧ Fr [] w wr) (fun _ i _ => l.length - (intOf i).toNat)
  case atStart => exact ⟨0, by omega, rfl, by simp [dfb], .inl ⟨by simp, rfl⟩, Fr.refl _ _⟩
  case round =>
    obtain ⟨k, hk, rfl, hwb, hso, hf⟩ := hrel
    have HF : Hid (Fr [] w wr) := hf
    have HWB : Hid (dfb (l.take k) = true) := hwb
    have HS : Hid (NOwn 2 w.heap.size wr u4 (l.take k)) := hso
    have HSZ : Hid (w.heap.size ≤ wr.heap.size) := HF.out.size
    clear hf hso hwb
    by_cases hlt : k < l.length
    · obtain rfl := HA.out (by omega)
      obtain ⟨s, hs⟩ := at_lt hlt
      have c0 : wr.cell? ⟨b, off + k, none⟩ = some (.int .u64 s) := HF.out.cell_some (HC.out k s hs) (by simp)
      have HIU : Hid (inu s) := H64.out s (List.mem_of_getElem? hs)
      have HM : Hid (s ∈ l) := List.mem_of_getElem? hs
      have HT : Hid (l.take (k + 1) = l.take k ++ [s]) := take_at hs
      have HL : Hid ((l.take k).length ≤ 1000000) := by rw [Hid, List.length_take]; omega
      clear hs
      by_cases hb : s ≤ 9223372036854775807
      · have HT3 : Hid (dfb (l.take (k + 1)) = true) := by
          have := HWB.out
          rw [Hid, HT.out]
          simp only [dfb, List.all_append, List.all_cons, List.all_nil, Bool.and_eq_true, Bool.and_true] at this ⊢
          exact ⟨this, decide_eq_true hb⟩
        have hw : IntKind.i64.wrap s = s := by rw [IntKind.wrap_i64]; have := HIU.out; unfold inu at this; omega
        have hw2 : wrap64 s = s := by have := HIU.out; unfold inu at this; unfold wrap64; omega
        have hb3 : ¬ 9223372036854775807 < s := by omega
        go_wp2_with (at_builtin; refine wpList_append_n _ rfl _ _ 68 rfl Try.underlying68 HI.out.1 HI.out.2.1 HI.out.2.2.1 HI.out.2.2.2 (B := w.heap.size) (s := s) (by have := HSZ.out; simp; omega) rfl rfl (HS.out.kept ((Fr.refl [] _).alloc _)) (lit_n 2 wr [s] rfl HSZ.out (by simp) (by unfold maxLen; simp)) HL.out ?_; intro v3 w3 ho3 hb3; have HO3 : Hid (NOwn 2 w.heap.size w3 v3 (l.take k ++ [s])) := ho3; have HB3 : Hid (Fr [] w w3) := Fr.ofBelow (((HF.out.alloc _).below (Nat.le_refl _) (by simp)).trans hb3); clear ho3 hb3)
        go_roundw
        case rel => exact ⟨k + 1, by omega, by go_num, HT3.out, by rw [HT.out]; exact HO3.out, HB3.out⟩
        case measure => simp [intOf]; omega
      · have HE : Hid (dfe l = 28 ∧ dfl l = []) := by
          have e : dfb l = false := by
            rw [Bool.eq_false_iff]
            intro h
            exact hb (of_decide_eq_true (List.all_eq_true.1 h s HM.out))
          unfold Hid dfe dfl; rw [e]; exact ⟨rfl, rfl⟩
        have hb3 : 9223372036854775807 < s := by omega
        go_wp2
        go_ret2
        exact ⟨_, by rw [HE.out.1]; rfl, .inl ⟨HE.out.2, rfl⟩, HF.out⟩
    · have hkl : l.take k = l := List.take_of_length_le (by omega)
      have HE : Hid (dfe l = dle l ∧ dfl l = dlv l ∧ ∀ z ∈ l, in64 z) := by
        have := HWB.out
        rw [hkl] at this
        refine ⟨by unfold dfe; rw [if_pos this], by unfold dfl; rw [if_pos this], fun z hz => ?_⟩
        have h1 := of_decide_eq_true (List.all_eq_true.1 this z hz)
        have h2 := H64.out z hz
        unfold inu at h2; unfold in64; omega
      have HS2 : Hid (ISrc wr u4 l) := by have := HS.out; rw [hkl] at this; exact this.src HE.out.2.2
      clear HS hkl HWB
      go_wp2_with fail
      refine (deltas_any _ l _ HS2.out hl).mono ?_
      rintro e w2 ⟨y, rfl, hy, hf2⟩
      have HY : Hid (NOwn 2 w.heap.size w2 y (dlv l)) := hy.mono HSZ.out
      have HF2 : Hid (Fr [] w w2) := HF.out.trans hf2 (by simp)
      clear hy hf2
      go_wp2
      go_ret2
      exact ⟨_, by rw [HE.out.1]; rfl, by rw [HE.out.2.1]; exact HY.out, HF2.out⟩
end Go.Proofs.Ytoaibabkkphlaaa
