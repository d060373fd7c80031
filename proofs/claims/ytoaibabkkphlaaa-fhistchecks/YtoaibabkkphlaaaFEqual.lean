/-
  Package fhist: Equal.
-/
import Derived.Test.YtoaibabkkphlaaaFNum
import Derived.Deep.RegionHeld3
namespace Go.Proofs.Ytoaibabkkphlaaa
open Go.RowKit Mem Spans
set_option linter.unusedSimpArgs false
set_option linter.unusedVariables false
set_option maxRecDepth 100000

/-- Are two histograms' five numbers the same? -/
def eqr (a b c d e a' b' c' d' e' : Int) : Bool := decide (a = a' ∧ b = b' ∧ c = c' ∧ d = d' ∧ e = e')
@[go_sem] theorem eq5_run (a b c d e a' b' c' d' e' : Int) (w : World) :
    (Op.equalIn 10000 98 (.agg #[.int .u64 a, .int .u64 b, .int .u64 c, .int .u64 d, .int .u64 e]) (.agg #[.int .u64 a', .int .u64 b', .int .u64 c', .int .u64 d', .int .u64 e'])).run Try.prog w = .ok (eqr a b c d e a' b' c' d' e') w := by
  have u3 := Try.underlying22
  have a3 := Try.isAgg22
  have z3 := Try.sizeOf22
  unfold eqr
  rw [show (10000 : Nat) = 9999 + 1 from rfl, Op.equalIn]
  simp only [Sem.run_bind, run_underlying Try.underlying98, Result.andThen_ok]
  simp only [Std.Legacy.Range.forIn_eq_forIn_range', Std.Legacy.Range.size, Nat.sub_zero, Nat.add_sub_cancel, Nat.div_one, List.range'_succ, List.range'_zero, List.forIn_cons, List.forIn_nil]
  go_simp
  by_cases h1 : a = a' <;> by_cases h2 : b = b' <;> by_cases h3 : c = c' <;> by_cases h4 : d = d' <;> by_cases h5 : e = e' <;> simp [h1, h2, h3, h4, h5]
@[go_sem] theorem eq5_max (a b c d e a' b' c' d' e' : Int) (w : World) :
    (Op.equalIn Op.maxDepth 98 (.agg #[.int .u64 a, .int .u64 b, .int .u64 c, .int .u64 d, .int .u64 e]) (.agg #[.int .u64 a', .int .u64 b', .int .u64 c', .int .u64 d', .int .u64 e'])).run Try.prog w = .ok (eqr a b c d e a' b' c' d' e') w := eq5_run ..

set_option maxHeartbeats 8000000 in
theorem fequal_any (v u : Value) (a b : Fs) (w : World) (h1 : FSrc w v a) (h2 : FSrc w u b) :
    Calls Try.prog 30 #[v, u] w fun e w' => e = .returned (.bool (feq a b)) ∧ Fr [] w w' := by
  have H1 : Hid (∀ wx, Fr [] w wx → FSrc wx v a) := fun wx hx => h1.kept hx
  have H2 : Hid (∀ wx, Fr [] w wx → FSrc wx u b) := fun wx hx => h2.kept hx
  have HFI : Hid (fin9 a ∧ fin9 b) := ⟨h1.fin, h2.fin⟩
  obtain ⟨po, pc, no, nc, qo, qc, ro, rc, rfl, hina, _⟩ := h1.opens
  obtain ⟨po2, pc2, no2, nc2, qo2, qc2, ro2, rc2, rfl, hinb, _⟩ := h2.opens
  have HIN : Hid (in64 a.s ∧ in64 b.s) := ⟨hina.1, hinb.1⟩
  clear h1 h2 hina hinb
  go_enter Try.func30, Try.ntmps30
  have HA : Hid (NineF ((w.alloc (.cells #[.int .i64 a.s, .int .u64 a.z, .int .u64 a.zc, .int .u64 a.c, .int .u64 a.sm, .slice po a.P.length pc, .slice no a.N.length nc, .slice qo a.pd.length qc, .slice ro a.nd.length rc] 26)).alloc (.cells #[.int .i64 b.s, .int .u64 b.z, .int .u64 b.zc, .int .u64 b.c, .int .u64 b.sm, .slice po2 b.P.length pc2, .slice no2 b.N.length nc2, .slice qo2 b.pd.length qc2, .slice ro2 b.nd.length rc2] 26)) w.heap.size #[.int .i64 a.s, .int .u64 a.z, .int .u64 a.zc, .int .u64 a.c, .int .u64 a.sm, .slice po a.P.length pc, .slice no a.N.length nc, .slice qo a.pd.length qc, .slice ro a.nd.length rc] ∧ NineF ((w.alloc (.cells #[.int .i64 a.s, .int .u64 a.z, .int .u64 a.zc, .int .u64 a.c, .int .u64 a.sm, .slice po a.P.length pc, .slice no a.N.length nc, .slice qo a.pd.length qc, .slice ro a.nd.length rc] 26)).alloc (.cells #[.int .i64 b.s, .int .u64 b.z, .int .u64 b.zc, .int .u64 b.c, .int .u64 b.sm, .slice po2 b.P.length pc2, .slice no2 b.N.length nc2, .slice qo2 b.pd.length qc2, .slice ro2 b.nd.length rc2] 26)) (w.heap.size + 1) #[.int .i64 b.s, .int .u64 b.z, .int .u64 b.zc, .int .u64 b.c, .int .u64 b.sm, .slice po2 b.P.length pc2, .slice no2 b.N.length nc2, .slice qo2 b.pd.length qc2, .slice ro2 b.nd.length rc2] ∧ Fr [] w ((w.alloc (.cells #[.int .i64 a.s, .int .u64 a.z, .int .u64 a.zc, .int .u64 a.c, .int .u64 a.sm, .slice po a.P.length pc, .slice no a.N.length nc, .slice qo a.pd.length qc, .slice ro a.nd.length rc] 26)).alloc (.cells #[.int .i64 b.s, .int .u64 b.z, .int .u64 b.zc, .int .u64 b.c, .int .u64 b.sm, .slice po2 b.P.length pc2, .slice no2 b.N.length nc2, .slice qo2 b.pd.length qc2, .slice ro2 b.nd.length rc2] 26))) := ⟨nineF_mid _ _ _, nineF_top _ _ _, ((Fr.refl [] w).alloc _).alloc _⟩
  go_wp2_with fail
  obtain ⟨hA3, hA6, hAF⟩ := HA.out
  clear HA
  generalize (w.alloc (.cells _ _)).alloc (.cells _ _) = wA at hA3 hA6 hAF ⊢
  refine (fsides_any _ a wA (H1.out _ hAF)).mono ?_
  rintro e w1 ⟨x, y, rfl, hx, hy, hf1⟩
  have HX : Hid (PSrc w1 x (fdp a)) := hx.src (fdp_in a HFI.out.1)
  have HY : Hid (PSrc w1 y (fdn a)) := hy.src (fdn_in a HFI.out.1)
  have HF1 : Hid (Fr [] w w1) := hAF.trans hf1 (by simp)
  have H3 : Hid (NineF w1 w.heap.size _) := hA3.kept hf1 (by simp)
  have H6 : Hid (NineF w1 (w.heap.size + 1) _) := hA6.kept hf1 (by simp)
  clear hx hy hf1 hA3 hA6 hAF
  by_cases h0 : fce a = 0
  · have HC0 : Hid (fce a = 0) := h0
    rw [h0]
    clear h0
    have d0 := H6.out.cell 0 rfl
    have d1 := H6.out.cell 1 rfl
    have d2 := H6.out.cell 2 rfl
    have d3 := H6.out.cell 3 rfl
    have d4 := H6.out.cell 4 rfl
    have d5 := H6.out.cell 5 rfl
    have d6 := H6.out.cell 6 rfl
    have d7 := H6.out.cell 7 rfl
    have d8 := H6.out.cell 8 rfl
    go_wp2_with fail
    refine (fsides_any _ b w1 (H2.out _ HF1.out)).mono ?_
    rintro e w2 ⟨x2, y2, rfl, hx, hy, hf2⟩
    have HX2 : Hid (PSrc w2 x2 (fdp b)) := hx.src (fdp_in b HFI.out.2)
    have HY2 : Hid (PSrc w2 y2 (fdn b)) := hy.src (fdn_in b HFI.out.2)
    have HX1 : Hid (PSrc w2 x (fdp a)) := HX.out.kept hf2
    have HY1 : Hid (PSrc w2 y (fdn a)) := HY.out.kept hf2
    have HF2 : Hid (Fr [] w w2) := HF1.out.trans hf2 (by simp)
    have h3 := H3.out.kept hf2 (by simp)
    have h6 := H6.out.kept hf2 (by simp)
    clear hx hy hf2 HX HY HF1 H3 H6 d0 d1 d2 d3 d4 d5 d6 d7 d8
    by_cases h0 : fce b = 0
    · have HC1 : Hid (fce b = 0) := h0
      rw [h0]
      clear h0
      have c0 := h3.cell 0 rfl
      have c1 := h3.cell 1 rfl
      have c2 := h3.cell 2 rfl
      have c3 := h3.cell 3 rfl
      have c4 := h3.cell 4 rfl
      have c5 := h3.cell 5 rfl
      have c6 := h3.cell 6 rfl
      have c7 := h3.cell 7 rfl
      have c8 := h3.cell 8 rfl
      have d0 := h6.cell 0 rfl
      have d1 := h6.cell 1 rfl
      have d2 := h6.cell 2 rfl
      have d3 := h6.cell 3 rfl
      have d4 := h6.cell 4 rfl
      have d5 := h6.cell 5 rfl
      have d6 := h6.cell 6 rfl
      have d7 := h6.cell 7 rfl
      have d8 := h6.cell 8 rfl
      clear h3 h6
      have HNO : Hid (¬ (a.s = b.s ∧ a.z = b.z ∧ a.zc = b.zc ∧ a.c = b.c ∧ a.sm = b.sm ∧ wio (fdp a) 0 = wio (fdp b) 0 ∧ wio (fdn a) 0 = wio (fdn b) 0) → feq a b = false) := fun h => decide_eq_false (fun k => h k.2.2)
      have HYES : Hid ((a.s = b.s ∧ a.z = b.z ∧ a.zc = b.zc ∧ a.c = b.c ∧ a.sm = b.sm) → wio (fdp a) 0 = wio (fdp b) 0 → wio (fdn a) 0 = wio (fdn b) 0 → feq a b = true) := fun k k6 k7 => decide_eq_true ⟨HC0.out, HC1.out, k.1, k.2.1, k.2.2.1, k.2.2.2.1, k.2.2.2.2, k6, k7⟩
      have HWP : Hid (∀ wx, Fr [] w2 wx → ∀ t l, PSrc w2 t l → l.length ≤ 4096 → Calls Try.prog 58 #[t, .int .u64 0] wx fun e w' => ∃ u, e = .returned u ∧ POwn 43 wx.heap.size w' u (wio l 0) ∧ Fr [] wx w' ∧ Fr [] w2 w') := by
        intro wx hf t l ht hl
        refine (withoutU_any _ l 0 wx (ht.kept hf) (by omega)).mono ?_
        rintro e w' ⟨u, rfl, hu, hf'⟩
        exact ⟨u, rfl, hu, hf', hf.trans hf' (by simp)⟩
      have HEP : Hid (∀ wx, Fr [] w2 wx → ∀ t u xs ys, PSrc wx t xs → PSrc wx u ys → Calls Try.prog 61 #[t, u] wx fun e w' => e = .returned (.bool (decide (xs = ys))) ∧ Fr [] w2 w') := by
        intro wx hf t u xs ys h1 h2
        refine (pequalU_any _ _ xs ys wx h1 h2).mono ?_
        rintro e w' ⟨rfl, hf'⟩
        exact ⟨rfl, hf.trans hf' (by simp)⟩
      have HNA : Hid (∀ wx, Fr [] w2 wx → Calls Try.prog 60 #[.agg #[.int .i64 a.s, .int .u64 a.z, .int .u64 a.zc, .int .u64 a.c, .int .u64 a.sm, .slice po a.P.length pc, .slice no a.N.length nc, .slice qo a.pd.length qc, .slice ro a.nd.length rc]] wx fun e w' => e = .returned (.agg #[.int .u64 (usg a.s), .int .u64 a.z, .int .u64 a.zc, .int .u64 a.c, .int .u64 a.sm]) ∧ Fr [] w2 w') := by
        intro wx hf
        refine (nmb_any _ a wx (H1.out _ (HF2.out.trans hf (by simp)))).mono ?_
        rintro e w' ⟨rfl, hf'⟩
        exact ⟨rfl, hf.trans hf' (by simp)⟩
      have HNB : Hid (∀ wx, Fr [] w2 wx → Calls Try.prog 60 #[.agg #[.int .i64 b.s, .int .u64 b.z, .int .u64 b.zc, .int .u64 b.c, .int .u64 b.sm, .slice po2 b.P.length pc2, .slice no2 b.N.length nc2, .slice qo2 b.pd.length qc2, .slice ro2 b.nd.length rc2]] wx fun e w' => e = .returned (.agg #[.int .u64 (usg b.s), .int .u64 b.z, .int .u64 b.zc, .int .u64 b.c, .int .u64 b.sm]) ∧ Fr [] w2 w') := by
        intro wx hf
        refine (nmb_any _ b wx (H2.out _ (HF2.out.trans hf (by simp)))).mono ?_
        rintro e w' ⟨rfl, hf'⟩
        exact ⟨rfl, hf.trans hf' (by simp)⟩
      have HI : Hid ((∀ s ∈ fdp a, in64 s.1 ∧ inu s.2) ∧ (∀ s ∈ fdn a, in64 s.1 ∧ inu s.2) ∧ (∀ s ∈ fdp b, in64 s.1 ∧ inu s.2) ∧ (∀ s ∈ fdn b, in64 s.1 ∧ inu s.2)) := ⟨fdp_in a HFI.out.1, fdn_in a HFI.out.1, fdp_in b HFI.out.2, fdn_in b HFI.out.2⟩
      have HL : Hid ((fdp a).length ≤ 4096 ∧ (fdn a).length ≤ 4096 ∧ (fdp b).length ≤ 4096 ∧ (fdn b).length ≤ 4096) := ⟨fdp_le a, fdn_le a, fdp_le b, fdn_le b⟩
      generalize fdp a = PA at *
      generalize fdn a = NA at *
      generalize fdp b = PB at *
      generalize fdn b = NB at *
      obtain ⟨R, hqq⟩ : ∃ R, feq a b = R := ⟨_, rfl⟩
      have HQ : Hid (feq a b = R) := hqq
      rw [hqq] at HNO HYES
      clear hqq
      have F0 : Fr [] w2 w2.drew := (Fr.refl _ _).drew
      have hqi : eqr (usg a.s) a.z a.zc a.c a.sm (usg b.s) b.z b.zc b.c b.sm = decide (a.s = b.s ∧ a.z = b.z ∧ a.zc = b.zc ∧ a.c = b.c ∧ a.sm = b.sm) := by unfold eqr; exact decide_eq_decide.2 (and_congr (usg_inj HIN.out.1 HIN.out.2) Iff.rfl)
      by_cases kn : a.s = b.s ∧ a.z = b.z ∧ a.zc = b.zc ∧ a.c = b.c ∧ a.sm = b.sm
      case neg =>
        have HE2 : Hid (R = false) := HNO.out (fun k => kn ⟨k.1, k.2.1, k.2.2.1, k.2.2.2.1, k.2.2.2.2.1⟩)
        rw [decide_eq_false kn] at hqi
        clear kn
        go_wp2_with fail
        have hmx : Try.prog.follows .mixedOrders = true := by kernel_rfl
        refine wp_region_noPanic ?_
        refine wp_region_held_drew (S := fun w' => w'.cell? ⟨w.heap.size, 0, none⟩ = some (.int .i64 a.s) ∧ w'.cell? ⟨w.heap.size, 1, none⟩ = some (.int .u64 a.z) ∧ w'.cell? ⟨w.heap.size, 2, none⟩ = some (.int .u64 a.zc) ∧ w'.cell? ⟨w.heap.size, 3, none⟩ = some (.int .u64 a.c) ∧ w'.cell? ⟨w.heap.size, 4, none⟩ = some (.int .u64 a.sm) ∧ w'.cell? ⟨w.heap.size, 5, none⟩ = some (.slice po a.P.length pc) ∧ w'.cell? ⟨w.heap.size, 6, none⟩ = some (.slice no a.N.length nc) ∧ w'.cell? ⟨w.heap.size, 7, none⟩ = some (.slice qo a.pd.length qc) ∧ w'.cell? ⟨w.heap.size, 8, none⟩ = some (.slice ro a.nd.length rc) ∧ w'.cell? ⟨w.heap.size + 1, 0, none⟩ = some (.int .i64 b.s) ∧ w'.cell? ⟨w.heap.size + 1, 1, none⟩ = some (.int .u64 b.z) ∧ w'.cell? ⟨w.heap.size + 1, 2, none⟩ = some (.int .u64 b.zc) ∧ w'.cell? ⟨w.heap.size + 1, 3, none⟩ = some (.int .u64 b.c) ∧ w'.cell? ⟨w.heap.size + 1, 4, none⟩ = some (.int .u64 b.sm) ∧ w'.cell? ⟨w.heap.size + 1, 5, none⟩ = some (.slice po2 b.P.length pc2) ∧ w'.cell? ⟨w.heap.size + 1, 6, none⟩ = some (.slice no2 b.N.length nc2) ∧ w'.cell? ⟨w.heap.size + 1, 7, none⟩ = some (.slice qo2 b.pd.length qc2) ∧ w'.cell? ⟨w.heap.size + 1, 8, none⟩ = some (.slice ro2 b.nd.length rc2)) hmx ?_ (fun hS0 => ?_)
        · (try dsimp only)
          go_keep
        refine wpAnyH_take (i := 0) (oi := { dst := some 26, op := Op.load 26 (Operand.tmp 2), type := 26, pos := "fhist.go:113", after := #[], guard := none }) (v := .agg #[.int .i64 a.s, .int .u64 a.z, .int .u64 a.zc, .int .u64 a.c, .int .u64 a.sm, .slice po a.P.length pc, .slice no a.N.length nc, .slice qo a.pd.length qc, .slice ro a.nd.length rc]) rfl (by kernel_rfl) (by kernel_rfl) (by kernel_rfl) (fun _ _ _ h => h) (Or.inl ⟨by rfl, ?_⟩) (by assumption) ?_
        · intro w hSw
          (try dsimp only at hSw)
          go_simp
        try simp only [Act.put, List.setIfInBounds_toArray, List.set_cons_zero, List.set_cons_succ]
        refine wpAnyH_take (i := 2) (oi := { dst := some 28, op := Op.load 26 (Operand.tmp 3), type := 26, pos := "fhist.go:113", after := #[], guard := none }) (v := .agg #[.int .i64 b.s, .int .u64 b.z, .int .u64 b.zc, .int .u64 b.c, .int .u64 b.sm, .slice po2 b.P.length pc2, .slice no2 b.N.length nc2, .slice qo2 b.pd.length qc2, .slice ro2 b.nd.length rc2]) rfl (by kernel_rfl) (by kernel_rfl) (by kernel_rfl) (fun _ _ _ h => h) (Or.inl ⟨by rfl, ?_⟩) (by assumption) ?_
        · intro w hSw
          (try dsimp only at hSw)
          go_simp
        try simp only [Act.put, List.setIfInBounds_toArray, List.set_cons_zero, List.set_cons_succ]
        refine wpAnyH_ready (rs := [1]) (by kernel_rfl) (by simp) ?_
        refine AllReadyH.cons (o := { dst := some 27, op := Op.call { callee := Callee.value (Operand.func 60), args := #[Operand.tmp 26], argTypes := #[26] }, type := 98, pos := "fhist.go:113", after := #[{ on := 0, ground := Ground.data }], guard := none }) rfl (fun K hK => ?_) AllReadyH.nil
        go_simp
        go_at_call 60; with_reducible refine (HNA.out _ F0).mono ?_; rintro e wa ⟨rfl, hfa⟩; have ka0 := hfa.cell_some c0 (by simp); have ka1 := hfa.cell_some c1 (by simp); have ka2 := hfa.cell_some c2 (by simp); have ka3 := hfa.cell_some c3 (by simp); have ka4 := hfa.cell_some c4 (by simp); have ka5 := hfa.cell_some c5 (by simp); have ka6 := hfa.cell_some c6 (by simp); have ka7 := hfa.cell_some c7 (by simp); have ka8 := hfa.cell_some c8 (by simp); have ma0 := hfa.cell_some d0 (by simp); have ma1 := hfa.cell_some d1 (by simp); have ma2 := hfa.cell_some d2 (by simp); have ma3 := hfa.cell_some d3 (by simp); have ma4 := hfa.cell_some d4 (by simp); have ma5 := hfa.cell_some d5 (by simp); have ma6 := hfa.cell_some d6 (by simp); have ma7 := hfa.cell_some d7 (by simp); have ma8 := hfa.cell_some d8 (by simp)
        refine hK.out _ _ ?_ (fun hS1 => ?_)
        · (try dsimp only)
          go_keep
        clear hK K
        refine wpAnyH_ready (rs := [3]) (by kernel_rfl) (by simp) ?_
        refine AllReadyH.cons (o := { dst := some 29, op := Op.call { callee := Callee.value (Operand.func 60), args := #[Operand.tmp 28], argTypes := #[26] }, type := 98, pos := "fhist.go:113", after := #[{ on := 2, ground := Ground.data }, { on := 1, ground := Ground.chain }], guard := none }) rfl (fun K hK => ?_) AllReadyH.nil
        go_simp
        go_at_call 60; with_reducible refine (HNB.out _ hfa).mono ?_; rintro e wb ⟨rfl, hfb⟩; have kb0 := hfb.cell_some c0 (by simp); have kb1 := hfb.cell_some c1 (by simp); have kb2 := hfb.cell_some c2 (by simp); have kb3 := hfb.cell_some c3 (by simp); have kb4 := hfb.cell_some c4 (by simp); have kb5 := hfb.cell_some c5 (by simp); have kb6 := hfb.cell_some c6 (by simp); have kb7 := hfb.cell_some c7 (by simp); have kb8 := hfb.cell_some c8 (by simp); have mb0 := hfb.cell_some d0 (by simp); have mb1 := hfb.cell_some d1 (by simp); have mb2 := hfb.cell_some d2 (by simp); have mb3 := hfb.cell_some d3 (by simp); have mb4 := hfb.cell_some d4 (by simp); have mb5 := hfb.cell_some d5 (by simp); have mb6 := hfb.cell_some d6 (by simp); have mb7 := hfb.cell_some d7 (by simp); have mb8 := hfb.cell_some d8 (by simp)
        refine hK.out _ _ ?_ (fun hS2 => ?_)
        · (try dsimp only)
          go_keep
        clear hK K
        refine wpAnyH_take (i := 4) (oi := { dst := some 30, op := Op.binOp BinOp.eql 98 (Operand.tmp 27) (Operand.tmp 29) 98, type := 4, pos := "fhist.go:113", after := #[{ on := 1, ground := Ground.data }, { on := 3, ground := Ground.data }], guard := none }) (v := .bool false) rfl (by kernel_rfl) (by kernel_rfl) (by kernel_rfl) (fun _ _ _ h => h) (Or.inl ⟨by rfl, ?_⟩) (by assumption) ?_
        · intro w hSw
          (try dsimp only at hSw)
          go_simp
        try simp only [Act.put, List.setIfInBounds_toArray, List.set_cons_zero, List.set_cons_succ]
        refine wpAnyH_take (i := 5) (oi := { dst := some 31, op := Op.move (Operand.tmp 30), type := 4, pos := "fhist.go:113", after := #[{ on := 4, ground := Ground.data }, { on := 3, ground := Ground.chain }], guard := none }) (v := .bool false) rfl (by kernel_rfl) (by kernel_rfl) (by kernel_rfl) (fun _ _ _ h => h) (Or.inl ⟨by rfl, ?_⟩) (by assumption) ?_
        · intro w hSw
          (try dsimp only at hSw)
          go_simp
        try simp only [Act.put, List.setIfInBounds_toArray, List.set_cons_zero, List.set_cons_succ]
        refine wpAnyH_take (i := 6) (oi := { dst := some 32, op := Op.move (Operand.tmp 5), type := 38, pos := "fhist.go:113", after := #[{ on := 5, ground := Ground.guard }], guard := some (5, true) }) (v := undef) rfl (by kernel_rfl) (by kernel_rfl) (by kernel_rfl) (fun _ _ _ h => h) (Or.inr ⟨by rfl, rfl⟩) (by assumption) ?_
        try simp only [Act.put, List.setIfInBounds_toArray, List.set_cons_zero, List.set_cons_succ]
        refine wpAnyH_take (i := 7) (oi := { dst := some 33, op := Op.call { callee := Callee.value (Operand.func 58), args := #[Operand.tmp 32, Operand.const (Value.int IntKind.u64 0)], argTypes := #[38, 22] }, type := 38, pos := "fhist.go:114", after := #[{ on := 6, ground := Ground.data }, { on := 5, ground := Ground.chain }, { on := 5, ground := Ground.guard }], guard := some (5, true) }) (v := undef) rfl (by kernel_rfl) (by kernel_rfl) (by kernel_rfl) (fun _ _ _ h => h) (Or.inr ⟨by rfl, rfl⟩) (by assumption) ?_
        try simp only [Act.put, List.setIfInBounds_toArray, List.set_cons_zero, List.set_cons_succ]
        refine wpAnyH_take (i := 8) (oi := { dst := some 34, op := Op.move (Operand.tmp 8), type := 38, pos := "fhist.go:113", after := #[{ on := 5, ground := Ground.guard }], guard := some (5, true) }) (v := undef) rfl (by kernel_rfl) (by kernel_rfl) (by kernel_rfl) (fun _ _ _ h => h) (Or.inr ⟨by rfl, rfl⟩) (by assumption) ?_
        try simp only [Act.put, List.setIfInBounds_toArray, List.set_cons_zero, List.set_cons_succ]
        refine wpAnyH_take (i := 9) (oi := { dst := some 35, op := Op.call { callee := Callee.value (Operand.func 58), args := #[Operand.tmp 34, Operand.const (Value.int IntKind.u64 0)], argTypes := #[38, 22] }, type := 38, pos := "fhist.go:114", after := #[{ on := 8, ground := Ground.data }, { on := 7, ground := Ground.chain }, { on := 5, ground := Ground.guard }], guard := some (5, true) }) (v := undef) rfl (by kernel_rfl) (by kernel_rfl) (by kernel_rfl) (fun _ _ _ h => h) (Or.inr ⟨by rfl, rfl⟩) (by assumption) ?_
        try simp only [Act.put, List.setIfInBounds_toArray, List.set_cons_zero, List.set_cons_succ]
        refine wpAnyH_take (i := 10) (oi := { dst := some 36, op := Op.call { callee := Callee.value (Operand.func 61), args := #[Operand.tmp 33, Operand.tmp 35], argTypes := #[38, 38] }, type := 4, pos := "fhist.go:114", after := #[{ on := 7, ground := Ground.data }, { on := 9, ground := Ground.data }, { on := 9, ground := Ground.chain }, { on := 5, ground := Ground.guard }], guard := some (5, true) }) (v := undef) rfl (by kernel_rfl) (by kernel_rfl) (by kernel_rfl) (fun _ _ _ h => h) (Or.inr ⟨by rfl, rfl⟩) (by assumption) ?_
        try simp only [Act.put, List.setIfInBounds_toArray, List.set_cons_zero, List.set_cons_succ]
        refine wpAnyH_take (i := 11) (oi := { dst := some 37, op := Op.pick (Operand.tmp 31) (Operand.tmp 36) (Operand.const (Value.bool false)), type := 4, pos := "fhist.go:113", after := #[{ on := 5, ground := Ground.data }, { on := 10, ground := Ground.data }], guard := none }) (v := .bool false) rfl (by kernel_rfl) (by kernel_rfl) (by kernel_rfl) (fun _ _ _ h => h) (Or.inl ⟨by rfl, ?_⟩) (by assumption) ?_
        · intro w hSw
          (try dsimp only at hSw)
          go_simp
        try simp only [Act.put, List.setIfInBounds_toArray, List.set_cons_zero, List.set_cons_succ]
        refine wpAnyH_take (i := 12) (oi := { dst := some 38, op := Op.move (Operand.tmp 37), type := 4, pos := "fhist.go:113", after := #[{ on := 11, ground := Ground.data }, { on := 10, ground := Ground.chain }], guard := none }) (v := .bool false) rfl (by kernel_rfl) (by kernel_rfl) (by kernel_rfl) (fun _ _ _ h => h) (Or.inl ⟨by rfl, ?_⟩) (by assumption) ?_
        · intro w hSw
          (try dsimp only at hSw)
          go_simp
        try simp only [Act.put, List.setIfInBounds_toArray, List.set_cons_zero, List.set_cons_succ]
        refine wpAnyH_take (i := 13) (oi := { dst := some 39, op := Op.move (Operand.tmp 6), type := 38, pos := "fhist.go:113", after := #[{ on := 12, ground := Ground.guard }], guard := some (12, true) }) (v := undef) rfl (by kernel_rfl) (by kernel_rfl) (by kernel_rfl) (fun _ _ _ h => h) (Or.inr ⟨by rfl, rfl⟩) (by assumption) ?_
        try simp only [Act.put, List.setIfInBounds_toArray, List.set_cons_zero, List.set_cons_succ]
        refine wpAnyH_take (i := 14) (oi := { dst := some 40, op := Op.call { callee := Callee.value (Operand.func 58), args := #[Operand.tmp 39, Operand.const (Value.int IntKind.u64 0)], argTypes := #[38, 22] }, type := 38, pos := "fhist.go:115", after := #[{ on := 13, ground := Ground.data }, { on := 12, ground := Ground.chain }, { on := 12, ground := Ground.guard }], guard := some (12, true) }) (v := undef) rfl (by kernel_rfl) (by kernel_rfl) (by kernel_rfl) (fun _ _ _ h => h) (Or.inr ⟨by rfl, rfl⟩) (by assumption) ?_
        try simp only [Act.put, List.setIfInBounds_toArray, List.set_cons_zero, List.set_cons_succ]
        refine wpAnyH_take (i := 15) (oi := { dst := some 41, op := Op.move (Operand.tmp 9), type := 38, pos := "fhist.go:113", after := #[{ on := 12, ground := Ground.guard }], guard := some (12, true) }) (v := undef) rfl (by kernel_rfl) (by kernel_rfl) (by kernel_rfl) (fun _ _ _ h => h) (Or.inr ⟨by rfl, rfl⟩) (by assumption) ?_
        try simp only [Act.put, List.setIfInBounds_toArray, List.set_cons_zero, List.set_cons_succ]
        refine wpAnyH_take (i := 16) (oi := { dst := some 42, op := Op.call { callee := Callee.value (Operand.func 58), args := #[Operand.tmp 41, Operand.const (Value.int IntKind.u64 0)], argTypes := #[38, 22] }, type := 38, pos := "fhist.go:115", after := #[{ on := 15, ground := Ground.data }, { on := 14, ground := Ground.chain }, { on := 12, ground := Ground.guard }], guard := some (12, true) }) (v := undef) rfl (by kernel_rfl) (by kernel_rfl) (by kernel_rfl) (fun _ _ _ h => h) (Or.inr ⟨by rfl, rfl⟩) (by assumption) ?_
        try simp only [Act.put, List.setIfInBounds_toArray, List.set_cons_zero, List.set_cons_succ]
        refine wpAnyH_take (i := 17) (oi := { dst := some 43, op := Op.call { callee := Callee.value (Operand.func 61), args := #[Operand.tmp 40, Operand.tmp 42], argTypes := #[38, 38] }, type := 4, pos := "fhist.go:115", after := #[{ on := 14, ground := Ground.data }, { on := 16, ground := Ground.data }, { on := 16, ground := Ground.chain }, { on := 12, ground := Ground.guard }], guard := some (12, true) }) (v := undef) rfl (by kernel_rfl) (by kernel_rfl) (by kernel_rfl) (fun _ _ _ h => h) (Or.inr ⟨by rfl, rfl⟩) (by assumption) ?_
        try simp only [Act.put, List.setIfInBounds_toArray, List.set_cons_zero, List.set_cons_succ]
        refine wpAnyH_take (i := 18) (oi := { dst := some 44, op := Op.pick (Operand.tmp 38) (Operand.tmp 43) (Operand.const (Value.bool false)), type := 4, pos := "fhist.go:113", after := #[{ on := 12, ground := Ground.data }, { on := 17, ground := Ground.data }], guard := none }) (v := .bool false) rfl (by kernel_rfl) (by kernel_rfl) (by kernel_rfl) (fun _ _ _ h => h) (Or.inl ⟨by rfl, ?_⟩) (by assumption) ?_
        · intro w hSw
          (try dsimp only at hSw)
          go_simp
        try simp only [Act.put, List.setIfInBounds_toArray, List.set_cons_zero, List.set_cons_succ]
        refine wpAnyH_take (i := 19) (oi := { dst := some 4, op := Op.assign (Operand.tmp 44), type := 4, pos := "fhist.go:113", after := #[{ on := 18, ground := Ground.data }, { on := 17, ground := Ground.chain }, { on := 0, ground := Ground.phase }, { on := 1, ground := Ground.phase }, { on := 2, ground := Ground.phase }, { on := 3, ground := Ground.phase }, { on := 4, ground := Ground.phase }, { on := 5, ground := Ground.phase }, { on := 6, ground := Ground.phase }, { on := 7, ground := Ground.phase }, { on := 8, ground := Ground.phase }, { on := 9, ground := Ground.phase }, { on := 10, ground := Ground.phase }, { on := 11, ground := Ground.phase }, { on := 12, ground := Ground.phase }, { on := 13, ground := Ground.phase }, { on := 14, ground := Ground.phase }, { on := 15, ground := Ground.phase }, { on := 16, ground := Ground.phase }, { on := 17, ground := Ground.phase }, { on := 18, ground := Ground.phase }], guard := none }) (v := .bool false) rfl (by kernel_rfl) (by kernel_rfl) (by kernel_rfl) (fun _ _ _ h => h) (Or.inl ⟨by rfl, ?_⟩) (by assumption) ?_
        · intro w hSw
          (try dsimp only at hSw)
          go_simp
        try simp only [Act.put, List.setIfInBounds_toArray, List.set_cons_zero, List.set_cons_succ]
        refine wpAnyH_done (by kernel_rfl) ?_ _
        refine NoPanic.normal ?_
        have HFE : Hid (Fr [] w wb) := HF2.out.trans hfb (by simp)
        go_wp2
        go_ret
        exact ⟨by rw [HQ.out, HE2.out]; rfl, HFE.out⟩
      have HKN : Hid (a.s = b.s ∧ a.z = b.z ∧ a.zc = b.zc ∧ a.c = b.c ∧ a.sm = b.sm) := kn
      rw [decide_eq_true kn] at hqi
      clear kn
      by_cases k5 : wio PA 0 = wio PB 0
      case neg =>
        have HE2 : Hid (R = false) := HNO.out (fun k => k5 k.2.2.2.2.2.1)
        have hd5 := decide_eq_false k5
        clear k5
        go_wp2_with fail
        have hmx : Try.prog.follows .mixedOrders = true := by kernel_rfl
        refine wp_region_noPanic ?_
        refine wp_region_held_drew (S := fun w' => w'.cell? ⟨w.heap.size, 0, none⟩ = some (.int .i64 a.s) ∧ w'.cell? ⟨w.heap.size, 1, none⟩ = some (.int .u64 a.z) ∧ w'.cell? ⟨w.heap.size, 2, none⟩ = some (.int .u64 a.zc) ∧ w'.cell? ⟨w.heap.size, 3, none⟩ = some (.int .u64 a.c) ∧ w'.cell? ⟨w.heap.size, 4, none⟩ = some (.int .u64 a.sm) ∧ w'.cell? ⟨w.heap.size, 5, none⟩ = some (.slice po a.P.length pc) ∧ w'.cell? ⟨w.heap.size, 6, none⟩ = some (.slice no a.N.length nc) ∧ w'.cell? ⟨w.heap.size, 7, none⟩ = some (.slice qo a.pd.length qc) ∧ w'.cell? ⟨w.heap.size, 8, none⟩ = some (.slice ro a.nd.length rc) ∧ w'.cell? ⟨w.heap.size + 1, 0, none⟩ = some (.int .i64 b.s) ∧ w'.cell? ⟨w.heap.size + 1, 1, none⟩ = some (.int .u64 b.z) ∧ w'.cell? ⟨w.heap.size + 1, 2, none⟩ = some (.int .u64 b.zc) ∧ w'.cell? ⟨w.heap.size + 1, 3, none⟩ = some (.int .u64 b.c) ∧ w'.cell? ⟨w.heap.size + 1, 4, none⟩ = some (.int .u64 b.sm) ∧ w'.cell? ⟨w.heap.size + 1, 5, none⟩ = some (.slice po2 b.P.length pc2) ∧ w'.cell? ⟨w.heap.size + 1, 6, none⟩ = some (.slice no2 b.N.length nc2) ∧ w'.cell? ⟨w.heap.size + 1, 7, none⟩ = some (.slice qo2 b.pd.length qc2) ∧ w'.cell? ⟨w.heap.size + 1, 8, none⟩ = some (.slice ro2 b.nd.length rc2)) hmx ?_ (fun hS0 => ?_)
        · (try dsimp only)
          go_keep
        refine wpAnyH_take (i := 0) (oi := { dst := some 26, op := Op.load 26 (Operand.tmp 2), type := 26, pos := "fhist.go:113", after := #[], guard := none }) (v := .agg #[.int .i64 a.s, .int .u64 a.z, .int .u64 a.zc, .int .u64 a.c, .int .u64 a.sm, .slice po a.P.length pc, .slice no a.N.length nc, .slice qo a.pd.length qc, .slice ro a.nd.length rc]) rfl (by kernel_rfl) (by kernel_rfl) (by kernel_rfl) (fun _ _ _ h => h) (Or.inl ⟨by rfl, ?_⟩) (by assumption) ?_
        · intro w hSw
          (try dsimp only at hSw)
          go_simp
        try simp only [Act.put, List.setIfInBounds_toArray, List.set_cons_zero, List.set_cons_succ]
        refine wpAnyH_take (i := 2) (oi := { dst := some 28, op := Op.load 26 (Operand.tmp 3), type := 26, pos := "fhist.go:113", after := #[], guard := none }) (v := .agg #[.int .i64 b.s, .int .u64 b.z, .int .u64 b.zc, .int .u64 b.c, .int .u64 b.sm, .slice po2 b.P.length pc2, .slice no2 b.N.length nc2, .slice qo2 b.pd.length qc2, .slice ro2 b.nd.length rc2]) rfl (by kernel_rfl) (by kernel_rfl) (by kernel_rfl) (fun _ _ _ h => h) (Or.inl ⟨by rfl, ?_⟩) (by assumption) ?_
        · intro w hSw
          (try dsimp only at hSw)
          go_simp
        try simp only [Act.put, List.setIfInBounds_toArray, List.set_cons_zero, List.set_cons_succ]
        refine wpAnyH_ready (rs := [1]) (by kernel_rfl) (by simp) ?_
        refine AllReadyH.cons (o := { dst := some 27, op := Op.call { callee := Callee.value (Operand.func 60), args := #[Operand.tmp 26], argTypes := #[26] }, type := 98, pos := "fhist.go:113", after := #[{ on := 0, ground := Ground.data }], guard := none }) rfl (fun K hK => ?_) AllReadyH.nil
        go_simp
        go_at_call 60; with_reducible refine (HNA.out _ F0).mono ?_; rintro e wa ⟨rfl, hfa⟩; have ka0 := hfa.cell_some c0 (by simp); have ka1 := hfa.cell_some c1 (by simp); have ka2 := hfa.cell_some c2 (by simp); have ka3 := hfa.cell_some c3 (by simp); have ka4 := hfa.cell_some c4 (by simp); have ka5 := hfa.cell_some c5 (by simp); have ka6 := hfa.cell_some c6 (by simp); have ka7 := hfa.cell_some c7 (by simp); have ka8 := hfa.cell_some c8 (by simp); have ma0 := hfa.cell_some d0 (by simp); have ma1 := hfa.cell_some d1 (by simp); have ma2 := hfa.cell_some d2 (by simp); have ma3 := hfa.cell_some d3 (by simp); have ma4 := hfa.cell_some d4 (by simp); have ma5 := hfa.cell_some d5 (by simp); have ma6 := hfa.cell_some d6 (by simp); have ma7 := hfa.cell_some d7 (by simp); have ma8 := hfa.cell_some d8 (by simp)
        refine hK.out _ _ ?_ (fun hS1 => ?_)
        · (try dsimp only)
          go_keep
        clear hK K
        refine wpAnyH_ready (rs := [3]) (by kernel_rfl) (by simp) ?_
        refine AllReadyH.cons (o := { dst := some 29, op := Op.call { callee := Callee.value (Operand.func 60), args := #[Operand.tmp 28], argTypes := #[26] }, type := 98, pos := "fhist.go:113", after := #[{ on := 2, ground := Ground.data }, { on := 1, ground := Ground.chain }], guard := none }) rfl (fun K hK => ?_) AllReadyH.nil
        go_simp
        go_at_call 60; with_reducible refine (HNB.out _ hfa).mono ?_; rintro e wb ⟨rfl, hfb⟩; have kb0 := hfb.cell_some c0 (by simp); have kb1 := hfb.cell_some c1 (by simp); have kb2 := hfb.cell_some c2 (by simp); have kb3 := hfb.cell_some c3 (by simp); have kb4 := hfb.cell_some c4 (by simp); have kb5 := hfb.cell_some c5 (by simp); have kb6 := hfb.cell_some c6 (by simp); have kb7 := hfb.cell_some c7 (by simp); have kb8 := hfb.cell_some c8 (by simp); have mb0 := hfb.cell_some d0 (by simp); have mb1 := hfb.cell_some d1 (by simp); have mb2 := hfb.cell_some d2 (by simp); have mb3 := hfb.cell_some d3 (by simp); have mb4 := hfb.cell_some d4 (by simp); have mb5 := hfb.cell_some d5 (by simp); have mb6 := hfb.cell_some d6 (by simp); have mb7 := hfb.cell_some d7 (by simp); have mb8 := hfb.cell_some d8 (by simp)
        refine hK.out _ _ ?_ (fun hS2 => ?_)
        · (try dsimp only)
          go_keep
        clear hK K
        refine wpAnyH_take (i := 4) (oi := { dst := some 30, op := Op.binOp BinOp.eql 98 (Operand.tmp 27) (Operand.tmp 29) 98, type := 4, pos := "fhist.go:113", after := #[{ on := 1, ground := Ground.data }, { on := 3, ground := Ground.data }], guard := none }) (v := .bool true) rfl (by kernel_rfl) (by kernel_rfl) (by kernel_rfl) (fun _ _ _ h => h) (Or.inl ⟨by rfl, ?_⟩) (by assumption) ?_
        · intro w hSw
          (try dsimp only at hSw)
          go_simp
        try simp only [Act.put, List.setIfInBounds_toArray, List.set_cons_zero, List.set_cons_succ]
        refine wpAnyH_take (i := 5) (oi := { dst := some 31, op := Op.move (Operand.tmp 30), type := 4, pos := "fhist.go:113", after := #[{ on := 4, ground := Ground.data }, { on := 3, ground := Ground.chain }], guard := none }) (v := .bool true) rfl (by kernel_rfl) (by kernel_rfl) (by kernel_rfl) (fun _ _ _ h => h) (Or.inl ⟨by rfl, ?_⟩) (by assumption) ?_
        · intro w hSw
          (try dsimp only at hSw)
          go_simp
        try simp only [Act.put, List.setIfInBounds_toArray, List.set_cons_zero, List.set_cons_succ]
        refine wpAnyH_take (i := 6) (oi := { dst := some 32, op := Op.move (Operand.tmp 5), type := 38, pos := "fhist.go:113", after := #[{ on := 5, ground := Ground.guard }], guard := some (5, true) }) (v := x) rfl (by kernel_rfl) (by kernel_rfl) (by kernel_rfl) (fun _ _ _ h => h) (Or.inl ⟨by rfl, ?_⟩) (by assumption) ?_
        · intro w hSw
          (try dsimp only at hSw)
          go_simp
        try simp only [Act.put, List.setIfInBounds_toArray, List.set_cons_zero, List.set_cons_succ]
        refine wpAnyH_take (i := 8) (oi := { dst := some 34, op := Op.move (Operand.tmp 8), type := 38, pos := "fhist.go:113", after := #[{ on := 5, ground := Ground.guard }], guard := some (5, true) }) (v := x2) rfl (by kernel_rfl) (by kernel_rfl) (by kernel_rfl) (fun _ _ _ h => h) (Or.inl ⟨by rfl, ?_⟩) (by assumption) ?_
        · intro w hSw
          (try dsimp only at hSw)
          go_simp
        try simp only [Act.put, List.setIfInBounds_toArray, List.set_cons_zero, List.set_cons_succ]
        refine wpAnyH_ready (rs := [7]) (by kernel_rfl) (by simp) ?_
        refine AllReadyH.cons (o := { dst := some 33, op := Op.call { callee := Callee.value (Operand.func 58), args := #[Operand.tmp 32, Operand.const (Value.int IntKind.u64 0)], argTypes := #[38, 22] }, type := 38, pos := "fhist.go:114", after := #[{ on := 6, ground := Ground.data }, { on := 5, ground := Ground.chain }, { on := 5, ground := Ground.guard }], guard := some (5, true) }) rfl (fun K hK => ?_) AllReadyH.nil
        go_simp
        go_at_call 58; with_reducible refine (HWP.out _ hfb x PA HX1.out HL.out.1).mono ?_; rintro e wc ⟨t3, rfl, ht3, hgc, hfc⟩; have kc0 := hfc.cell_some c0 (by simp); have kc1 := hfc.cell_some c1 (by simp); have kc2 := hfc.cell_some c2 (by simp); have kc3 := hfc.cell_some c3 (by simp); have kc4 := hfc.cell_some c4 (by simp); have kc5 := hfc.cell_some c5 (by simp); have kc6 := hfc.cell_some c6 (by simp); have kc7 := hfc.cell_some c7 (by simp); have kc8 := hfc.cell_some c8 (by simp); have mc0 := hfc.cell_some d0 (by simp); have mc1 := hfc.cell_some d1 (by simp); have mc2 := hfc.cell_some d2 (by simp); have mc3 := hfc.cell_some d3 (by simp); have mc4 := hfc.cell_some d4 (by simp); have mc5 := hfc.cell_some d5 (by simp); have mc6 := hfc.cell_some d6 (by simp); have mc7 := hfc.cell_some d7 (by simp); have mc8 := hfc.cell_some d8 (by simp)
        refine hK.out _ _ ?_ (fun hS3 => ?_)
        · (try dsimp only)
          go_keep
        clear hK K
        refine wpAnyH_ready (rs := [9]) (by kernel_rfl) (by simp) ?_
        refine AllReadyH.cons (o := { dst := some 35, op := Op.call { callee := Callee.value (Operand.func 58), args := #[Operand.tmp 34, Operand.const (Value.int IntKind.u64 0)], argTypes := #[38, 22] }, type := 38, pos := "fhist.go:114", after := #[{ on := 8, ground := Ground.data }, { on := 7, ground := Ground.chain }, { on := 5, ground := Ground.guard }], guard := some (5, true) }) rfl (fun K hK => ?_) AllReadyH.nil
        go_simp
        go_at_call 58; with_reducible refine (HWP.out _ hfc x2 PB HX2.out HL.out.2.2.1).mono ?_; rintro e wd ⟨t4, rfl, ht4, hgd, hfd⟩; have kd0 := hfd.cell_some c0 (by simp); have kd1 := hfd.cell_some c1 (by simp); have kd2 := hfd.cell_some c2 (by simp); have kd3 := hfd.cell_some c3 (by simp); have kd4 := hfd.cell_some c4 (by simp); have kd5 := hfd.cell_some c5 (by simp); have kd6 := hfd.cell_some c6 (by simp); have kd7 := hfd.cell_some c7 (by simp); have kd8 := hfd.cell_some c8 (by simp); have md0 := hfd.cell_some d0 (by simp); have md1 := hfd.cell_some d1 (by simp); have md2 := hfd.cell_some d2 (by simp); have md3 := hfd.cell_some d3 (by simp); have md4 := hfd.cell_some d4 (by simp); have md5 := hfd.cell_some d5 (by simp); have md6 := hfd.cell_some d6 (by simp); have md7 := hfd.cell_some d7 (by simp); have md8 := hfd.cell_some d8 (by simp)
        refine hK.out _ _ ?_ (fun hS4 => ?_)
        · (try dsimp only)
          go_keep
        clear hK K
        refine wpAnyH_ready (rs := [10]) (by kernel_rfl) (by simp) ?_
        refine AllReadyH.cons (o := { dst := some 36, op := Op.call { callee := Callee.value (Operand.func 61), args := #[Operand.tmp 33, Operand.tmp 35], argTypes := #[38, 38] }, type := 4, pos := "fhist.go:114", after := #[{ on := 7, ground := Ground.data }, { on := 9, ground := Ground.data }, { on := 9, ground := Ground.chain }, { on := 5, ground := Ground.guard }], guard := some (5, true) }) rfl (fun K hK => ?_) AllReadyH.nil
        go_simp
        go_at_call 61; with_reducible refine (HEP.out _ hfd t3 t4 _ _ ((ht3.src (wioU_in HI.out.1)).kept hgd) (ht4.src (wioU_in HI.out.2.2.1))).mono ?_; rintro e we ⟨rfl, hfe⟩; have ke0 := hfe.cell_some c0 (by simp); have ke1 := hfe.cell_some c1 (by simp); have ke2 := hfe.cell_some c2 (by simp); have ke3 := hfe.cell_some c3 (by simp); have ke4 := hfe.cell_some c4 (by simp); have ke5 := hfe.cell_some c5 (by simp); have ke6 := hfe.cell_some c6 (by simp); have ke7 := hfe.cell_some c7 (by simp); have ke8 := hfe.cell_some c8 (by simp); have me0 := hfe.cell_some d0 (by simp); have me1 := hfe.cell_some d1 (by simp); have me2 := hfe.cell_some d2 (by simp); have me3 := hfe.cell_some d3 (by simp); have me4 := hfe.cell_some d4 (by simp); have me5 := hfe.cell_some d5 (by simp); have me6 := hfe.cell_some d6 (by simp); have me7 := hfe.cell_some d7 (by simp); have me8 := hfe.cell_some d8 (by simp)
        refine hK.out _ _ ?_ (fun hS5 => ?_)
        · (try dsimp only)
          go_keep
        clear hK K
        refine wpAnyH_take (i := 11) (oi := { dst := some 37, op := Op.pick (Operand.tmp 31) (Operand.tmp 36) (Operand.const (Value.bool false)), type := 4, pos := "fhist.go:113", after := #[{ on := 5, ground := Ground.data }, { on := 10, ground := Ground.data }], guard := none }) (v := .bool false) rfl (by kernel_rfl) (by kernel_rfl) (by kernel_rfl) (fun _ _ _ h => h) (Or.inl ⟨by rfl, ?_⟩) (by assumption) ?_
        · intro w hSw
          (try dsimp only at hSw)
          go_simp
        try simp only [Act.put, List.setIfInBounds_toArray, List.set_cons_zero, List.set_cons_succ]
        refine wpAnyH_take (i := 12) (oi := { dst := some 38, op := Op.move (Operand.tmp 37), type := 4, pos := "fhist.go:113", after := #[{ on := 11, ground := Ground.data }, { on := 10, ground := Ground.chain }], guard := none }) (v := .bool false) rfl (by kernel_rfl) (by kernel_rfl) (by kernel_rfl) (fun _ _ _ h => h) (Or.inl ⟨by rfl, ?_⟩) (by assumption) ?_
        · intro w hSw
          (try dsimp only at hSw)
          go_simp
        try simp only [Act.put, List.setIfInBounds_toArray, List.set_cons_zero, List.set_cons_succ]
        refine wpAnyH_take (i := 13) (oi := { dst := some 39, op := Op.move (Operand.tmp 6), type := 38, pos := "fhist.go:113", after := #[{ on := 12, ground := Ground.guard }], guard := some (12, true) }) (v := undef) rfl (by kernel_rfl) (by kernel_rfl) (by kernel_rfl) (fun _ _ _ h => h) (Or.inr ⟨by rfl, rfl⟩) (by assumption) ?_
        try simp only [Act.put, List.setIfInBounds_toArray, List.set_cons_zero, List.set_cons_succ]
        refine wpAnyH_take (i := 14) (oi := { dst := some 40, op := Op.call { callee := Callee.value (Operand.func 58), args := #[Operand.tmp 39, Operand.const (Value.int IntKind.u64 0)], argTypes := #[38, 22] }, type := 38, pos := "fhist.go:115", after := #[{ on := 13, ground := Ground.data }, { on := 12, ground := Ground.chain }, { on := 12, ground := Ground.guard }], guard := some (12, true) }) (v := undef) rfl (by kernel_rfl) (by kernel_rfl) (by kernel_rfl) (fun _ _ _ h => h) (Or.inr ⟨by rfl, rfl⟩) (by assumption) ?_
        try simp only [Act.put, List.setIfInBounds_toArray, List.set_cons_zero, List.set_cons_succ]
        refine wpAnyH_take (i := 15) (oi := { dst := some 41, op := Op.move (Operand.tmp 9), type := 38, pos := "fhist.go:113", after := #[{ on := 12, ground := Ground.guard }], guard := some (12, true) }) (v := undef) rfl (by kernel_rfl) (by kernel_rfl) (by kernel_rfl) (fun _ _ _ h => h) (Or.inr ⟨by rfl, rfl⟩) (by assumption) ?_
        try simp only [Act.put, List.setIfInBounds_toArray, List.set_cons_zero, List.set_cons_succ]
        refine wpAnyH_take (i := 16) (oi := { dst := some 42, op := Op.call { callee := Callee.value (Operand.func 58), args := #[Operand.tmp 41, Operand.const (Value.int IntKind.u64 0)], argTypes := #[38, 22] }, type := 38, pos := "fhist.go:115", after := #[{ on := 15, ground := Ground.data }, { on := 14, ground := Ground.chain }, { on := 12, ground := Ground.guard }], guard := some (12, true) }) (v := undef) rfl (by kernel_rfl) (by kernel_rfl) (by kernel_rfl) (fun _ _ _ h => h) (Or.inr ⟨by rfl, rfl⟩) (by assumption) ?_
        try simp only [Act.put, List.setIfInBounds_toArray, List.set_cons_zero, List.set_cons_succ]
        refine wpAnyH_take (i := 17) (oi := { dst := some 43, op := Op.call { callee := Callee.value (Operand.func 61), args := #[Operand.tmp 40, Operand.tmp 42], argTypes := #[38, 38] }, type := 4, pos := "fhist.go:115", after := #[{ on := 14, ground := Ground.data }, { on := 16, ground := Ground.data }, { on := 16, ground := Ground.chain }, { on := 12, ground := Ground.guard }], guard := some (12, true) }) (v := undef) rfl (by kernel_rfl) (by kernel_rfl) (by kernel_rfl) (fun _ _ _ h => h) (Or.inr ⟨by rfl, rfl⟩) (by assumption) ?_
        try simp only [Act.put, List.setIfInBounds_toArray, List.set_cons_zero, List.set_cons_succ]
        refine wpAnyH_take (i := 18) (oi := { dst := some 44, op := Op.pick (Operand.tmp 38) (Operand.tmp 43) (Operand.const (Value.bool false)), type := 4, pos := "fhist.go:113", after := #[{ on := 12, ground := Ground.data }, { on := 17, ground := Ground.data }], guard := none }) (v := .bool false) rfl (by kernel_rfl) (by kernel_rfl) (by kernel_rfl) (fun _ _ _ h => h) (Or.inl ⟨by rfl, ?_⟩) (by assumption) ?_
        · intro w hSw
          (try dsimp only at hSw)
          go_simp
        try simp only [Act.put, List.setIfInBounds_toArray, List.set_cons_zero, List.set_cons_succ]
        refine wpAnyH_take (i := 19) (oi := { dst := some 4, op := Op.assign (Operand.tmp 44), type := 4, pos := "fhist.go:113", after := #[{ on := 18, ground := Ground.data }, { on := 17, ground := Ground.chain }, { on := 0, ground := Ground.phase }, { on := 1, ground := Ground.phase }, { on := 2, ground := Ground.phase }, { on := 3, ground := Ground.phase }, { on := 4, ground := Ground.phase }, { on := 5, ground := Ground.phase }, { on := 6, ground := Ground.phase }, { on := 7, ground := Ground.phase }, { on := 8, ground := Ground.phase }, { on := 9, ground := Ground.phase }, { on := 10, ground := Ground.phase }, { on := 11, ground := Ground.phase }, { on := 12, ground := Ground.phase }, { on := 13, ground := Ground.phase }, { on := 14, ground := Ground.phase }, { on := 15, ground := Ground.phase }, { on := 16, ground := Ground.phase }, { on := 17, ground := Ground.phase }, { on := 18, ground := Ground.phase }], guard := none }) (v := .bool false) rfl (by kernel_rfl) (by kernel_rfl) (by kernel_rfl) (fun _ _ _ h => h) (Or.inl ⟨by rfl, ?_⟩) (by assumption) ?_
        · intro w hSw
          (try dsimp only at hSw)
          go_simp
        try simp only [Act.put, List.setIfInBounds_toArray, List.set_cons_zero, List.set_cons_succ]
        refine wpAnyH_done (by kernel_rfl) ?_ _
        refine NoPanic.normal ?_
        have HFE : Hid (Fr [] w we) := HF2.out.trans hfe (by simp)
        go_wp2
        go_ret
        exact ⟨by rw [HQ.out, HE2.out]; rfl, HFE.out⟩
      have HK5 : Hid (wio PA 0 = wio PB 0) := k5
      have hd5 := decide_eq_true k5
      clear k5
      have HR : Hid (R = decide (wio NA 0 = wio NB 0)) := by
        by_cases k6 : wio NA 0 = wio NB 0
        · rw [Hid, decide_eq_true k6]; exact HYES.out HKN.out HK5.out k6
        · rw [Hid, decide_eq_false k6]; exact HNO.out (fun k => k6 k.2.2.2.2.2.2)
      go_wp2_with fail
      have hmx : Try.prog.follows .mixedOrders = true := by kernel_rfl
      refine wp_region_noPanic ?_
      refine wp_region_held_drew (S := fun w' => w'.cell? ⟨w.heap.size, 0, none⟩ = some (.int .i64 a.s) ∧ w'.cell? ⟨w.heap.size, 1, none⟩ = some (.int .u64 a.z) ∧ w'.cell? ⟨w.heap.size, 2, none⟩ = some (.int .u64 a.zc) ∧ w'.cell? ⟨w.heap.size, 3, none⟩ = some (.int .u64 a.c) ∧ w'.cell? ⟨w.heap.size, 4, none⟩ = some (.int .u64 a.sm) ∧ w'.cell? ⟨w.heap.size, 5, none⟩ = some (.slice po a.P.length pc) ∧ w'.cell? ⟨w.heap.size, 6, none⟩ = some (.slice no a.N.length nc) ∧ w'.cell? ⟨w.heap.size, 7, none⟩ = some (.slice qo a.pd.length qc) ∧ w'.cell? ⟨w.heap.size, 8, none⟩ = some (.slice ro a.nd.length rc) ∧ w'.cell? ⟨w.heap.size + 1, 0, none⟩ = some (.int .i64 b.s) ∧ w'.cell? ⟨w.heap.size + 1, 1, none⟩ = some (.int .u64 b.z) ∧ w'.cell? ⟨w.heap.size + 1, 2, none⟩ = some (.int .u64 b.zc) ∧ w'.cell? ⟨w.heap.size + 1, 3, none⟩ = some (.int .u64 b.c) ∧ w'.cell? ⟨w.heap.size + 1, 4, none⟩ = some (.int .u64 b.sm) ∧ w'.cell? ⟨w.heap.size + 1, 5, none⟩ = some (.slice po2 b.P.length pc2) ∧ w'.cell? ⟨w.heap.size + 1, 6, none⟩ = some (.slice no2 b.N.length nc2) ∧ w'.cell? ⟨w.heap.size + 1, 7, none⟩ = some (.slice qo2 b.pd.length qc2) ∧ w'.cell? ⟨w.heap.size + 1, 8, none⟩ = some (.slice ro2 b.nd.length rc2)) hmx ?_ (fun hS0 => ?_)
      · (try dsimp only)
        go_keep
      refine wpAnyH_take (i := 0) (oi := { dst := some 26, op := Op.load 26 (Operand.tmp 2), type := 26, pos := "fhist.go:113", after := #[], guard := none }) (v := .agg #[.int .i64 a.s, .int .u64 a.z, .int .u64 a.zc, .int .u64 a.c, .int .u64 a.sm, .slice po a.P.length pc, .slice no a.N.length nc, .slice qo a.pd.length qc, .slice ro a.nd.length rc]) rfl (by kernel_rfl) (by kernel_rfl) (by kernel_rfl) (fun _ _ _ h => h) (Or.inl ⟨by rfl, ?_⟩) (by assumption) ?_
      · intro w hSw
        (try dsimp only at hSw)
        go_simp
      try simp only [Act.put, List.setIfInBounds_toArray, List.set_cons_zero, List.set_cons_succ]
      refine wpAnyH_take (i := 2) (oi := { dst := some 28, op := Op.load 26 (Operand.tmp 3), type := 26, pos := "fhist.go:113", after := #[], guard := none }) (v := .agg #[.int .i64 b.s, .int .u64 b.z, .int .u64 b.zc, .int .u64 b.c, .int .u64 b.sm, .slice po2 b.P.length pc2, .slice no2 b.N.length nc2, .slice qo2 b.pd.length qc2, .slice ro2 b.nd.length rc2]) rfl (by kernel_rfl) (by kernel_rfl) (by kernel_rfl) (fun _ _ _ h => h) (Or.inl ⟨by rfl, ?_⟩) (by assumption) ?_
      · intro w hSw
        (try dsimp only at hSw)
        go_simp
      try simp only [Act.put, List.setIfInBounds_toArray, List.set_cons_zero, List.set_cons_succ]
      refine wpAnyH_ready (rs := [1]) (by kernel_rfl) (by simp) ?_
      refine AllReadyH.cons (o := { dst := some 27, op := Op.call { callee := Callee.value (Operand.func 60), args := #[Operand.tmp 26], argTypes := #[26] }, type := 98, pos := "fhist.go:113", after := #[{ on := 0, ground := Ground.data }], guard := none }) rfl (fun K hK => ?_) AllReadyH.nil
      go_simp
      go_at_call 60; with_reducible refine (HNA.out _ F0).mono ?_; rintro e wa ⟨rfl, hfa⟩; have ka0 := hfa.cell_some c0 (by simp); have ka1 := hfa.cell_some c1 (by simp); have ka2 := hfa.cell_some c2 (by simp); have ka3 := hfa.cell_some c3 (by simp); have ka4 := hfa.cell_some c4 (by simp); have ka5 := hfa.cell_some c5 (by simp); have ka6 := hfa.cell_some c6 (by simp); have ka7 := hfa.cell_some c7 (by simp); have ka8 := hfa.cell_some c8 (by simp); have ma0 := hfa.cell_some d0 (by simp); have ma1 := hfa.cell_some d1 (by simp); have ma2 := hfa.cell_some d2 (by simp); have ma3 := hfa.cell_some d3 (by simp); have ma4 := hfa.cell_some d4 (by simp); have ma5 := hfa.cell_some d5 (by simp); have ma6 := hfa.cell_some d6 (by simp); have ma7 := hfa.cell_some d7 (by simp); have ma8 := hfa.cell_some d8 (by simp)
      refine hK.out _ _ ?_ (fun hS1 => ?_)
      · (try dsimp only)
        go_keep
      clear hK K
      refine wpAnyH_ready (rs := [3]) (by kernel_rfl) (by simp) ?_
      refine AllReadyH.cons (o := { dst := some 29, op := Op.call { callee := Callee.value (Operand.func 60), args := #[Operand.tmp 28], argTypes := #[26] }, type := 98, pos := "fhist.go:113", after := #[{ on := 2, ground := Ground.data }, { on := 1, ground := Ground.chain }], guard := none }) rfl (fun K hK => ?_) AllReadyH.nil
      go_simp
      go_at_call 60; with_reducible refine (HNB.out _ hfa).mono ?_; rintro e wb ⟨rfl, hfb⟩; have kb0 := hfb.cell_some c0 (by simp); have kb1 := hfb.cell_some c1 (by simp); have kb2 := hfb.cell_some c2 (by simp); have kb3 := hfb.cell_some c3 (by simp); have kb4 := hfb.cell_some c4 (by simp); have kb5 := hfb.cell_some c5 (by simp); have kb6 := hfb.cell_some c6 (by simp); have kb7 := hfb.cell_some c7 (by simp); have kb8 := hfb.cell_some c8 (by simp); have mb0 := hfb.cell_some d0 (by simp); have mb1 := hfb.cell_some d1 (by simp); have mb2 := hfb.cell_some d2 (by simp); have mb3 := hfb.cell_some d3 (by simp); have mb4 := hfb.cell_some d4 (by simp); have mb5 := hfb.cell_some d5 (by simp); have mb6 := hfb.cell_some d6 (by simp); have mb7 := hfb.cell_some d7 (by simp); have mb8 := hfb.cell_some d8 (by simp)
      refine hK.out _ _ ?_ (fun hS2 => ?_)
      · (try dsimp only)
        go_keep
      clear hK K
      refine wpAnyH_take (i := 4) (oi := { dst := some 30, op := Op.binOp BinOp.eql 98 (Operand.tmp 27) (Operand.tmp 29) 98, type := 4, pos := "fhist.go:113", after := #[{ on := 1, ground := Ground.data }, { on := 3, ground := Ground.data }], guard := none }) (v := .bool true) rfl (by kernel_rfl) (by kernel_rfl) (by kernel_rfl) (fun _ _ _ h => h) (Or.inl ⟨by rfl, ?_⟩) (by assumption) ?_
      · intro w hSw
        (try dsimp only at hSw)
        go_simp
      try simp only [Act.put, List.setIfInBounds_toArray, List.set_cons_zero, List.set_cons_succ]
      refine wpAnyH_take (i := 5) (oi := { dst := some 31, op := Op.move (Operand.tmp 30), type := 4, pos := "fhist.go:113", after := #[{ on := 4, ground := Ground.data }, { on := 3, ground := Ground.chain }], guard := none }) (v := .bool true) rfl (by kernel_rfl) (by kernel_rfl) (by kernel_rfl) (fun _ _ _ h => h) (Or.inl ⟨by rfl, ?_⟩) (by assumption) ?_
      · intro w hSw
        (try dsimp only at hSw)
        go_simp
      try simp only [Act.put, List.setIfInBounds_toArray, List.set_cons_zero, List.set_cons_succ]
      refine wpAnyH_take (i := 6) (oi := { dst := some 32, op := Op.move (Operand.tmp 5), type := 38, pos := "fhist.go:113", after := #[{ on := 5, ground := Ground.guard }], guard := some (5, true) }) (v := x) rfl (by kernel_rfl) (by kernel_rfl) (by kernel_rfl) (fun _ _ _ h => h) (Or.inl ⟨by rfl, ?_⟩) (by assumption) ?_
      · intro w hSw
        (try dsimp only at hSw)
        go_simp
      try simp only [Act.put, List.setIfInBounds_toArray, List.set_cons_zero, List.set_cons_succ]
      refine wpAnyH_take (i := 8) (oi := { dst := some 34, op := Op.move (Operand.tmp 8), type := 38, pos := "fhist.go:113", after := #[{ on := 5, ground := Ground.guard }], guard := some (5, true) }) (v := x2) rfl (by kernel_rfl) (by kernel_rfl) (by kernel_rfl) (fun _ _ _ h => h) (Or.inl ⟨by rfl, ?_⟩) (by assumption) ?_
      · intro w hSw
        (try dsimp only at hSw)
        go_simp
      try simp only [Act.put, List.setIfInBounds_toArray, List.set_cons_zero, List.set_cons_succ]
      refine wpAnyH_ready (rs := [7]) (by kernel_rfl) (by simp) ?_
      refine AllReadyH.cons (o := { dst := some 33, op := Op.call { callee := Callee.value (Operand.func 58), args := #[Operand.tmp 32, Operand.const (Value.int IntKind.u64 0)], argTypes := #[38, 22] }, type := 38, pos := "fhist.go:114", after := #[{ on := 6, ground := Ground.data }, { on := 5, ground := Ground.chain }, { on := 5, ground := Ground.guard }], guard := some (5, true) }) rfl (fun K hK => ?_) AllReadyH.nil
      go_simp
      go_at_call 58; with_reducible refine (HWP.out _ hfb x PA HX1.out HL.out.1).mono ?_; rintro e wc ⟨t3, rfl, ht3, hgc, hfc⟩; have kc0 := hfc.cell_some c0 (by simp); have kc1 := hfc.cell_some c1 (by simp); have kc2 := hfc.cell_some c2 (by simp); have kc3 := hfc.cell_some c3 (by simp); have kc4 := hfc.cell_some c4 (by simp); have kc5 := hfc.cell_some c5 (by simp); have kc6 := hfc.cell_some c6 (by simp); have kc7 := hfc.cell_some c7 (by simp); have kc8 := hfc.cell_some c8 (by simp); have mc0 := hfc.cell_some d0 (by simp); have mc1 := hfc.cell_some d1 (by simp); have mc2 := hfc.cell_some d2 (by simp); have mc3 := hfc.cell_some d3 (by simp); have mc4 := hfc.cell_some d4 (by simp); have mc5 := hfc.cell_some d5 (by simp); have mc6 := hfc.cell_some d6 (by simp); have mc7 := hfc.cell_some d7 (by simp); have mc8 := hfc.cell_some d8 (by simp)
      refine hK.out _ _ ?_ (fun hS3 => ?_)
      · (try dsimp only)
        go_keep
      clear hK K
      refine wpAnyH_ready (rs := [9]) (by kernel_rfl) (by simp) ?_
      refine AllReadyH.cons (o := { dst := some 35, op := Op.call { callee := Callee.value (Operand.func 58), args := #[Operand.tmp 34, Operand.const (Value.int IntKind.u64 0)], argTypes := #[38, 22] }, type := 38, pos := "fhist.go:114", after := #[{ on := 8, ground := Ground.data }, { on := 7, ground := Ground.chain }, { on := 5, ground := Ground.guard }], guard := some (5, true) }) rfl (fun K hK => ?_) AllReadyH.nil
      go_simp
      go_at_call 58; with_reducible refine (HWP.out _ hfc x2 PB HX2.out HL.out.2.2.1).mono ?_; rintro e wd ⟨t4, rfl, ht4, hgd, hfd⟩; have kd0 := hfd.cell_some c0 (by simp); have kd1 := hfd.cell_some c1 (by simp); have kd2 := hfd.cell_some c2 (by simp); have kd3 := hfd.cell_some c3 (by simp); have kd4 := hfd.cell_some c4 (by simp); have kd5 := hfd.cell_some c5 (by simp); have kd6 := hfd.cell_some c6 (by simp); have kd7 := hfd.cell_some c7 (by simp); have kd8 := hfd.cell_some c8 (by simp); have md0 := hfd.cell_some d0 (by simp); have md1 := hfd.cell_some d1 (by simp); have md2 := hfd.cell_some d2 (by simp); have md3 := hfd.cell_some d3 (by simp); have md4 := hfd.cell_some d4 (by simp); have md5 := hfd.cell_some d5 (by simp); have md6 := hfd.cell_some d6 (by simp); have md7 := hfd.cell_some d7 (by simp); have md8 := hfd.cell_some d8 (by simp)
      refine hK.out _ _ ?_ (fun hS4 => ?_)
      · (try dsimp only)
        go_keep
      clear hK K
      refine wpAnyH_ready (rs := [10]) (by kernel_rfl) (by simp) ?_
      refine AllReadyH.cons (o := { dst := some 36, op := Op.call { callee := Callee.value (Operand.func 61), args := #[Operand.tmp 33, Operand.tmp 35], argTypes := #[38, 38] }, type := 4, pos := "fhist.go:114", after := #[{ on := 7, ground := Ground.data }, { on := 9, ground := Ground.data }, { on := 9, ground := Ground.chain }, { on := 5, ground := Ground.guard }], guard := some (5, true) }) rfl (fun K hK => ?_) AllReadyH.nil
      go_simp
      go_at_call 61; with_reducible refine (HEP.out _ hfd t3 t4 _ _ ((ht3.src (wioU_in HI.out.1)).kept hgd) (ht4.src (wioU_in HI.out.2.2.1))).mono ?_; rintro e we ⟨rfl, hfe⟩; have ke0 := hfe.cell_some c0 (by simp); have ke1 := hfe.cell_some c1 (by simp); have ke2 := hfe.cell_some c2 (by simp); have ke3 := hfe.cell_some c3 (by simp); have ke4 := hfe.cell_some c4 (by simp); have ke5 := hfe.cell_some c5 (by simp); have ke6 := hfe.cell_some c6 (by simp); have ke7 := hfe.cell_some c7 (by simp); have ke8 := hfe.cell_some c8 (by simp); have me0 := hfe.cell_some d0 (by simp); have me1 := hfe.cell_some d1 (by simp); have me2 := hfe.cell_some d2 (by simp); have me3 := hfe.cell_some d3 (by simp); have me4 := hfe.cell_some d4 (by simp); have me5 := hfe.cell_some d5 (by simp); have me6 := hfe.cell_some d6 (by simp); have me7 := hfe.cell_some d7 (by simp); have me8 := hfe.cell_some d8 (by simp)
      refine hK.out _ _ ?_ (fun hS5 => ?_)
      · (try dsimp only)
        go_keep
      clear hK K
      refine wpAnyH_take (i := 11) (oi := { dst := some 37, op := Op.pick (Operand.tmp 31) (Operand.tmp 36) (Operand.const (Value.bool false)), type := 4, pos := "fhist.go:113", after := #[{ on := 5, ground := Ground.data }, { on := 10, ground := Ground.data }], guard := none }) (v := .bool true) rfl (by kernel_rfl) (by kernel_rfl) (by kernel_rfl) (fun _ _ _ h => h) (Or.inl ⟨by rfl, ?_⟩) (by assumption) ?_
      · intro w hSw
        (try dsimp only at hSw)
        go_simp
      try simp only [Act.put, List.setIfInBounds_toArray, List.set_cons_zero, List.set_cons_succ]
      refine wpAnyH_take (i := 12) (oi := { dst := some 38, op := Op.move (Operand.tmp 37), type := 4, pos := "fhist.go:113", after := #[{ on := 11, ground := Ground.data }, { on := 10, ground := Ground.chain }], guard := none }) (v := .bool true) rfl (by kernel_rfl) (by kernel_rfl) (by kernel_rfl) (fun _ _ _ h => h) (Or.inl ⟨by rfl, ?_⟩) (by assumption) ?_
      · intro w hSw
        (try dsimp only at hSw)
        go_simp
      try simp only [Act.put, List.setIfInBounds_toArray, List.set_cons_zero, List.set_cons_succ]
      refine wpAnyH_take (i := 13) (oi := { dst := some 39, op := Op.move (Operand.tmp 6), type := 38, pos := "fhist.go:113", after := #[{ on := 12, ground := Ground.guard }], guard := some (12, true) }) (v := y) rfl (by kernel_rfl) (by kernel_rfl) (by kernel_rfl) (fun _ _ _ h => h) (Or.inl ⟨by rfl, ?_⟩) (by assumption) ?_
      · intro w hSw
        (try dsimp only at hSw)
        go_simp
      try simp only [Act.put, List.setIfInBounds_toArray, List.set_cons_zero, List.set_cons_succ]
      refine wpAnyH_take (i := 15) (oi := { dst := some 41, op := Op.move (Operand.tmp 9), type := 38, pos := "fhist.go:113", after := #[{ on := 12, ground := Ground.guard }], guard := some (12, true) }) (v := y2) rfl (by kernel_rfl) (by kernel_rfl) (by kernel_rfl) (fun _ _ _ h => h) (Or.inl ⟨by rfl, ?_⟩) (by assumption) ?_
      · intro w hSw
        (try dsimp only at hSw)
        go_simp
      try simp only [Act.put, List.setIfInBounds_toArray, List.set_cons_zero, List.set_cons_succ]
      refine wpAnyH_ready (rs := [14]) (by kernel_rfl) (by simp) ?_
      refine AllReadyH.cons (o := { dst := some 40, op := Op.call { callee := Callee.value (Operand.func 58), args := #[Operand.tmp 39, Operand.const (Value.int IntKind.u64 0)], argTypes := #[38, 22] }, type := 38, pos := "fhist.go:115", after := #[{ on := 13, ground := Ground.data }, { on := 12, ground := Ground.chain }, { on := 12, ground := Ground.guard }], guard := some (12, true) }) rfl (fun K hK => ?_) AllReadyH.nil
      go_simp
      go_at_call 58; with_reducible refine (HWP.out _ hfe y NA HY1.out HL.out.2.1).mono ?_; rintro e wf ⟨t6, rfl, ht6, hgf, hff⟩; have kf0 := hff.cell_some c0 (by simp); have kf1 := hff.cell_some c1 (by simp); have kf2 := hff.cell_some c2 (by simp); have kf3 := hff.cell_some c3 (by simp); have kf4 := hff.cell_some c4 (by simp); have kf5 := hff.cell_some c5 (by simp); have kf6 := hff.cell_some c6 (by simp); have kf7 := hff.cell_some c7 (by simp); have kf8 := hff.cell_some c8 (by simp); have mf0 := hff.cell_some d0 (by simp); have mf1 := hff.cell_some d1 (by simp); have mf2 := hff.cell_some d2 (by simp); have mf3 := hff.cell_some d3 (by simp); have mf4 := hff.cell_some d4 (by simp); have mf5 := hff.cell_some d5 (by simp); have mf6 := hff.cell_some d6 (by simp); have mf7 := hff.cell_some d7 (by simp); have mf8 := hff.cell_some d8 (by simp)
      refine hK.out _ _ ?_ (fun hS6 => ?_)
      · (try dsimp only)
        go_keep
      clear hK K
      refine wpAnyH_ready (rs := [16]) (by kernel_rfl) (by simp) ?_
      refine AllReadyH.cons (o := { dst := some 42, op := Op.call { callee := Callee.value (Operand.func 58), args := #[Operand.tmp 41, Operand.const (Value.int IntKind.u64 0)], argTypes := #[38, 22] }, type := 38, pos := "fhist.go:115", after := #[{ on := 15, ground := Ground.data }, { on := 14, ground := Ground.chain }, { on := 12, ground := Ground.guard }], guard := some (12, true) }) rfl (fun K hK => ?_) AllReadyH.nil
      go_simp
      go_at_call 58; with_reducible refine (HWP.out _ hff y2 NB HY2.out HL.out.2.2.2).mono ?_; rintro e wg ⟨t7, rfl, ht7, hgg, hfg⟩; have kg0 := hfg.cell_some c0 (by simp); have kg1 := hfg.cell_some c1 (by simp); have kg2 := hfg.cell_some c2 (by simp); have kg3 := hfg.cell_some c3 (by simp); have kg4 := hfg.cell_some c4 (by simp); have kg5 := hfg.cell_some c5 (by simp); have kg6 := hfg.cell_some c6 (by simp); have kg7 := hfg.cell_some c7 (by simp); have kg8 := hfg.cell_some c8 (by simp); have mg0 := hfg.cell_some d0 (by simp); have mg1 := hfg.cell_some d1 (by simp); have mg2 := hfg.cell_some d2 (by simp); have mg3 := hfg.cell_some d3 (by simp); have mg4 := hfg.cell_some d4 (by simp); have mg5 := hfg.cell_some d5 (by simp); have mg6 := hfg.cell_some d6 (by simp); have mg7 := hfg.cell_some d7 (by simp); have mg8 := hfg.cell_some d8 (by simp)
      refine hK.out _ _ ?_ (fun hS7 => ?_)
      · (try dsimp only)
        go_keep
      clear hK K
      refine wpAnyH_ready (rs := [17]) (by kernel_rfl) (by simp) ?_
      refine AllReadyH.cons (o := { dst := some 43, op := Op.call { callee := Callee.value (Operand.func 61), args := #[Operand.tmp 40, Operand.tmp 42], argTypes := #[38, 38] }, type := 4, pos := "fhist.go:115", after := #[{ on := 14, ground := Ground.data }, { on := 16, ground := Ground.data }, { on := 16, ground := Ground.chain }, { on := 12, ground := Ground.guard }], guard := some (12, true) }) rfl (fun K hK => ?_) AllReadyH.nil
      go_simp
      go_at_call 61; with_reducible refine (HEP.out _ hfg t6 t7 _ _ ((ht6.src (wioU_in HI.out.2.1)).kept hgg) (ht7.src (wioU_in HI.out.2.2.2))).mono ?_; rintro e wh ⟨rfl, hfh⟩; have kh0 := hfh.cell_some c0 (by simp); have kh1 := hfh.cell_some c1 (by simp); have kh2 := hfh.cell_some c2 (by simp); have kh3 := hfh.cell_some c3 (by simp); have kh4 := hfh.cell_some c4 (by simp); have kh5 := hfh.cell_some c5 (by simp); have kh6 := hfh.cell_some c6 (by simp); have kh7 := hfh.cell_some c7 (by simp); have kh8 := hfh.cell_some c8 (by simp); have mh0 := hfh.cell_some d0 (by simp); have mh1 := hfh.cell_some d1 (by simp); have mh2 := hfh.cell_some d2 (by simp); have mh3 := hfh.cell_some d3 (by simp); have mh4 := hfh.cell_some d4 (by simp); have mh5 := hfh.cell_some d5 (by simp); have mh6 := hfh.cell_some d6 (by simp); have mh7 := hfh.cell_some d7 (by simp); have mh8 := hfh.cell_some d8 (by simp)
      refine hK.out _ _ ?_ (fun hS8 => ?_)
      · (try dsimp only)
        go_keep
      clear hK K
      refine wpAnyH_take (i := 18) (oi := { dst := some 44, op := Op.pick (Operand.tmp 38) (Operand.tmp 43) (Operand.const (Value.bool false)), type := 4, pos := "fhist.go:113", after := #[{ on := 12, ground := Ground.data }, { on := 17, ground := Ground.data }], guard := none }) (v := .bool (decide (wio NA 0 = wio NB 0))) rfl (by kernel_rfl) (by kernel_rfl) (by kernel_rfl) (fun _ _ _ h => h) (Or.inl ⟨by rfl, ?_⟩) (by assumption) ?_
      · intro w hSw
        (try dsimp only at hSw)
        go_simp
      try simp only [Act.put, List.setIfInBounds_toArray, List.set_cons_zero, List.set_cons_succ]
      refine wpAnyH_take (i := 19) (oi := { dst := some 4, op := Op.assign (Operand.tmp 44), type := 4, pos := "fhist.go:113", after := #[{ on := 18, ground := Ground.data }, { on := 17, ground := Ground.chain }, { on := 0, ground := Ground.phase }, { on := 1, ground := Ground.phase }, { on := 2, ground := Ground.phase }, { on := 3, ground := Ground.phase }, { on := 4, ground := Ground.phase }, { on := 5, ground := Ground.phase }, { on := 6, ground := Ground.phase }, { on := 7, ground := Ground.phase }, { on := 8, ground := Ground.phase }, { on := 9, ground := Ground.phase }, { on := 10, ground := Ground.phase }, { on := 11, ground := Ground.phase }, { on := 12, ground := Ground.phase }, { on := 13, ground := Ground.phase }, { on := 14, ground := Ground.phase }, { on := 15, ground := Ground.phase }, { on := 16, ground := Ground.phase }, { on := 17, ground := Ground.phase }, { on := 18, ground := Ground.phase }], guard := none }) (v := .bool (decide (wio NA 0 = wio NB 0))) rfl (by kernel_rfl) (by kernel_rfl) (by kernel_rfl) (fun _ _ _ h => h) (Or.inl ⟨by rfl, ?_⟩) (by assumption) ?_
      · intro w hSw
        (try dsimp only at hSw)
        go_simp
      try simp only [Act.put, List.setIfInBounds_toArray, List.set_cons_zero, List.set_cons_succ]
      refine wpAnyH_done (by kernel_rfl) ?_ _
      refine NoPanic.normal ?_
      have HFE : Hid (Fr [] w wh) := HF2.out.trans hfh (by simp)
      go_wp2
      go_ret
      exact ⟨by rw [HQ.out, HR.out]; rfl, HFE.out⟩
    · have HE : Hid (feq a b = false) := decide_eq_false (fun k => h0 k.2.1)
      clear h3 h6
      go_wp2
      go_ret
      exact ⟨by rw [HE.out]; rfl, HF2.out⟩
  · have HE : Hid (feq a b = false) := decide_eq_false (fun k => h0 k.1)
    go_wp2
    go_ret
    exact ⟨by rw [HE.out]; rfl, HF1.out⟩
end Go.Proofs.Ytoaibabkkphlaaa
