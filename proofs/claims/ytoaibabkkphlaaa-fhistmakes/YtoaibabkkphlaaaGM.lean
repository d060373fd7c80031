/-
  BigR, ArgsB.
-/
import Derived.Test.YtoaibabkkphlaaaGF
import Derived.SizedLaws
/-
  Histograms as great as what may come in: spans, ref.
-/
namespace Go.Proofs.Ytoaibabkkphlaaa
open Go.RowKit Mem Spans
set_option linter.unusedSimpArgs false
set_option linter.unusedVariables false
set_option maxRecDepth 100000

theorem run_append_spB {e t : TypeId} {i0 : TypeInfo} (ht : Try.prog.underlying t = some (.slice e)) (hi : Try.prog.info? e = some i0) (hz : i0.zero = some (.agg #[.int .i64 0, .int .i64 0])) (hs : i0.size = 2) (hb : i0.bytes = 16)
    {B : Nat} {w : World} {v u : Value} {l : List Sp} {s : Sp} (hB : B ≤ w.heap.size) (h : SOwn e B w v l) (h2 : SOwn e B w u [s]) (hl : (l.length + 1) * 16 ≤ 140737488355328) (ty : TypeId) :
    ∃ v' w', (Builtin.append_ #[t, t] ty #[v, u]).run Try.prog w = .ok v' w' ∧ SOwn e B w' v' (l ++ [s]) ∧ Below B w w' := by
  rcases h2 with ⟨h0, _⟩ | ⟨g, hg, hy, hrow⟩
  · simp at h0
  · have hr := hrow
    obtain ⟨c, rfl⟩ := hrow.val
    obtain ⟨v', w', e1, e2, e3, e4⟩ := run_append_own w B t ty e i0 _ 2 16 ht hi hz hs hb rfl (by decide) v l.length (spCells l) h.owns ⟨g, 0, none⟩ 1 c (spCells [s]) rfl
      (fun j x hj => by
        have hjl : j < (spCells [s]).length := (List.getElem?_eq_some_iff.1 hj).1
        rw [spCells_length] at hjl
        have e : (⟨g, 0, none⟩ : Addr).add j = ⟨g, j, none⟩ := by unfold Addr.add; split <;> simp_all
        rw [e, hr.cell j (by simpa using hjl), hj])
      (fun x hx => by
        simp [spCells] at hx
        rcases hx with rfl | rfl <;> rfl) (by unfold maxLen; omega) (by omega) hB
    refine ⟨v', w', e1, SOwn.of_owns ?_ ?_, (Below.refl B w).grown e3 hB h.block⟩
    · rw [spCells_append, List.length_append]; exact e2
    · rw [e4]
      constructor
      · rintro ⟨_, h0⟩; omega
      · intro h0; simp at h0

section
variable (w : World)
theorem wpList_append_spB {ops : Array Oper} {rest : List Oper} {o : Oper} {a : Act} {Q : Exit → Act → World → Prop} (hgd : o.guard = none) (sx x : Operand) (t : TypeId)
    (ho : o.op = .call { callee := .builtin .append, args := #[sx, x], argTypes := #[t, t] })
    {e : TypeId} {i0 : TypeInfo} (ht : Try.prog.underlying t = some (.slice e)) (hi : Try.prog.info? e = some i0) (hz : i0.zero = some (.agg #[.int .i64 0, .int .i64 0])) (hsz : i0.size = 2) (hb : i0.bytes = 16)
    {B : Nat} {v u : Value} {l : List Sp} {s : Sp} (hB : B ≤ w.heap.size) (hs : a.eval sx = v) (hx : a.eval x = u) (h1 : SOwn e B w v l) (h2 : SOwn e B w u [s]) (hl : (l.length + 1) * 16 ≤ 140737488355328)
    (h : ∀ v' w', SOwn e B w' v' (l ++ [s]) → Below B w w' → wpList Try.prog ops Q rest (a.put o.dst v') w') : wpList Try.prog ops Q (o :: rest) a w := by
  refine wpList_plain hgd fun _ hK => ?_
  obtain ⟨v', w', hr, h3, h4⟩ := run_append_spB ht hi hz hsz hb hB h1 h2 hl o.type
  unfold Oper.wp execOp
  simp only [ho, resolve, invoke, builtin, Sem.run_bind, Sem.run_pure, Result.andThen_ok, List.map_toArray, List.map_cons, List.map_nil, hs, hx, hr]
  exact hK _ _ (h v' w' h3 h4)
end

set_option maxHeartbeats 2000000 in
theorem spansB_any (v : Value) (l : List Sp) (w : World) (h : SSrc w v l) (hl : l.length * 16 ≤ 140737488351232) :
    Calls Try.prog 34 #[v] w fun e w' => ∃ u, e = .returned u ∧ SOwn 104 w.heap.size w' u l ∧ Fr [] w w' := by
  obtain ⟨ao, cap, rfl, hcap, hmax, h64, b, off, ha, hc⟩ := h
  have HC : Hid (∀ j s, l[j]? = some s → w.cell? ⟨b, off + j * 2, none⟩ = some (.int .i64 s.1) ∧ w.cell? ⟨b, off + j * 2 + 1, none⟩ = some (.int .i64 s.2)) := hc
  have HA : Hid (0 < l.length → ao = some ⟨b, off, none⟩) := ha
  obtain ⟨i0, hi, hz0, hz1, hz2⟩ := info_refspan
  have HI : Hid (Try.prog.info? 104 = some i0 ∧ i0.zero = some (.agg #[.int .i64 0, .int .i64 0]) ∧ i0.size = 2 ∧ i0.bytes = 16) := ⟨hi, hz0, hz1, hz2⟩
  clear hc ha h64 hi hz0 hz1 hz2
  go_enter Try.func34, Try.ntmps34
  go_wp2
  go_loopw [3, 8] (fun u i wr => ∃ (k : Nat), k ≤ l.length ∧ i = .int .i64 (k : Int) ∧ SOwn 104 w.heap.size wr u (l.take k) ∧ Fr [] w wr) (fun _ i _ => l.length - (intOf i).toNat)
  case atStart => exact ⟨0, by omega, rfl, .inl ⟨by simp, rfl⟩, Fr.refl _ _⟩
  case round =>
    obtain ⟨k, hk, rfl, hso, hf⟩ := hrel
    have HF : Hid (Fr [] w wr) := hf
    have HS : Hid (SOwn 104 w.heap.size wr u3 (l.take k)) := hso
    clear hf hso
    by_cases hlt : k < l.length
    · obtain rfl := HA.out (by omega)
      obtain ⟨s, hs⟩ := at_lt hlt
      have c0 : wr.cell? ⟨b, off + k * 2, none⟩ = some (.int .i64 s.1) := HF.out.cell_some (HC.out k s hs).1 (by simp)
      have c1 : wr.cell? ⟨b, off + k * 2 + 1, none⟩ = some (.int .i64 s.2) := HF.out.cell_some (HC.out k s hs).2 (by simp)
      have HT : Hid (l.take (k + 1) = l.take k ++ [s]) := take_at hs
      have HL : Hid (((l.take k).length + 1) * 16 ≤ 140737488355328) := by rw [Hid, List.length_take]; omega
      clear hs
      obtain ⟨o, n⟩ := s
      simp only at c0 c1
      have HSZ : Hid (w.heap.size ≤ wr.heap.size) := HF.out.size
      go_wp2_with (at_builtin; refine wpList_append_spB _ rfl _ _ 32 rfl Try.underlying32 HI.out.1 HI.out.2.1 HI.out.2.2.1 HI.out.2.2.2 (B := w.heap.size) (s := (o, n)) (by have := HSZ.out; simp; omega) rfl rfl (HS.out.kept (((Fr.refl [] _).alloc _).alloc _)) (lit_sp' 104 (wr.alloc _) [(o, n)] (World.size_alloc _ _) (by have := HSZ.out; omega) (by simp) (by unfold maxLen; simp)) HL.out ?_; intro v3 w3 ho3 hb3; have HO3 : Hid (SOwn 104 w.heap.size w3 v3 (l.take k ++ [(o, n)])) := ho3; have HB3 : Hid (Fr [] w w3) := Fr.ofBelow ((((HF.out.alloc _).alloc _).below (Nat.le_refl _) (by simp)).trans hb3); clear ho3 hb3)
      go_roundw
      case rel => exact ⟨k + 1, by omega, by go_num, by rw [HT.out]; exact HO3.out, HB3.out⟩
      case measure => simp [intOf]; omega
    · have HS2 : Hid (SOwn 104 w.heap.size wr u3 l) := by
        have := HS.out
        rw [List.take_of_length_le (by omega)] at this
        exact this
      clear HS
      go_wp2
      go_ret
      exact ⟨_, rfl, HS2.out, HF.out⟩

set_option maxHeartbeats 4000000 in
theorem frefB_any (v : Value) (h : Fs) (w : World) (hh : FSrc w v h) (hl : h.P.length * 16 ≤ 140737488351232 ∧ h.N.length * 16 ≤ 140737488351232) :
    Calls Try.prog 16 #[v] w fun e w' => ∃ u, e = .returned u ∧ FSrc w' u h ∧ Fr [] w w' := by
  obtain ⟨po, pc, no, nc, qo, qc, ro, rc, rfl, hin, hsr, _⟩ := hh.opens
  have HIN : Hid (in64 h.s ∧ inu h.z ∧ inu h.zc ∧ inu h.c ∧ inu h.sm) := hin
  have HSR : Hid (SSrc w (.slice po h.P.length pc) h.P ∧ SSrc w (.slice no h.N.length nc) h.N ∧ USrc w (.slice qo h.pd.length qc) h.pd ∧ USrc w (.slice ro h.nd.length rc) h.nd) := hsr
  have HL : Hid (h.P.length * 16 ≤ 140737488351232 ∧ h.N.length * 16 ≤ 140737488351232) := hl
  clear hh hin hsr hl
  go_enter Try.func16, Try.ntmps16
  obtain ⟨cs, hcs⟩ : ∃ cs : Array Value, cs = #[.int .i64 h.s, .int .u64 h.z, .int .u64 h.zc, .int .u64 h.c, .int .u64 h.sm, .slice po h.P.length pc, .slice no h.N.length nc, .slice qo h.pd.length qc, .slice ro h.nd.length rc] := ⟨_, rfl⟩
  have HA : Hid (∀ z, NineF ((w.alloc (.cells cs 26)).alloc (.cells z 34)) w.heap.size cs ∧ NineG ((w.alloc (.cells cs 26)).alloc (.cells z 34)) (w.heap.size + 1) z ∧ Fr [] w ((w.alloc (.cells cs 26)).alloc (.cells z 34))) := fun z => ⟨nineF_mid _ _ _, nineG_top _ _ _, ((Fr.refl [] w).alloc _).alloc _⟩
  subst hcs
  go_upto_region 1 with fail
  obtain ⟨hA3, hA6, hAF⟩ := HA.out #[.int .i64 0, .int .u64 0, .int .u64 0, .int .u64 0, .int .u64 0, .slice none 0 0, .slice none 0 0, .slice none 0 0, .slice none 0 0]
  clear HA
  generalize (w.alloc (.cells _ _)).alloc (.cells _ _) = wA at hA3 hA6 hAF ⊢
  have HSZ : Hid (w.heap.size + 1 < wA.heap.size) := lt_of_heap hA6
  have H6 : Hid (NineG wA (w.heap.size + 1) _) := hA6
  have HAF : Hid (Fr [] w wA) := hAF
  have c0 := hA3.cell 0 rfl
  have c1 := hA3.cell 1 rfl
  have c2 := hA3.cell 2 rfl
  have c3 := hA3.cell 3 rfl
  have c4 := hA3.cell 4 rfl
  have c5 := hA3.cell 5 rfl
  have c6 := hA3.cell 6 rfl
  have c7 := hA3.cell 7 rfl
  have c8 := hA3.cell 8 rfl
  clear hA3 hA6 hAF
  have HSP : Hid (∀ wx, Fr [] wA wx → Calls Try.prog 34 #[.slice po h.P.length pc] wx fun e w' => ∃ u, e = .returned u ∧ SOwn 104 wA.heap.size w' u h.P ∧ Fr [] wA w') := by
    intro wx hf
    refine (spansB_any _ h.P wx (HSR.out.1.kept (HAF.out.trans hf (by simp))) HL.out.1).mono ?_
    rintro e w' ⟨u, rfl, hu, hf'⟩
    exact ⟨u, rfl, hu.mono hf.size, hf.trans hf' (by simp)⟩
  have HSN : Hid (∀ wx, Fr [] wA wx → Calls Try.prog 34 #[.slice no h.N.length nc] wx fun e w' => ∃ u, e = .returned u ∧ SOwn 104 wA.heap.size w' u h.N ∧ Fr [] wA w' ∧ Fr [] wx w') := by
    intro wx hf
    refine (spansB_any _ h.N wx (HSR.out.2.1.kept (HAF.out.trans hf (by simp))) HL.out.2).mono ?_
    rintro e w' ⟨u, rfl, hu, hf'⟩
    exact ⟨u, rfl, hu.mono hf.size, hf.trans hf' (by simp), hf'⟩
  have F0 : Fr [] wA wA.drew := (Fr.refl _ _).drew
  go_region_held3 (fun w' => w'.cell? ⟨w.heap.size, 0, none⟩ = some (.int .i64 h.s) ∧ w'.cell? ⟨w.heap.size, 1, none⟩ = some (.int .u64 h.z) ∧ w'.cell? ⟨w.heap.size, 2, none⟩ = some (.int .u64 h.zc) ∧ w'.cell? ⟨w.heap.size, 3, none⟩ = some (.int .u64 h.c) ∧ w'.cell? ⟨w.heap.size, 4, none⟩ = some (.int .u64 h.sm) ∧ w'.cell? ⟨w.heap.size, 5, none⟩ = some (.slice po h.P.length pc) ∧ w'.cell? ⟨w.heap.size, 6, none⟩ = some (.slice no h.N.length nc) ∧ w'.cell? ⟨w.heap.size, 7, none⟩ = some (.slice qo h.pd.length qc) ∧ w'.cell? ⟨w.heap.size, 8, none⟩ = some (.slice ro h.nd.length rc)) (go_keep) (first
    | (go_at_call 34; with_reducible refine (HSP.out _ F0).mono ?_; rintro e wa ⟨ua, rfl, hua, hfa⟩; have ka0 := hfa.cell_some c0 (by simp); have ka1 := hfa.cell_some c1 (by simp); have ka2 := hfa.cell_some c2 (by simp); have ka3 := hfa.cell_some c3 (by simp); have ka4 := hfa.cell_some c4 (by simp); have ka5 := hfa.cell_some c5 (by simp); have ka6 := hfa.cell_some c6 (by simp); have ka7 := hfa.cell_some c7 (by simp); have ka8 := hfa.cell_some c8 (by simp))
    | (go_at_call 34; with_reducible refine (HSN.out _ hfa).mono ?_; rintro e wb ⟨ub, rfl, hub, hfb, hfab⟩; have kb0 := hfb.cell_some c0 (by simp); have kb1 := hfb.cell_some c1 (by simp); have kb2 := hfb.cell_some c2 (by simp); have kb3 := hfb.cell_some c3 (by simp); have kb4 := hfb.cell_some c4 (by simp); have kb5 := hfb.cell_some c5 (by simp); have kb6 := hfb.cell_some c6 (by simp); have kb7 := hfb.cell_some c7 (by simp); have kb8 := hfb.cell_some c8 (by simp); have h6 := H6.out.kept hfb (by simp); have d0 := h6.cell 0 rfl; have d1 := h6.cell 1 rfl; have d2 := h6.cell 2 rfl; have d3 := h6.cell 3 rfl; have d4 := h6.cell 4 rfl; have d5 := h6.cell 5 rfl; have d6 := h6.cell 6 rfl; have d7 := h6.cell 7 rfl; have d8 := h6.cell 8 rfl; have f0 := h6.frozen 0; have f1 := h6.frozen 1; have f2 := h6.frozen 2; have f3 := h6.frozen 3; have f4 := h6.frozen 4; have f5 := h6.frozen 5; have f6 := h6.frozen 6; have f7 := h6.frozen 7; have f8 := h6.frozen 8; obtain ⟨ua1, ua2, rfl⟩ := hua.val; obtain ⟨ub1, ub2, rfl⟩ := hub.val))
  have H6b : Hid (NineG wb (w.heap.size + 1) _) := h6
  have HUA : Hid (SOwn 104 wA.heap.size wb (.slice ua1 h.P.length ua2) h.P) := hua.kept hfab
  have HUB : Hid (SOwn 104 wA.heap.size wb (.slice ub1 h.N.length ub2) h.N) := hub
  have HFB : Hid (Fr [] w wb) := HAF.out.trans hfb (by simp)
  clear h6 hua hub hfb
  go_wp2
  refine bodyPost_ret (histG_res rfl _ _ (w.heap.size + 1) _ _ _ _ _ _ _ _ _ rfl (set9_nineG H6b.out _ _ _ _ _ _ _ _ _)) rfl ?_
  have hs9 := set9_fr (S := [w.heap.size + 1]) (g := w.heap.size + 1) (Fr.refl _ wb) (.inl (by simp)) (.int .i64 h.s) (.int .u64 h.z) (.int .u64 h.zc) (.int .u64 h.c) (.int .u64 h.sm) (.slice ua1 h.P.length ua2) (.slice ub1 h.N.length ub2) (.slice qo h.pd.length qc) (.slice ro h.nd.length rc)
  have hfw : Fr [] w (set9 wb (w.heap.size + 1) (.int .i64 h.s) (.int .u64 h.z) (.int .u64 h.zc) (.int .u64 h.c) (.int .u64 h.sm) (.slice ua1 h.P.length ua2) (.slice ub1 h.N.length ub2) (.slice qo h.pd.length qc) (.slice ro h.nd.length rc)) := set9_fr HFB.out (.inr (by simp)) _ _ _ _ _ _ _ _ _
  have hb : ∀ y ∈ [w.heap.size + 1], y < wA.heap.size := by have := HSZ.out; simp; omega
  have hp64 : ∀ s ∈ h.P, in64 s.1 ∧ in64 s.2 := by obtain ⟨_, _, _, _, _, h64, _⟩ := HSR.out.1; exact h64
  have hn64 : ∀ s ∈ h.N, in64 s.1 ∧ in64 s.2 := by obtain ⟨_, _, _, _, _, h64, _⟩ := HSR.out.2.1; exact h64
  exact ⟨_, rfl, ⟨_, _, _, _, rfl, HIN.out.1, HIN.out.2, (HUA.out.keptS hs9 hb).src hp64, (HUB.out.keptS hs9 hb).src hn64, HSR.out.2.2.1.kept hfw, HSR.out.2.2.2.kept hfw⟩, hfw⟩
end Go.Proofs.Ytoaibabkkphlaaa

/-
  Histograms that came in: none of their spans is greater than what may come in.
-/
namespace Go.Proofs.Ytoaibabkkphlaaa
open Go.RowKit Mem Spans
open Go.ChangeShapes Go.WideShapes Go.ChangeAt
set_option linter.unusedSimpArgs false
set_option linter.unusedVariables false
set_option maxRecDepth 100000

theorem bytes_span : Try.prog.bytesOf 95 = 16 := by kernel_rfl
theorem spansB_cell {H : Type} {enc : TypeId × Value → H} {W : World} {base n : Nat} {c : Value} {y : DataW H × List MemPlace}
    (h : DataW.trod enc Try.prog W base (fun _ => true) true n 23 [c] = some y) (hw : ∀ k ∈ y.1.weights Try.prog 23, k ≤ reachBytes) : ∃ l, SSrc W c l ∧ l.length * 16 ≤ 140737488351232 := by
  have h0 := h
  rcases Go.Deep.open_slice Try.underlying23 h with ⟨hcs, _⟩ | ⟨x, l, cp, m, n2, D, Pl, hcs, _, _, _, _, hy, _⟩
  · simp at hcs
    subst hcs
    exact ⟨[], SSrc.nil W, by simp⟩
  · simp at hcs
    subst hcs
    obtain ⟨z, hz⟩ := spans_of (a := some x) (len := l) (cap := cp) (d := y.1) (p := y.2) ⟨n, h0⟩
    refine ⟨z, hz.2, ?_⟩
    have hk := hw ((((List.range l).map D).length + ((List.range (m - l)).map fun j => D (l + j)).length) * Try.prog.bytesOf 95) (by rw [hy]; simp only [DataW.weights, Try.underlying23]; exact List.mem_cons_self)
    rw [bytes_span, List.length_map, List.length_map, List.length_range, List.length_range] at hk
    have hl := hz.1
    unfold reachBytes at hk
    omega
theorem fhistB_of {H : Type} {enc : TypeId × Value → H} {W : World} {base0 base : Nat} {v : Value} {d : DataW H} {p : List MemPlace}
    (hok : Value.okWide Try.prog W .any base0 26 v) (h : DataW.Trod enc Try.prog W base (fun _ => true) true 26 v d p) (hw : ∀ k ∈ d.weights Try.prog 26, k ≤ reachBytes) : ∃ z : Fs, FSrc W v z ∧ z.P.length * 16 ≤ 140737488351232 ∧ z.N.length * 16 ≤ 140737488351232 := by
  obtain ⟨cs, rfl, hsz⟩ := okWide_struct Try.underlying26 hok
  obtain ⟨fuel, hf⟩ := h
  obtain ⟨xs, n, _, hx, hl, hlen, hf⟩ := DataW.trod_struct Try.underlying26 hf
  have hs9 : cs.size = 9 := by rw [hsz]; kernel_rfl
  obtain ⟨l⟩ := cs
  have hx9 : xs.length = 9 := by rw [hlen]; rfl
  have hd : d = .agg (xs.map (·.1)) := congrArg Prod.fst hx
  rw [hd] at hw
  have hwf : ∀ (j : Nat) (y : DataW H × List MemPlace), xs[j]? = some y → j = 5 ∨ j = 6 → ∀ k ∈ y.1.weights Try.prog 23, k ≤ reachBytes := by
    intro j y hy hj k hk
    refine hw k ?_
    simp only [DataW.weights, Try.underlying26]
    refine DataW.weights_mem_each (j := j) (t := 23) (d := y.1) ?_ (by rw [List.getElem?_map, hy]; rfl) k hk
    rcases hj with rfl | rfl <;> rfl
  clear hsz hok hl hlen hx hw hd
  match l, hs9, xs, hx9 with
  | [c0, c1, c2, c3, c4, c5, c6, c7, c8], _, [y0, y1, y2, y3, y4, y5, y6, y7, y8], _ =>
    have t0 : DataW.trod enc Try.prog W base (fun _ => true) true n 3 [c0] = some y0 := by
      have := hf 0 _ rfl
      simpa [Value.cells, Try.cells3, Try.cells22, Try.cells23, Try.cells24] using this
    have t1 : DataW.trod enc Try.prog W base (fun _ => true) true n 22 [c1] = some y1 := by
      have := hf 1 _ rfl
      simpa [Value.cells, Try.cells3, Try.cells22, Try.cells23, Try.cells24] using this
    have t2 : DataW.trod enc Try.prog W base (fun _ => true) true n 22 [c2] = some y2 := by
      have := hf 2 _ rfl
      simpa [Value.cells, Try.cells3, Try.cells22, Try.cells23, Try.cells24] using this
    have t3 : DataW.trod enc Try.prog W base (fun _ => true) true n 22 [c3] = some y3 := by
      have := hf 3 _ rfl
      simpa [Value.cells, Try.cells3, Try.cells22, Try.cells23, Try.cells24] using this
    have t4 : DataW.trod enc Try.prog W base (fun _ => true) true n 22 [c4] = some y4 := by
      have := hf 4 _ rfl
      simpa [Value.cells, Try.cells3, Try.cells22, Try.cells23, Try.cells24] using this
    have t5 : DataW.trod enc Try.prog W base (fun _ => true) true n 23 [c5] = some y5 := by
      have := hf 5 _ rfl
      simpa [Value.cells, Try.cells3, Try.cells22, Try.cells23, Try.cells24] using this
    have t6 : DataW.trod enc Try.prog W base (fun _ => true) true n 23 [c6] = some y6 := by
      have := hf 6 _ rfl
      simpa [Value.cells, Try.cells3, Try.cells22, Try.cells23, Try.cells24] using this
    have t7 : DataW.trod enc Try.prog W base (fun _ => true) true n 24 [c7] = some y7 := by
      have := hf 7 _ rfl
      simpa [Value.cells, Try.cells3, Try.cells22, Try.cells23, Try.cells24] using this
    have t8 : DataW.trod enc Try.prog W base (fun _ => true) true n 24 [c8] = some y8 := by
      have := hf 8 _ rfl
      simpa [Value.cells, Try.cells3, Try.cells22, Try.cells23, Try.cells24] using this
    clear hf
    obtain ⟨n0, e0, _, w0⟩ := DataW.trod_int Try.underlying3 t0
    obtain ⟨n1, e1, _, w1⟩ := DataW.trod_int Try.underlying22 t1
    obtain ⟨n2, e2, _, w2⟩ := DataW.trod_int Try.underlying22 t2
    obtain ⟨n3, e3, _, w3⟩ := DataW.trod_int Try.underlying22 t3
    obtain ⟨n4, e4, _, w4⟩ := DataW.trod_int Try.underlying22 t4
    obtain ⟨l5, s5, b5⟩ := spansB_cell t5 (hwf 5 y5 rfl (.inl rfl))
    obtain ⟨l6, s6, b6⟩ := spansB_cell t6 (hwf 6 y6 rfl (.inr rfl))
    clear hwf
    obtain ⟨l7, s7⟩ := uints_cell t7
    obtain ⟨l8, s8⟩ := uints_cell t8
    simp at e0 e1 e2 e3 e4
    subst e0 e1 e2 e3 e4
    simp [Lit.wf, IntKind.min, IntKind.max, IntKind.bits, IntKind.signed] at w0 w1 w2 w3 w4
    refine ⟨⟨n0, n1, n2, n3, n4, l5, l6, l7, l8⟩, ⟨c5, c6, c7, c8, rfl, ?_, ?_, s5, s6, s7, s8⟩, b5, b6⟩
    · unfold in64; simp only; omega
    · unfold inu; simp only; omega
end Go.Proofs.Ytoaibabkkphlaaa
