/-
  What the statements of layer 10 share: spans, few, small, ref.
-/
import Derived.Test.YtoaibabkkphlaaaFMake
import Derived.Test.YtoaibabkkphlaaaLaw9
namespace Go.Proofs.Ytoaibabkkphlaaa
open Go.RowKit Mem Spans
set_option linter.unusedSimpArgs false
set_option linter.unusedVariables false
set_option maxRecDepth 100000

set_option maxHeartbeats 2000000 in
theorem spans10_any (v : Value) (l : List Sp) (w : World) (h : SSrc w v l) (hl : l.length ≤ 1024) :
    Calls Try.prog 34 #[v] w fun e w' => ∃ u, e = .returned u ∧ SOwn 104 w.heap.size w' u l ∧ Fr [] w w' := by
  obtain ⟨ao, cap, rfl, hcap, hmax, h64, b, off, ha, hc⟩ := h
  have HC : Hid (∀ j s, l[j]? = some s → w.cell? ⟨b, off + j * 2, none⟩ = some (.int .i64 s.1) ∧ w.cell? ⟨b, off + j * 2 + 1, none⟩ = some (.int .i64 s.2)) := hc
  have HA : Hid (0 < l.length → ao = some ⟨b, off, none⟩) := ha
  obtain ⟨i0, hi, hz0, hz1, hz2⟩ := info_refspan
  have HI : Hid (Try.prog.info? 104 = some i0 ∧ i0.zero = some (.agg #[.int .i64 0, .int .i64 0]) ∧ i0.size = 2 ∧ i0.bytes = 16) := ⟨hi, hz0, hz1, hz2⟩
  clear hc ha h64 hi hz0 hz1 hz2
  go_enter Try.func34, Try.ntmps34
  go_wp2
  go_loopw [3, 8] (fun u i wr => ∃ (k : Nat), k ≤ l.length ∧ i = .int .i64 (k : Int) ∧ SOwn 104 w.heap.size wr u (l.take k) ∧ Fr [] w wr) (fun _ i _ => l.length - (intOf i).toNat)
  case atStart => exact ⟨0, by omega, rfl, .inl ⟨by simp, rfl⟩, Fr.refl _ _⟩
  case round =>
    obtain ⟨k, hk, rfl, hso, hf⟩ := hrel
    have HF : Hid (Fr [] w wr) := hf
    have HS : Hid (SOwn 104 w.heap.size wr u3 (l.take k)) := hso
    clear hf hso
    by_cases hlt : k < l.length
    · obtain rfl := HA.out (by omega)
      obtain ⟨s, hs⟩ := at_lt hlt
      have c0 : wr.cell? ⟨b, off + k * 2, none⟩ = some (.int .i64 s.1) := HF.out.cell_some (HC.out k s hs).1 (by simp)
      have c1 : wr.cell? ⟨b, off + k * 2 + 1, none⟩ = some (.int .i64 s.2) := HF.out.cell_some (HC.out k s hs).2 (by simp)
      have HT : Hid (l.take (k + 1) = l.take k ++ [s]) := take_at hs
      have HL : Hid ((l.take k).length ≤ 1000000) := by rw [Hid, List.length_take]; omega
      clear hs
      obtain ⟨o, n⟩ := s
      simp only at c0 c1
      have HSZ : Hid (w.heap.size ≤ wr.heap.size) := HF.out.size
      go_wp2_with (at_builtin; refine wpList_append_sp _ rfl _ _ 32 rfl Try.underlying32 HI.out.1 HI.out.2.1 HI.out.2.2.1 HI.out.2.2.2 (B := w.heap.size) (s := (o, n)) (by have := HSZ.out; simp; omega) rfl rfl (HS.out.kept (((Fr.refl [] _).alloc _).alloc _)) (lit_sp' 104 (wr.alloc _) [(o, n)] (World.size_alloc _ _) (by have := HSZ.out; omega) (by simp) (by unfold maxLen; simp)) HL.out ?_; intro v3 w3 ho3 hb3; have HO3 : Hid (SOwn 104 w.heap.size w3 v3 (l.take k ++ [(o, n)])) := ho3; have HB3 : Hid (Fr [] w w3) := Fr.ofBelow ((((HF.out.alloc _).alloc _).below (Nat.le_refl _) (by simp)).trans hb3); clear ho3 hb3)
      go_roundw
      case rel => exact ⟨k + 1, by omega, by go_num, by rw [HT.out]; exact HO3.out, HB3.out⟩
      case measure => simp [intOf]; omega
    · have HS2 : Hid (SOwn 104 w.heap.size wr u3 l) := by
        have := HS.out
        rw [List.take_of_length_le (by omega)] at this
        exact this
      clear HS
      go_wp2
      go_ret
      exact ⟨_, rfl, HS2.out, HF.out⟩

set_option maxHeartbeats 2000000 in
theorem few10_any (v : Value) (l : List Sp) (w : World) (h : SSrc w v l) :
    Calls Try.prog 31 #[v] w fun e w' => FewPost l w e w' := by
  obtain ⟨ao, cap, rfl, hcap, hmax, h64, b, off, ha, hc⟩ := h
  have HC : Hid (∀ j s, l[j]? = some s → w.cell? ⟨b, off + j * 2, none⟩ = some (.int .i64 s.1) ∧ w.cell? ⟨b, off + j * 2 + 1, none⟩ = some (.int .i64 s.2)) := hc
  have HA : Hid (0 < l.length → ao = some ⟨b, off, none⟩) := ha
  have H64 : Hid (∀ s ∈ l, in64 s.1 ∧ in64 s.2) := h64
  have hml : l.length ≤ 9223372036854775807 := by unfold maxLen at hmax; omega
  clear hc ha h64
  go_enter Try.func31, Try.ntmps31
  go_wp2
  go_loopw [3, 8] (fun c i wr => ∃ (k : Nat) (N : Int), k ≤ l.length ∧ i = .int .i64 (k : Int) ∧ c = .int .i64 N ∧ (k : Int) ≤ N ∧ N ≤ 400 ∧ Fr [] w wr) (fun _ i _ => l.length - (intOf i).toNat)
  case atStart => exact ⟨0, 0, by omega, rfl, rfl, by omega, by omega, Fr.refl _ _⟩
  case round =>
    obtain ⟨k, N, hk, rfl, rfl, hN1, hN2, hf⟩ := hrel
    have HF : Hid (Fr [] w wr) := hf
    clear hf
    by_cases hlt : k < l.length
    · obtain rfl := HA.out (by omega)
      obtain ⟨s, hs⟩ := at_lt hlt
      have HM := (H64.out s (List.mem_of_getElem? hs)).2
      have c0 : wr.cell? ⟨b, off + k * 2, none⟩ = some (.int .i64 s.1) := HF.out.cell_some (HC.out k s hs).1 (by simp)
      have c1 : wr.cell? ⟨b, off + k * 2 + 1, none⟩ = some (.int .i64 s.2) := HF.out.cell_some (HC.out k s hs).2 (by simp)
      clear hs
      obtain ⟨o, n⟩ := s
      obtain ⟨hn1, hn2⟩ := HM
      simp only at c0 c1 hn1 hn2
      have HF2 : Hid (Fr [] w (wr.alloc (.cells #[.int .i64 o, .int .i64 n] 95))) := HF.out.alloc _
      by_cases hp : 0 < n
      · by_cases h5 : 5000 < n
        · go_wp2
          go_ret
          exact ⟨false, rfl, by simp, HF2.out⟩
        · by_cases h6 : N + (1 + n / 10) + 1 ≤ 400
          · go_wp2
            go_roundw
            case rel => exact ⟨k + 1, _, by omega, by go_num, rfl, by omega, by omega, HF2.out⟩
            case measure => simp [intOf]; omega
          · go_wp2
            go_ret
            exact ⟨false, rfl, by simp, HF2.out⟩
      · by_cases h6 : N + 1 ≤ 400
        · go_wp2
          go_roundw
          case rel => exact ⟨k + 1, N + 1, by omega, by go_num, rfl, by omega, by omega, HF2.out⟩
          case measure => simp [intOf]; omega
        · go_wp2
          go_ret
          exact ⟨false, rfl, by simp, HF2.out⟩
    · go_wp2
      go_ret
      exact ⟨true, rfl, fun _ => by omega, HF.out⟩


/-- What small lets by. -/
def FewF (h : Fs) : Prop := h.P.length ≤ 400 ∧ h.N.length ≤ 400 ∧ h.pd.length ≤ 300 ∧ h.nd.length ≤ 300
set_option maxHeartbeats 2000000 in
theorem fsmall_any (v : Value) (h : Fs) (w : World) (hh : FSrc w v h) :
    Calls Try.prog 12 #[v] w fun e w' => ∃ r : Bool, e = .returned (.bool r) ∧ (r = true → FewF h) ∧ Fr [] w w' := by
  obtain ⟨po, pc, no, nc, qo, qc, ro, rc, rfl, hin, hsr, _⟩ := hh.opens
  have HSR : Hid (SSrc w (.slice po h.P.length pc) h.P ∧ SSrc w (.slice no h.N.length nc) h.N) := ⟨hsr.1, hsr.2.1⟩
  clear hh hin hsr
  obtain ⟨s, z, zc, c, sm, P, N, pd, nd⟩ := h
  simp only at HSR ⊢
  go_enter Try.func12, Try.ntmps12
  have HN0 : Hid (NineF (w.alloc (.cells #[.int .i64 s, .int .u64 z, .int .u64 zc, .int .u64 c, .int .u64 sm, .slice po P.length pc, .slice no N.length nc, .slice qo pd.length qc, .slice ro nd.length rc] 26)) w.heap.size #[.int .i64 s, .int .u64 z, .int .u64 zc, .int .u64 c, .int .u64 sm, .slice po P.length pc, .slice no N.length nc, .slice qo pd.length qc, .slice ro nd.length rc]) := NineF.new _ _
  have HF0 : Hid (Fr [] w (w.alloc (.cells #[.int .i64 s, .int .u64 z, .int .u64 zc, .int .u64 c, .int .u64 sm, .slice po P.length pc, .slice no N.length nc, .slice qo pd.length qc, .slice ro nd.length rc] 26))) := (Fr.refl [] w).alloc _
  go_wp2_with fail
  refine (few10_any _ P _ (HSR.out.1.kept HF0.out)).mono ?_
  rintro e w1 ⟨r1, rfl, hr1, hf1⟩
  have HF1 : Hid (Fr [] w w1) := HF0.out.trans hf1 (by simp)
  have HN1 : Hid (NineF w1 w.heap.size _) := HN0.out.kept hf1 (by simp)
  have HR1 : Hid (r1 = true → P.length ≤ 400) := hr1
  clear hf1 hr1 HN0 HF0
  cases r1 with
  | false =>
    go_wp2
    go_ret
    exact ⟨false, rfl, by simp, HF1.out⟩
  | true =>
    have c6 := HN1.out.cell 6 rfl
    go_wp2_with fail
    refine (few10_any _ N _ (HSR.out.2.kept HF1.out)).mono ?_
    rintro e w2 ⟨r2, rfl, hr2, hf2⟩
    have HF2 : Hid (Fr [] w w2) := HF1.out.trans hf2 (by simp)
    have HN2 : Hid (NineF w2 w.heap.size _) := HN1.out.kept hf2 (by simp)
    have HR2 : Hid (r2 = true → N.length ≤ 400) := hr2
    clear hf2 hr2 HN1 c6
    cases r2 with
    | false =>
      go_wp2
      go_ret
      exact ⟨false, rfl, by simp, HF2.out⟩
    | true =>
      have c7 := HN2.out.cell 7 rfl
      have c8 := HN2.out.cell 8 rfl
      by_cases h3 : pd.length ≤ 300
      · by_cases h4 : nd.length ≤ 300
        · have d3 : decide ((pd.length : Int) ≤ 300) = true := decide_eq_true (by omega)
          have d4 : decide ((nd.length : Int) ≤ 300) = true := decide_eq_true (by omega)
          go_wp2
          go_ret
          exact ⟨true, rfl, fun _ => ⟨HR1.out (by trivial), HR2.out (by trivial), h3, h4⟩, HF2.out⟩
        · have d3 : decide ((pd.length : Int) ≤ 300) = true := decide_eq_true (by omega)
          have d4 : decide ((nd.length : Int) ≤ 300) = false := decide_eq_false (by omega)
          go_wp2
          go_ret
          exact ⟨false, rfl, by simp, HF2.out⟩
      · have d3 : decide ((pd.length : Int) ≤ 300) = false := decide_eq_false (by omega)
        go_wp2
        go_ret
        exact ⟨false, rfl, by simp, HF2.out⟩

/-- A block of the document's histogram. -/
def NineG (w : World) (b : Nat) (cs : Array Value) : Prop := w.heap[b]? = some (.cells cs 34 (0, 0))
theorem NineG.kept {w w' : World} {b : Nat} {cs : Array Value} {S : List Nat} (h : NineG w b cs) (f : Fr S w w') (hb : b ∉ S) : NineG w' b cs := f.heap h hb
theorem NineG.cell {w : World} {b : Nat} {cs : Array Value} (h : NineG w b cs) (i : Nat) {v : Value} (hv : cs[i]? = some v) : w.cell? ⟨b, i, none⟩ = some v := by rw [cell_at h]; exact hv
theorem NineG.frozen {w : World} {b : Nat} {cs : Array Value} (h : NineG w b cs) (i : Nat) : w.frozen? ⟨b, i, none⟩ = false := frozen_at h i
theorem NineG.new (w : World) (cs : Array Value) : NineG (w.alloc (.cells cs 34)) w.heap.size cs := heap_alloc_new _ _
theorem nineG_top (w : World) (o : Obj) (cs : Array Value) : NineG ((w.alloc o).alloc (.cells cs 34)) (w.heap.size + 1) cs := by
  have := NineG.new (w.alloc o) cs
  rwa [World.size_alloc] at this
theorem set9_nineG {w : World} {g : Nat} {a0 a1 a2 a3 a4 a5 a6 a7 a8 : Value} (h : NineG w g #[a0, a1, a2, a3, a4, a5, a6, a7, a8]) (u0 u1 u2 u3 u4 u5 u6 u7 u8 : Value) : NineG (set9 w g u0 u1 u2 u3 u4 u5 u6 u7 u8) g #[u0, u1, u2, u3, u4, u5, u6, u7, u8] := by
  unfold NineG at h ⊢
  simp [set9, World.setCell, Array.getElem?_modify, h]
theorem Try.sizeOf34 : (Try.prog.info? 34).map (·.size) = some 9 := by kernel_rfl
theorem histG_res {fn : Func} {p : Tmp} (h : fn.results = #[.cell p 34]) (tmps : Array Value) (w : World) (g : Nat) (a0 a1 a2 a3 a4 a5 a6 a7 a8 : Value)
    (hp : tmps.getD p undef = .pointer (some ⟨g, 0, none⟩)) (hg : NineG w g #[a0, a1, a2, a3, a4, a5, a6, a7, a8]) : (results fn tmps).run Try.prog w = .ok (.agg #[a0, a1, a2, a3, a4, a5, a6, a7, a8]) w :=
  results_cell_row h tmps w g 34 #[a0, a1, a2, a3, a4, a5, a6, a7, a8] (0, 0) _ hp hg Try.underlying34 rfl Try.sizeOf34

set_option maxHeartbeats 4000000 in
theorem fref_any (v : Value) (h : Fs) (w : World) (hh : FSrc w v h) (hl : h.P.length ≤ 1024 ∧ h.N.length ≤ 1024) :
    Calls Try.prog 16 #[v] w fun e w' => ∃ u, e = .returned u ∧ FSrc w' u h ∧ Fr [] w w' := by
  obtain ⟨po, pc, no, nc, qo, qc, ro, rc, rfl, hin, hsr, _⟩ := hh.opens
  have HIN : Hid (in64 h.s ∧ inu h.z ∧ inu h.zc ∧ inu h.c ∧ inu h.sm) := hin
  have HSR : Hid (SSrc w (.slice po h.P.length pc) h.P ∧ SSrc w (.slice no h.N.length nc) h.N ∧ USrc w (.slice qo h.pd.length qc) h.pd ∧ USrc w (.slice ro h.nd.length rc) h.nd) := hsr
  have HL : Hid (h.P.length ≤ 1024 ∧ h.N.length ≤ 1024) := hl
  clear hh hin hsr hl
  go_enter Try.func16, Try.ntmps16
  obtain ⟨cs, hcs⟩ : ∃ cs : Array Value, cs = #[.int .i64 h.s, .int .u64 h.z, .int .u64 h.zc, .int .u64 h.c, .int .u64 h.sm, .slice po h.P.length pc, .slice no h.N.length nc, .slice qo h.pd.length qc, .slice ro h.nd.length rc] := ⟨_, rfl⟩
  have HA : Hid (∀ z, NineF ((w.alloc (.cells cs 26)).alloc (.cells z 34)) w.heap.size cs ∧ NineG ((w.alloc (.cells cs 26)).alloc (.cells z 34)) (w.heap.size + 1) z ∧ Fr [] w ((w.alloc (.cells cs 26)).alloc (.cells z 34))) := fun z => ⟨nineF_mid _ _ _, nineG_top _ _ _, ((Fr.refl [] w).alloc _).alloc _⟩
  subst hcs
  go_upto_region 1 with fail
  obtain ⟨hA3, hA6, hAF⟩ := HA.out #[.int .i64 0, .int .u64 0, .int .u64 0, .int .u64 0, .int .u64 0, .slice none 0 0, .slice none 0 0, .slice none 0 0, .slice none 0 0]
  clear HA
  generalize (w.alloc (.cells _ _)).alloc (.cells _ _) = wA at hA3 hA6 hAF ⊢
  have HSZ : Hid (w.heap.size + 1 < wA.heap.size) := lt_of_heap hA6
  have H6 : Hid (NineG wA (w.heap.size + 1) _) := hA6
  have HAF : Hid (Fr [] w wA) := hAF
  have c0 := hA3.cell 0 rfl
  have c1 := hA3.cell 1 rfl
  have c2 := hA3.cell 2 rfl
  have c3 := hA3.cell 3 rfl
  have c4 := hA3.cell 4 rfl
  have c5 := hA3.cell 5 rfl
  have c6 := hA3.cell 6 rfl
  have c7 := hA3.cell 7 rfl
  have c8 := hA3.cell 8 rfl
  clear hA3 hA6 hAF
  have HSP : Hid (∀ wx, Fr [] wA wx → Calls Try.prog 34 #[.slice po h.P.length pc] wx fun e w' => ∃ u, e = .returned u ∧ SOwn 104 wA.heap.size w' u h.P ∧ Fr [] wA w') := by
    intro wx hf
    refine (spans10_any _ h.P wx (HSR.out.1.kept (HAF.out.trans hf (by simp))) HL.out.1).mono ?_
    rintro e w' ⟨u, rfl, hu, hf'⟩
    exact ⟨u, rfl, hu.mono hf.size, hf.trans hf' (by simp)⟩
  have HSN : Hid (∀ wx, Fr [] wA wx → Calls Try.prog 34 #[.slice no h.N.length nc] wx fun e w' => ∃ u, e = .returned u ∧ SOwn 104 wA.heap.size w' u h.N ∧ Fr [] wA w' ∧ Fr [] wx w') := by
    intro wx hf
    refine (spans10_any _ h.N wx (HSR.out.2.1.kept (HAF.out.trans hf (by simp))) HL.out.2).mono ?_
    rintro e w' ⟨u, rfl, hu, hf'⟩
    exact ⟨u, rfl, hu.mono hf.size, hf.trans hf' (by simp), hf'⟩
  have F0 : Fr [] wA wA.drew := (Fr.refl _ _).drew
  go_region_held3 (fun w' => w'.cell? ⟨w.heap.size, 0, none⟩ = some (.int .i64 h.s) ∧ w'.cell? ⟨w.heap.size, 1, none⟩ = some (.int .u64 h.z) ∧ w'.cell? ⟨w.heap.size, 2, none⟩ = some (.int .u64 h.zc) ∧ w'.cell? ⟨w.heap.size, 3, none⟩ = some (.int .u64 h.c) ∧ w'.cell? ⟨w.heap.size, 4, none⟩ = some (.int .u64 h.sm) ∧ w'.cell? ⟨w.heap.size, 5, none⟩ = some (.slice po h.P.length pc) ∧ w'.cell? ⟨w.heap.size, 6, none⟩ = some (.slice no h.N.length nc) ∧ w'.cell? ⟨w.heap.size, 7, none⟩ = some (.slice qo h.pd.length qc) ∧ w'.cell? ⟨w.heap.size, 8, none⟩ = some (.slice ro h.nd.length rc)) (go_keep) (first
    | (go_at_call 34; with_reducible refine (HSP.out _ F0).mono ?_; rintro e wa ⟨ua, rfl, hua, hfa⟩; have ka0 := hfa.cell_some c0 (by simp); have ka1 := hfa.cell_some c1 (by simp); have ka2 := hfa.cell_some c2 (by simp); have ka3 := hfa.cell_some c3 (by simp); have ka4 := hfa.cell_some c4 (by simp); have ka5 := hfa.cell_some c5 (by simp); have ka6 := hfa.cell_some c6 (by simp); have ka7 := hfa.cell_some c7 (by simp); have ka8 := hfa.cell_some c8 (by simp))
    | (go_at_call 34; with_reducible refine (HSN.out _ hfa).mono ?_; rintro e wb ⟨ub, rfl, hub, hfb, hfab⟩; have kb0 := hfb.cell_some c0 (by simp); have kb1 := hfb.cell_some c1 (by simp); have kb2 := hfb.cell_some c2 (by simp); have kb3 := hfb.cell_some c3 (by simp); have kb4 := hfb.cell_some c4 (by simp); have kb5 := hfb.cell_some c5 (by simp); have kb6 := hfb.cell_some c6 (by simp); have kb7 := hfb.cell_some c7 (by simp); have kb8 := hfb.cell_some c8 (by simp); have h6 := H6.out.kept hfb (by simp); have d0 := h6.cell 0 rfl; have d1 := h6.cell 1 rfl; have d2 := h6.cell 2 rfl; have d3 := h6.cell 3 rfl; have d4 := h6.cell 4 rfl; have d5 := h6.cell 5 rfl; have d6 := h6.cell 6 rfl; have d7 := h6.cell 7 rfl; have d8 := h6.cell 8 rfl; have f0 := h6.frozen 0; have f1 := h6.frozen 1; have f2 := h6.frozen 2; have f3 := h6.frozen 3; have f4 := h6.frozen 4; have f5 := h6.frozen 5; have f6 := h6.frozen 6; have f7 := h6.frozen 7; have f8 := h6.frozen 8; obtain ⟨ua1, ua2, rfl⟩ := hua.val; obtain ⟨ub1, ub2, rfl⟩ := hub.val))
  have H6b : Hid (NineG wb (w.heap.size + 1) _) := h6
  have HUA : Hid (SOwn 104 wA.heap.size wb (.slice ua1 h.P.length ua2) h.P) := hua.kept hfab
  have HUB : Hid (SOwn 104 wA.heap.size wb (.slice ub1 h.N.length ub2) h.N) := hub
  have HFB : Hid (Fr [] w wb) := HAF.out.trans hfb (by simp)
  clear h6 hua hub hfb
  go_wp2
  refine bodyPost_ret (histG_res rfl _ _ (w.heap.size + 1) _ _ _ _ _ _ _ _ _ rfl (set9_nineG H6b.out _ _ _ _ _ _ _ _ _)) rfl ?_
  have hs9 := set9_fr (S := [w.heap.size + 1]) (g := w.heap.size + 1) (Fr.refl _ wb) (.inl (by simp)) (.int .i64 h.s) (.int .u64 h.z) (.int .u64 h.zc) (.int .u64 h.c) (.int .u64 h.sm) (.slice ua1 h.P.length ua2) (.slice ub1 h.N.length ub2) (.slice qo h.pd.length qc) (.slice ro h.nd.length rc)
  have hfw : Fr [] w (set9 wb (w.heap.size + 1) (.int .i64 h.s) (.int .u64 h.z) (.int .u64 h.zc) (.int .u64 h.c) (.int .u64 h.sm) (.slice ua1 h.P.length ua2) (.slice ub1 h.N.length ub2) (.slice qo h.pd.length qc) (.slice ro h.nd.length rc)) := set9_fr HFB.out (.inr (by simp)) _ _ _ _ _ _ _ _ _
  have hb : ∀ y ∈ [w.heap.size + 1], y < wA.heap.size := by have := HSZ.out; simp; omega
  have hp64 : ∀ s ∈ h.P, in64 s.1 ∧ in64 s.2 := by obtain ⟨_, _, _, _, _, h64, _⟩ := HSR.out.1; exact h64
  have hn64 : ∀ s ∈ h.N, in64 s.1 ∧ in64 s.2 := by obtain ⟨_, _, _, _, _, h64, _⟩ := HSR.out.2.1; exact h64
  exact ⟨_, rfl, ⟨_, _, _, _, rfl, HIN.out.1, HIN.out.2, (HUA.out.keptS hs9 hb).src hp64, (HUB.out.keptS hs9 hb).src hn64, HSR.out.2.2.1.kept hfw, HSR.out.2.2.2.kept hfw⟩, hfw⟩
end Go.Proofs.Ytoaibabkkphlaaa
