/-
  Law11, Law11F, Ref11I, Ref11F.
-/
import Derived.Test.YtnfbmdniomelnaaGC
import Derived.Test.YtnfbmdniomelnaaGB
import Derived.Test.YtnfbmdniomelnaaGD
/-
  What the statements of layer 11 share: spans, few, small, ints.
-/
namespace Go.Proofs.Ytnfbmdniomelnaa
open Go.RowKit Mem Spans
set_option linter.unusedSimpArgs false
set_option linter.unusedVariables false
set_option maxRecDepth 100000

set_option maxHeartbeats 2000000 in
theorem spans_any (v : Value) (l : List Sp) (w : World) (h : SSrc w v l) (hl : l.length ≤ 1024) :
    Calls Try.prog 31 #[v] w fun e w' => ∃ u, e = .returned u ∧ SOwn 102 w.heap.size w' u l ∧ Fr [] w w' := by
  obtain ⟨ao, cap, rfl, hcap, hmax, h64, b, off, ha, hc⟩ := h
  have HC : Hid (∀ j s, l[j]? = some s → w.cell? ⟨b, off + j * 2, none⟩ = some (.int .i64 s.1) ∧ w.cell? ⟨b, off + j * 2 + 1, none⟩ = some (.int .i64 s.2)) := hc
  have HA : Hid (0 < l.length → ao = some ⟨b, off, none⟩) := ha
  obtain ⟨i0, hi, hz0, hz1, hz2⟩ := info_refspan
  have HI : Hid (Try.prog.info? 102 = some i0 ∧ i0.zero = some (.agg #[.int .i64 0, .int .i64 0]) ∧ i0.size = 2 ∧ i0.bytes = 16) := ⟨hi, hz0, hz1, hz2⟩
  clear hc ha h64 hi hz0 hz1 hz2
  go_enter Try.func31, Try.ntmps31
  go_wp2
  go_loopw [3, 8] (fun u i wr => ∃ (k : Nat), k ≤ l.length ∧ i = .int .i64 (k : Int) ∧ SOwn 102 w.heap.size wr u (l.take k) ∧ Fr [] w wr) (fun _ i _ => l.length - (intOf i).toNat)
  case atStart => exact ⟨0, by omega, rfl, .inl ⟨by simp, rfl⟩, Fr.refl _ _⟩
  case round =>
    obtain ⟨k, hk, rfl, hso, hf⟩ := hrel
    have HF : Hid (Fr [] w wr) := hf
    have HS : Hid (SOwn 102 w.heap.size wr u3 (l.take k)) := hso
    clear hf hso
    by_cases hlt : k < l.length
    · obtain rfl := HA.out (by omega)
      obtain ⟨s, hs⟩ := at_lt hlt
      have c0 : wr.cell? ⟨b, off + k * 2, none⟩ = some (.int .i64 s.1) := HF.out.cell_some (HC.out k s hs).1 (by simp)
      have c1 : wr.cell? ⟨b, off + k * 2 + 1, none⟩ = some (.int .i64 s.2) := HF.out.cell_some (HC.out k s hs).2 (by simp)
      have HT : Hid (l.take (k + 1) = l.take k ++ [s]) := take_at hs
      have HL : Hid ((l.take k).length ≤ 1000000) := by rw [Hid, List.length_take]; omega
      clear hs
      obtain ⟨o, n⟩ := s
      simp only at c0 c1
      have HSZ : Hid (w.heap.size ≤ wr.heap.size) := HF.out.size
      go_wp2_with (at_builtin; refine wpList_append_sp _ rfl _ _ 35 rfl Try.underlying35 HI.out.1 HI.out.2.1 HI.out.2.2.1 HI.out.2.2.2 (B := w.heap.size) (s := (o, n)) (by have := HSZ.out; simp; omega) rfl rfl (HS.out.kept (((Fr.refl [] _).alloc _).alloc _)) (lit_sp' 102 (wr.alloc _) [(o, n)] (World.size_alloc _ _) (by have := HSZ.out; omega) (by simp) (by unfold maxLen; simp)) HL.out ?_; intro v3 w3 ho3 hb3; have HO3 : Hid (SOwn 102 w.heap.size w3 v3 (l.take k ++ [(o, n)])) := ho3; have HB3 : Hid (Fr [] w w3) := Fr.ofBelow ((((HF.out.alloc _).alloc _).below (Nat.le_refl _) (by simp)).trans hb3); clear ho3 hb3)
      go_roundw
      case rel => exact ⟨k + 1, by omega, by go_num, by rw [HT.out]; exact HO3.out, HB3.out⟩
      case measure => simp [intOf]; omega
    · have HS2 : Hid (SOwn 102 w.heap.size wr u3 l) := by
        have := HS.out
        rw [List.take_of_length_le (by omega)] at this
        exact this
      clear HS
      go_wp2
      go_ret
      exact ⟨_, rfl, HS2.out, HF.out⟩

def FewPost (l : List Sp) (w : World) (e : Ending) (w' : World) : Prop := ∃ r : Bool, e = .returned (.bool r) ∧ (r = true → l.length ≤ 400) ∧ Fr [] w w'

theorem div10 {m : Int} (h0 : 0 ≤ m) (h1 : m ≤ 5000) : 0 ≤ m / 10 ∧ m / 10 ≤ 500 := by omega

set_option maxHeartbeats 2000000 in
theorem few_any (v : Value) (l : List Sp) (w : World) (h : SSrc w v l) :
    Calls Try.prog 25 #[v] w fun e w' => FewPost l w e w' := by
  obtain ⟨ao, cap, rfl, hcap, hmax, h64, b, off, ha, hc⟩ := h
  have HC : Hid (∀ j s, l[j]? = some s → w.cell? ⟨b, off + j * 2, none⟩ = some (.int .i64 s.1) ∧ w.cell? ⟨b, off + j * 2 + 1, none⟩ = some (.int .i64 s.2)) := hc
  have HA : Hid (0 < l.length → ao = some ⟨b, off, none⟩) := ha
  have H64 : Hid (∀ s ∈ l, in64 s.1 ∧ in64 s.2) := h64
  have hml : l.length ≤ 9223372036854775807 := by unfold maxLen at hmax; omega
  clear hc ha h64
  go_enter Try.func25, Try.ntmps25
  go_wp2
  go_loopw [3, 8] (fun c i wr => ∃ (k : Nat) (N : Int), k ≤ l.length ∧ i = .int .i64 (k : Int) ∧ c = .int .i64 N ∧ (k : Int) ≤ N ∧ N ≤ 400 ∧ Fr [] w wr) (fun _ i _ => l.length - (intOf i).toNat)
  case atStart => exact ⟨0, 0, by omega, rfl, rfl, by omega, by omega, Fr.refl _ _⟩
  case round =>
    obtain ⟨k, N, hk, rfl, rfl, hN1, hN2, hf⟩ := hrel
    have HF : Hid (Fr [] w wr) := hf
    clear hf
    by_cases hlt : k < l.length
    · obtain rfl := HA.out (by omega)
      obtain ⟨s, hs⟩ := at_lt hlt
      have HM := (H64.out s (List.mem_of_getElem? hs)).2
      have c0 : wr.cell? ⟨b, off + k * 2, none⟩ = some (.int .i64 s.1) := HF.out.cell_some (HC.out k s hs).1 (by simp)
      have c1 : wr.cell? ⟨b, off + k * 2 + 1, none⟩ = some (.int .i64 s.2) := HF.out.cell_some (HC.out k s hs).2 (by simp)
      clear hs
      obtain ⟨o, n⟩ := s
      obtain ⟨hn1, hn2⟩ := HM
      simp only at c0 c1 hn1 hn2
      have HF2 : Hid (Fr [] w (wr.alloc (.cells #[.int .i64 o, .int .i64 n] 63))) := HF.out.alloc _
      by_cases hp : 0 < n
      · by_cases h5 : 5000 < n
        · go_wp2
          go_ret
          exact ⟨false, rfl, by simp, HF2.out⟩
        · by_cases h6 : N + (1 + n / 10) + 1 ≤ 400
          · go_wp2
            go_roundw
            case rel => exact ⟨k + 1, _, by omega, by go_num, rfl, by omega, by omega, HF2.out⟩
            case measure => simp [intOf]; omega
          · go_wp2
            go_ret
            exact ⟨false, rfl, by simp, HF2.out⟩
      · by_cases h6 : N + 1 ≤ 400
        · go_wp2
          go_roundw
          case rel => exact ⟨k + 1, N + 1, by omega, by go_num, rfl, by omega, by omega, HF2.out⟩
          case measure => simp [intOf]; omega
        · go_wp2
          go_ret
          exact ⟨false, rfl, by simp, HF2.out⟩
    · go_wp2
      go_ret
      exact ⟨true, rfl, fun _ => by omega, HF.out⟩


/-- What small lets by. -/
def Few (h : Hs) : Prop := h.P.length ≤ 400 ∧ h.N.length ≤ 400 ∧ h.pd.length ≤ 300 ∧ h.nd.length ≤ 300
set_option maxHeartbeats 2000000 in
theorem hsmall_any (v : Value) (h : Hs) (w : World) (hh : HSrc w v h) :
    Calls Try.prog 9 #[v] w fun e w' => ∃ r : Bool, e = .returned (.bool r) ∧ (r = true → Few h) ∧ Fr [] w w' := by
  obtain ⟨po, pc, no, nc, qo, qc, ro, rc, rfl, hin, hsr, _⟩ := hh.opens
  have HSR : Hid (SSrc w (.slice po h.P.length pc) h.P ∧ SSrc w (.slice no h.N.length nc) h.N) := ⟨hsr.1, hsr.2.1⟩
  clear hh hin hsr
  obtain ⟨s, z, zc, c, sm, P, N, pd, nd⟩ := h
  simp only at HSR ⊢
  go_enter Try.func9, Try.ntmps9
  have HN0 : Hid (Nine (w.alloc (.cells #[.int .i64 s, .int .u64 z, .int .u64 zc, .int .u64 c, .int .u64 sm, .slice po P.length pc, .slice no N.length nc, .slice qo pd.length qc, .slice ro nd.length rc] 26)) w.heap.size #[.int .i64 s, .int .u64 z, .int .u64 zc, .int .u64 c, .int .u64 sm, .slice po P.length pc, .slice no N.length nc, .slice qo pd.length qc, .slice ro nd.length rc]) := Nine.new _ _
  have HF0 : Hid (Fr [] w (w.alloc (.cells #[.int .i64 s, .int .u64 z, .int .u64 zc, .int .u64 c, .int .u64 sm, .slice po P.length pc, .slice no N.length nc, .slice qo pd.length qc, .slice ro nd.length rc] 26))) := (Fr.refl [] w).alloc _
  go_wp2_with fail
  refine (few_any _ P _ (HSR.out.1.kept HF0.out)).mono ?_
  rintro e w1 ⟨r1, rfl, hr1, hf1⟩
  have HF1 : Hid (Fr [] w w1) := HF0.out.trans hf1 (by simp)
  have HN1 : Hid (Nine w1 w.heap.size _) := HN0.out.kept hf1 (by simp)
  have HR1 : Hid (r1 = true → P.length ≤ 400) := hr1
  clear hf1 hr1 HN0 HF0
  cases r1 with
  | false =>
    go_wp2
    go_ret
    exact ⟨false, rfl, by simp, HF1.out⟩
  | true =>
    have c6 := HN1.out.cell 6 rfl
    go_wp2_with fail
    refine (few_any _ N _ (HSR.out.2.kept HF1.out)).mono ?_
    rintro e w2 ⟨r2, rfl, hr2, hf2⟩
    have HF2 : Hid (Fr [] w w2) := HF1.out.trans hf2 (by simp)
    have HN2 : Hid (Nine w2 w.heap.size _) := HN1.out.kept hf2 (by simp)
    have HR2 : Hid (r2 = true → N.length ≤ 400) := hr2
    clear hf2 hr2 HN1 c6
    cases r2 with
    | false =>
      go_wp2
      go_ret
      exact ⟨false, rfl, by simp, HF2.out⟩
    | true =>
      have c7 := HN2.out.cell 7 rfl
      have c8 := HN2.out.cell 8 rfl
      by_cases h3 : pd.length ≤ 300
      · by_cases h4 : nd.length ≤ 300
        · have d3 : decide ((pd.length : Int) ≤ 300) = true := decide_eq_true (by omega)
          have d4 : decide ((nd.length : Int) ≤ 300) = true := decide_eq_true (by omega)
          go_wp2
          go_ret
          exact ⟨true, rfl, fun _ => ⟨HR1.out (by trivial), HR2.out (by trivial), h3, h4⟩, HF2.out⟩
        · have d3 : decide ((pd.length : Int) ≤ 300) = true := decide_eq_true (by omega)
          have d4 : decide ((nd.length : Int) ≤ 300) = false := decide_eq_false (by omega)
          go_wp2
          go_ret
          exact ⟨false, rfl, by simp, HF2.out⟩
      · have d3 : decide ((pd.length : Int) ≤ 300) = false := decide_eq_false (by omega)
        go_wp2
        go_ret
        exact ⟨false, rfl, by simp, HF2.out⟩

/-- A block of the document's histogram. -/
def NineR (w : World) (b : Nat) (cs : Array Value) : Prop := w.heap[b]? = some (.cells cs 37 (0, 0))
theorem NineR.kept {w w' : World} {b : Nat} {cs : Array Value} {S : List Nat} (h : NineR w b cs) (f : Fr S w w') (hb : b ∉ S) : NineR w' b cs := f.heap h hb
theorem NineR.cell {w : World} {b : Nat} {cs : Array Value} (h : NineR w b cs) (i : Nat) {v : Value} (hv : cs[i]? = some v) : w.cell? ⟨b, i, none⟩ = some v := by rw [cell_at h]; exact hv
theorem NineR.frozen {w : World} {b : Nat} {cs : Array Value} (h : NineR w b cs) (i : Nat) : w.frozen? ⟨b, i, none⟩ = false := frozen_at h i
theorem NineR.new (w : World) (cs : Array Value) : NineR (w.alloc (.cells cs 37)) w.heap.size cs := heap_alloc_new _ _
theorem nineR_top (w : World) (o : Obj) (cs : Array Value) : NineR ((w.alloc o).alloc (.cells cs 37)) (w.heap.size + 1) cs := by
  have := NineR.new (w.alloc o) cs
  rwa [World.size_alloc] at this
theorem set9_nineR {w : World} {g : Nat} {a0 a1 a2 a3 a4 a5 a6 a7 a8 : Value} (h : NineR w g #[a0, a1, a2, a3, a4, a5, a6, a7, a8]) (u0 u1 u2 u3 u4 u5 u6 u7 u8 : Value) : NineR (set9 w g u0 u1 u2 u3 u4 u5 u6 u7 u8) g #[u0, u1, u2, u3, u4, u5, u6, u7, u8] := by
  unfold NineR at h ⊢
  simp [set9, World.setCell, Array.getElem?_modify, h]
theorem Try.sizeOf37 : (Try.prog.info? 37).map (·.size) = some 9 := by kernel_rfl
theorem histR_res {fn : Func} {p : Tmp} (h : fn.results = #[.cell p 37]) (tmps : Array Value) (w : World) (g : Nat) (a0 a1 a2 a3 a4 a5 a6 a7 a8 : Value)
    (hp : tmps.getD p undef = .pointer (some ⟨g, 0, none⟩)) (hg : NineR w g #[a0, a1, a2, a3, a4, a5, a6, a7, a8]) : (results fn tmps).run Try.prog w = .ok (.agg #[a0, a1, a2, a3, a4, a5, a6, a7, a8]) w :=
  results_cell_row h tmps w g 37 #[a0, a1, a2, a3, a4, a5, a6, a7, a8] (0, 0) _ hp hg Try.underlying37 rfl Try.sizeOf37

set_option maxHeartbeats 4000000 in
theorem href_any (v : Value) (h : Hs) (w : World) (hh : HSrc w v h) (hl : h.P.length ≤ 1024 ∧ h.N.length ≤ 1024) :
    Calls Try.prog 13 #[v] w fun e w' => ∃ u, e = .returned u ∧ HSrc w' u h ∧ Fr [] w w' := by
  obtain ⟨po, pc, no, nc, qo, qc, ro, rc, rfl, hin, hsr, _⟩ := hh.opens
  have HIN : Hid (in64 h.s ∧ inu h.z ∧ inu h.zc ∧ inu h.c ∧ inu h.sm) := hin
  have HSR : Hid (SSrc w (.slice po h.P.length pc) h.P ∧ SSrc w (.slice no h.N.length nc) h.N ∧ ISrc w (.slice qo h.pd.length qc) h.pd ∧ ISrc w (.slice ro h.nd.length rc) h.nd) := hsr
  have HL : Hid (h.P.length ≤ 1024 ∧ h.N.length ≤ 1024) := hl
  clear hh hin hsr hl
  go_enter Try.func13, Try.ntmps13
  obtain ⟨cs, hcs⟩ : ∃ cs : Array Value, cs = #[.int .i64 h.s, .int .u64 h.z, .int .u64 h.zc, .int .u64 h.c, .int .u64 h.sm, .slice po h.P.length pc, .slice no h.N.length nc, .slice qo h.pd.length qc, .slice ro h.nd.length rc] := ⟨_, rfl⟩
  have HA : Hid (∀ z, Nine ((w.alloc (.cells cs 26)).alloc (.cells z 37)) w.heap.size cs ∧ NineR ((w.alloc (.cells cs 26)).alloc (.cells z 37)) (w.heap.size + 1) z ∧ Fr [] w ((w.alloc (.cells cs 26)).alloc (.cells z 37))) := fun z => ⟨nine_mid _ _ _, nineR_top _ _ _, ((Fr.refl [] w).alloc _).alloc _⟩
  subst hcs
  go_upto_region 1 with fail
  obtain ⟨hA3, hA6, hAF⟩ := HA.out #[.int .i64 0, .int .u64 0, .int .u64 0, .int .u64 0, .int .u64 0, .slice none 0 0, .slice none 0 0, .slice none 0 0, .slice none 0 0]
  clear HA
  generalize (w.alloc (.cells _ _)).alloc (.cells _ _) = wA at hA3 hA6 hAF ⊢
  have HSZ : Hid (w.heap.size + 1 < wA.heap.size) := lt_of_heap hA6
  have H6 : Hid (NineR wA (w.heap.size + 1) _) := hA6
  have HAF : Hid (Fr [] w wA) := hAF
  have c0 := hA3.cell 0 rfl
  have c1 := hA3.cell 1 rfl
  have c2 := hA3.cell 2 rfl
  have c3 := hA3.cell 3 rfl
  have c4 := hA3.cell 4 rfl
  have c5 := hA3.cell 5 rfl
  have c6 := hA3.cell 6 rfl
  have c7 := hA3.cell 7 rfl
  have c8 := hA3.cell 8 rfl
  clear hA3 hA6 hAF
  have HSP : Hid (∀ wx, Fr [] wA wx → Calls Try.prog 31 #[.slice po h.P.length pc] wx fun e w' => ∃ u, e = .returned u ∧ SOwn 102 wA.heap.size w' u h.P ∧ Fr [] wA w') := by
    intro wx hf
    refine (spans_any _ h.P wx (HSR.out.1.kept (HAF.out.trans hf (by simp))) HL.out.1).mono ?_
    rintro e w' ⟨u, rfl, hu, hf'⟩
    exact ⟨u, rfl, hu.mono hf.size, hf.trans hf' (by simp)⟩
  have HSN : Hid (∀ wx, Fr [] wA wx → Calls Try.prog 31 #[.slice no h.N.length nc] wx fun e w' => ∃ u, e = .returned u ∧ SOwn 102 wA.heap.size w' u h.N ∧ Fr [] wA w' ∧ Fr [] wx w') := by
    intro wx hf
    refine (spans_any _ h.N wx (HSR.out.2.1.kept (HAF.out.trans hf (by simp))) HL.out.2).mono ?_
    rintro e w' ⟨u, rfl, hu, hf'⟩
    exact ⟨u, rfl, hu.mono hf.size, hf.trans hf' (by simp), hf'⟩
  have F0 : Fr [] wA wA.drew := (Fr.refl _ _).drew
  go_region_held3 (fun w' => w'.cell? ⟨w.heap.size, 0, none⟩ = some (.int .i64 h.s) ∧ w'.cell? ⟨w.heap.size, 1, none⟩ = some (.int .u64 h.z) ∧ w'.cell? ⟨w.heap.size, 2, none⟩ = some (.int .u64 h.zc) ∧ w'.cell? ⟨w.heap.size, 3, none⟩ = some (.int .u64 h.c) ∧ w'.cell? ⟨w.heap.size, 4, none⟩ = some (.int .u64 h.sm) ∧ w'.cell? ⟨w.heap.size, 5, none⟩ = some (.slice po h.P.length pc) ∧ w'.cell? ⟨w.heap.size, 6, none⟩ = some (.slice no h.N.length nc) ∧ w'.cell? ⟨w.heap.size, 7, none⟩ = some (.slice qo h.pd.length qc) ∧ w'.cell? ⟨w.heap.size, 8, none⟩ = some (.slice ro h.nd.length rc)) (go_keep) (first
    | (go_at_call 31; with_reducible refine (HSP.out _ F0).mono ?_; rintro e wa ⟨ua, rfl, hua, hfa⟩; have ka0 := hfa.cell_some c0 (by simp); have ka1 := hfa.cell_some c1 (by simp); have ka2 := hfa.cell_some c2 (by simp); have ka3 := hfa.cell_some c3 (by simp); have ka4 := hfa.cell_some c4 (by simp); have ka5 := hfa.cell_some c5 (by simp); have ka6 := hfa.cell_some c6 (by simp); have ka7 := hfa.cell_some c7 (by simp); have ka8 := hfa.cell_some c8 (by simp))
    | (go_at_call 31; with_reducible refine (HSN.out _ hfa).mono ?_; rintro e wb ⟨ub, rfl, hub, hfb, hfab⟩; have kb0 := hfb.cell_some c0 (by simp); have kb1 := hfb.cell_some c1 (by simp); have kb2 := hfb.cell_some c2 (by simp); have kb3 := hfb.cell_some c3 (by simp); have kb4 := hfb.cell_some c4 (by simp); have kb5 := hfb.cell_some c5 (by simp); have kb6 := hfb.cell_some c6 (by simp); have kb7 := hfb.cell_some c7 (by simp); have kb8 := hfb.cell_some c8 (by simp); have h6 := H6.out.kept hfb (by simp); have d0 := h6.cell 0 rfl; have d1 := h6.cell 1 rfl; have d2 := h6.cell 2 rfl; have d3 := h6.cell 3 rfl; have d4 := h6.cell 4 rfl; have d5 := h6.cell 5 rfl; have d6 := h6.cell 6 rfl; have d7 := h6.cell 7 rfl; have d8 := h6.cell 8 rfl; have f0 := h6.frozen 0; have f1 := h6.frozen 1; have f2 := h6.frozen 2; have f3 := h6.frozen 3; have f4 := h6.frozen 4; have f5 := h6.frozen 5; have f6 := h6.frozen 6; have f7 := h6.frozen 7; have f8 := h6.frozen 8; obtain ⟨ua1, ua2, rfl⟩ := hua.val; obtain ⟨ub1, ub2, rfl⟩ := hub.val))
  have H6b : Hid (NineR wb (w.heap.size + 1) _) := h6
  have HUA : Hid (SOwn 102 wA.heap.size wb (.slice ua1 h.P.length ua2) h.P) := hua.kept hfab
  have HUB : Hid (SOwn 102 wA.heap.size wb (.slice ub1 h.N.length ub2) h.N) := hub
  have HFB : Hid (Fr [] w wb) := HAF.out.trans hfb (by simp)
  clear h6 hua hub hfb
  go_wp2
  refine bodyPost_ret (histR_res rfl _ _ (w.heap.size + 1) _ _ _ _ _ _ _ _ _ rfl (set9_nineR H6b.out _ _ _ _ _ _ _ _ _)) rfl ?_
  have hs9 := set9_fr (S := [w.heap.size + 1]) (g := w.heap.size + 1) (Fr.refl _ wb) (.inl (by simp)) (.int .i64 h.s) (.int .u64 h.z) (.int .u64 h.zc) (.int .u64 h.c) (.int .u64 h.sm) (.slice ua1 h.P.length ua2) (.slice ub1 h.N.length ub2) (.slice qo h.pd.length qc) (.slice ro h.nd.length rc)
  have hfw : Fr [] w (set9 wb (w.heap.size + 1) (.int .i64 h.s) (.int .u64 h.z) (.int .u64 h.zc) (.int .u64 h.c) (.int .u64 h.sm) (.slice ua1 h.P.length ua2) (.slice ub1 h.N.length ub2) (.slice qo h.pd.length qc) (.slice ro h.nd.length rc)) := set9_fr HFB.out (.inr (by simp)) _ _ _ _ _ _ _ _ _
  have hb : ∀ y ∈ [w.heap.size + 1], y < wA.heap.size := by have := HSZ.out; simp; omega
  have hp64 : ∀ s ∈ h.P, in64 s.1 ∧ in64 s.2 := by obtain ⟨_, _, _, _, _, h64, _⟩ := HSR.out.1; exact h64
  have hn64 : ∀ s ∈ h.N, in64 s.1 ∧ in64 s.2 := by obtain ⟨_, _, _, _, _, h64, _⟩ := HSR.out.2.1; exact h64
  exact ⟨_, rfl, ⟨_, _, _, _, rfl, HIN.out.1, HIN.out.2, (HUA.out.keptS hs9 hb).src hp64, (HUB.out.keptS hs9 hb).src hn64, HSR.out.2.2.1.kept hfw, HSR.out.2.2.2.kept hfw⟩, hfw⟩
end Go.Proofs.Ytnfbmdniomelnaa

/-
  What the statements of layer 11 share: little, floats.
-/
namespace Go.Proofs.Ytnfbmdniomelnaa
open Go.RowKit Mem Spans
set_option linter.unusedSimpArgs false
set_option linter.unusedVariables false
set_option maxRecDepth 100000

/-- What small lets by. -/
def FewF (h : Fs) : Prop := h.P.length ≤ 400 ∧ h.N.length ≤ 400 ∧ h.pd.length ≤ 300 ∧ h.nd.length ≤ 300
set_option maxHeartbeats 2000000 in
theorem fsmall_any (v : Value) (h : Fs) (w : World) (hh : FSrc w v h) :
    Calls Try.prog 16 #[v] w fun e w' => ∃ r : Bool, e = .returned (.bool r) ∧ (r = true → FewF h) ∧ Fr [] w w' := by
  obtain ⟨po, pc, no, nc, qo, qc, ro, rc, rfl, hin, hsr, _⟩ := hh.opens
  have HSR : Hid (SSrc w (.slice po h.P.length pc) h.P ∧ SSrc w (.slice no h.N.length nc) h.N) := ⟨hsr.1, hsr.2.1⟩
  clear hh hin hsr
  obtain ⟨s, z, zc, c, sm, P, N, pd, nd⟩ := h
  simp only at HSR ⊢
  go_enter Try.func16, Try.ntmps16
  have HN0 : Hid (NineF (w.alloc (.cells #[.int .i64 s, .int .u64 z, .int .u64 zc, .int .u64 c, .int .u64 sm, .slice po P.length pc, .slice no N.length nc, .slice qo pd.length qc, .slice ro nd.length rc] 44)) w.heap.size #[.int .i64 s, .int .u64 z, .int .u64 zc, .int .u64 c, .int .u64 sm, .slice po P.length pc, .slice no N.length nc, .slice qo pd.length qc, .slice ro nd.length rc]) := NineF.new _ _
  have HF0 : Hid (Fr [] w (w.alloc (.cells #[.int .i64 s, .int .u64 z, .int .u64 zc, .int .u64 c, .int .u64 sm, .slice po P.length pc, .slice no N.length nc, .slice qo pd.length qc, .slice ro nd.length rc] 44))) := (Fr.refl [] w).alloc _
  go_wp2_with fail
  refine (few_any _ P _ (HSR.out.1.kept HF0.out)).mono ?_
  rintro e w1 ⟨r1, rfl, hr1, hf1⟩
  have HF1 : Hid (Fr [] w w1) := HF0.out.trans hf1 (by simp)
  have HN1 : Hid (NineF w1 w.heap.size _) := HN0.out.kept hf1 (by simp)
  have HR1 : Hid (r1 = true → P.length ≤ 400) := hr1
  clear hf1 hr1 HN0 HF0
  cases r1 with
  | false =>
    go_wp2
    go_ret
    exact ⟨false, rfl, by simp, HF1.out⟩
  | true =>
    have c6 := HN1.out.cell 6 rfl
    go_wp2_with fail
    refine (few_any _ N _ (HSR.out.2.kept HF1.out)).mono ?_
    rintro e w2 ⟨r2, rfl, hr2, hf2⟩
    have HF2 : Hid (Fr [] w w2) := HF1.out.trans hf2 (by simp)
    have HN2 : Hid (NineF w2 w.heap.size _) := HN1.out.kept hf2 (by simp)
    have HR2 : Hid (r2 = true → N.length ≤ 400) := hr2
    clear hf2 hr2 HN1 c6
    cases r2 with
    | false =>
      go_wp2
      go_ret
      exact ⟨false, rfl, by simp, HF2.out⟩
    | true =>
      have c7 := HN2.out.cell 7 rfl
      have c8 := HN2.out.cell 8 rfl
      by_cases h3 : pd.length ≤ 300
      · by_cases h4 : nd.length ≤ 300
        · have d3 : decide ((pd.length : Int) ≤ 300) = true := decide_eq_true (by omega)
          have d4 : decide ((nd.length : Int) ≤ 300) = true := decide_eq_true (by omega)
          go_wp2
          go_ret
          exact ⟨true, rfl, fun _ => ⟨HR1.out (by trivial), HR2.out (by trivial), h3, h4⟩, HF2.out⟩
        · have d3 : decide ((pd.length : Int) ≤ 300) = true := decide_eq_true (by omega)
          have d4 : decide ((nd.length : Int) ≤ 300) = false := decide_eq_false (by omega)
          go_wp2
          go_ret
          exact ⟨false, rfl, by simp, HF2.out⟩
      · have d3 : decide ((pd.length : Int) ≤ 300) = false := decide_eq_false (by omega)
        go_wp2
        go_ret
        exact ⟨false, rfl, by simp, HF2.out⟩

/-- A block of the document's histogram. -/
def NineG (w : World) (b : Nat) (cs : Array Value) : Prop := w.heap[b]? = some (.cells cs 49 (0, 0))
theorem NineG.kept {w w' : World} {b : Nat} {cs : Array Value} {S : List Nat} (h : NineG w b cs) (f : Fr S w w') (hb : b ∉ S) : NineG w' b cs := f.heap h hb
theorem NineG.cell {w : World} {b : Nat} {cs : Array Value} (h : NineG w b cs) (i : Nat) {v : Value} (hv : cs[i]? = some v) : w.cell? ⟨b, i, none⟩ = some v := by rw [cell_at h]; exact hv
theorem NineG.frozen {w : World} {b : Nat} {cs : Array Value} (h : NineG w b cs) (i : Nat) : w.frozen? ⟨b, i, none⟩ = false := frozen_at h i
theorem NineG.new (w : World) (cs : Array Value) : NineG (w.alloc (.cells cs 49)) w.heap.size cs := heap_alloc_new _ _
theorem nineG_top (w : World) (o : Obj) (cs : Array Value) : NineG ((w.alloc o).alloc (.cells cs 49)) (w.heap.size + 1) cs := by
  have := NineG.new (w.alloc o) cs
  rwa [World.size_alloc] at this
theorem set9_nineG {w : World} {g : Nat} {a0 a1 a2 a3 a4 a5 a6 a7 a8 : Value} (h : NineG w g #[a0, a1, a2, a3, a4, a5, a6, a7, a8]) (u0 u1 u2 u3 u4 u5 u6 u7 u8 : Value) : NineG (set9 w g u0 u1 u2 u3 u4 u5 u6 u7 u8) g #[u0, u1, u2, u3, u4, u5, u6, u7, u8] := by
  unfold NineG at h ⊢
  simp [set9, World.setCell, Array.getElem?_modify, h]
theorem Try.sizeOf49 : (Try.prog.info? 49).map (·.size) = some 9 := by kernel_rfl
theorem histG_res {fn : Func} {p : Tmp} (h : fn.results = #[.cell p 49]) (tmps : Array Value) (w : World) (g : Nat) (a0 a1 a2 a3 a4 a5 a6 a7 a8 : Value)
    (hp : tmps.getD p undef = .pointer (some ⟨g, 0, none⟩)) (hg : NineG w g #[a0, a1, a2, a3, a4, a5, a6, a7, a8]) : (results fn tmps).run Try.prog w = .ok (.agg #[a0, a1, a2, a3, a4, a5, a6, a7, a8]) w :=
  results_cell_row h tmps w g 49 #[a0, a1, a2, a3, a4, a5, a6, a7, a8] (0, 0) _ hp hg Try.underlying49 rfl Try.sizeOf49

set_option maxHeartbeats 4000000 in
theorem fref_any (v : Value) (h : Fs) (w : World) (hh : FSrc w v h) (hl : h.P.length ≤ 1024 ∧ h.N.length ≤ 1024) :
    Calls Try.prog 19 #[v] w fun e w' => ∃ u, e = .returned u ∧ FSrc w' u h ∧ Fr [] w w' := by
  obtain ⟨po, pc, no, nc, qo, qc, ro, rc, rfl, hin, hsr, _⟩ := hh.opens
  have HIN : Hid (in64 h.s ∧ inu h.z ∧ inu h.zc ∧ inu h.c ∧ inu h.sm) := hin
  have HSR : Hid (SSrc w (.slice po h.P.length pc) h.P ∧ SSrc w (.slice no h.N.length nc) h.N ∧ USrc w (.slice qo h.pd.length qc) h.pd ∧ USrc w (.slice ro h.nd.length rc) h.nd) := hsr
  have HL : Hid (h.P.length ≤ 1024 ∧ h.N.length ≤ 1024) := hl
  clear hh hin hsr hl
  go_enter Try.func19, Try.ntmps19
  obtain ⟨cs, hcs⟩ : ∃ cs : Array Value, cs = #[.int .i64 h.s, .int .u64 h.z, .int .u64 h.zc, .int .u64 h.c, .int .u64 h.sm, .slice po h.P.length pc, .slice no h.N.length nc, .slice qo h.pd.length qc, .slice ro h.nd.length rc] := ⟨_, rfl⟩
  have HA : Hid (∀ z, NineF ((w.alloc (.cells cs 44)).alloc (.cells z 49)) w.heap.size cs ∧ NineG ((w.alloc (.cells cs 44)).alloc (.cells z 49)) (w.heap.size + 1) z ∧ Fr [] w ((w.alloc (.cells cs 44)).alloc (.cells z 49))) := fun z => ⟨nineF_mid _ _ _, nineG_top _ _ _, ((Fr.refl [] w).alloc _).alloc _⟩
  subst hcs
  go_upto_region 1 with fail
  obtain ⟨hA3, hA6, hAF⟩ := HA.out #[.int .i64 0, .int .u64 0, .int .u64 0, .int .u64 0, .int .u64 0, .slice none 0 0, .slice none 0 0, .slice none 0 0, .slice none 0 0]
  clear HA
  generalize (w.alloc (.cells _ _)).alloc (.cells _ _) = wA at hA3 hA6 hAF ⊢
  have HSZ : Hid (w.heap.size + 1 < wA.heap.size) := lt_of_heap hA6
  have H6 : Hid (NineG wA (w.heap.size + 1) _) := hA6
  have HAF : Hid (Fr [] w wA) := hAF
  have c0 := hA3.cell 0 rfl
  have c1 := hA3.cell 1 rfl
  have c2 := hA3.cell 2 rfl
  have c3 := hA3.cell 3 rfl
  have c4 := hA3.cell 4 rfl
  have c5 := hA3.cell 5 rfl
  have c6 := hA3.cell 6 rfl
  have c7 := hA3.cell 7 rfl
  have c8 := hA3.cell 8 rfl
  clear hA3 hA6 hAF
  have HSP : Hid (∀ wx, Fr [] wA wx → Calls Try.prog 31 #[.slice po h.P.length pc] wx fun e w' => ∃ u, e = .returned u ∧ SOwn 102 wA.heap.size w' u h.P ∧ Fr [] wA w') := by
    intro wx hf
    refine (spans_any _ h.P wx (HSR.out.1.kept (HAF.out.trans hf (by simp))) HL.out.1).mono ?_
    rintro e w' ⟨u, rfl, hu, hf'⟩
    exact ⟨u, rfl, hu.mono hf.size, hf.trans hf' (by simp)⟩
  have HSN : Hid (∀ wx, Fr [] wA wx → Calls Try.prog 31 #[.slice no h.N.length nc] wx fun e w' => ∃ u, e = .returned u ∧ SOwn 102 wA.heap.size w' u h.N ∧ Fr [] wA w' ∧ Fr [] wx w') := by
    intro wx hf
    refine (spans_any _ h.N wx (HSR.out.2.1.kept (HAF.out.trans hf (by simp))) HL.out.2).mono ?_
    rintro e w' ⟨u, rfl, hu, hf'⟩
    exact ⟨u, rfl, hu.mono hf.size, hf.trans hf' (by simp), hf'⟩
  have F0 : Fr [] wA wA.drew := (Fr.refl _ _).drew
  go_region_held3 (fun w' => w'.cell? ⟨w.heap.size, 0, none⟩ = some (.int .i64 h.s) ∧ w'.cell? ⟨w.heap.size, 1, none⟩ = some (.int .u64 h.z) ∧ w'.cell? ⟨w.heap.size, 2, none⟩ = some (.int .u64 h.zc) ∧ w'.cell? ⟨w.heap.size, 3, none⟩ = some (.int .u64 h.c) ∧ w'.cell? ⟨w.heap.size, 4, none⟩ = some (.int .u64 h.sm) ∧ w'.cell? ⟨w.heap.size, 5, none⟩ = some (.slice po h.P.length pc) ∧ w'.cell? ⟨w.heap.size, 6, none⟩ = some (.slice no h.N.length nc) ∧ w'.cell? ⟨w.heap.size, 7, none⟩ = some (.slice qo h.pd.length qc) ∧ w'.cell? ⟨w.heap.size, 8, none⟩ = some (.slice ro h.nd.length rc)) (go_keep) (first
    | (go_at_call 31; with_reducible refine (HSP.out _ F0).mono ?_; rintro e wa ⟨ua, rfl, hua, hfa⟩; have ka0 := hfa.cell_some c0 (by simp); have ka1 := hfa.cell_some c1 (by simp); have ka2 := hfa.cell_some c2 (by simp); have ka3 := hfa.cell_some c3 (by simp); have ka4 := hfa.cell_some c4 (by simp); have ka5 := hfa.cell_some c5 (by simp); have ka6 := hfa.cell_some c6 (by simp); have ka7 := hfa.cell_some c7 (by simp); have ka8 := hfa.cell_some c8 (by simp))
    | (go_at_call 31; with_reducible refine (HSN.out _ hfa).mono ?_; rintro e wb ⟨ub, rfl, hub, hfb, hfab⟩; have kb0 := hfb.cell_some c0 (by simp); have kb1 := hfb.cell_some c1 (by simp); have kb2 := hfb.cell_some c2 (by simp); have kb3 := hfb.cell_some c3 (by simp); have kb4 := hfb.cell_some c4 (by simp); have kb5 := hfb.cell_some c5 (by simp); have kb6 := hfb.cell_some c6 (by simp); have kb7 := hfb.cell_some c7 (by simp); have kb8 := hfb.cell_some c8 (by simp); have h6 := H6.out.kept hfb (by simp); have d0 := h6.cell 0 rfl; have d1 := h6.cell 1 rfl; have d2 := h6.cell 2 rfl; have d3 := h6.cell 3 rfl; have d4 := h6.cell 4 rfl; have d5 := h6.cell 5 rfl; have d6 := h6.cell 6 rfl; have d7 := h6.cell 7 rfl; have d8 := h6.cell 8 rfl; have f0 := h6.frozen 0; have f1 := h6.frozen 1; have f2 := h6.frozen 2; have f3 := h6.frozen 3; have f4 := h6.frozen 4; have f5 := h6.frozen 5; have f6 := h6.frozen 6; have f7 := h6.frozen 7; have f8 := h6.frozen 8; obtain ⟨ua1, ua2, rfl⟩ := hua.val; obtain ⟨ub1, ub2, rfl⟩ := hub.val))
  have H6b : Hid (NineG wb (w.heap.size + 1) _) := h6
  have HUA : Hid (SOwn 102 wA.heap.size wb (.slice ua1 h.P.length ua2) h.P) := hua.kept hfab
  have HUB : Hid (SOwn 102 wA.heap.size wb (.slice ub1 h.N.length ub2) h.N) := hub
  have HFB : Hid (Fr [] w wb) := HAF.out.trans hfb (by simp)
  clear h6 hua hub hfb
  go_wp2
  refine bodyPost_ret (histG_res rfl _ _ (w.heap.size + 1) _ _ _ _ _ _ _ _ _ rfl (set9_nineG H6b.out _ _ _ _ _ _ _ _ _)) rfl ?_
  have hs9 := set9_fr (S := [w.heap.size + 1]) (g := w.heap.size + 1) (Fr.refl _ wb) (.inl (by simp)) (.int .i64 h.s) (.int .u64 h.z) (.int .u64 h.zc) (.int .u64 h.c) (.int .u64 h.sm) (.slice ua1 h.P.length ua2) (.slice ub1 h.N.length ub2) (.slice qo h.pd.length qc) (.slice ro h.nd.length rc)
  have hfw : Fr [] w (set9 wb (w.heap.size + 1) (.int .i64 h.s) (.int .u64 h.z) (.int .u64 h.zc) (.int .u64 h.c) (.int .u64 h.sm) (.slice ua1 h.P.length ua2) (.slice ub1 h.N.length ub2) (.slice qo h.pd.length qc) (.slice ro h.nd.length rc)) := set9_fr HFB.out (.inr (by simp)) _ _ _ _ _ _ _ _ _
  have hb : ∀ y ∈ [w.heap.size + 1], y < wA.heap.size := by have := HSZ.out; simp; omega
  have hp64 : ∀ s ∈ h.P, in64 s.1 ∧ in64 s.2 := by obtain ⟨_, _, _, _, _, h64, _⟩ := HSR.out.1; exact h64
  have hn64 : ∀ s ∈ h.N, in64 s.1 ∧ in64 s.2 := by obtain ⟨_, _, _, _, _, h64, _⟩ := HSR.out.2.1; exact h64
  exact ⟨_, rfl, ⟨_, _, _, _, rfl, HIN.out.1, HIN.out.2, (HUA.out.keptS hs9 hb).src hp64, (HUB.out.keptS hs9 hb).src hn64, HSR.out.2.2.1.kept hfw, HSR.out.2.2.2.kept hfw⟩, hfw⟩
end Go.Proofs.Ytnfbmdniomelnaa

/-
  The document's NaN, Head, Side, Fits, Check (layer 9).
-/
namespace Go.Proofs.Ytnfbmdniomelnaa
open Go.RowKit Mem Spans
set_option linter.unusedSimpArgs false
set_option linter.unusedVariables false
set_option maxRecDepth 100000

theorem nan_low {v : Int} (hv : inu v) (h : v < 9223372036854775808) : nan v = decide (9218868437227405312 < v) := by
  unfold nan; rw [show v % 9223372036854775808 = v from by unfold inu at hv; omega]
theorem nan_high {v : Int} (hv : inu v) (h : ¬ v < 9223372036854775808) : nan v = decide (9218868437227405312 < v - 9223372036854775808) ∧ IntKind.u64.wrap (v - 9223372036854775808) = v - 9223372036854775808 := by
  unfold inu at hv
  constructor
  · unfold nan; rw [show v % 9223372036854775808 = v - 9223372036854775808 from by omega]
  · rw [IntKind.wrap_u64]; omega
set_option maxHeartbeats 400000 in
theorem lnan_any (v : Int) (w : World) (hv : inu v) :
    Calls Try.prog 51 #[.int .u64 v] w fun e w' => e = .returned (.bool (nan v)) ∧ w = w' := by
  go_enter Try.func51, Try.ntmps51
  by_cases h : v < 9223372036854775808
  · have HE : Hid (nan v = decide (9218868437227405312 < v)) := nan_low hv h
    clear hv
    go_wp2
    go_ret
    exact ⟨by rw [HE.out]; rfl, rfl⟩
  · have HE : Hid (nan v = decide (9218868437227405312 < v - 9223372036854775808)) := (nan_high hv h).1
    have e := (nan_high hv h).2
    clear hv
    go_wp2
    go_ret
    exact ⟨by rw [HE.out]; rfl, rfl⟩
set_option maxHeartbeats 400000 in
theorem lhead_any (s z : Int) (w : World) :
    Calls Try.prog 28 #[.int .i64 s, .int .u64 z] w fun e w' => e = .returned (.int .i64 (hde s z)) ∧ w = w' := by
  go_enter Try.func28, Try.ntmps28
  by_cases h1 : s < -4
  · have HE : Hid (hde s z = 21) := by unfold Hid hde; rw [if_pos (.inl h1)]
    go_wp2
    go_ret
    exact ⟨by rw [HE.out]; rfl, rfl⟩
  by_cases h2 : 8 < s
  · have HE : Hid (hde s z = 21) := by unfold Hid hde; rw [if_pos (.inr h2)]
    go_wp2
    go_ret
    exact ⟨by rw [HE.out]; rfl, rfl⟩
  by_cases hz : z < 9218868437227405312
  · have HE : Hid (hde s z = 0) := by unfold Hid hde; rw [if_neg (by omega), if_pos hz]
    go_wp2
    go_ret
    exact ⟨by rw [HE.out]; rfl, rfl⟩
  · have HE : Hid (hde s z = 11) := by unfold Hid hde; rw [if_neg (by omega), if_neg hz]
    go_wp2
    go_ret
    exact ⟨by rw [HE.out]; rfl, rfl⟩

/-- Side's places, its counts. -/
def spl (l : List Sp) (d : List Int) : List Int := if sde l d = 0 then pls l else []
def svl (l : List Sp) (d : List Int) : List Int := if sde l d = 0 then abv d else []
theorem abe_abo (d : List Int) : (abe d = 0 ∧ abo d = 0) ∨ (abe d = 28 ∧ abo d = 1) := by unfold abe abo; cases absl 0 d <;> simp
theorem sp_nil {l : List Sp} {d : List Int} (h : sde l d ≠ 0) : spl l d = [] ∧ svl l d = [] := by unfold spl svl; rw [if_neg h, if_neg h]; exact ⟨rfl, rfl⟩

set_option maxHeartbeats 2000000 in
theorem lside_any (v u : Value) (l : List Sp) (d : List Int) (w : World) (h : SSrc w v l) (h2 : ISrc w u d) :
    Calls Try.prog 29 #[v, u] w fun e w' => ∃ x y, e = .returned (.tuple #[x, y, .int .i64 (sde l d)]) ∧ IOwn w.heap.size w' x (spl l d) ∧ NOwn 2 w.heap.size w' y (svl l d) ∧ Fr [] w w' := by
  have HSR : Hid (SSrc w v l) := h
  have HIR : Hid (ISrc w u d) := h2
  obtain ⟨ao, cap, rfl, hcap, hmax, _⟩ := h
  obtain ⟨bo, bcap, rfl, hbcap, hbmax, _⟩ := h2
  go_enter Try.func29, Try.ntmps29
  go_wp2_with fail
  refine (lcheck_any _ l _ HSR.out).mono ?_
  rintro e w1 ⟨rfl, hf1⟩
  have HF1 : Hid (Fr [] w w1) := hf1
  clear hf1
  by_cases hk : chk l = 0
  · have HK : Hid (chk l = 0) := hk
    rw [hk]
    clear hk
    go_wp2_with fail
    refine (lplaces_any _ l _ (HSR.out.kept HF1.out) HK.out).mono ?_
    rintro e w2 ⟨p, rfl, hp, hf2⟩
    have HF2 : Hid (Fr [] w w2) := HF1.out.trans hf2 (by simp)
    have HP : Hid (IOwn w.heap.size w2 p (pls l)) := by
      rcases hp with h | ⟨g, h1, h2⟩
      · exact .inl h
      · exact .inr ⟨g, Nat.le_trans HF1.out.size h1, h2⟩
    obtain ⟨pa, pcap, rfl⟩ := HP.out.val
    clear hf2 HF1 hp
    by_cases hd : d.length = (pls l).length
    · have HD : Hid (d.length = (pls l).length) := hd
      have hdb : (((pls l).length : Int) != (d.length : Int)) = false := by simp; omega
      clear hd
      go_wp2_with fail
      refine (labsolute_any _ d _ (HIR.out.kept HF2.out) (by have := HD.out; have := pls_le l; omega)).mono ?_
      rintro e w3 ⟨x, rfl, hx, hf3⟩
      have HF3 : Hid (Fr [] w w3) := HF2.out.trans hf3 (by simp)
      have HX : Hid (NOwn 2 w.heap.size w3 x (abv d)) := hx.mono HF2.out.size
      have HP3 : Hid (IOwn w.heap.size w3 (.slice pa (pls l).length pcap) (pls l)) := by
        rcases HP.out with h | ⟨g, h1, h2, h3⟩
        · exact .inl h
        · exact .inr ⟨g, h1, h2, h3.kept hf3 (by simp)⟩
      clear hf3 HF2 hx HP hdb
      rcases abe_abo d with ⟨ha, ho⟩ | ⟨ha, ho⟩
      · rw [ho]
        have HZ : Hid (sde l d = if nng (abv d) = true then 0 else 22) := by unfold Hid sde; rw [if_pos HK.out, if_pos HD.out, if_pos ha]
        have HAB : Hid (∀ wx, Fr [] w3 wx → ISrc wx x (abv d)) := fun wx hx => (HX.out.src (abv_in d)).kept hx
        obtain ⟨xo, xcap, hxv, hxc, hxm, _, xb, xoff, hxa, hxcell⟩ := HAB.out w3 (Fr.refl _ _)
        have HC : Hid (∀ j s, (abv d)[j]? = some s → w3.cell? ⟨xb, xoff + j, none⟩ = some (.int .i64 s)) := hxcell
        have HA : Hid (0 < (abv d).length → xo = some ⟨xb, xoff, none⟩) := hxa
        subst hxv
        clear hxcell hxa ha ho
        have hxm2 : (abv d).length ≤ 9223372036854775807 := by unfold maxLen at hxm; omega
        generalize hM : (abv d).length = M at *
        have HM : Hid ((abv d).length = M) := hM
        clear hM
        go_wp2
        go_loopw [11] (fun i wr => ∃ (k : Nat), k ≤ M ∧ i = .int .i64 (k : Int) ∧ nng ((abv d).take k) = true ∧ wr = w3) (fun i _ => M - (intOf i).toNat)
        case atStart => exact ⟨0, by omega, rfl, by simp [nng], rfl⟩
        case round =>
          obtain ⟨k, hk, rfl, hn, rfl⟩ := hrel
          have HN : Hid (nng ((abv d).take k) = true) := hn
          clear hn
          by_cases hlt : k < M
          · obtain rfl := HA.out (by omega)
            obtain ⟨s, hs⟩ := at_lt (l := abv d) (k := k) (by have := HM.out; omega)
            have c0 := HC.out k s hs
            have HS : Hid ((abv d)[k]? = some s) := hs
            clear hs
            by_cases h0 : s < 0
            · have HE : Hid (sde l d = 22) := by
                rw [Hid, HZ.out, if_neg]
                intro h
                have := nng_iff.1 h s (List.mem_of_getElem? HS.out)
                omega
              go_wp2
              go_ret3
              exact ⟨_, _, by rw [HE.out]; rfl, .inl ⟨(sp_nil (by rw [HE.out]; decide)).1, rfl⟩, .inl ⟨(sp_nil (by rw [HE.out]; decide)).2, rfl⟩, HF3.out⟩
            · have HN2 : Hid (nng ((abv d).take (k + 1)) = true) := by
                rw [Hid, take_at HS.out]
                have := HN.out
                simp only [nng, List.all_append, List.all_cons, List.all_nil, Bool.and_eq_true, Bool.and_true] at this ⊢
                exact ⟨this, decide_eq_true (by omega)⟩
              go_wp2
              go_roundw
              case rel => exact ⟨k + 1, by omega, by go_num, HN2.out, trivial⟩
              case measure => simp [intOf]; omega
          · have HN2 : Hid (nng (abv d) = true) := by
              have := HN.out
              rw [List.take_of_length_le (by have := HM.out; omega)] at this
              exact this
            have HE : Hid (sde l d = 0) := by rw [Hid, HZ.out, if_pos HN2.out]
            have HV : Hid (spl l d = pls l ∧ svl l d = abv d) := by unfold Hid spl svl; rw [if_pos HE.out, if_pos HE.out]; exact ⟨rfl, rfl⟩
            go_wp2
            go_ret3
            exact ⟨_, _, by rw [HE.out]; rfl, by rw [HV.out.1]; exact HP3.out, by rw [HV.out.2]; exact HX.out, HF3.out⟩
      · have HE : Hid (sde l d = 28) := by unfold Hid sde; rw [if_pos HK.out, if_pos HD.out, if_neg (by omega)]
        rw [ho]
        clear ha ho
        go_wp2
        go_ret3
        exact ⟨_, _, by rw [HE.out]; rfl, .inl ⟨(sp_nil (by rw [HE.out]; decide)).1, rfl⟩, .inl ⟨(sp_nil (by rw [HE.out]; decide)).2, rfl⟩, HF3.out⟩
    · have HE : Hid (sde l d = 23) := by unfold Hid sde; rw [if_pos HK.out, if_neg hd]
      have hdb : (((pls l).length : Int) != (d.length : Int)) = true := by simp; omega
      clear hd
      go_wp2
      go_ret3
      exact ⟨_, _, by rw [HE.out]; rfl, .inl ⟨(sp_nil (by rw [HE.out]; decide)).1, rfl⟩, .inl ⟨(sp_nil (by rw [HE.out]; decide)).2, rfl⟩, HF2.out⟩
  · have HE : Hid (sde l d = chk l) := by unfold Hid sde; rw [if_neg hk]
    have HNE : Hid (sde l d ≠ 0) := by rw [Hid, HE.out]; exact hk
    go_wp2
    go_ret3
    exact ⟨_, _, by rw [HE.out]; rfl, .inl ⟨(sp_nil HNE.out).1, rfl⟩, .inl ⟨(sp_nil HNE.out).2, rfl⟩, HF1.out⟩

/-- Both lists of counts, one behind the other, from the k-th on. -/
def rsi (p n : List Int) : Nat → List Int
  | 0 => p ++ n
  | 1 => n
  | _ => []
/-- The document's Fits. -/
def fte (zc c sm : Int) (p n : List Int) : Int := if fts zc c sm p n = true then 0 else 22

set_option maxHeartbeats 4000000 in
theorem lfits9_any (zc c sm : Int) (vp vn : Value) (p n : List Int) (w : World) (hu : inu zc ∧ inu c ∧ inu sm) (h1 : ISrc w vp p) (h2 : ISrc w vn n) (hp : ∀ x ∈ p, 0 ≤ x) (hn : ∀ x ∈ n, 0 ≤ x) :
    Calls Try.prog 30 #[.int .u64 zc, .int .u64 c, .int .u64 sm, vp, vn] w fun e w' => e = .returned (.int .i64 (fte zc c sm p n)) ∧ w = w' := by
  have HU : Hid (inu zc ∧ inu c ∧ inu sm) := hu
  have HP : Hid (ISrc w vp p) := h1
  have HN : Hid (ISrc w vn n) := h2
  have HPN : Hid (∀ x ∈ p, 0 ≤ x) := hp
  have HNN : Hid (∀ x ∈ n, 0 ≤ x) := hn
  obtain ⟨ao, cap, rfl, hcap, hmax, _⟩ := h1
  obtain ⟨bo, bcap, rfl, hbcap, hbmax, _⟩ := h2
  clear hu hp hn
  go_enter Try.func30, Try.ntmps30
  by_cases hzc : zc ≤ c
  · have hsub : IntKind.u64.wrap (c - zc) = c - zc := (sub_u HU.out.2.1 HU.out.1.1 hzc).1
    have hsu : Hid (inu (c - zc)) := (sub_u HU.out.2.1 HU.out.1.1 hzc).2
    have HFT : Hid (fts zc c sm p n = (match lft (c - zc) (p ++ n) with | some a => decide (a = 0) || nan sm | none => false)) := by unfold Hid fts; rw [decide_eq_true hzc]; rfl
    go_wp2
    go_loopw [11, 12] (fun lf i wr => ∃ (k : Nat) (a : Int), k ≤ 2 ∧ i = .int .i64 (k : Int) ∧ lf = .int .u64 a ∧ inu a ∧ lft (c - zc) (p ++ n) = lft a (rsi p n k) ∧ wr = w) (fun _ i _ => 2 - (intOf i).toNat)
    case atStart => exact ⟨0, c - zc, by omega, rfl, rfl, hsu.out, rfl, rfl⟩
    case round =>
      obtain ⟨k, a, hk, rfl, rfl, hia, hla, rfl⟩ := hrel
      have HIA : Hid (inu a) := hia
      have HLA : Hid (lft (c - zc) (p ++ n) = lft a (rsi p n k)) := hla
      clear hia hla
      by_cases hk2 : k < 2
      · obtain rfl | rfl : k = 0 ∨ k = 1 := by omega
        · obtain ⟨_, _, hv1, hkcap, hkmax, hk64, kb, koff, hka, hkcell⟩ := HP.out
          simp only [Value.slice.injEq, true_and] at hv1
          obtain ⟨rfl, rfl⟩ := hv1
          have HKC : Hid (∀ j s, p[j]? = some s → wr.cell? ⟨kb, koff + j, none⟩ = some (.int .i64 s)) := hkcell
          have HKA : Hid (0 < p.length → ao = some ⟨kb, koff, none⟩) := hka
          have HK6 : Hid (∀ s ∈ p, in64 s) := hk64
          have hkm : p.length ≤ 9223372036854775807 := by unfold maxLen at hkmax; omega
          clear hkcell hka hk64
          go_wp2
          go_loopw [11, 14] (fun lf i wx => ∃ (m : Nat) (b : Int), m ≤ p.length ∧ i = .int .i64 (m : Int) ∧ lf = .int .u64 b ∧ inu b ∧ lft (c - zc) (p ++ n) = lft b ((p.drop m ++ n)) ∧ wx = wr) (fun _ i _ => p.length - (intOf i).toNat)
          case atStart => exact ⟨0, a, by omega, rfl, rfl, HIA.out, by rw [HLA.out]; simp [rsi], rfl⟩
          case round =>
            obtain ⟨m, b, hm, rfl, rfl, hib, hlb, rfl⟩ := hrel
            have HIB : Hid (inu b) := hib
            have HLB : Hid (lft (c - zc) (p ++ n) = lft b ((p.drop m ++ n))) := hlb
            clear hib hlb
            by_cases hml : m < p.length
            · obtain rfl := HKA.out (by omega)
              obtain ⟨x, hx⟩ := at_lt hml
              have c0 := HKC.out m x hx
              have HX6 := HK6.out x (List.mem_of_getElem? hx)
              have HX0 : 0 ≤ x := HPN.out x (List.mem_of_getElem? hx)
              have HLB2 : Hid (lft (c - zc) (p ++ n) = lft b (x :: ((p.drop (m + 1) ++ n)))) := by rw [Hid, HLB.out, drop_at hx]; (first | done | simp)
              clear hx HLB
              have hq : IntKind.u64.wrap x = x := to_u HX0 HX6
              clear HX6
              by_cases hle : x ≤ b
              · have hs1 : IntKind.u64.wrap (b - x) = b - x := (sub_u HIB.out HX0 hle).1
                have HIB2 : Hid (inu (b - x)) := (sub_u HIB.out HX0 hle).2
                have HLB3 : Hid (lft (c - zc) (p ++ n) = lft (b - x) ((p.drop (m + 1) ++ n))) := by rw [Hid, HLB2.out, lft_cons, if_pos hle]
                go_wp2
                go_roundw
                case rel => exact ⟨_, _, _, ⟨m + 1, by omega, rfl, b - x, rfl, HIB2.out, HLB3.out⟩, rfl, rfl, by go_num⟩
                case measure => simp [intOf]; omega
              · have HE : Hid (fte zc c sm p n = 22) := by
                  have : fts zc c sm p n = false := by rw [HFT.out, HLB2.out, lft_cons, if_neg hle]
                  unfold Hid fte; rw [this]; rfl
                have hlt : b < x := by omega
                go_wp2
                go_ret
                exact ⟨by rw [HE.out]; rfl, rfl⟩
            · have HLB2 : Hid (lft (c - zc) (p ++ n) = lft b (rsi p n (0 + 1))) := by
                rw [Hid, HLB.out, List.drop_eq_nil_of_le (by omega)]; simp [rsi]
              go_wp2
              go_roundw
              case rel => exact ⟨0 + 1, b, by omega, by go_num, rfl, HIB.out, HLB2.out, trivial⟩
              case measure => first | (simp [intOf]; done) | (simp [intOf]; omega)
        · obtain ⟨_, _, hv1, hkcap, hkmax, hk64, kb, koff, hka, hkcell⟩ := HN.out
          simp only [Value.slice.injEq, true_and] at hv1
          obtain ⟨rfl, rfl⟩ := hv1
          have HKC : Hid (∀ j s, n[j]? = some s → wr.cell? ⟨kb, koff + j, none⟩ = some (.int .i64 s)) := hkcell
          have HKA : Hid (0 < n.length → bo = some ⟨kb, koff, none⟩) := hka
          have HK6 : Hid (∀ s ∈ n, in64 s) := hk64
          have hkm : n.length ≤ 9223372036854775807 := by unfold maxLen at hkmax; omega
          clear hkcell hka hk64
          go_wp2
          go_loopw [11, 14] (fun lf i wx => ∃ (m : Nat) (b : Int), m ≤ n.length ∧ i = .int .i64 (m : Int) ∧ lf = .int .u64 b ∧ inu b ∧ lft (c - zc) (p ++ n) = lft b ((n.drop m)) ∧ wx = wr) (fun _ i _ => n.length - (intOf i).toNat)
          case atStart => exact ⟨0, a, by omega, rfl, rfl, HIA.out, by rw [HLA.out]; simp [rsi], rfl⟩
          case round =>
            obtain ⟨m, b, hm, rfl, rfl, hib, hlb, rfl⟩ := hrel
            have HIB : Hid (inu b) := hib
            have HLB : Hid (lft (c - zc) (p ++ n) = lft b ((n.drop m))) := hlb
            clear hib hlb
            by_cases hml : m < n.length
            · obtain rfl := HKA.out (by omega)
              obtain ⟨x, hx⟩ := at_lt hml
              have c0 := HKC.out m x hx
              have HX6 := HK6.out x (List.mem_of_getElem? hx)
              have HX0 : 0 ≤ x := HNN.out x (List.mem_of_getElem? hx)
              have HLB2 : Hid (lft (c - zc) (p ++ n) = lft b (x :: ((n.drop (m + 1))))) := by rw [Hid, HLB.out, drop_at hx]; (first | done | simp)
              clear hx HLB
              have hq : IntKind.u64.wrap x = x := to_u HX0 HX6
              clear HX6
              by_cases hle : x ≤ b
              · have hs1 : IntKind.u64.wrap (b - x) = b - x := (sub_u HIB.out HX0 hle).1
                have HIB2 : Hid (inu (b - x)) := (sub_u HIB.out HX0 hle).2
                have HLB3 : Hid (lft (c - zc) (p ++ n) = lft (b - x) ((n.drop (m + 1)))) := by rw [Hid, HLB2.out, lft_cons, if_pos hle]
                go_wp2
                go_roundw
                case rel => exact ⟨_, _, _, ⟨m + 1, by omega, rfl, b - x, rfl, HIB2.out, HLB3.out⟩, rfl, rfl, by go_num⟩
                case measure => simp [intOf]; omega
              · have HE : Hid (fte zc c sm p n = 22) := by
                  have : fts zc c sm p n = false := by rw [HFT.out, HLB2.out, lft_cons, if_neg hle]
                  unfold Hid fte; rw [this]; rfl
                have hlt : b < x := by omega
                go_wp2
                go_ret
                exact ⟨by rw [HE.out]; rfl, rfl⟩
            · have HLB2 : Hid (lft (c - zc) (p ++ n) = lft b (rsi p n (1 + 1))) := by
                rw [Hid, HLB.out, List.drop_eq_nil_of_le (by omega)]; simp [rsi]
              go_wp2
              go_roundw
              case rel => exact ⟨1 + 1, b, by omega, by go_num, rfl, HIB.out, HLB2.out, trivial⟩
              case measure => first | (simp [intOf]; done) | (simp [intOf]; omega)
      · obtain rfl : k = 2 := by omega
        have HE : Hid (fts zc c sm p n = (decide (a = 0) || nan sm)) := by rw [Hid, HFT.out, HLA.out]; rfl
        have HIA0 := HIA.out.1
        by_cases ha : a = 0
        · have HE2 : Hid (fte zc c sm p n = 0) := by unfold Hid fte; rw [HE.out, decide_eq_true ha]; rfl
          subst ha
          go_wp2
          go_ret
          exact ⟨by rw [HE2.out]; rfl, rfl⟩
        · have hpos : 0 < a := by omega
          have HE2 : Hid (fte zc c sm p n = if nan sm = true then 0 else 22) := by unfold Hid fte; rw [HE.out, decide_eq_false ha]; rfl
          go_wp2_with fail
          refine (lnan_any sm _ HU.out.2.2).mono ?_
          rintro e w3 ⟨rfl, rfl⟩
          cases hq : nan sm with
          | true =>
            rw [hq] at HE2
            go_wp2
            go_ret
            exact ⟨by rw [HE2.out]; rfl, rfl⟩
          | false =>
            rw [hq] at HE2
            go_wp2
            go_ret
            exact ⟨by rw [HE2.out]; rfl, rfl⟩
  · have HE : Hid (fts zc c sm p n = false) := by unfold Hid fts; rw [decide_eq_false hzc]; rfl
    have HE2 : Hid (fte zc c sm p n = 22) := by unfold Hid fte; rw [HE.out]; rfl
    have hlt : c < zc := by omega
    go_wp2
    go_ret
    exact ⟨by rw [HE2.out]; rfl, rfl⟩

set_option maxHeartbeats 2000000 in
theorem lcheck9_any (v : Value) (h : Hs) (w : World) (hh : HSrc w v h) :
    Calls Try.prog 12 #[v] w fun e w' => e = .returned (.int .i64 (che h)) ∧ Fr [] w w' := by
  obtain ⟨po, pc, no, nc, qo, qc, ro, rc, rfl, hin, hsr, _⟩ := hh.opens
  have HIN : Hid (in64 h.s ∧ inu h.z ∧ inu h.zc ∧ inu h.c ∧ inu h.sm) := hin
  have HSR : Hid (SSrc w (.slice po h.P.length pc) h.P ∧ SSrc w (.slice no h.N.length nc) h.N ∧ ISrc w (.slice qo h.pd.length qc) h.pd ∧ ISrc w (.slice ro h.nd.length rc) h.nd) := hsr
  clear hh hin hsr
  obtain ⟨s, z, zc, c, sm, P, N, pd, nd⟩ := h
  simp only at HIN HSR ⊢
  go_enter Try.func12, Try.ntmps12
  have HN0 : Hid (NineR (w.alloc (.cells #[.int .i64 s, .int .u64 z, .int .u64 zc, .int .u64 c, .int .u64 sm, .slice po P.length pc, .slice no N.length nc, .slice qo pd.length qc, .slice ro nd.length rc] 37)) w.heap.size #[.int .i64 s, .int .u64 z, .int .u64 zc, .int .u64 c, .int .u64 sm, .slice po P.length pc, .slice no N.length nc, .slice qo pd.length qc, .slice ro nd.length rc]) := NineR.new _ _
  have HF0 : Hid (Fr [] w (w.alloc (.cells #[.int .i64 s, .int .u64 z, .int .u64 zc, .int .u64 c, .int .u64 sm, .slice po P.length pc, .slice no N.length nc, .slice qo pd.length qc, .slice ro nd.length rc] 37))) := (Fr.refl [] w).alloc _
  go_wp2_with fail
  refine (lhead_any s z _).mono ?_
  rintro e w1 ⟨rfl, rfl⟩
  by_cases h0 : hde s z = 0
  case neg =>
    have HC : Hid (che ⟨s, z, zc, c, sm, P, N, pd, nd⟩ = hde s z) := che_head h0
    go_wp2
    go_ret
    exact ⟨by rw [HC.out]; rfl, HF0.out⟩
  have H0 : Hid (hde s z = 0) := h0
  rw [h0]
  clear h0
  go_wp2_with fail
  refine (lside_any _ _ P pd _ (HSR.out.1.kept HF0.out) (HSR.out.2.2.1.kept HF0.out)).mono ?_
  rintro e w1 ⟨x, y, rfl, _, hy, hf1⟩
  have HF1 : Hid (Fr [] w w1) := HF0.out.trans hf1 (by simp)
  have HY : Hid (NOwn 2 w.heap.size w1 y (svl P pd)) := hy.mono HF0.out.size
  have HN1 : Hid (NineR w1 w.heap.size _) := HN0.out.kept hf1 (by simp)
  clear hy hf1 HN0 HF0
  by_cases hp : sde P pd = 0
  case neg =>
    have HC : Hid (che ⟨s, z, zc, c, sm, P, N, pd, nd⟩ = sde P pd) := che_pos H0.out hp
    go_wp2
    go_ret
    exact ⟨by rw [HC.out]; rfl, HF1.out⟩
  have HP : Hid (sde P pd = 0) := hp
  rw [hp]
  clear hp
  have c6 := HN1.out.cell 6 rfl
  have c8 := HN1.out.cell 8 rfl
  go_wp2_with fail
  refine (lside_any _ _ N nd _ (HSR.out.2.1.kept HF1.out) (HSR.out.2.2.2.kept HF1.out)).mono ?_
  rintro e w2 ⟨x2, y2, rfl, _, hy2, hf2⟩
  have HF2 : Hid (Fr [] w w2) := HF1.out.trans hf2 (by simp)
  have HY1 : Hid (NOwn 2 w.heap.size w2 y (svl P pd)) := HY.out.kept hf2
  have HY2 : Hid (NOwn 2 w.heap.size w2 y2 (svl N nd)) := hy2.mono HF1.out.size
  have HN2 : Hid (NineR w2 w.heap.size _) := HN1.out.kept hf2 (by simp)
  clear hy2 hf2 HN1 HF1 HY c6 c8
  by_cases hn : sde N nd = 0
  case neg =>
    have HC : Hid (che ⟨s, z, zc, c, sm, P, N, pd, nd⟩ = sde N nd) := che_neg H0.out HP.out hn
    go_wp2
    go_ret
    exact ⟨by rw [HC.out]; rfl, HF2.out⟩
  have HN : Hid (sde N nd = 0) := hn
  rw [hn]
  clear hn
  have HV : Hid (svl P pd = abv pd ∧ svl N nd = abv nd) := by unfold Hid svl; rw [if_pos HP.out, if_pos HN.out]; exact ⟨rfl, rfl⟩
  have c2 := HN2.out.cell 2 rfl
  have c3 := HN2.out.cell 3 rfl
  have c4 := HN2.out.cell 4 rfl
  go_wp2_with fail
  refine (lfits9_any zc c sm y y2 (abv pd) (abv nd) w2 HIN.out.2.2 (by have := HY1.out; rw [HV.out.1] at this; exact this.src (abv_in pd)) (by have := HY2.out; rw [HV.out.2] at this; exact this.src (abv_in nd)) (nng_iff.1 (sde_zero.1 HP.out).2.2.2) (nng_iff.1 (sde_zero.1 HN.out).2.2.2)).mono ?_
  rintro e w3 ⟨rfl, rfl⟩
  have HC : Hid (che ⟨s, z, zc, c, sm, P, N, pd, nd⟩ = fte zc c sm (abv pd) (abv nd)) := che_fts H0.out HP.out HN.out
  go_wp2
  go_ret
  exact ⟨by rw [HC.out]; rfl, HF2.out⟩
end Go.Proofs.Ytnfbmdniomelnaa

/-
  The document's Right, Side, Check (layer 10).
-/
namespace Go.Proofs.Ytnfbmdniomelnaa
open Go.RowKit Mem Spans
set_option linter.unusedSimpArgs false
set_option linter.unusedVariables false
set_option maxRecDepth 100000

theorem lright10_any (v : Int) (w : World) :
    Calls Try.prog 37 #[.int .u64 v] w fun e w' => e = .returned (.bool (rgt v)) ∧ w = w' := by
  go_enter Try.func37, Try.ntmps37
  go_wp2
  go_ret
  exact ⟨rfl, rfl⟩

set_option maxHeartbeats 2000000 in
theorem lside10_any (v u : Value) (l : List Sp) (d : List Int) (w : World) (h : SSrc w v l) (h2 : USrc w u d) :
    Calls Try.prog 38 #[v, u] w fun e w' => e = .returned (.int .i64 (fsd l d)) ∧ Fr [] w w' := by
  have HSR : Hid (SSrc w v l) := h
  have HIR : Hid (USrc w u d) := h2
  obtain ⟨ao, cap, rfl, hcap, hmax, _⟩ := h
  obtain ⟨bo, bcap, rfl, hbcap, hbmax, _⟩ := h2
  have hml : d.length ≤ 9223372036854775807 := by unfold maxLen at hbmax; omega
  go_enter Try.func38, Try.ntmps38
  go_wp2_with fail
  refine (lcheck_any _ l _ HSR.out).mono ?_
  rintro e w1 ⟨rfl, hf1⟩
  have HF1 : Hid (Fr [] w w1) := hf1
  clear hf1
  by_cases hk : chk l = 0
  · have HK : Hid (chk l = 0) := hk
    rw [hk]
    clear hk
    go_wp2_with fail
    refine (lplaces_any _ l _ (HSR.out.kept HF1.out) HK.out).mono ?_
    rintro e w2 ⟨p, rfl, hp, hf2⟩
    have HF2 : Hid (Fr [] w w2) := HF1.out.trans hf2 (by simp)
    obtain ⟨pa, pcap, rfl⟩ := hp.val
    clear hf2 HF1 hp
    by_cases hd : d.length = (pls l).length
    · have HZ : Hid (fsd l d = if rgts d = true then 0 else 22) := by unfold Hid fsd; rw [if_pos HK.out, if_pos hd]
      have hdb : (((pls l).length : Int) != (d.length : Int)) = false := by simp; omega
      have HU : Hid (USrc w2 (.slice bo d.length bcap) d) := HIR.out.kept HF2.out
      obtain ⟨_, _, hv, _, _, _, b, off, ha, hc⟩ := HU.out
      simp only [Value.slice.injEq] at hv
      obtain ⟨rfl, _, rfl⟩ := hv
      have HC : Hid (∀ j s, d[j]? = some s → w2.cell? ⟨b, off + j, none⟩ = some (.int .u64 s)) := hc
      have HA : Hid (0 < d.length → bo = some ⟨b, off, none⟩) := ha
      clear hd ha hc HU
      go_wp2
      go_loopw [6] (fun i wr => ∃ (k : Nat), k ≤ d.length ∧ i = .int .i64 (k : Int) ∧ rgts (d.take k) = true ∧ wr = w2) (fun i _ => d.length - (intOf i).toNat)
      case atStart => exact ⟨0, by omega, rfl, by simp [rgts], rfl⟩
      case round =>
        obtain ⟨k, hk, rfl, hn, rfl⟩ := hrel
        have HN : Hid (rgts (d.take k) = true) := hn
        clear hn
        by_cases hlt : k < d.length
        · obtain rfl := HA.out (by omega)
          obtain ⟨s, hs⟩ := at_lt (l := d) (k := k) hlt
          have c0 := HC.out k s hs
          have HS : Hid (d[k]? = some s) := hs
          clear hs
          go_wp2_with fail
          refine (lright10_any s _).mono ?_
          rintro e w3 ⟨rfl, rfl⟩
          by_cases h0 : rgt s = true
          · have HN2 : Hid (rgts (d.take (k + 1)) = true) := by
              rw [Hid, take_at HS.out]
              have := HN.out
              simp only [rgts, List.all_append, List.all_cons, List.all_nil, Bool.and_eq_true, Bool.and_true] at this ⊢
              exact ⟨this, h0⟩
            rw [h0]
            go_wp2
            go_roundw
            case rel => exact ⟨k + 1, by omega, by go_num, HN2.out, trivial⟩
            case measure => simp [intOf]; omega
          · have h1 : rgt s = false := by simpa using h0
            have HE : Hid (fsd l d = 22) := by
              rw [Hid, HZ.out, if_neg]
              intro h
              exact h0 (List.all_eq_true.1 h s (List.mem_of_getElem? HS.out))
            rw [h1]
            go_wp2
            go_ret
            exact ⟨by rw [HE.out]; rfl, HF2.out⟩
        · have HE : Hid (fsd l d = 0) := by
            have := HN.out
            rw [List.take_of_length_le (by omega)] at this
            rw [Hid, HZ.out, if_pos this]
          go_wp2
          go_ret
          exact ⟨by rw [HE.out]; rfl, HF2.out⟩
    · have HE : Hid (fsd l d = 23) := by unfold Hid fsd; rw [if_pos HK.out, if_neg hd]
      have hdb : (((pls l).length : Int) != (d.length : Int)) = true := by simp; omega
      clear hd
      go_wp2
      go_ret
      exact ⟨by rw [HE.out]; rfl, HF2.out⟩
  · have HE : Hid (fsd l d = chk l) := by unfold Hid fsd; rw [if_neg hk]
    go_wp2
    go_ret
    exact ⟨by rw [HE.out]; rfl, HF1.out⟩

set_option maxHeartbeats 4000000 in
theorem lcheck10_any (v : Value) (h : Fs) (w : World) (hh : FSrc w v h) :
    Calls Try.prog 18 #[v] w fun e w' => e = .returned (.int .i64 (fce h)) ∧ Fr [] w w' := by
  obtain ⟨po, pc, no, nc, qo, qc, ro, rc, rfl, hin, hsr, _⟩ := hh.opens
  have HSR : Hid (SSrc w (.slice po h.P.length pc) h.P ∧ SSrc w (.slice no h.N.length nc) h.N ∧ USrc w (.slice qo h.pd.length qc) h.pd ∧ USrc w (.slice ro h.nd.length rc) h.nd) := hsr
  clear hh hin hsr
  obtain ⟨s, z, zc, c, sm, P, N, pd, nd⟩ := h
  simp only at HSR ⊢
  go_enter Try.func18, Try.ntmps18
  have HN0 : Hid (NineG (w.alloc (.cells #[.int .i64 s, .int .u64 z, .int .u64 zc, .int .u64 c, .int .u64 sm, .slice po P.length pc, .slice no N.length nc, .slice qo pd.length qc, .slice ro nd.length rc] 49)) w.heap.size #[.int .i64 s, .int .u64 z, .int .u64 zc, .int .u64 c, .int .u64 sm, .slice po P.length pc, .slice no N.length nc, .slice qo pd.length qc, .slice ro nd.length rc]) := NineG.new _ _
  have HF0 : Hid (Fr [] w (w.alloc (.cells #[.int .i64 s, .int .u64 z, .int .u64 zc, .int .u64 c, .int .u64 sm, .slice po P.length pc, .slice no N.length nc, .slice qo pd.length qc, .slice ro nd.length rc] 49))) := (Fr.refl [] w).alloc _
  by_cases h1 : s < -4
  · have HE : Hid (fde s z zc c = 21) := fde_bad (by unfold hde; rw [if_pos (.inl h1)]) (by decide)
    have HC : Hid (fce ⟨s, z, zc, c, sm, P, N, pd, nd⟩ = 21) := by rw [Hid, fce_head (by simp only [HE.out]; decide)]; exact HE.out
    go_wp2
    go_ret
    exact ⟨by rw [HC.out]; rfl, HF0.out⟩
  by_cases h2 : 8 < s
  · have HE : Hid (fde s z zc c = 21) := fde_bad (by unfold hde; rw [if_pos (.inr h2)]) (by decide)
    have HC : Hid (fce ⟨s, z, zc, c, sm, P, N, pd, nd⟩ = 21) := by rw [Hid, fce_head (by simp only [HE.out]; decide)]; exact HE.out
    go_wp2
    go_ret
    exact ⟨by rw [HC.out]; rfl, HF0.out⟩
  by_cases hz : z < 9218868437227405312
  case neg =>
    have HE : Hid (fde s z zc c = 11) := fde_bad (by unfold hde; rw [if_neg (by omega), if_neg hz]) (by decide)
    have HC : Hid (fce ⟨s, z, zc, c, sm, P, N, pd, nd⟩ = 11) := by rw [Hid, fce_head (by simp only [HE.out]; decide)]; exact HE.out
    have hz2 : 9218868437227405312 ≤ z := by omega
    go_wp2
    go_ret
    exact ⟨by rw [HC.out]; rfl, HF0.out⟩
  have HD : Hid (hde s z = 0) := by unfold Hid hde; rw [if_neg (by omega), if_pos hz]
  have hz2 : ¬ 9218868437227405312 ≤ z := by omega
  have c2 := HN0.out.cell 2 rfl
  have c3 := HN0.out.cell 3 rfl
  clear hz
  go_wp2_with fail
  refine (lright10_any zc _).mono ?_
  rintro e w1 ⟨rfl, rfl⟩
  by_cases hr1 : rgt zc = true
  case neg =>
    have hr : rgt zc = false := by simpa using hr1
    have HE : Hid (fde s z zc c = 22) := by unfold Hid fde; rw [if_pos HD.out, if_neg (by simp [rgts, hr])]
    have HC : Hid (fce ⟨s, z, zc, c, sm, P, N, pd, nd⟩ = 22) := by rw [Hid, fce_head (by simp only [HE.out]; decide)]; exact HE.out
    rw [hr]
    go_wp2
    go_ret
    exact ⟨by rw [HC.out]; rfl, HF0.out⟩
  have HR1 : Hid (rgt zc = true) := hr1
  rw [hr1]
  clear hr1
  go_wp2_with fail
  refine (lright10_any c _).mono ?_
  rintro e w1 ⟨rfl, rfl⟩
  by_cases hr2 : rgt c = true
  case neg =>
    have hr : rgt c = false := by simpa using hr2
    have HE : Hid (fde s z zc c = 22) := by unfold Hid fde; rw [if_pos HD.out, if_neg (by simp [rgts, hr])]
    have HC : Hid (fce ⟨s, z, zc, c, sm, P, N, pd, nd⟩ = 22) := by rw [Hid, fce_head (by simp only [HE.out]; decide)]; exact HE.out
    rw [hr]
    go_wp2
    go_ret
    exact ⟨by rw [HC.out]; rfl, HF0.out⟩
  have HE : Hid (fde s z zc c = 0) := by unfold Hid fde; rw [if_pos HD.out, if_pos (by simp [rgts, HR1.out, hr2])]
  rw [hr2]
  clear hr2 h1 h2 hz2
  have c5 := HN0.out.cell 5 rfl
  have c7 := HN0.out.cell 7 rfl
  go_wp2_with fail
  refine (lside10_any _ _ P pd _ (HSR.out.1.kept HF0.out) (HSR.out.2.2.1.kept HF0.out)).mono ?_
  rintro e w1 ⟨rfl, hf1⟩
  have HF1 : Hid (Fr [] w w1) := HF0.out.trans hf1 (by simp)
  have HN1 := HN0.out.kept hf1 (by simp)
  clear hf1 c2 c3 c5 c7
  have c6 := HN1.cell 6 rfl
  have c8 := HN1.cell 8 rfl
  clear HN1 HN0 HF0
  by_cases hp : fsd P pd = 0
  case neg =>
    have HC : Hid (fce ⟨s, z, zc, c, sm, P, N, pd, nd⟩ = fsd P pd) := fce_pos HE.out hp
    go_wp2
    go_ret
    exact ⟨by rw [HC.out]; rfl, HF1.out⟩
  have HC : Hid (fce ⟨s, z, zc, c, sm, P, N, pd, nd⟩ = fsd N nd) := fce_neg HE.out hp
  rw [hp]
  clear hp
  go_wp2_with fail
  refine (lside10_any _ _ N nd _ (HSR.out.2.1.kept HF1.out) (HSR.out.2.2.2.kept HF1.out)).mono ?_
  rintro e w2 ⟨rfl, hf2⟩
  have HF2 : Hid (Fr [] w w2) := HF1.out.trans hf2 (by simp)
  clear hf2 c6 c8
  go_wp2
  go_ret
  exact ⟨by rw [HC.out]; rfl, HF2.out⟩
end Go.Proofs.Ytnfbmdniomelnaa
