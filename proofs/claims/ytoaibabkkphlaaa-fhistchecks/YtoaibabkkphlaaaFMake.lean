/-
  Package fhist: Make.
-/
import Derived.Test.YtoaibabkkphlaaaFSides
import Derived.Test.YtoaibabkkphlaaaUUnzip
import Derived.Deep.DeepCutAuto
namespace Go.Proofs.Ytoaibabkkphlaaa
open Go.RowKit Mem Spans
set_option linter.unusedSimpArgs false
set_option linter.unusedVariables false
set_option maxRecDepth 100000

/-- A side's own spans and counts: their error, they. -/
def fpe (l : List Sp) : Int := frm (fsts l)
def fps (l : List Sp) : List Sp := frl (fsts l)
def fpc (l : List Sp) : List Int := uzv l
theorem unzipF_any (v : Value) (l : List Sp) (w : World) (h : PSrc w v l) (hl : l.length ≤ 1000000) :
    Calls Try.prog 56 #[v] w fun e w' => ∃ u x, e = .returned (.tuple #[u, x, .int .i64 (fpe l)]) ∧ SOwn 95 w.heap.size w' u (fps l) ∧ UOwn 22 w.heap.size w' x (fpc l) ∧ Fr [] w w' := unzipU_any v l w h hl
theorem PSrc.ins {w : World} {v : Value} {l : List Sp} (h : PSrc w v l) : ∀ s ∈ l, in64 s.1 ∧ inu s.2 := by
  obtain ⟨_, _, _, _, _, h, _⟩ := h
  exact h
theorem fps_in (l : List Sp) : ∀ s ∈ fps l, in64 s.1 ∧ in64 s.2 := frl_in (fsts l)
theorem fpc_in (l : List Sp) (h : ∀ s ∈ l, in64 s.1 ∧ inu s.2) : ∀ z ∈ fpc l, inu z := by
  intro z hz
  unfold fpc uzv at hz
  split at hz
  · obtain ⟨s, hs, rfl⟩ := List.mem_map.1 hz
    exact (h s hs).2
  · simp at hz
/-- Make's error; what it makes. -/
def mkf (h : Fs) (p n : List Sp) : Fs := ⟨h.s, h.z, h.zc, h.c, h.sm, fps p, fps n, fpc p, fpc n⟩
def mfe (h : Fs) (p n : List Sp) : Int := if fpe p = 0 then (if fpe n = 0 then fce (mkf h p n) else fpe n) else fpe p
def fzero : Fs := ⟨0, 0, 0, 0, 0, [], [], [], []⟩
def mfh (h : Fs) (p n : List Sp) : Fs := if mfe h p n = 0 then mkf h p n else fzero
/-- A histogram of the call's own. -/
def FOwn (B : Nat) (w : World) (v : Value) (h : Fs) : Prop :=
  ∃ vp vn up un, v = .agg #[.int .i64 h.s, .int .u64 h.z, .int .u64 h.zc, .int .u64 h.c, .int .u64 h.sm, vp, vn, up, un] ∧ in64 h.s ∧ (inu h.z ∧ inu h.zc ∧ inu h.c ∧ inu h.sm) ∧
    SOwn 95 B w vp h.P ∧ SOwn 95 B w vn h.N ∧ UOwn 22 B w up h.pd ∧ UOwn 22 B w un h.nd
theorem FOwn.kept {B : Nat} {w w' : World} {v : Value} {h : Fs} (k : FOwn B w v h) (f : Fr [] w w') : FOwn B w' v h := by
  obtain ⟨a, b, c, d, h1, h2, h3, h4, h5, h6, h7⟩ := k
  exact ⟨a, b, c, d, h1, h2, h3, h4.kept f, h5.kept f, h6.kept f, h7.kept f⟩
theorem FOwn.mono {B C : Nat} {w : World} {v : Value} {h : Fs} (k : FOwn B w v h) (hc : C ≤ B) : FOwn C w v h := by
  obtain ⟨a, b, c, d, h1, h2, h3, h4, h5, h6, h7⟩ := k
  exact ⟨a, b, c, d, h1, h2, h3, h4.mono hc, h5.mono hc, h6.mono hc, h7.mono hc⟩
theorem FOwn.src {B : Nat} {w : World} {v : Value} {h : Fs} (k : FOwn B w v h) (i : fin9 h) : FSrc w v h := by
  obtain ⟨a, b, c, d, h1, h2, h3, h4, h5, h6, h7⟩ := k
  exact ⟨a, b, c, d, h1, h2, h3, h4.src i.1, h5.src i.2.1, h6.src i.2.2.1, h7.src i.2.2.2⟩
theorem mkf_in (h : Fs) (p n : List Sp) (hp : ∀ s ∈ p, in64 s.1 ∧ inu s.2) (hn : ∀ s ∈ n, in64 s.1 ∧ inu s.2) : fin9 (mkf h p n) := ⟨fps_in p, fps_in n, fpc_in p hp, fpc_in n hn⟩
theorem mfh_in (h : Fs) (p n : List Sp) (hp : ∀ s ∈ p, in64 s.1 ∧ inu s.2) (hn : ∀ s ∈ n, in64 s.1 ∧ inu s.2) : fin9 (mfh h p n) := by
  unfold mfh; split
  · exact mkf_in h p n hp hn
  · unfold fin9 fzero; simp
theorem fzero_own (B : Nat) (w : World) : FOwn B w (.agg #[.int .i64 0, .int .u64 0, .int .u64 0, .int .u64 0, .int .u64 0, .slice none 0 0, .slice none 0 0, .slice none 0 0, .slice none 0 0]) fzero :=
  ⟨_, _, _, _, rfl, by unfold in64 fzero; decide, by unfold inu fzero; decide, .inl ⟨rfl, rfl⟩, .inl ⟨rfl, rfl⟩, .inl ⟨rfl, rfl⟩, .inl ⟨rfl, rfl⟩⟩

theorem Try.sizeOf26 : (Try.prog.info? 26).map (·.size) = some 9 := by kernel_rfl
theorem fhist_res {fn : Func} {p u : Tmp} (h : fn.results = #[.cell p 26, .tmp u]) (tmps : Array Value) (w : World) (g : Nat) (a0 a1 a2 a3 a4 a5 a6 a7 a8 : Value)
    (hp : tmps.getD p undef = .pointer (some ⟨g, 0, none⟩)) (hg : NineF w g #[a0, a1, a2, a3, a4, a5, a6, a7, a8]) : (results fn tmps).run Try.prog w = .ok (.tuple #[.agg #[a0, a1, a2, a3, a4, a5, a6, a7, a8], tmps.getD u undef]) w := by
  rw [results_cell_tmp h tmps, hp]
  have := run_loadVar_row (P := Try.prog) w g 26 26 #[a0, a1, a2, a3, a4, a5, a6, a7, a8] (0, 0) _ hg Try.underlying26 rfl Try.sizeOf26
  simp [asAddr, this]
theorem FOwn.keptS {B : Nat} {w w' : World} {v : Value} {h : Fs} {S : List Nat} (k : FOwn B w v h) (f : Fr S w w') (hs : ∀ y ∈ S, y < B) : FOwn B w' v h := by
  obtain ⟨a, b, c, d, h1, h2, h3, h4, h5, h6, h7⟩ := k
  exact ⟨a, b, c, d, h1, h2, h3, h4.keptS f hs, h5.keptS f hs, h6.keptS f hs, h7.keptS f hs⟩

set_option maxHeartbeats 4000000 in
theorem fmake_any (v vp vn : Value) (h : Fs) (p n : List Sp) (w : World) (hh : FSrc w v h) (hp : PSrc w vp p) (hn : PSrc w vn n) (hlp : p.length ≤ 1000000) (hln : n.length ≤ 1000000) :
    Calls Try.prog 22 #[v, vp, vn] w fun e w' => ∃ u, e = .returned (.tuple #[u, .int .i64 (mfe h p n)]) ∧ FOwn w.heap.size w' u (mfh h p n) ∧ Fr [] w w' := by
  have HP : Hid (PSrc w vp p) := hp
  have HN : Hid (PSrc w vn n) := hn
  have HPI : Hid ((∀ s ∈ p, in64 s.1 ∧ inu s.2) ∧ (∀ s ∈ n, in64 s.1 ∧ inu s.2)) := ⟨hp.ins, hn.ins⟩
  have HL : Hid (p.length ≤ 1000000 ∧ n.length ≤ 1000000) := ⟨hlp, hln⟩
  obtain ⟨po, pc, no, nc, qo, qc, ro, rc, rfl, hin, _⟩ := hh.opens
  have HIN : Hid (in64 h.s ∧ inu h.z ∧ inu h.zc ∧ inu h.c ∧ inu h.sm) := hin
  clear hh hin
  obtain ⟨ao, ac, rfl, _⟩ := hp
  obtain ⟨bo, bc, rfl, _⟩ := hn
  clear hlp hln
  go_enter Try.func22, Try.ntmps22
  obtain ⟨cs, hcs⟩ : ∃ cs : Array Value, cs = #[.int .i64 h.s, .int .u64 h.z, .int .u64 h.zc, .int .u64 h.c, .int .u64 h.sm, .slice po h.P.length pc, .slice no h.N.length nc, .slice qo h.pd.length qc, .slice ro h.nd.length rc] := ⟨_, rfl⟩
  have HA : Hid (∀ z, NineF ((w.alloc (.cells cs 26)).alloc (.cells z 26)) w.heap.size cs ∧ NineF ((w.alloc (.cells cs 26)).alloc (.cells z 26)) (w.heap.size + 1) z ∧ Fr [] w ((w.alloc (.cells cs 26)).alloc (.cells z 26))) := fun z => ⟨nineF_mid _ _ _, nineF_top _ _ _, ((Fr.refl [] w).alloc _).alloc _⟩
  subst hcs
  go_wp2_with fail
  obtain ⟨hA3, hA6, hAF⟩ := HA.out #[.int .i64 0, .int .u64 0, .int .u64 0, .int .u64 0, .int .u64 0, .slice none 0 0, .slice none 0 0, .slice none 0 0, .slice none 0 0]
  clear HA
  generalize (w.alloc (.cells _ _)).alloc (.cells _ _) = wA at hA3 hA6 hAF ⊢
  have HSZ : Hid (w.heap.size + 1 < wA.heap.size) := hA6.lt
  refine (unzipF_any _ p wA (HP.out.kept hAF) HL.out.1).mono ?_
  rintro e w1 ⟨u, x, rfl, hu, hx, hf1⟩
  have HU : Hid (SOwn 95 wA.heap.size w1 u (fps p)) := hu
  have HX : Hid (UOwn 22 wA.heap.size w1 x (fpc p)) := hx
  obtain ⟨ua, uc, rfl⟩ := HU.out.val
  obtain ⟨xa, xc, rfl⟩ := HX.out.val
  have HF1 : Hid (Fr [] w w1) := hAF.trans hf1 (by simp)
  have HS1 : Hid (wA.heap.size ≤ w1.heap.size) := hf1.size
  have h3 := hA3.kept hf1 (by simp)
  have h6 := hA6.kept hf1 (by simp)
  clear hu hx hf1 hA3 hA6 hAF
  have c5 := h3.cell 5 rfl
  have c7 := h3.cell 7 rfl
  have f5 := h3.frozen 5
  have f7 := h3.frozen 7
  have H3 : Hid (NineF ((w1.setCell ⟨w.heap.size, 5, none⟩ (.slice ua (fps p).length uc)).setCell ⟨w.heap.size, 7, none⟩ (.slice xa (fpc p).length xc)) w.heap.size _) := h3.set57 (.slice ua (fps p).length uc) (.slice xa (fpc p).length xc)
  have H6 : Hid (NineF ((w1.setCell ⟨w.heap.size, 5, none⟩ (.slice ua (fps p).length uc)).setCell ⟨w.heap.size, 7, none⟩ (.slice xa (fpc p).length xc)) (w.heap.size + 1) _) := (h6.other (i := 5) (v := (.slice ua (fps p).length uc)) (by omega)).other (i := 7) (v := (.slice xa (fpc p).length xc)) (by omega)
  have HFS : Hid (Fr [w.heap.size] w1 ((w1.setCell ⟨w.heap.size, 5, none⟩ (.slice ua (fps p).length uc)).setCell ⟨w.heap.size, 7, none⟩ (.slice xa (fpc p).length xc))) := ((Fr.refl _ _).setCell _ _ (.inl (by simp))).setCell _ _ (.inl (by simp))
  clear h3 h6
  go_upto_region 3 with fail
  clear c5 c7 f5 f7
  generalize (w1.setCell ⟨w.heap.size, 5, none⟩ (.slice ua (fps p).length uc)).setCell ⟨w.heap.size, 7, none⟩ (.slice xa (fpc p).length xc) = wB at H3 H6 HFS ⊢
  have HUB : Hid (SOwn 95 wA.heap.size wB (.slice ua (fps p).length uc) (fps p)) := HU.out.keptS HFS.out (by have := HSZ.out; simp; omega)
  have HXB : Hid (UOwn 22 wA.heap.size wB (.slice xa (fpc p).length xc) (fpc p)) := HX.out.keptS HFS.out (by have := HSZ.out; simp; omega)
  have HFB : Hid (Fr [] w wB) := HF1.out.trans HFS.out (by simp)
  have HSB : Hid (wA.heap.size ≤ wB.heap.size) := Nat.le_trans HS1.out HFS.out.size
  clear HU HX HF1 HFS HS1
  by_cases h0 : fpe p = 0
  · have HA : Hid (fpe p = 0) := h0
    rw [h0]
    clear h0
    go_wp2_with fail
    refine (unzipF_any _ n wB (HN.out.kept HFB.out) HL.out.2).mono ?_
    rintro e w2 ⟨u2, x2, rfl, hu, hx, hf2⟩
    have HU : Hid (SOwn 95 wA.heap.size w2 u2 (fps n)) := hu.mono HSB.out
    have HX : Hid (UOwn 22 wA.heap.size w2 x2 (fpc n)) := hx.mono HSB.out
    obtain ⟨ua2, uc2, rfl⟩ := HU.out.val
    obtain ⟨xa2, xc2, rfl⟩ := HX.out.val
    have HF2 : Hid (Fr [] w w2) := HFB.out.trans hf2 (by simp)
    have HU1 : Hid (SOwn 95 wA.heap.size w2 (.slice ua (fps p).length uc) (fps p)) := HUB.out.kept hf2
    have HX1 : Hid (UOwn 22 wA.heap.size w2 (.slice xa (fpc p).length xc) (fpc p)) := HXB.out.kept hf2
    have HS2 : Hid (wA.heap.size ≤ w2.heap.size) := Nat.le_trans HSB.out hf2.size
    have h3 := H3.out.kept hf2 (by simp)
    have h6 := H6.out.kept hf2 (by simp)
    clear hu hx hf2 H3 H6 HUB HXB HFB HSB
    have c6 := h3.cell 6 rfl
    have c8 := h3.cell 8 rfl
    have f6 := h3.frozen 6
    have f8 := h3.frozen 8
    have H3 : Hid (NineF ((w2.setCell ⟨w.heap.size, 6, none⟩ (.slice ua2 (fps n).length uc2)).setCell ⟨w.heap.size, 8, none⟩ (.slice xa2 (fpc n).length xc2)) w.heap.size _) := h3.set68 (.slice ua2 (fps n).length uc2) (.slice xa2 (fpc n).length xc2)
    have H6 : Hid (NineF ((w2.setCell ⟨w.heap.size, 6, none⟩ (.slice ua2 (fps n).length uc2)).setCell ⟨w.heap.size, 8, none⟩ (.slice xa2 (fpc n).length xc2)) (w.heap.size + 1) _) := (h6.other (i := 6) (v := (.slice ua2 (fps n).length uc2)) (by omega)).other (i := 8) (v := (.slice xa2 (fpc n).length xc2)) (by omega)
    have HFS : Hid (Fr [w.heap.size] w2 ((w2.setCell ⟨w.heap.size, 6, none⟩ (.slice ua2 (fps n).length uc2)).setCell ⟨w.heap.size, 8, none⟩ (.slice xa2 (fpc n).length xc2))) := ((Fr.refl _ _).setCell _ _ (.inl (by simp))).setCell _ _ (.inl (by simp))
    clear h3 h6
    go_upto_region 6 with fail
    clear c6 c8 f6 f8
    generalize (w2.setCell ⟨w.heap.size, 6, none⟩ (.slice ua2 (fps n).length uc2)).setCell ⟨w.heap.size, 8, none⟩ (.slice xa2 (fpc n).length xc2) = wC at H3 H6 HFS ⊢
    have hb : ∀ y ∈ [w.heap.size], y < wA.heap.size := by have := HSZ.out; simp; omega
    have HU2 : Hid (SOwn 95 wA.heap.size wC (.slice ua2 (fps n).length uc2) (fps n)) := HU.out.keptS HFS.out hb
    have HX2 : Hid (UOwn 22 wA.heap.size wC (.slice xa2 (fpc n).length xc2) (fpc n)) := HX.out.keptS HFS.out hb
    have HU3 : Hid (SOwn 95 wA.heap.size wC (.slice ua (fps p).length uc) (fps p)) := HU1.out.keptS HFS.out hb
    have HX3 : Hid (UOwn 22 wA.heap.size wC (.slice xa (fpc p).length xc) (fpc p)) := HX1.out.keptS HFS.out hb
    have HFC : Hid (Fr [] w wC) := HF2.out.trans HFS.out (by simp)
    have HSC : Hid (wA.heap.size ≤ wC.heap.size) := Nat.le_trans HS2.out HFS.out.size
    clear HU HX HU1 HX1 HF2 HFS HS2 hb
    by_cases h0 : fpe n = 0
    · have HA2 : Hid (fpe n = 0) := h0
      rw [h0]
      clear h0
      have HM : Hid (FOwn wA.heap.size wC (.agg #[.int .i64 h.s, .int .u64 h.z, .int .u64 h.zc, .int .u64 h.c, .int .u64 h.sm, .slice ua (fps p).length uc, .slice ua2 (fps n).length uc2, .slice xa (fpc p).length xc, .slice xa2 (fpc n).length xc2]) (mkf h p n)) := ⟨_, _, _, _, rfl, HIN.out.1, HIN.out.2, HU3.out, HU2.out, HX3.out, HX2.out⟩
      clear HU3 HU2 HX3 HX2
      have c0 := H3.out.cell 0 rfl
      have c1 := H3.out.cell 1 rfl
      have c2 := H3.out.cell 2 rfl
      have c3 := H3.out.cell 3 rfl
      have c4 := H3.out.cell 4 rfl
      have c5 := H3.out.cell 5 rfl
      have c6 := H3.out.cell 6 rfl
      have c7 := H3.out.cell 7 rfl
      have c8 := H3.out.cell 8 rfl
      go_wp2_with fail
      refine (fcheck_any _ (mkf h p n) wC (HM.out.src (mkf_in h p n HPI.out.1 HPI.out.2))).mono ?_
      rintro e w3 ⟨rfl, hf3⟩
      have HF3 : Hid (Fr [] w w3) := HFC.out.trans hf3 (by simp)
      have HM3 : Hid (FOwn wA.heap.size w3 _ (mkf h p n)) := HM.out.kept hf3
      have h3 := H3.out.kept hf3 (by simp)
      have h6 := H6.out.kept hf3 (by simp)
      have HS3 : Hid (wA.heap.size ≤ w3.heap.size) := Nat.le_trans HSC.out hf3.size
      clear c0 c1 c2 c3 c4 c5 c6 c7 c8 hf3 H3 H6 HM HFC HSC
      by_cases h0 : fce (mkf h p n) = 0
      · have HE : Hid (mfe h p n = 0 ∧ mfh h p n = mkf h p n) := by
          have e : mfe h p n = 0 := by unfold mfe; rw [if_pos HA.out, if_pos HA2.out]; exact h0
          unfold Hid mfh; rw [if_pos e]; exact ⟨e, rfl⟩
        rw [h0]
        clear h0
        have c0 := h3.cell 0 rfl
        have c1 := h3.cell 1 rfl
        have c2 := h3.cell 2 rfl
        have c3 := h3.cell 3 rfl
        have c4 := h3.cell 4 rfl
        have c5 := h3.cell 5 rfl
        have c6 := h3.cell 6 rfl
        have c7 := h3.cell 7 rfl
        have c8 := h3.cell 8 rfl
        have d0 := h6.cell 0 rfl
        have d1 := h6.cell 1 rfl
        have d2 := h6.cell 2 rfl
        have d3 := h6.cell 3 rfl
        have d4 := h6.cell 4 rfl
        have d5 := h6.cell 5 rfl
        have d6 := h6.cell 6 rfl
        have d7 := h6.cell 7 rfl
        have d8 := h6.cell 8 rfl
        have f0 := h6.frozen 0
        have f1 := h6.frozen 1
        have f2 := h6.frozen 2
        have f3 := h6.frozen 3
        have f4 := h6.frozen 4
        have f5 := h6.frozen 5
        have f6 := h6.frozen 6
        have f7 := h6.frozen 7
        have f8 := h6.frozen 8
        have H6 : Hid (NineF w3 (w.heap.size + 1) _) := h6
        clear h3 h6
        go_wp2
        refine bodyPost_ret (fhist_res rfl _ _ (w.heap.size + 1) _ _ _ _ _ _ _ _ _ rfl (set9_nineF H6.out _ _ _ _ _ _ _ _ _)) rfl ?_
        refine ⟨_, by rw [HE.out.1]; rfl, ?_, set9_fr HF3.out (.inr (by simp)) _ _ _ _ _ _ _ _ _⟩
        rw [HE.out.2]
        have hs9 := set9_fr (S := [w.heap.size + 1]) (g := w.heap.size + 1) (Fr.refl _ w3) (.inl (by simp)) (.int .i64 h.s) (.int .u64 h.z) (.int .u64 h.zc) (.int .u64 h.c) (.int .u64 h.sm) (.slice ua (fps p).length uc) (.slice ua2 (fps n).length uc2) (.slice xa (fpc p).length xc) (.slice xa2 (fpc n).length xc2)
        exact (HM3.out.keptS hs9 (by have := HSZ.out; simp; omega)).mono (by have := HSZ.out; omega)
      · have HE : Hid (mfe h p n = fce (mkf h p n) ∧ mfh h p n = fzero) := by
          have e : mfe h p n = fce (mkf h p n) := by unfold mfe; rw [if_pos HA.out, if_pos HA2.out]
          unfold Hid mfh; rw [if_neg (by rw [e]; exact h0)]; exact ⟨e, rfl⟩
        have H6 : Hid (NineF w3 (w.heap.size + 1) _) := h6
        clear h3 h6
        have d0 := H6.out.cell 0 rfl
        have d1 := H6.out.cell 1 rfl
        have d2 := H6.out.cell 2 rfl
        have d3 := H6.out.cell 3 rfl
        have d4 := H6.out.cell 4 rfl
        have d5 := H6.out.cell 5 rfl
        have d6 := H6.out.cell 6 rfl
        have d7 := H6.out.cell 7 rfl
        have d8 := H6.out.cell 8 rfl
        have f0 := H6.out.frozen 0
        have f1 := H6.out.frozen 1
        have f2 := H6.out.frozen 2
        have f3 := H6.out.frozen 3
        have f4 := H6.out.frozen 4
        have f5 := H6.out.frozen 5
        have f6 := H6.out.frozen 6
        have f7 := H6.out.frozen 7
        have f8 := H6.out.frozen 8
        go_wp2
        refine bodyPost_ret (fhist_res rfl _ _ (w.heap.size + 1) _ _ _ _ _ _ _ _ _ rfl (set9_nineF H6.out (.int .i64 0) (.int .u64 0) (.int .u64 0) (.int .u64 0) (.int .u64 0) (.slice none 0 0) (.slice none 0 0) (.slice none 0 0) (.slice none 0 0))) rfl ?_
        exact ⟨_, by rw [HE.out.1]; rfl, by rw [HE.out.2]; exact fzero_own _ _, set9_fr HF3.out (.inr (by simp)) (.int .i64 0) (.int .u64 0) (.int .u64 0) (.int .u64 0) (.int .u64 0) (.slice none 0 0) (.slice none 0 0) (.slice none 0 0) (.slice none 0 0)⟩
    · have HE : Hid (mfe h p n = fpe n ∧ mfh h p n = fzero) := by
        have e : mfe h p n = fpe n := by unfold mfe; rw [if_pos HA.out, if_neg h0]
        unfold Hid mfh; rw [if_neg (by rw [e]; exact h0)]; exact ⟨e, rfl⟩
      have d0 := H6.out.cell 0 rfl
      have d1 := H6.out.cell 1 rfl
      have d2 := H6.out.cell 2 rfl
      have d3 := H6.out.cell 3 rfl
      have d4 := H6.out.cell 4 rfl
      have d5 := H6.out.cell 5 rfl
      have d6 := H6.out.cell 6 rfl
      have d7 := H6.out.cell 7 rfl
      have d8 := H6.out.cell 8 rfl
      have f0 := H6.out.frozen 0
      have f1 := H6.out.frozen 1
      have f2 := H6.out.frozen 2
      have f3 := H6.out.frozen 3
      have f4 := H6.out.frozen 4
      have f5 := H6.out.frozen 5
      have f6 := H6.out.frozen 6
      have f7 := H6.out.frozen 7
      have f8 := H6.out.frozen 8
      go_wp2
      refine bodyPost_ret (fhist_res rfl _ _ (w.heap.size + 1) _ _ _ _ _ _ _ _ _ rfl (set9_nineF H6.out (.int .i64 0) (.int .u64 0) (.int .u64 0) (.int .u64 0) (.int .u64 0) (.slice none 0 0) (.slice none 0 0) (.slice none 0 0) (.slice none 0 0))) rfl ?_
      exact ⟨_, by rw [HE.out.1]; rfl, by rw [HE.out.2]; exact fzero_own _ _, set9_fr HFC.out (.inr (by simp)) (.int .i64 0) (.int .u64 0) (.int .u64 0) (.int .u64 0) (.int .u64 0) (.slice none 0 0) (.slice none 0 0) (.slice none 0 0) (.slice none 0 0)⟩
  · have HE : Hid (mfe h p n = fpe p ∧ mfh h p n = fzero) := by
      have e : mfe h p n = fpe p := by unfold mfe; rw [if_neg h0]
      unfold Hid mfh; rw [if_neg (by rw [e]; exact h0)]; exact ⟨e, rfl⟩
    have d0 := H6.out.cell 0 rfl
    have d1 := H6.out.cell 1 rfl
    have d2 := H6.out.cell 2 rfl
    have d3 := H6.out.cell 3 rfl
    have d4 := H6.out.cell 4 rfl
    have d5 := H6.out.cell 5 rfl
    have d6 := H6.out.cell 6 rfl
    have d7 := H6.out.cell 7 rfl
    have d8 := H6.out.cell 8 rfl
    have f0 := H6.out.frozen 0
    have f1 := H6.out.frozen 1
    have f2 := H6.out.frozen 2
    have f3 := H6.out.frozen 3
    have f4 := H6.out.frozen 4
    have f5 := H6.out.frozen 5
    have f6 := H6.out.frozen 6
    have f7 := H6.out.frozen 7
    have f8 := H6.out.frozen 8
    go_wp2
    refine bodyPost_ret (fhist_res rfl _ _ (w.heap.size + 1) _ _ _ _ _ _ _ _ _ rfl (set9_nineF H6.out (.int .i64 0) (.int .u64 0) (.int .u64 0) (.int .u64 0) (.int .u64 0) (.slice none 0 0) (.slice none 0 0) (.slice none 0 0) (.slice none 0 0))) rfl ?_
    exact ⟨_, by rw [HE.out.1]; rfl, by rw [HE.out.2]; exact fzero_own _ _, set9_fr HFB.out (.inr (by simp)) (.int .i64 0) (.int .u64 0) (.int .u64 0) (.int .u64 0) (.int .u64 0) (.slice none 0 0) (.slice none 0 0) (.slice none 0 0) (.slice none 0 0)⟩
end Go.Proofs.Ytoaibabkkphlaaa
