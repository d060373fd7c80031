/-
  Package hist: sides, Check, Pairs.
-/
import Derived.Test.YtoaibabkkphlaaaHAdds
import Derived.Laws.ResultCell
namespace Go.Proofs.Ytoaibabkkphlaaa
open Go.RowKit Mem Spans
set_option linter.unusedSimpArgs false
set_option linter.unusedVariables false
set_option maxRecDepth 100000

/-- A histogram's block. -/
def Nine (w : World) (b : Nat) (cs : Array Value) : Prop := w.heap[b]? = some (.cells cs 70 (0, 0))
theorem Nine.kept {w w' : World} {b : Nat} {cs : Array Value} {S : List Nat} (h : Nine w b cs) (f : Fr S w w') (hb : b ∉ S) : Nine w' b cs := f.heap h hb
theorem Nine.new (w : World) (cs : Array Value) : Nine (w.alloc (.cells cs 70)) w.heap.size cs := heap_alloc_new _ _
theorem Nine.cell {w : World} {b : Nat} {cs : Array Value} (h : Nine w b cs) (i : Nat) {v : Value} (hv : cs[i]? = some v) : w.cell? ⟨b, i, none⟩ = some v := by rw [cell_at h]; exact hv
theorem Nine.lt {w : World} {b : Nat} {cs : Array Value} (h : Nine w b cs) : b < w.heap.size := lt_of_heap h

theorem che_head {h : Hs} (k : hde h.s h.z ≠ 0) : che h = hde h.s h.z := by unfold che; rw [if_neg k]
theorem che_pos {h : Hs} (k : hde h.s h.z = 0) (k2 : sde h.P h.pd ≠ 0) : che h = sde h.P h.pd := by unfold che; rw [if_pos k, if_neg k2]
theorem che_neg {h : Hs} (k : hde h.s h.z = 0) (k2 : sde h.P h.pd = 0) (k3 : sde h.N h.nd ≠ 0) : che h = sde h.N h.nd := by unfold che; rw [if_pos k, if_pos k2, if_neg k3]
theorem che_fts {h : Hs} (k : hde h.s h.z = 0) (k2 : sde h.P h.pd = 0) (k3 : sde h.N h.nd = 0) : che h = if fts h.zc h.c h.sm (abv h.pd) (abv h.nd) = true then 0 else 22 := by unfold che; rw [if_pos k, if_pos k2, if_pos k3]
theorem sd_nil {h : Hs} (k : che h ≠ 0) : sdp h = [] ∧ sdn h = [] := by unfold sdp sdn; rw [if_neg k, if_neg k]; exact ⟨rfl, rfl⟩
theorem snds_sdl {l : List Sp} {d : List Int} (h : sde l d = 0) : snds (sdl l d) = abv d := (sdl_zip h).2.2

set_option maxHeartbeats 4000000 in
theorem sides_any (v : Value) (h : Hs) (w : World) (hh : HSrc w v h) :
    Calls Try.prog 75 #[v] w fun e w' => ∃ x y, e = .returned (.tuple #[x, y, .int .i64 (che h)]) ∧ SOwn 141 w.heap.size w' x (sdp h) ∧ SOwn 141 w.heap.size w' y (sdn h) ∧ Fr [] w w' := by
  have HH : Hid (∀ wx, Fr [] w wx → HSrc wx v h) := fun wx hx => hh.kept hx
  obtain ⟨po, pc, no, nc, qo, qc, ro, rc, rfl, hin, hsr, _, _, _, _⟩ := hh.opens
  have HIN : Hid (in64 h.s ∧ inu h.z ∧ inu h.zc ∧ inu h.c ∧ inu h.sm) := hin
  have HSR : Hid (SSrc w (.slice po h.P.length pc) h.P ∧ SSrc w (.slice no h.N.length nc) h.N ∧ ISrc w (.slice qo h.pd.length qc) h.pd ∧ ISrc w (.slice ro h.nd.length rc) h.nd) := hsr
  clear hh hin hsr
  obtain ⟨s, z, zc, c, sm, P, N, pd, nd⟩ := h
  simp only at HIN HSR ⊢
  go_enter Try.func75, Try.ntmps75
  have HN0 : Hid (Nine (w.alloc (.cells #[.int .i64 s, .int .u64 z, .int .u64 zc, .int .u64 c, .int .u64 sm, .slice po P.length pc, .slice no N.length nc, .slice qo pd.length qc, .slice ro nd.length rc] 70)) w.heap.size #[.int .i64 s, .int .u64 z, .int .u64 zc, .int .u64 c, .int .u64 sm, .slice po P.length pc, .slice no N.length nc, .slice qo pd.length qc, .slice ro nd.length rc]) := Nine.new _ _
  have HF0 : Hid (Fr [] w (w.alloc (.cells #[.int .i64 s, .int .u64 z, .int .u64 zc, .int .u64 c, .int .u64 sm, .slice po P.length pc, .slice no N.length nc, .slice qo pd.length qc, .slice ro nd.length rc] 70))) := (Fr.refl [] w).alloc _
  by_cases h1 : s < -4
  · have HE : Hid (hde s z = 21) := by unfold Hid hde; rw [if_pos (.inl h1)]
    have HC : Hid (che ⟨s, z, zc, c, sm, P, N, pd, nd⟩ = 21) := by rw [Hid, che_head (by simp only [HE.out]; decide)]; exact HE.out
    go_wp2
    go_ret3
    exact ⟨_, _, by rw [HC.out]; rfl, .inl ⟨(sd_nil (by rw [HC.out]; decide)).1, rfl⟩, .inl ⟨(sd_nil (by rw [HC.out]; decide)).2, rfl⟩, HF0.out⟩
  by_cases h2 : 8 < s
  · have HE : Hid (hde s z = 21) := by unfold Hid hde; rw [if_pos (.inr h2)]
    have HC : Hid (che ⟨s, z, zc, c, sm, P, N, pd, nd⟩ = 21) := by rw [Hid, che_head (by simp only [HE.out]; decide)]; exact HE.out
    go_wp2
    go_ret3
    exact ⟨_, _, by rw [HC.out]; rfl, .inl ⟨(sd_nil (by rw [HC.out]; decide)).1, rfl⟩, .inl ⟨(sd_nil (by rw [HC.out]; decide)).2, rfl⟩, HF0.out⟩
  go_wp2_with fail
  refine (threshold_any z _).mono ?_
  rintro e w1 ⟨rfl, rfl⟩
  by_cases hz : z < 9218868437227405312
  · have HE : Hid (hde s z = 0) := by unfold Hid hde; rw [if_neg (by omega), if_pos hz]
    rw [decide_eq_true hz]
    clear hz h1 h2
    go_wp2_with fail
    refine (together_any _ _ P pd _ (HSR.out.1.kept HF0.out) (HSR.out.2.2.1.kept HF0.out)).mono ?_
    rintro e w1 ⟨x, rfl, hx, hf1⟩
    have HF1 : Hid (Fr [] w w1) := HF0.out.trans hf1 (by simp)
    have HX : Hid (SOwn 141 w.heap.size w1 x (sdl P pd)) := hx.mono HF0.out.size
    have HN1 := HN0.out.kept hf1 (by simp)
    have c6 := HN1.cell 6 rfl
    have c8 := HN1.cell 8 rfl
    have HN1h : Hid (Nine w1 w.heap.size _) := HN1
    clear hx hf1 HN1 HN0 HF0
    by_cases hp : sde P pd = 0
    · have HP : Hid (sde P pd = 0) := hp
      rw [hp]
      clear hp
      go_wp2_with fail
      refine (together_any _ _ N nd _ (HSR.out.2.1.kept HF1.out) (HSR.out.2.2.2.kept HF1.out)).mono ?_
      rintro e w2 ⟨y, rfl, hy, hf2⟩
      have HF2 : Hid (Fr [] w w2) := HF1.out.trans hf2 (by simp)
      have HX2 : Hid (SOwn 141 w.heap.size w2 x (sdl P pd)) := HX.out.kept hf2
      have HY : Hid (SOwn 141 w.heap.size w2 y (sdl N nd)) := hy.mono HF1.out.size
      have HN2 := HN1h.out.kept hf2 (by simp)
      have c0 := HN2.cell 0 rfl
      have c1 := HN2.cell 1 rfl
      have c2 := HN2.cell 2 rfl
      have c3 := HN2.cell 3 rfl
      have c4 := HN2.cell 4 rfl
      have c5 := HN2.cell 5 rfl
      have c6 := HN2.cell 6 rfl
      have c7 := HN2.cell 7 rfl
      have c8 := HN2.cell 8 rfl
      clear hy hf2 HN2 HN1h HX HF1
      by_cases hn : sde N nd = 0
      · have HN : Hid (sde N nd = 0) := hn
        rw [hn]
        clear hn
        go_wp2_with fail
        refine (adds_any _ x y ⟨s, z, zc, c, sm, P, N, pd, nd⟩ (sdl P pd) (sdl N nd) w2 (HH.out _ HF2.out) (HX2.out.src (sdl_in P pd)) (HY.out.src (sdl_in N nd)) (by rw [snds_sdl HP.out]; exact nng_iff.1 (sde_zero.1 HP.out).2.2.2) (by rw [snds_sdl HN.out]; exact nng_iff.1 (sde_zero.1 HN.out).2.2.2)).mono ?_
        rintro e w3 ⟨rfl, hf3⟩
        rw [snds_sdl HP.out, snds_sdl HN.out]
        have HF3 : Hid (Fr [] w w3) := HF2.out.trans hf3 (by simp)
        have HX3 : Hid (SOwn 141 w.heap.size w3 x (sdl P pd)) := HX2.out.kept hf3
        have HY3 : Hid (SOwn 141 w.heap.size w3 y (sdl N nd)) := HY.out.kept hf3
        clear hf3 HX2 HY
        by_cases hb : fts zc c sm (abv pd) (abv nd) = true
        · have HC : Hid (che ⟨s, z, zc, c, sm, P, N, pd, nd⟩ = 0) := by rw [Hid, che_fts HE.out HP.out HN.out, if_pos hb]
          have HD : Hid (sdp ⟨s, z, zc, c, sm, P, N, pd, nd⟩ = sdl P pd ∧ sdn ⟨s, z, zc, c, sm, P, N, pd, nd⟩ = sdl N nd) := by unfold Hid sdp sdn; rw [if_pos HC.out, if_pos HC.out]; exact ⟨rfl, rfl⟩
          simp only [hb]
          clear hb
          go_wp2
          go_ret3
          exact ⟨_, _, by rw [HC.out]; rfl, by rw [HD.out.1]; exact HX3.out, by rw [HD.out.2]; exact HY3.out, HF3.out⟩
        · have HC : Hid (che ⟨s, z, zc, c, sm, P, N, pd, nd⟩ = 22) := by rw [Hid, che_fts HE.out HP.out HN.out, if_neg hb]
          have hb2 : fts zc c sm (abv pd) (abv nd) = false := by simpa using hb
          simp only [hb2]
          clear hb hb2
          go_wp2
          go_ret3
          exact ⟨_, _, by rw [HC.out]; rfl, .inl ⟨(sd_nil (by rw [HC.out]; decide)).1, rfl⟩, .inl ⟨(sd_nil (by rw [HC.out]; decide)).2, rfl⟩, HF3.out⟩
      · have HC : Hid (che ⟨s, z, zc, c, sm, P, N, pd, nd⟩ = sde N nd) := che_neg HE.out HP.out hn
        have HCN : Hid (che ⟨s, z, zc, c, sm, P, N, pd, nd⟩ ≠ 0) := by rw [Hid, HC.out]; exact hn
        go_wp2
        go_ret3
        exact ⟨_, _, by rw [HC.out]; rfl, .inl ⟨(sd_nil HCN.out).1, rfl⟩, .inl ⟨(sd_nil HCN.out).2, rfl⟩, HF2.out⟩
    · have HC : Hid (che ⟨s, z, zc, c, sm, P, N, pd, nd⟩ = sde P pd) := che_pos HE.out hp
      have HCN : Hid (che ⟨s, z, zc, c, sm, P, N, pd, nd⟩ ≠ 0) := by rw [Hid, HC.out]; exact hp
      go_wp2
      go_ret3
      exact ⟨_, _, by rw [HC.out]; rfl, .inl ⟨(sd_nil HCN.out).1, rfl⟩, .inl ⟨(sd_nil HCN.out).2, rfl⟩, HF1.out⟩
  · have HE : Hid (hde s z = 11) := by unfold Hid hde; rw [if_neg (by omega), if_neg hz]
    have HC : Hid (che ⟨s, z, zc, c, sm, P, N, pd, nd⟩ = 11) := by rw [Hid, che_head (by simp only [HE.out]; decide)]; exact HE.out
    rw [decide_eq_false hz]
    go_wp2
    go_ret3
    exact ⟨_, _, by rw [HC.out]; rfl, .inl ⟨(sd_nil (by rw [HC.out]; decide)).1, rfl⟩, .inl ⟨(sd_nil (by rw [HC.out]; decide)).2, rfl⟩, HF0.out⟩

set_option maxHeartbeats 1000000 in
theorem hcheck_any (v : Value) (h : Hs) (w : World) (hh : HSrc w v h) :
    Calls Try.prog 67 #[v] w fun e w' => e = .returned (.int .i64 (che h)) ∧ Fr [] w w' := by
  have HH : Hid (∀ wx, Fr [] w wx → HSrc wx v h) := fun wx hx => hh.kept hx
  obtain ⟨po, pc, no, nc, qo, qc, ro, rc, rfl, _⟩ := hh.opens
  clear hh
  go_enter Try.func67, Try.ntmps67
  go_wp2_with fail
  refine (sides_any _ h _ (HH.out _ ((Fr.refl [] w).alloc _))).mono ?_
  rintro e w1 ⟨x, y, rfl, _, _, hf1⟩
  have HF1 : Hid (Fr [] w w1) := ((Fr.refl [] w).alloc _).trans hf1 (by simp)
  clear hf1
  go_wp2
  go_ret
  exact ⟨rfl, HF1.out⟩

/-- Pairs' answers. -/
def pre (h : Hs) (d : Int) : Int := if d = 0 ∨ d = 1 then che h else 11
def prl (h : Hs) (d : Int) : List Sp := if d = 0 then sdp h else if d = 1 then sdn h else []
end Go.Proofs.Ytoaibabkkphlaaa
