/-
  Histograms of whole counts: what is right, reckoned; how they lie in memory.
-/
import Derived.Test.YtoaibabkkphlaaaPSums
import Derived.Test.YtoaibabkkphlaaaPZip
import Derived.Test.YtoaibabkkphlaaaPUnzip
import Derived.Test.YtoaibabkkphlaaaRefP7
namespace Go.Proofs.Ytoaibabkkphlaaa
open Go.RowKit Mem Spans
set_option linter.unusedSimpArgs false
set_option linter.unusedVariables false
set_option maxRecDepth 100000

/-- A histogram: its five numbers, both sides' spans and differences. -/
structure Hs where
  s : Int
  z : Int
  zc : Int
  c : Int
  sm : Int
  P : List Sp
  N : List Sp
  pd : List Int
  nd : List Int
def inu (z : Int) : Prop := 0 ≤ z ∧ z < 18446744073709551616
/-- A histogram as a value. -/
def HSrc (w : World) (v : Value) (h : Hs) : Prop :=
  ∃ vp vn up un, v = .agg #[.int .i64 h.s, .int .u64 h.z, .int .u64 h.zc, .int .u64 h.c, .int .u64 h.sm, vp, vn, up, un] ∧ in64 h.s ∧ (inu h.z ∧ inu h.zc ∧ inu h.c ∧ inu h.sm) ∧
    SSrc w vp h.P ∧ SSrc w vn h.N ∧ ISrc w up h.pd ∧ ISrc w un h.nd
theorem HSrc.kept {w w' : World} {v : Value} {h : Hs} (k : HSrc w v h) (f : Fr [] w w') : HSrc w' v h := by
  obtain ⟨a, b, c, d, h1, h2, h3, h4, h5, h6, h7⟩ := k
  exact ⟨a, b, c, d, h1, h2, h3, h4.kept f, h5.kept f, h6.kept f, h7.kept f⟩

theorem HSrc.opens {w : World} {v : Value} {h : Hs} (k : HSrc w v h) : ∃ po pc no nc qo qc ro rc, v = .agg #[.int .i64 h.s, .int .u64 h.z, .int .u64 h.zc, .int .u64 h.c, .int .u64 h.sm, .slice po h.P.length pc, .slice no h.N.length nc, .slice qo h.pd.length qc, .slice ro h.nd.length rc] ∧
    (in64 h.s ∧ inu h.z ∧ inu h.zc ∧ inu h.c ∧ inu h.sm) ∧ (SSrc w (.slice po h.P.length pc) h.P ∧ SSrc w (.slice no h.N.length nc) h.N ∧ ISrc w (.slice qo h.pd.length qc) h.pd ∧ ISrc w (.slice ro h.nd.length rc) h.nd) ∧ (h.P.length ≤ pc ∧ pc ≤ maxLen) ∧ (h.N.length ≤ nc ∧ nc ≤ maxLen) ∧ (h.pd.length ≤ qc ∧ qc ≤ maxLen) ∧ (h.nd.length ≤ rc ∧ rc ≤ maxLen) := by
  obtain ⟨a, b, c, d, rfl, h2, h3, h4, h5, h6, h7⟩ := k
  have k4 := h4
  have k5 := h5
  have k6 := h6
  have k7 := h7
  obtain ⟨po, pc, rfl, x1, y1, _⟩ := h4
  obtain ⟨no, nc, rfl, x2, y2, _⟩ := h5
  obtain ⟨qo, qc, rfl, x3, y3, _⟩ := h6
  obtain ⟨ro, rc, rfl, x4, y4, _⟩ := h7
  exact ⟨po, pc, no, nc, qo, qc, ro, rc, rfl, ⟨h2, h3⟩, ⟨k4, k5, k6, k7⟩, ⟨x1, y1⟩, ⟨x2, y2⟩, ⟨x3, y3⟩, ⟨x4, y4⟩⟩
/-- A cell of the block that was made last, later. -/
theorem blk {w wx : World} {cs : Array Value} {t : TypeId} (f : Fr [] (w.alloc (.cells cs t)) wx) (i : Nat) {v : Value} (h : cs[i]? = some v) : wx.cell? ⟨w.heap.size, i, none⟩ = some v :=
  f.cell_some (by rw [World.cell?_alloc_at _ _ _ _ rfl]; exact h) (by simp)
/-- No number: by its bits. -/
def nan (v : Int) : Bool := decide (9218868437227405312 < v % 9223372036854775808)
/-- No count is below 0. -/
def nng (l : List Int) : Bool := l.all fun n => decide (0 ≤ n)
/-- A side's error; its places with their counts. -/
def sde (l : List Sp) (d : List Int) : Int :=
  if chk l = 0 then (if d.length = (pls l).length then (if abe d = 0 then (if nng (abv d) = true then 0 else 22) else 28) else 23) else chk l
def sdl (l : List Sp) (d : List Int) : List Sp := if sde l d = 0 then (pls l).zip (abv d) else []
/-- What is left of a number, when all counts are taken from it. -/
def lft : Int → List Int → Option Int
  | a, [] => some a
  | a, n :: r => if n ≤ a then lft (a - n) r else none
def fts (zc c sm : Int) (p n : List Int) : Bool :=
  decide (zc ≤ c) && (match lft (c - zc) (p ++ n) with | some a => decide (a = 0) || nan sm | none => false)
/-- Schema and threshold. -/
def hde (s z : Int) : Int := if s < -4 ∨ 8 < s then 21 else if z < 9218868437227405312 then 0 else 11
/-- Check's error. -/
def che (h : Hs) : Int :=
  if hde h.s h.z = 0 then (if sde h.P h.pd = 0 then (if sde h.N h.nd = 0 then (if fts h.zc h.c h.sm (abv h.pd) (abv h.nd) = true then 0 else 22) else sde h.N h.nd) else sde h.P h.pd) else hde h.s h.z
def sdp (h : Hs) : List Sp := if che h = 0 then sdl h.P h.pd else []
def sdn (h : Hs) : List Sp := if che h = 0 then sdl h.N h.nd else []

theorem abe_cases (l : List Int) : abe l = 0 ∨ abe l = 28 := by unfold abe; split <;> simp
theorem abe_zero {l : List Int} : abe l = 0 ↔ ∃ o, absl 0 l = some o := by unfold abe; cases absl 0 l <;> simp
theorem abv_length {l : List Int} (h : abe l = 0) : (abv l).length = l.length := by
  obtain ⟨o, h1⟩ := abe_zero.1 h
  unfold abv
  rw [h1]
  exact (absl_in h1).1
theorem nng_iff {l : List Int} : nng l = true ↔ ∀ n ∈ l, 0 ≤ n := by simp [nng, List.all_eq_true]
theorem sde_zero {l : List Sp} {d : List Int} : sde l d = 0 ↔ chk l = 0 ∧ d.length = (pls l).length ∧ abe d = 0 ∧ nng (abv d) = true := by
  unfold sde
  constructor
  · intro h
    split at h
    · rename_i h1
      split at h
      · rename_i h2
        split at h
        · rename_i h3
          split at h
          · rename_i h4; exact ⟨h1, h2, h3, h4⟩
          · cases h
        · cases h
      · cases h
    · rename_i h1; exact absurd h h1
  · rintro ⟨h1, h2, h3, h4⟩
    rw [if_pos h1, if_pos h2, if_pos h3, if_pos h4]
theorem sdl_zip {l : List Sp} {d : List Int} (h : sde l d = 0) : sdl l d = (pls l).zip (abv d) ∧ fsts (sdl l d) = pls l ∧ snds (sdl l d) = abv d := by
  have hz := sde_zero.1 h
  have hl : (pls l).length = (abv d).length := by rw [abv_length hz.2.2.1]; exact hz.2.1.symm
  have e : sdl l d = (pls l).zip (abv d) := by unfold sdl; rw [if_pos h]
  refine ⟨e, ?_, ?_⟩
  · rw [e]; unfold fsts; exact List.map_fst_zip (by omega)
  · rw [e]; unfold snds; exact List.map_snd_zip (by omega)
theorem pls_in64 {l : List Sp} : ∀ z ∈ pls l, in64 z := by
  intro z hz
  unfold pls at hz
  split at hz
  · rename_i h
    have := rises_mem (ok_rising (chk_zero.1 h).2) z hz
    unfold in64; omega
  · simp at hz
theorem sdl_in (l : List Sp) (d : List Int) : ∀ x ∈ sdl l d, in64 x.1 ∧ in64 x.2 := by
  intro x hx
  by_cases h : sde l d = 0
  · obtain ⟨h1, h2, h3⟩ := sdl_zip h
    refine ⟨pls_in64 (l := l) x.1 (by rw [← h2]; exact List.mem_map.2 ⟨x, hx, rfl⟩), abv_in d x.2 (by rw [← h3]; exact List.mem_map.2 ⟨x, hx, rfl⟩)⟩
  · unfold sdl at hx; rw [if_neg h] at hx; simp at hx
theorem sdl_le (l : List Sp) (d : List Int) : (sdl l d).length ≤ 4096 := by
  by_cases h : sde l d = 0
  · have h2 := congrArg List.length (sdl_zip h).2.1
    rw [fsts_length] at h2
    rw [h2]; exact pls_le l
  · unfold sdl; rw [if_neg h]; simp
theorem che_zero {h : Hs} : che h = 0 ↔ hde h.s h.z = 0 ∧ sde h.P h.pd = 0 ∧ sde h.N h.nd = 0 ∧ fts h.zc h.c h.sm (abv h.pd) (abv h.nd) = true := by
  unfold che
  constructor
  · intro k
    split at k
    · rename_i h1
      split at k
      · rename_i h2
        split at k
        · rename_i h3
          split at k
          · rename_i h4; exact ⟨h1, h2, h3, h4⟩
          · cases k
        · rename_i h3; exact absurd k h3
      · rename_i h2; exact absurd k h2
    · rename_i h1; exact absurd k h1
  · rintro ⟨h1, h2, h3, h4⟩
    rw [if_pos h1, if_pos h2, if_pos h3, if_pos h4]
theorem sdp_in (h : Hs) : ∀ x ∈ sdp h, in64 x.1 ∧ in64 x.2 := by
  intro x hx; unfold sdp at hx; split at hx
  · exact sdl_in _ _ x hx
  · simp at hx
theorem sdn_in (h : Hs) : ∀ x ∈ sdn h, in64 x.1 ∧ in64 x.2 := by
  intro x hx; unfold sdn at hx; split at hx
  · exact sdl_in _ _ x hx
  · simp at hx
theorem sdp_le (h : Hs) : (sdp h).length ≤ 4096 := by unfold sdp; split; exact sdl_le _ _; simp
theorem sdn_le (h : Hs) : (sdn h).length ≤ 4096 := by unfold sdn; split; exact sdl_le _ _; simp

theorem zpl_sdl {l : List Sp} {d : List Int} (h : sde l d = 0) : zpe l (abv d) = 0 ∧ zpl l (abv d) = sdl l d := by
  have hz := sde_zero.1 h
  have e : zpe l (abv d) = 0 := by unfold zpe; rw [if_pos hz.1, if_pos (by rw [abv_length hz.2.2.1]; exact hz.2.1)]
  refine ⟨e, ?_⟩
  unfold zpl sdl
  rw [if_pos e, if_pos h]
end Go.Proofs.Ytoaibabkkphlaaa
