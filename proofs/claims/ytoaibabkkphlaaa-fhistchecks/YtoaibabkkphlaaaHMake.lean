/-
  Package hist: apart, Make.
-/
import Derived.Test.YtoaibabkkphlaaaHSides
namespace Go.Proofs.Ytoaibabkkphlaaa
open Go.RowKit Mem Spans
set_option linter.unusedSimpArgs false
set_option linter.unusedVariables false
set_option maxRecDepth 100000

/-- A side's own spans and differences: their error, they. -/
def ape (l : List Sp) : Int := if frm (fsts l) = 0 then dle (snds l) else frm (fsts l)
def aps (l : List Sp) : List Sp := if ape l = 0 then rns 0 (fsts l) else []
def apd (l : List Sp) : List Int := if ape l = 0 then dlv (snds l) else []
theorem dle_cases (l : List Int) : dle l = 0 ∨ dle l = 28 := by unfold dle; split <;> simp
theorem ape_zero {l : List Sp} : ape l = 0 ↔ frm (fsts l) = 0 ∧ dle (snds l) = 0 := by
  unfold ape
  constructor
  · intro h
    split at h
    · rename_i h1; exact ⟨h1, h⟩
    · rename_i h1; exact absurd h h1
  · rintro ⟨h1, h2⟩; rw [if_pos h1]; exact h2


/-- Make's error; what it makes. -/
def mks (h : Hs) (p n : List Sp) : Hs := ⟨h.s, h.z, h.zc, h.c, h.sm, aps p, aps n, apd p, apd n⟩
def mke (h : Hs) (p n : List Sp) : Int := if ape p = 0 then (if ape n = 0 then che (mks h p n) else ape n) else ape p
def hzero : Hs := ⟨0, 0, 0, 0, 0, [], [], [], []⟩
def mkh (h : Hs) (p n : List Sp) : Hs := if mke h p n = 0 then mks h p n else hzero
/-- A histogram of the call's own. -/
def HOwn (B : Nat) (w : World) (v : Value) (h : Hs) : Prop :=
  ∃ vp vn up un, v = .agg #[.int .i64 h.s, .int .u64 h.z, .int .u64 h.zc, .int .u64 h.c, .int .u64 h.sm, vp, vn, up, un] ∧ in64 h.s ∧ (inu h.z ∧ inu h.zc ∧ inu h.c ∧ inu h.sm) ∧
    SOwn 95 B w vp h.P ∧ SOwn 95 B w vn h.N ∧ NOwn 2 B w up h.pd ∧ NOwn 2 B w un h.nd
theorem HOwn.kept {B : Nat} {w w' : World} {v : Value} {h : Hs} (k : HOwn B w v h) (f : Fr [] w w') : HOwn B w' v h := by
  obtain ⟨a, b, c, d, h1, h2, h3, h4, h5, h6, h7⟩ := k
  exact ⟨a, b, c, d, h1, h2, h3, h4.kept f, h5.kept f, h6.kept f, h7.kept f⟩
theorem HOwn.mono {B C : Nat} {w : World} {v : Value} {h : Hs} (k : HOwn B w v h) (hc : C ≤ B) : HOwn C w v h := by
  obtain ⟨a, b, c, d, h1, h2, h3, h4, h5, h6, h7⟩ := k
  exact ⟨a, b, c, d, h1, h2, h3, h4.mono hc, h5.mono hc, h6.mono hc, h7.mono hc⟩
/-- All that a histogram has fits. -/
def hin (h : Hs) : Prop := (∀ s ∈ h.P, in64 s.1 ∧ in64 s.2) ∧ (∀ s ∈ h.N, in64 s.1 ∧ in64 s.2) ∧ (∀ z ∈ h.pd, in64 z) ∧ (∀ z ∈ h.nd, in64 z)
theorem HOwn.src {B : Nat} {w : World} {v : Value} {h : Hs} (k : HOwn B w v h) (i : hin h) : HSrc w v h := by
  obtain ⟨a, b, c, d, h1, h2, h3, h4, h5, h6, h7⟩ := k
  exact ⟨a, b, c, d, h1, h2, h3, h4.src i.1, h5.src i.2.1, h6.src i.2.2.1, h7.src i.2.2.2⟩
theorem aps_in (l : List Sp) : ∀ s ∈ aps l, in64 s.1 ∧ in64 s.2 := by
  intro s hs
  unfold aps at hs
  split at hs
  · rename_i h
    have e : frl (fsts l) = rns 0 (fsts l) := by unfold frl; rw [if_pos (ape_zero.1 h).1]
    exact frl_in (fsts l) s (by rw [e]; exact hs)
  · simp at hs
theorem apd_in (l : List Sp) : ∀ z ∈ apd l, in64 z := by
  intro z hz
  unfold apd at hz
  split at hz
  · exact dlv_in _ z hz
  · simp at hz
theorem mks_in (h : Hs) (p n : List Sp) : hin (mks h p n) := ⟨aps_in p, aps_in n, apd_in p, apd_in n⟩
theorem mkh_in (h : Hs) (p n : List Sp) : hin (mkh h p n) := by
  unfold mkh; split
  · exact mks_in h p n
  · unfold hin hzero; simp
theorem hzero_own (B : Nat) (w : World) : HOwn B w (.agg #[.int .i64 0, .int .u64 0, .int .u64 0, .int .u64 0, .int .u64 0, .slice none 0 0, .slice none 0 0, .slice none 0 0, .slice none 0 0]) hzero :=
  ⟨_, _, _, _, rfl, by unfold in64 hzero; decide, by unfold inu hzero; decide, .inl ⟨rfl, rfl⟩, .inl ⟨rfl, rfl⟩, .inl ⟨rfl, rfl⟩, .inl ⟨rfl, rfl⟩⟩

theorem Try.sizeOf70 : (Try.prog.info? 70).map (·.size) = some 9 := by kernel_rfl
theorem hist_res {fn : Func} {p u : Tmp} (h : fn.results = #[.cell p 70, .tmp u]) (tmps : Array Value) (w : World) (g : Nat) (a0 a1 a2 a3 a4 a5 a6 a7 a8 : Value)
    (hp : tmps.getD p undef = .pointer (some ⟨g, 0, none⟩)) (hg : Nine w g #[a0, a1, a2, a3, a4, a5, a6, a7, a8]) : (results fn tmps).run Try.prog w = .ok (.tuple #[.agg #[a0, a1, a2, a3, a4, a5, a6, a7, a8], tmps.getD u undef]) w := by
  rw [results_cell_tmp h tmps, hp]
  have := run_loadVar_row (P := Try.prog) w g 70 70 #[a0, a1, a2, a3, a4, a5, a6, a7, a8] (0, 0) _ hg Try.underlying70 rfl Try.sizeOf70
  simp [asAddr, this]
end Go.Proofs.Ytoaibabkkphlaaa
