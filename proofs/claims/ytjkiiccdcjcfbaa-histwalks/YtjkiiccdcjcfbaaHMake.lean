/-
  Package hist: apart, Make.
-/
import Derived.Test.YtjkiiccdcjcfbaaHSides
namespace Go.Proofs.Ytjkiiccdcjcfbaa
open Go.RowKit Mem Spans
set_option linter.unusedSimpArgs false
set_option linter.unusedVariables false
set_option maxRecDepth 100000

/-- A side's own spans and differences: their error, they. -/
def ape (l : List Sp) : Int := if frm (fsts l) = 0 then dle (snds l) else frm (fsts l)
def aps (l : List Sp) : List Sp := if ape l = 0 then rns 0 (fsts l) else []
def apd (l : List Sp) : List Int := if ape l = 0 then dlv (snds l) else []
theorem dle_cases (l : List Int) : dle l = 0 ∨ dle l = 28 := by unfold dle; split <;> simp
theorem ape_zero {l : List Sp} : ape l = 0 ↔ frm (fsts l) = 0 ∧ dle (snds l) = 0 := by
  unfold ape
  constructor
  · intro h
    split at h
    · rename_i h1; exact ⟨h1, h⟩
    · rename_i h1; exact absurd h h1
  · rintro ⟨h1, h2⟩; rw [if_pos h1]; exact h2

set_option maxHeartbeats 1000000 in
theorem apart_any (v : Value) (l : List Sp) (w : World) (h : SSrc w v l) (hl : l.length ≤ 1000000) :
    Calls Try.prog 45 #[v] w fun e w' => ∃ u x, e = .returned (.tuple #[u, x, .int .i64 (ape l)]) ∧ SOwn 79 w.heap.size w' u (aps l) ∧ NOwn 2 w.heap.size w' x (apd l) ∧ Fr [] w w' := by
  have HS : Hid (SSrc w v l) := h
  have H64 : Hid (∀ z ∈ snds l, in64 z) := by
    obtain ⟨_, _, _, _, _, h64, _⟩ := h
    intro z hz
    obtain ⟨s, hs, rfl⟩ := List.mem_map.1 hz
    exact (h64 s hs).2
  obtain ⟨ao, cap, rfl, _⟩ := h
  go_enter Try.func45, Try.ntmps45
  go_wp2_with fail
  refine (unzip_any _ l _ HS.out hl).mono ?_
  rintro e w1 ⟨u, x, rfl, hu, hx, hf1⟩
  have HU : Hid (SOwn 79 w.heap.size w1 u (frl (fsts l))) := hu
  have HX : Hid (NOwn 2 w.heap.size w1 x (uzv l)) := hx
  have HF1 : Hid (Fr [] w w1) := hf1
  clear hu hx hf1
  by_cases h0 : frm (fsts l) = 0
  · have HV : Hid (uzv l = snds l ∧ frl (fsts l) = rns 0 (fsts l) ∧ frm (fsts l) = 0) := by unfold Hid uzv frl; rw [if_pos h0, if_pos h0]; exact ⟨rfl, rfl, h0⟩
    rw [h0]
    clear h0
    go_wp2_with fail
    refine (deltas_any _ (snds l) _ (by have := HX.out; rw [HV.out.1] at this; exact this.src H64.out) (by rw [snds_length]; exact hl)).mono ?_
    rintro e w2 ⟨y, rfl, hy, hf2⟩
    have HF2 : Hid (Fr [] w w2) := HF1.out.trans hf2 (by simp)
    have HU2 : Hid (SOwn 79 w.heap.size w2 u (frl (fsts l))) := HU.out.kept hf2
    have HY : Hid (NOwn 2 w.heap.size w2 y (dlv (snds l))) := hy.mono HF1.out.size
    clear hf2 hy HU HX
    by_cases hd : dle (snds l) = 0
    · have HA : Hid (ape l = 0 ∧ aps l = rns 0 (fsts l) ∧ apd l = dlv (snds l)) := by
        have e : ape l = 0 := ape_zero.2 ⟨HV.out.2.2, hd⟩
        unfold Hid aps apd; rw [if_pos e, if_pos e]; exact ⟨e, rfl, rfl⟩
      rw [hd]
      clear hd
      go_wp2
      go_ret3
      exact ⟨_, _, by rw [HA.out.1]; rfl, by rw [HA.out.2.1, ← HV.out.2.1]; exact HU2.out, by rw [HA.out.2.2]; exact HY.out, HF2.out⟩
    · have hd2 := (dle_cases (snds l)).resolve_left hd
      have HA : Hid (ape l = 28 ∧ aps l = [] ∧ apd l = []) := by
        have e : ape l = 28 := by unfold ape; rw [if_pos HV.out.2.2]; exact hd2
        unfold Hid aps apd; rw [if_neg (by omega), if_neg (by omega)]; exact ⟨e, rfl, rfl⟩
      rw [hd2]
      clear hd hd2
      go_wp2
      go_ret3
      exact ⟨_, _, by rw [HA.out.1]; rfl, .inl ⟨HA.out.2.1, rfl⟩, .inl ⟨HA.out.2.2, rfl⟩, HF2.out⟩
  · have HA : Hid (ape l = frm (fsts l) ∧ aps l = [] ∧ apd l = []) := by
      have e : ape l = frm (fsts l) := by unfold ape; rw [if_neg h0]
      unfold Hid aps apd; rw [if_neg (by rw [e]; exact h0), if_neg (by rw [e]; exact h0)]; exact ⟨e, rfl, rfl⟩
    go_wp2
    go_ret3
    exact ⟨_, _, by rw [HA.out.1]; rfl, .inl ⟨HA.out.2.1, rfl⟩, .inl ⟨HA.out.2.2, rfl⟩, HF1.out⟩

/-- Make's error; what it makes. -/
def mks (h : Hs) (p n : List Sp) : Hs := ⟨h.s, h.z, h.zc, h.c, h.sm, aps p, aps n, apd p, apd n⟩
def mke (h : Hs) (p n : List Sp) : Int := if ape p = 0 then (if ape n = 0 then che (mks h p n) else ape n) else ape p
def hzero : Hs := ⟨0, 0, 0, 0, 0, [], [], [], []⟩
def mkh (h : Hs) (p n : List Sp) : Hs := if mke h p n = 0 then mks h p n else hzero
/-- A histogram of the call's own. -/
def HOwn (B : Nat) (w : World) (v : Value) (h : Hs) : Prop :=
  ∃ vp vn up un, v = .agg #[.int .i64 h.s, .int .u64 h.z, .int .u64 h.zc, .int .u64 h.c, .int .u64 h.sm, vp, vn, up, un] ∧ in64 h.s ∧ (inu h.z ∧ inu h.zc ∧ inu h.c ∧ inu h.sm) ∧
    SOwn 79 B w vp h.P ∧ SOwn 79 B w vn h.N ∧ NOwn 2 B w up h.pd ∧ NOwn 2 B w un h.nd
theorem HOwn.kept {B : Nat} {w w' : World} {v : Value} {h : Hs} (k : HOwn B w v h) (f : Fr [] w w') : HOwn B w' v h := by
  obtain ⟨a, b, c, d, h1, h2, h3, h4, h5, h6, h7⟩ := k
  exact ⟨a, b, c, d, h1, h2, h3, h4.kept f, h5.kept f, h6.kept f, h7.kept f⟩
theorem HOwn.mono {B C : Nat} {w : World} {v : Value} {h : Hs} (k : HOwn B w v h) (hc : C ≤ B) : HOwn C w v h := by
  obtain ⟨a, b, c, d, h1, h2, h3, h4, h5, h6, h7⟩ := k
  exact ⟨a, b, c, d, h1, h2, h3, h4.mono hc, h5.mono hc, h6.mono hc, h7.mono hc⟩
/-- All that a histogram has fits. -/
def hin (h : Hs) : Prop := (∀ s ∈ h.P, in64 s.1 ∧ in64 s.2) ∧ (∀ s ∈ h.N, in64 s.1 ∧ in64 s.2) ∧ (∀ z ∈ h.pd, in64 z) ∧ (∀ z ∈ h.nd, in64 z)
theorem HOwn.src {B : Nat} {w : World} {v : Value} {h : Hs} (k : HOwn B w v h) (i : hin h) : HSrc w v h := by
  obtain ⟨a, b, c, d, h1, h2, h3, h4, h5, h6, h7⟩ := k
  exact ⟨a, b, c, d, h1, h2, h3, h4.src i.1, h5.src i.2.1, h6.src i.2.2.1, h7.src i.2.2.2⟩
theorem aps_in (l : List Sp) : ∀ s ∈ aps l, in64 s.1 ∧ in64 s.2 := by
  intro s hs
  unfold aps at hs
  split at hs
  · rename_i h
    have e : frl (fsts l) = rns 0 (fsts l) := by unfold frl; rw [if_pos (ape_zero.1 h).1]
    exact frl_in (fsts l) s (by rw [e]; exact hs)
  · simp at hs
theorem apd_in (l : List Sp) : ∀ z ∈ apd l, in64 z := by
  intro z hz
  unfold apd at hz
  split at hz
  · exact dlv_in _ z hz
  · simp at hz
theorem mks_in (h : Hs) (p n : List Sp) : hin (mks h p n) := ⟨aps_in p, aps_in n, apd_in p, apd_in n⟩
theorem mkh_in (h : Hs) (p n : List Sp) : hin (mkh h p n) := by
  unfold mkh; split
  · exact mks_in h p n
  · unfold hin hzero; simp
theorem hzero_own (B : Nat) (w : World) : HOwn B w (.agg #[.int .i64 0, .int .u64 0, .int .u64 0, .int .u64 0, .int .u64 0, .slice none 0 0, .slice none 0 0, .slice none 0 0, .slice none 0 0]) hzero :=
  ⟨_, _, _, _, rfl, by unfold in64 hzero; decide, by unfold inu hzero; decide, .inl ⟨rfl, rfl⟩, .inl ⟨rfl, rfl⟩, .inl ⟨rfl, rfl⟩, .inl ⟨rfl, rfl⟩⟩

theorem Try.sizeOf26 : (Try.prog.info? 26).map (·.size) = some 9 := by kernel_rfl
theorem hist_res {fn : Func} {p u : Tmp} (h : fn.results = #[.cell p 26, .tmp u]) (tmps : Array Value) (w : World) (g : Nat) (a0 a1 a2 a3 a4 a5 a6 a7 a8 : Value)
    (hp : tmps.getD p undef = .pointer (some ⟨g, 0, none⟩)) (hg : Nine w g #[a0, a1, a2, a3, a4, a5, a6, a7, a8]) : (results fn tmps).run Try.prog w = .ok (.tuple #[.agg #[a0, a1, a2, a3, a4, a5, a6, a7, a8], tmps.getD u undef]) w := by
  rw [results_cell_tmp h tmps, hp]
  have := run_loadVar_row (P := Try.prog) w g 26 26 #[a0, a1, a2, a3, a4, a5, a6, a7, a8] (0, 0) _ hg Try.underlying26 rfl Try.sizeOf26
  simp [asAddr, this]
end Go.Proofs.Ytjkiiccdcjcfbaa
