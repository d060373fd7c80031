/-
  Package span: From, Canon, Equal.
-/
import Derived.Test.YtoaibabkkphlaaaSRuns
import Derived.Test.YtoaibabkkphlaaaSPlaces
namespace Go.Proofs.Ytoaibabkkphlaaa
open Go.RowKit Mem Spans
open Classical
set_option linter.unusedSimpArgs false
set_option linter.unusedVariables false
set_option maxRecDepth 100000

/-- From's list. -/
def frl (p : List Int) : List Sp := if frm p = 0 then rns 0 p else []
theorem frm_zero {p : List Int} : frm p = 0 ↔ rises (-1048576) p ∧ p.length ≤ 4096 ∧ (rns 0 p).length ≤ 1024 := by
  rw [frm_def]
  by_cases h1 : rises (-1048576) p
  · rw [if_pos h1]
    by_cases h2 : 4096 < p.length
    · rw [if_pos h2]; constructor
      · intro h; simp at h
      · intro h; omega
    · rw [if_neg h2]
      by_cases h3 : 1024 < (rns 0 p).length
      · rw [if_pos h3]; constructor
        · intro h; simp at h
        · intro h; omega
      · rw [if_neg h3]; constructor
        · intro _; exact ⟨h1, by omega, by omega⟩
        · intro _; rfl
  · rw [if_neg h1]; constructor
    · intro h; simp at h
    · intro h; exact absurd h.1 h1
/-- The list of From is right and canonical, and has just these places. -/
theorem frm_ok {p : List Int} (h : frm p = 0) : chk (rns 0 p) = 0 ∧ shp true (rns 0 p) ∧ plc 0 (rns 0 p) = p :=
  ⟨chk_zero.2 ⟨(frm_zero.1 h).2.2, rns_ok (frm_zero.1 h).1 (frm_zero.1 h).2.1⟩, rns_shape 0 (frm_zero.1 h).1, rns_places 0 p⟩
theorem frl_in (p : List Int) : ∀ s ∈ frl p, in64 s.1 ∧ in64 s.2 := by
  intro s hs
  unfold frl at hs
  split at hs
  · obtain ⟨j, hj⟩ := List.mem_iff_getElem?.1 hs
    have := ok_at (chk_zero.1 (frm_ok (by assumption)).1).2 j s hj
    unfold in64
    omega
  · simp at hs

set_option maxHeartbeats 1000000 in
theorem from_any (v : Value) (zs : List Int) (w : World) (h : ISrc w v zs) :
    Calls Try.prog 80 #[v] w fun e w' => ∃ u, e = .returned (.tuple #[u, .int .i64 (frm zs)]) ∧ SOwn 95 w.heap.size w' u (frl zs) ∧ Fr [] w w' := by
  have HSR : Hid (ISrc w v zs) := h
  obtain ⟨ao, cap, rfl, hcap, hmax, _⟩ := h
  go_enter Try.func80, Try.ntmps80
  go_wp2_with fail
  refine (rise_any _ zs w HSR.out).mono ?_
  rintro e w1 ⟨rfl, rfl⟩
  by_cases hr : rises (-1048576) zs
  · have hd : decide (rises (-1048576) zs) = true := decide_eq_true hr
    have HR : Hid (rises (-1048576) zs) := hr
    clear hr
    by_cases hl : 4096 < zs.length
    · have HE : Hid (frm zs = 12) := by rw [Hid, frm_def]; rw [if_pos HR.out, if_pos hl]
      have HL : Hid (frl zs = []) := by unfold Hid frl; rw [HE.out]; rfl
      go_wp2
      go_ret2
      exact ⟨_, by rw [HE.out]; rfl, .inl ⟨HL.out, rfl⟩, Fr.refl _ _⟩
    · go_wp2_with fail
      refine (runs_any _ zs w HSR.out HR.out (by omega)).mono ?_
      rintro e w2 ⟨u, rfl, hso, hf⟩
      have HF : Hid (Fr [] w w2) := hf
      have HS : Hid (SOwn 95 w.heap.size w2 u (rns 0 zs)) := hso
      obtain ⟨ao2, cap2, rfl⟩ : ∃ ao2 cap2, u = .slice ao2 (rns 0 zs).length cap2 := by
        rcases hso with ⟨h1, h2⟩ | ⟨g, _, _, hrow⟩
        · exact ⟨none, 0, by rw [h2, h1]; rfl⟩
        · obtain ⟨c, hc⟩ := hrow.val
          exact ⟨_, c, hc⟩
      clear hf hso
      by_cases hn : 1024 < (rns 0 zs).length
      · have HE : Hid (frm zs = 12) := by rw [Hid, frm_def]; rw [if_pos HR.out, if_neg hl, if_pos hn]
        have HL : Hid (frl zs = []) := by unfold Hid frl; rw [HE.out]; rfl
        go_wp2
        go_ret2
        exact ⟨_, by rw [HE.out]; rfl, .inl ⟨HL.out, rfl⟩, HF.out⟩
      · have HE : Hid (frm zs = 0) := by rw [Hid, frm_def]; rw [if_pos HR.out, if_neg hl, if_neg hn]
        have HL : Hid (frl zs = rns 0 zs) := by unfold Hid frl; rw [if_pos HE.out]
        go_wp2
        go_ret2
        exact ⟨_, by rw [HE.out]; rfl, by rw [HL.out]; exact HS.out, HF.out⟩
  · have hd : decide (rises (-1048576) zs) = false := decide_eq_false hr
    have HE : Hid (frm zs = 11) := by rw [Hid, frm_def]; rw [if_neg hr]
    have HL : Hid (frl zs = []) := by unfold Hid frl; rw [HE.out]; rfl
    clear hr
    go_wp2
    go_ret2
    exact ⟨_, by rw [HE.out]; rfl, .inl ⟨HL.out, rfl⟩, Fr.refl _ _⟩

theorem fr_drewN (w : World) (q : Nat) : Fr [] w (w.drewN q) := ⟨rfl, rfl, rfl, Nat.le_refl _, fun _ _ _ => rfl⟩
end Go.Proofs.Ytoaibabkkphlaaa
