/-
  Package span: From, Canon, Equal.
-/
import Derived.Test.YtakjfggkfhjeaaaSRuns
import Derived.Test.YtakjfggkfhjeaaaSPlaces
import Derived.Test.YtakjfggkfhjeaaaShelf
namespace Go.Proofs.Ytakjfggkfhjeaaa
open Go.RowKit Mem Spans
open Classical
set_option linter.unusedSimpArgs false
set_option linter.unusedVariables false
set_option maxRecDepth 100000

/-- From's list. -/
def frl (p : List Int) : List Sp := if frm p = 0 then rns 0 p else []
theorem frm_zero {p : List Int} : frm p = 0 ↔ rises (-1048576) p ∧ p.length ≤ 4096 ∧ (rns 0 p).length ≤ 1024 := by
  rw [frm_def]
  by_cases h1 : rises (-1048576) p
  · rw [if_pos h1]
    by_cases h2 : 4096 < p.length
    · rw [if_pos h2]; constructor
      · intro h; simp at h
      · intro h; omega
    · rw [if_neg h2]
      by_cases h3 : 1024 < (rns 0 p).length
      · rw [if_pos h3]; constructor
        · intro h; simp at h
        · intro h; omega
      · rw [if_neg h3]; constructor
        · intro _; exact ⟨h1, by omega, by omega⟩
        · intro _; rfl
  · rw [if_neg h1]; constructor
    · intro h; simp at h
    · intro h; exact absurd h.1 h1
/-- The list of From is right and canonical, and has just these places. -/
theorem frm_ok {p : List Int} (h : frm p = 0) : chk (rns 0 p) = 0 ∧ shp true (rns 0 p) ∧ plc 0 (rns 0 p) = p :=
  ⟨chk_zero.2 ⟨(frm_zero.1 h).2.2, rns_ok (frm_zero.1 h).1 (frm_zero.1 h).2.1⟩, rns_shape 0 (frm_zero.1 h).1, rns_places 0 p⟩
theorem frl_in (p : List Int) : ∀ s ∈ frl p, in64 s.1 ∧ in64 s.2 := by
  intro s hs
  unfold frl at hs
  split at hs
  · obtain ⟨j, hj⟩ := List.mem_iff_getElem?.1 hs
    have := ok_at (chk_zero.1 (frm_ok (by assumption)).1).2 j s hj
    unfold in64
    omega
  · simp at hs

set_option maxHeartbeats 1000000 in
theorem from_any (v : Value) (zs : List Int) (w : World) (h : ISrc w v zs) :
    Calls Try.prog 29 #[v] w fun e w' => ∃ u, e = .returned (.tuple #[u, .int .i64 (frm zs)]) ∧ SOwn 54 w.heap.size w' u (frl zs) ∧ Fr [] w w' := by
  have HSR : Hid (ISrc w v zs) := h
  obtain ⟨ao, cap, rfl, hcap, hmax, _⟩ := h
  go_enter Try.func29, Try.ntmps29
  go_wp2_with fail
  refine (rise_any _ zs w HSR.out).mono ?_
  rintro e w1 ⟨rfl, rfl⟩
  by_cases hr : rises (-1048576) zs
  · have hd : decide (rises (-1048576) zs) = true := decide_eq_true hr
    have HR : Hid (rises (-1048576) zs) := hr
    clear hr
    by_cases hl : 4096 < zs.length
    · have HE : Hid (frm zs = 12) := by rw [Hid, frm_def]; rw [if_pos HR.out, if_pos hl]
      have HL : Hid (frl zs = []) := by unfold Hid frl; rw [HE.out]; rfl
      go_wp2
      go_ret2
      exact ⟨_, by rw [HE.out]; rfl, .inl ⟨HL.out, rfl⟩, Fr.refl _ _⟩
    · go_wp2_with fail
      refine (runs_any _ zs w HSR.out HR.out (by omega)).mono ?_
      rintro e w2 ⟨u, rfl, hso, hf⟩
      have HF : Hid (Fr [] w w2) := hf
      have HS : Hid (SOwn 54 w.heap.size w2 u (rns 0 zs)) := hso
      obtain ⟨ao2, cap2, rfl⟩ : ∃ ao2 cap2, u = .slice ao2 (rns 0 zs).length cap2 := by
        rcases hso with ⟨h1, h2⟩ | ⟨g, _, _, hrow⟩
        · exact ⟨none, 0, by rw [h2, h1]; rfl⟩
        · obtain ⟨c, hc⟩ := hrow.val
          exact ⟨_, c, hc⟩
      clear hf hso
      by_cases hn : 1024 < (rns 0 zs).length
      · have HE : Hid (frm zs = 12) := by rw [Hid, frm_def]; rw [if_pos HR.out, if_neg hl, if_pos hn]
        have HL : Hid (frl zs = []) := by unfold Hid frl; rw [HE.out]; rfl
        go_wp2
        go_ret2
        exact ⟨_, by rw [HE.out]; rfl, .inl ⟨HL.out, rfl⟩, HF.out⟩
      · have HE : Hid (frm zs = 0) := by rw [Hid, frm_def]; rw [if_pos HR.out, if_neg hl, if_neg hn]
        have HL : Hid (frl zs = rns 0 zs) := by unfold Hid frl; rw [if_pos HE.out]
        go_wp2
        go_ret2
        exact ⟨_, by rw [HE.out]; rfl, by rw [HL.out]; exact HS.out, HF.out⟩
  · have hd : decide (rises (-1048576) zs) = false := decide_eq_false hr
    have HE : Hid (frm zs = 11) := by rw [Hid, frm_def]; rw [if_neg hr]
    have HL : Hid (frl zs = []) := by unfold Hid frl; rw [HE.out]; rfl
    clear hr
    go_wp2
    go_ret2
    exact ⟨_, by rw [HE.out]; rfl, .inl ⟨HL.out, rfl⟩, Fr.refl _ _⟩

theorem fr_drewN (w : World) (q : Nat) : Fr [] w (w.drewN q) := ⟨rfl, rfl, rfl, Nat.le_refl _, fun _ _ _ => rfl⟩
/-- slices.Equal of two rows of numbers. -/
theorem equal_ints (v u : Value) (xs ys : List Int) (w : World) (h1 : ISrc w v xs) (h2 : ISrc w u ys) (hx : xs.length ≤ 1000000) (hy : ys.length ≤ 1000000) :
    Calls Try.prog 34 #[v, u] w fun e w' => e = .returned (.bool (decide (xs = ys))) ∧ Fr [] w w' := by
  obtain ⟨ao, cap, rfl, _, _, _, b, off, ha, hc⟩ := h1
  obtain ⟨ao2, cap2, rfl, _, _, _, b2, off2, ha2, hc2⟩ := h2
  by_cases hl : xs.length = ys.length
  · by_cases h0 : xs.length = 0
    · have e1 : xs = [] := List.eq_nil_of_length_eq_zero h0
      have e2 : ys = [] := List.eq_nil_of_length_eq_zero (by omega)
      subst e1 e2
      refine (Try.slices_Equal_int_empty ao ao2 cap 0 cap2 w (by omega)).mono ?_
      rintro e w' ⟨rfl, rfl⟩
      exact ⟨by simp, Fr.refl _ _⟩
    · obtain rfl := ha (by omega)
      obtain rfl := ha2 (by omega)
      refine (Try.slices_Equal_int b off xs.length cap b2 off2 ys.length cap2 xs ys w (Nat.le_refl _) (Nat.le_refl _) (by omega) (by omega) (fun j hj => ?_) (fun j hj => ?_)).mono ?_
      · rw [hc j xs[j] (List.getElem?_eq_getElem hj)]; simp [hj]
      · rw [hc2 j ys[j] (List.getElem?_eq_getElem hj)]; simp [hj]
      · rintro e w' ⟨rfl, q, rfl⟩
        refine ⟨?_, fr_drewN _ _⟩
        rw [List.take_length, List.take_length]
        by_cases h : xs = ys <;> simp [h]
  · refine (Try.slices_Equal_int_lens ao ao2 xs.length cap ys.length cap2 w hl).mono ?_
    rintro e w' ⟨rfl, rfl⟩
    refine ⟨?_, Fr.refl _ _⟩
    rw [decide_eq_false (fun h => hl (by rw [h]))]

/-- Equal's answer. -/
def eqn (a b : List Sp) : Bool := decide (chk a = 0 ∧ chk b = 0 ∧ pls a = pls b)

set_option maxHeartbeats 1000000 in
theorem equal_any (v u : Value) (a b : List Sp) (w : World) (h : SSrc w v a) (h2 : SSrc w u b) :
    Calls Try.prog 25 #[v, u] w fun e w' => e = .returned (.bool (eqn a b)) ∧ Fr [] w w' := by
  have HA : Hid (SSrc w v a) := h
  have HB : Hid (SSrc w u b) := h2
  obtain ⟨ao, cap, rfl, hcap, hmax, _⟩ := h
  obtain ⟨ao2, cap2, rfl, hcap2, hmax2, _⟩ := h2
  go_enter Try.func25, Try.ntmps25
  go_wp2_with fail
  refine (places_any _ a w HA.out).mono ?_
  rintro e w1 ⟨p, rfl, hio, hf⟩
  have HF : Hid (Fr [] w w1) := hf
  have HS : Hid (IOwn w.heap.size w1 p (pls a)) := hio
  clear hf hio
  by_cases hk : chk a = 0
  · go_wp2_with fail
    refine (places_any _ b w1 (HB.out.kept HF.out)).mono ?_
    rintro e w2 ⟨q, rfl, hio, hf⟩
    have HF2 : Hid (Fr [] w w2) := HF.out.trans hf (by simp)
    have HS2 : Hid (IOwn w.heap.size w2 p (pls a)) := HS.out.kept hf
    have HQ : Hid (IOwn w1.heap.size w2 q (pls b)) := hio
    clear hf hio
    by_cases hk2 : chk b = 0
    · have HE : Hid (eqn a b = decide (pls a = pls b)) := by unfold Hid eqn; simp [hk, hk2]
      go_wp2_with fail
      refine (equal_ints _ _ (pls a) (pls b) w2 (HS2.out.src (pls_in a)) (HQ.out.src (pls_in b)) (by have := pls_le a; omega) (by have := pls_le b; omega)).mono ?_
      rintro e w3 ⟨rfl, hf3⟩
      have HF3 : Hid (Fr [] w w3) := HF2.out.trans hf3 (by simp)
      clear hf3
      go_wp2
      go_ret
      exact ⟨by rw [HE.out]; rfl, HF3.out⟩
    · have HE : Hid (eqn a b = false) := by unfold Hid eqn; simp [hk2]
      go_wp2
      go_ret
      exact ⟨by rw [HE.out]; rfl, HF2.out⟩
  · have HE : Hid (eqn a b = false) := by unfold Hid eqn; simp [hk]
    go_wp2
    go_ret
    exact ⟨by rw [HE.out]; rfl, HF.out⟩
end Go.Proofs.Ytakjfggkfhjeaaa
