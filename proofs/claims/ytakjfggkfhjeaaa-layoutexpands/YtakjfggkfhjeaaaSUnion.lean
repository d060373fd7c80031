/-
  Package span: Union.
-/
import Derived.Test.YtakjfggkfhjeaaaSSort
namespace Go.Proofs.Ytakjfggkfhjeaaa
open Go.RowKit Mem Spans
open Classical
set_option linter.unusedSimpArgs false
set_option linter.unusedVariables false
set_option maxRecDepth 100000

/-- Union's error and list. -/
def une (a b : List Sp) : Int := if chk a = 0 then (if chk b = 0 then frm (uni (pls a) (pls b)) else chk b) else chk a
def unl (a b : List Sp) : List Sp := if chk a = 0 ∧ chk b = 0 then frl (uni (pls a) (pls b)) else []
theorem unl_in (a b : List Sp) : ∀ s ∈ unl a b, in64 s.1 ∧ in64 s.2 := by
  unfold unl
  split
  · exact frl_in _
  · simp
theorem uni_in (a b : List Sp) : ∀ x ∈ uni (pls a) (pls b), in64 x := by
  intro x hx
  rcases (uni_mem _ _ x).1 hx with h | h
  · exact pls_in a x h
  · exact pls_in b x h

set_option maxHeartbeats 1000000 in
theorem union_any (v u : Value) (a b : List Sp) (w : World) (h : SSrc w v a) (h2 : SSrc w u b) :
    Calls Try.prog 10 #[v, u] w fun e w' => ∃ r, e = .returned (.tuple #[r, .int .i64 (une a b)]) ∧ SOwn 54 w.heap.size w' r (unl a b) ∧ Fr [] w w' := by
  have HA : Hid (SSrc w v a) := h
  have HB : Hid (SSrc w u b) := h2
  obtain ⟨ao, cap, rfl, hcap, hmax, _⟩ := h
  obtain ⟨ao2, cap2, rfl, hcap2, hmax2, _⟩ := h2
  go_enter Try.func10, Try.ntmps10
  go_wp2_with fail
  refine (places_any _ a w HA.out).mono ?_
  rintro e w1 ⟨p, rfl, hio, hf⟩
  have HF : Hid (Fr [] w w1) := hf
  have HS : Hid (IOwn w.heap.size w1 p (pls a)) := hio
  clear hf hio
  by_cases hk : chk a = 0
  · go_wp2_with fail
    refine (places_any _ b w1 (HB.out.kept HF.out)).mono ?_
    rintro e w2 ⟨q, rfl, hio, hf⟩
    have HF2 : Hid (Fr [] w w2) := HF.out.trans hf (by simp)
    have HS2 : Hid (IOwn w.heap.size w2 p (pls a)) := HS.out.kept hf
    have HQ : Hid (IOwn w.heap.size w2 q (pls b)) := hio.mono HF.out.size
    clear hf hio HS
    by_cases hk2 : chk b = 0
    · have HE : Hid (une a b = frm (uni (pls a) (pls b)) ∧ unl a b = frl (uni (pls a) (pls b))) := by unfold Hid une unl; simp [hk, hk2]
      have HL : Hid ((pls a).length ≤ 4096 ∧ (pls b).length ≤ 4096) := ⟨pls_le a, pls_le b⟩
      go_wp2_with (at_builtin; refine wpList_append_ints _ rfl _ _ rfl HF2.out.size rfl rfl HS2.out HQ.out (by have := HL.out; omega) ?_; intro v3 w3 ho3 hb3; have HO3 : Hid (IOwn w.heap.size w3 v3 (pls a ++ pls b)) := ho3; have HB3 : Hid (Below w.heap.size w w3) := (HF2.out.below (Nat.le_refl _) (by simp)).trans hb3; clear ho3 hb3)
      refine (sort_any w.heap.size _ _ w3 HB3.out.size HO3.out (by have := HL.out; simp; omega)).mono ?_
      rintro e w4 ⟨rfl, ho4, hb4⟩
      have HO4 : Hid (IOwn w.heap.size w4 v3 (srt (pls a ++ pls b))) := ho4
      have HB4 : Hid (Below w.heap.size w w4) := HB3.out.trans hb4
      clear ho4 hb4
      have hsl : (srt (pls a ++ pls b)).length = (pls a ++ pls b).length := List.length_mergeSort _
      have HSL : Hid ((srt (pls a ++ pls b)).length ≤ 8192) := by rw [Hid, hsl, List.length_append]; have := HL.out; omega
      clear hsl
      go_wp2_with fail
      refine (compact_any w.heap.size _ _ w4 HB4.out.size HO4.out (by have := HSL.out; omega) compact_ne).mono ?_
      rintro e w5 ⟨v5, rfl, ho5, hb5⟩
      rw [compact_srt (rises_pair (pls_rises a)) (rises_pair (pls_rises b))] at ho5
      have HO5 : Hid (IOwn w.heap.size w5 v5 (uni (pls a) (pls b))) := ho5
      have HB5 : Hid (Below w.heap.size w w5) := HB4.out.trans hb5
      clear ho5 hb5
      go_wp2_with fail
      refine (from_any _ _ w5 (HO5.out.src (uni_in a b))).mono ?_
      rintro e w6 ⟨u6, rfl, ho6, hf6⟩
      have HF6 : Hid (Fr [] w w6) := (Fr.ofBelow HB5.out).trans hf6 (by simp)
      have HO6 : Hid (SOwn 54 w.heap.size w6 u6 (frl (uni (pls a) (pls b)))) := by
        rcases ho6 with h | ⟨g, h1, h2, h3⟩
        · exact .inl h
        · exact .inr ⟨g, by have := HB5.out.size; omega, h2, h3⟩
      clear ho6 hf6
      go_wp2
      go_ret2
      exact ⟨_, by rw [HE.out.1]; rfl, by rw [HE.out.2]; exact HO6.out, HF6.out⟩
    · have HE : Hid (une a b = chk b ∧ unl a b = []) := by unfold Hid une unl; simp [hk, hk2]
      go_wp2
      go_ret2
      exact ⟨_, by rw [HE.out.1]; rfl, .inl ⟨HE.out.2, rfl⟩, HF2.out⟩
  · have HE : Hid (une a b = chk a ∧ unl a b = []) := by unfold Hid une unl; simp [hk]
    go_wp2
    go_ret2
    exact ⟨_, by rw [HE.out.1]; rfl, .inl ⟨HE.out.2, rfl⟩, HF.out⟩
end Go.Proofs.Ytakjfggkfhjeaaa
