/-
  Package layout: Compare, Covers.
-/
import Derived.Test.YtakjfggkfhjeaaaLMissing
import Derived.Test.YtakjfggkfhjeaaaSUnion
namespace Go.Proofs.Ytakjfggkfhjeaaa
open Go.RowKit Mem Spans
open Classical
set_option linter.unusedSimpArgs false
set_option linter.unusedVariables false
set_option maxRecDepth 100000

/-- Compare's inserts of one side. -/
def cmp (a b x : List Sp) : List Sp := if une a b = 0 then mis (pls x) (pls (unl a b)) else []
/-- Covers' answer. -/
def cvr (a b : List Sp) : Bool := decide (une a b = 0) && eqn (unl a b) a

set_option maxHeartbeats 1000000 in
theorem compare_any (v u : Value) (a b : List Sp) (w : World) (h : SSrc w v a) (h2 : SSrc w u b) :
    Calls Try.prog 9 #[v, u] w fun e w' => ∃ r q, e = .returned (.tuple #[r, q, .int .i64 (une a b)]) ∧ SOwn 47 w.heap.size w' r (cmp a b a) ∧ SOwn 47 w.heap.size w' q (cmp a b b) ∧ Fr [] w w' := by
  have HA : Hid (SSrc w v a) := h
  have HB : Hid (SSrc w u b) := h2
  clear h h2
  go_enter Try.func9, Try.ntmps9
  go_wp2_with fail
  refine (union_any _ _ a b w HA.out HB.out).mono ?_
  rintro e w1 ⟨r1, rfl, hr, hf⟩
  have HF : Hid (Fr [] w w1) := hf
  have HR : Hid (SSrc w1 r1 (unl a b)) := hr.src (unl_in a b)
  clear hf hr
  by_cases hk : une a b = 0
  · have HE : Hid (une a b = 0 ∧ cmp a b a = mis (pls a) (pls (unl a b)) ∧ cmp a b b = mis (pls b) (pls (unl a b))) := by unfold Hid cmp; simp [hk]
    rw [hk]
    clear hk
    go_wp2_with fail
    refine (missing_any _ _ a (unl a b) w1 (HA.out.kept HF.out) HR.out).mono ?_
    rintro e w2 ⟨r2, rfl, hr2, hf2⟩
    have HF2 : Hid (Fr [] w w2) := HF.out.trans hf2 (by simp)
    have HR2 : Hid (SSrc w2 r1 (unl a b)) := HR.out.kept hf2
    have HM2 : Hid (SOwn 47 w.heap.size w2 r2 (mis (pls a) (pls (unl a b)))) := hr2.mono HF.out.size
    clear hr2 hf2
    go_wp2_with fail
    refine (missing_any _ _ b (unl a b) w2 (HB.out.kept HF2.out) HR2.out).mono ?_
    rintro e w3 ⟨r3, rfl, hr3, hf3⟩
    have HF3 : Hid (Fr [] w w3) := HF2.out.trans hf3 (by simp)
    have HM3 : Hid (SOwn 47 w.heap.size w3 r2 (mis (pls a) (pls (unl a b)))) := HM2.out.kept hf3
    have HN3 : Hid (SOwn 47 w.heap.size w3 r3 (mis (pls b) (pls (unl a b)))) := hr3.mono HF2.out.size
    clear hr3 hf3
    go_wp2
    go_ret3
    exact ⟨_, _, by rw [HE.out.1]; rfl, by rw [HE.out.2.1]; exact HM3.out, by rw [HE.out.2.2]; exact HN3.out, HF3.out⟩
  · have HE : Hid (cmp a b a = [] ∧ cmp a b b = []) := by unfold Hid cmp; simp [hk]
    go_wp2
    go_ret3
    exact ⟨_, _, rfl, .inl ⟨HE.out.1, rfl⟩, .inl ⟨HE.out.2, rfl⟩, HF.out⟩

set_option maxHeartbeats 1000000 in
theorem covers_any (v u : Value) (a b : List Sp) (w : World) (h : SSrc w v a) (h2 : SSrc w u b) :
    Calls Try.prog 11 #[v, u] w fun e w' => e = .returned (.bool (cvr a b)) ∧ Fr [] w w' := by
  have HA : Hid (SSrc w v a) := h
  have HB : Hid (SSrc w u b) := h2
  clear h h2
  go_enter Try.func11, Try.ntmps11
  go_wp2_with fail
  refine (union_any _ _ a b w HA.out HB.out).mono ?_
  rintro e w1 ⟨r1, rfl, hr, hf⟩
  have HF : Hid (Fr [] w w1) := hf
  have HR : Hid (SSrc w1 r1 (unl a b)) := hr.src (unl_in a b)
  clear hf hr
  by_cases hk : une a b = 0
  · have HE : Hid (cvr a b = eqn (unl a b) a) := by unfold Hid cvr; simp [hk]
    rw [hk]
    clear hk
    go_wp2_with fail
    refine (equal_any _ _ (unl a b) a w1 HR.out (HA.out.kept HF.out)).mono ?_
    rintro e w2 ⟨rfl, hf2⟩
    have HF2 : Hid (Fr [] w w2) := HF.out.trans hf2 (by simp)
    clear hf2
    go_wp2
    go_ret
    exact ⟨by rw [HE.out]; rfl, HF2.out⟩
  · have HE : Hid (cvr a b = false) := by unfold Hid cvr; simp [hk]
    go_wp2
    go_ret
    exact ⟨by rw [HE.out]; rfl, HF.out⟩
end Go.Proofs.Ytakjfggkfhjeaaa
