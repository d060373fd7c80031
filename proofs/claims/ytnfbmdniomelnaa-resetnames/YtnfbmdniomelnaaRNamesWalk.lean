/-
  ResetNames: the walk.
-/
import Derived.Test.YtnfbmdniomelnaaGI
namespace Go.Proofs.Ytnfbmdniomelnaa
open Go.RowKit Mem Spans
set_option linter.unusedSimpArgs false
set_option linter.unusedVariables false
set_option maxRecDepth 100000

theorem nam_none {a : Int} (h : ¬ (0 ≤ a ∧ a ≤ 6)) : nam a = ⟨#[]⟩ := by
  unfold nam
  rw [if_neg (by omega), if_neg (by omega), if_neg (by omega), if_neg (by omega), if_neg (by omega), if_neg (by omega), if_neg (by omega)]
theorem nam_some {a : Int} (h : 0 ≤ a ∧ a ≤ 6) : ((nam a).toList == (⟨#[]⟩ : ByteArray).toList) = false := by
  have : a = 0 ∨ a = 1 ∨ a = 2 ∨ a = 3 ∨ a = 4 ∨ a = 5 ∨ a = 6 := by omega
  rcases this with rfl | rfl | rfl | rfl | rfl | rfl | rfl <;> decide +kernel
theorem nam_full {a : Int} (h : 0 ≤ a ∧ a ≤ 6) : (nam a).toList.isEmpty = false := by
  have : a = 0 ∨ a = 1 ∨ a = 2 ∨ a = 3 ∨ a = 4 ∨ a = 5 ∨ a = 6 := by omega
  rcases this with rfl | rfl | rfl | rfl | rfl | rfl | rfl <;> decide +kernel
theorem nam_ne {a b : Int} (h : 0 ≤ a ∧ a ≤ 6) (hab : a ≠ b) : ((nam a).toList == (nam b).toList) = false := by
  by_cases hb : 0 ≤ b ∧ b ≤ 6
  · have ha : a = 0 ∨ a = 1 ∨ a = 2 ∨ a = 3 ∨ a = 4 ∨ a = 5 ∨ a = 6 := by omega
    have hb : b = 0 ∨ b = 1 ∨ b = 2 ∨ b = 3 ∨ b = 4 ∨ b = 5 ∨ b = 6 := by omega
    rcases ha with rfl | rfl | rfl | rfl | rfl | rfl | rfl <;> rcases hb with rfl | rfl | rfl | rfl | rfl | rfl | rfl <;> first | exact absurd rfl hab | decide +kernel
  · rw [nam_none hb]; exact nam_some h

set_option maxHeartbeats 4000000 in
theorem rnames_walk (a b : Int) (w : World) (ha : (Lit.int .i64 a).wf = true) (hb : (Lit.int .i64 b).wf = true) : Calls Try.prog 8 #[.int .i64 a, .int .i64 b] w fun e w' => e = .returned (.bool true) ∧ Below w.heap.size w w' := by
  go_enter Try.func8, Try.ntmps8
  by_cases h0 : 0 ≤ a ∧ a ≤ 6
  · have HS := nam_full h0
    have HNE : Hid (a ≠ b → ((nam a).toList == (nam b).toList) = false) := nam_ne h0
    obtain ⟨h1, h2⟩ := h0
    by_cases hab : a = b
    · subst hab
      go_wp2_with fail
      refine (name_any a w).mono ?_
      rintro e w1 ⟨rfl, rfl⟩
      go_wp2_with fail
      refine (awake11_any w).mono ?_
      rintro e w2 ⟨rfl, hf2⟩
      go_wp2
      go_ret
      exact ⟨rfl, hf2.below (Nat.le_refl _) (by simp)⟩
    · have HN := HNE.out hab
      have d0 : (a == b) = false := by simpa using hab
      go_wp2_with fail
      refine (name_any a w).mono ?_
      rintro e w1 ⟨rfl, rfl⟩
      go_wp2_with fail
      refine (name_any a w).mono ?_
      rintro e w1 ⟨rfl, rfl⟩
      go_wp2_with fail
      refine (name_any b w).mono ?_
      rintro e w1 ⟨rfl, rfl⟩
      go_wp2_with fail
      refine (awake11_any w).mono ?_
      rintro e w2 ⟨rfl, hf2⟩
      go_wp2
      go_ret
      exact ⟨rfl, hf2.below (Nat.le_refl _) (by simp)⟩
  · have HN := nam_none h0
    by_cases h1 : 0 ≤ a
    · have h2 : ¬ a ≤ 6 := by omega
      clear h0
      go_wp2_with fail
      refine (name_any a w).mono ?_
      rintro e w1 ⟨rfl, rfl⟩
      rw [HN]
      go_wp2_with fail
      refine (awake11_any w).mono ?_
      rintro e w2 ⟨rfl, hf2⟩
      go_wp2
      go_ret
      exact ⟨rfl, hf2.below (Nat.le_refl _) (by simp)⟩
    · clear h0
      go_wp2_with fail
      refine (name_any a w).mono ?_
      rintro e w1 ⟨rfl, rfl⟩
      rw [HN]
      go_wp2_with fail
      refine (awake11_any w).mono ?_
      rintro e w2 ⟨rfl, hf2⟩
      go_wp2
      go_ret
      exact ⟨rfl, hf2.below (Nat.le_refl _) (by simp)⟩
end Go.Proofs.Ytnfbmdniomelnaa
