/-
  What Compare and Covers tell, by the places of both lists.
-/
import Derived.Test.YtakjfggkfhjeaaaLCompare
namespace Go.Proofs.Ytakjfggkfhjeaaa
open Go.RowKit Mem Spans
open Classical
set_option linter.unusedSimpArgs false
set_option linter.unusedVariables false

theorem pls_pair (l : List Sp) : (pls l).Pairwise (· < ·) := rises_pair (pls_rises l)
theorem pls_of {l : List Sp} (h : chk l = 0) : pls l = plc 0 l := by unfold pls; rw [if_pos h]
/-- The union's list is right, and has the places of both. -/
theorem unl_ok {a b : List Sp} (h : une a b = 0) : chk a = 0 ∧ chk b = 0 ∧ frm (uni (pls a) (pls b)) = 0 ∧ chk (unl a b) = 0 ∧ pls (unl a b) = uni (pls a) (pls b) := by
  unfold une at h
  split at h
  · rename_i ha
    split at h
    · rename_i hb
      have e : unl a b = rns 0 (uni (pls a) (pls b)) := by unfold unl frl; rw [if_pos ⟨ha, hb⟩, if_pos h]
      obtain ⟨h1, h2, h3⟩ := frm_ok h
      refine ⟨ha, hb, h, by rw [e]; exact h1, ?_⟩
      rw [e, pls_of h1]; exact h3
    · rename_i hb; exact absurd h hb
  · rename_i ha; exact absurd h ha
/-- What a right list covers: the union with it is its own. -/
theorem une_sub {a b : List Sp} (ha : chk a = 0) (hb : chk b = 0) (hs : ∀ x ∈ pls b, x ∈ pls a) : une a b = 0 ∧ pls (unl a b) = pls a := by
  have e : uni (pls a) (pls b) = pls a := (uni_sub (pls_pair a) (pls_pair b)).2 hs
  have hz := chk_zero.1 ha
  have h1 : frm (pls a) = 0 := by
    rw [frm_zero]
    refine ⟨pls_rises a, pls_le a, ?_⟩
    have : pls a = plc 0 a := by unfold pls; rw [if_pos ha]
    rw [this]
    have := rns_short a
    omega
  have h2 : une a b = 0 := by unfold une; rw [if_pos ha, if_pos hb, e, h1]
  exact ⟨h2, by rw [(unl_ok h2).2.2.2.2, e]⟩
theorem cvr_iff (a b : List Sp) : cvr a b = true ↔ chk a = 0 ∧ chk b = 0 ∧ ∀ x ∈ pls b, x ∈ pls a := by
  unfold cvr eqn
  rw [Bool.and_eq_true, decide_eq_true_iff, decide_eq_true_iff]
  constructor
  · rintro ⟨h, h1, h2, h3⟩
    obtain ⟨ha, hb, _, _, e⟩ := unl_ok h
    rw [e] at h3
    exact ⟨ha, hb, (uni_sub (pls_pair a) (pls_pair b)).1 h3⟩
  · rintro ⟨ha, hb, hs⟩
    obtain ⟨h1, h2⟩ := une_sub ha hb hs
    exact ⟨h1, (unl_ok h1).2.2.2.1, ha, h2⟩
theorem cmp_self {a : List Sp} (ha : chk a = 0) : une a a = 0 ∧ cmp a a a = [] := by
  obtain ⟨h1, h2⟩ := une_sub ha ha (fun x hx => hx)
  refine ⟨h1, ?_⟩
  unfold cmp
  rw [if_pos h1, h2]
  exact mis_self (pls_pair a)
theorem une_self {a : List Sp} (ha : ¬ chk a = 0) : une a a = chk a := by unfold une; rw [if_neg ha]
theorem cvr_wrong {a : List Sp} (ha : ¬ chk a = 0) (b : List Sp) : cvr a b = false := by
  cases h : cvr a b
  · rfl
  · exact absurd ((cvr_iff a b).1 h).1 ha

end Go.Proofs.Ytakjfggkfhjeaaa
