/-
  Plain mathematics of rows that go on evenly: numbers of 64 bits, steps, and what bits each number has. No program is named here.
-/
import Derived.Test.YtmoodonemcpgnaaDoorGroups
import Derived.Test.YtmoodonemcpgnaaDoorStr
namespace Go.Proofs.YtmoodonemcpgnaaDoor.Evens
open Bits Groups Go.RowKit
set_option linter.unusedVariables false

/-- 64 bits as a number with a sign. -/
def sg (v : Nat) : Int := if v < 9223372036854775808 then (v : Int) else (v : Int) - 18446744073709551616
def sub64 (a b : Nat) : Nat := (a + (18446744073709551616 - b)) % 18446744073709551616
def add64 (a b : Nat) : Nat := (a + b) % 18446744073709551616

theorem sub64_lt (a b : Nat) : sub64 a b < 18446744073709551616 := Nat.mod_lt _ (by decide)
theorem add64_lt (a b : Nat) : add64 a b < 18446744073709551616 := Nat.mod_lt _ (by decide)
theorem sg_in {v : Nat} (h : v < 18446744073709551616) : -9223372036854775808 ≤ sg v ∧ sg v ≤ 9223372036854775807 := by unfold sg; split <;> omega
theorem tw_sg {v : Nat} (h : v < 18446744073709551616) : tw (sg v) = v := by unfold tw sg; split <;> omega
theorem sg_tw {v : Int} (h1 : -9223372036854775808 ≤ v) (h2 : v ≤ 9223372036854775807) : sg (tw v) = v := by unfold tw sg; split <;> omega
theorem sg_mod {v : Nat} (h : v < 18446744073709551616) : (sg v) % 18446744073709551616 = (v : Int) := by unfold sg; split <;> omega
theorem sg_inj {a b : Nat} (ha : a < 18446744073709551616) (hb : b < 18446744073709551616) (h : sg a = sg b) : a = b := by rw [← tw_sg ha, ← tw_sg hb, h]
theorem sg_zero : sg 0 = 0 := by decide

/-- Sums and differences of words, as the program has them. -/
theorem wrap_sg {v : Nat} (h : v < 18446744073709551616) : wrap64 (v : Int) = sg v := by unfold wrap64 sg; split <;> omega
theorem wrapI_sg {v : Nat} (h : v < 18446744073709551616) : IntKind.i64.wrap (v : Int) = sg v := by rw [IntKind.wrap_i64]; unfold sg; split <;> omega
theorem wrapU_sg {v : Nat} (h : v < 18446744073709551616) : IntKind.u64.wrap (sg v) = (v : Int) := by rw [IntKind.wrap_u64]; unfold sg; split <;> omega
theorem wrap_diff {a b : Nat} (ha : a < 18446744073709551616) (hb : b < 18446744073709551616) : wrap64 (sg a - sg b) = sg (sub64 a b) := by
  unfold wrap64 sg sub64; (repeat' split) <;> omega
theorem wrapI_diff {a b : Nat} (ha : a < 18446744073709551616) (hb : b < 18446744073709551616) : IntKind.i64.wrap (sg a - sg b) = sg (sub64 a b) := by
  rw [IntKind.wrap_i64]; unfold sg sub64; (repeat' split) <;> omega
theorem wrapU_diff {a b : Nat} (ha : a < 18446744073709551616) (hb : b < 18446744073709551616) : IntKind.u64.wrap ((a : Int) - (b : Int)) = ((sub64 a b : Nat) : Int) := by
  rw [IntKind.wrap_u64]; unfold sub64; omega
theorem wrap_sum {a b : Nat} (ha : a < 18446744073709551616) (hb : b < 18446744073709551616) : wrap64 (sg a + sg b) = sg (add64 a b) := by
  unfold wrap64 sg add64; (repeat' split) <;> omega
theorem wrapI_sum {a b : Nat} (ha : a < 18446744073709551616) (hb : b < 18446744073709551616) : IntKind.i64.wrap (sg a + sg b) = sg (add64 a b) := by
  rw [IntKind.wrap_i64]; unfold sg add64; (repeat' split) <;> omega
theorem wrapU_sum {a b : Nat} (ha : a < 18446744073709551616) (hb : b < 18446744073709551616) : IntKind.u64.wrap ((a : Int) + (b : Int)) = ((add64 a b : Nat) : Int) := by
  rw [IntKind.wrap_u64]; unfold add64; omega

/-- A row: its last number, its step (as 64 bits), how many it has. -/
structure TRow where
  last : Nat
  step : Nat
  n : Nat
def t0 : TRow := ⟨0, 0, 0⟩
/-- The numbers are of 64 bits. -/
def TRow.ok (s : TRow) : Prop := s.last < 18446744073709551616 ∧ s.step < 18446744073709551616
def stp (s : TRow) (V : Nat) : Nat := sub64 V s.last
def chg (s : TRow) (V : Nat) : Nat := sub64 (stp s V) s.step
/-- The number whose step is so much more than the step ahead. -/
def dec (s : TRow) (c : Nat) : Nat := add64 s.last (add64 s.step c)
def tnext (s : TRow) (V : Nat) : TRow := ⟨V, if s.n = 0 then s.step else stp s V, s.n + 1⟩
/-- A number's bits; b: with a sign. -/
def tbits (b : Bool) (s : TRow) (V : Nat) : List Bool := if s.n = 0 then (if b then sbits (sg V) else ubits V) else sbits (sg (chg s V))

theorem stp_lt (s : TRow) (V : Nat) : stp s V < 18446744073709551616 := sub64_lt _ _
theorem chg_lt (s : TRow) (V : Nat) : chg s V < 18446744073709551616 := sub64_lt _ _
theorem dec_lt (s : TRow) (c : Nat) : dec s c < 18446744073709551616 := add64_lt _ _
theorem t0_ok : t0.ok := by unfold TRow.ok t0; decide
theorem tnext_ok {s : TRow} {V : Nat} (h : s.ok) (hV : V < 18446744073709551616) : (tnext s V).ok := by
  refine ⟨hV, ?_⟩
  show (if s.n = 0 then s.step else stp s V) < _
  split
  · exact h.2
  · exact stp_lt s V
theorem dec_chg {s : TRow} {V : Nat} (h : s.ok) (hV : V < 18446744073709551616) : dec s (chg s V) = V := by
  obtain ⟨h1, h2⟩ := h
  unfold dec chg stp add64 sub64; omega
theorem chg_dec {s : TRow} {c : Nat} (h : s.ok) (hc : c < 18446744073709551616) : chg s (dec s c) = c := by
  obtain ⟨h1, h2⟩ := h
  unfold dec chg stp add64 sub64; omega
theorem tbits_le (b : Bool) (s : TRow) (V : Nat) : (tbits b s V).length ≤ 72 := by
  unfold tbits
  split
  · split
    · exact gbits_le _ (gS_le _)
    · exact gbits_le _ (gU_le _)
  · exact gbits_le _ (gS_le _)

/-! ### Rows of numbers -/
def trow (z : Nat → Nat) : Nat → TRow
  | 0 => t0
  | k + 1 => tnext (trow z k) (z k)
def tall (b : Bool) (z : Nat → Nat) : Nat → List Bool
  | 0 => []
  | k + 1 => tall b z k ++ tbits b (trow z k) (z k)
/-- The step of numbers, as the document has it. -/
def st (z : Nat → Nat) (n : Nat) : Nat := if n < 2 then 0 else sub64 (z (n - 1)) (z (n - 2))

theorem trow_n (z : Nat → Nat) (k : Nat) : (trow z k).n = k := by
  cases k with
  | zero => rfl
  | succ k => show (trow z k).n + 1 = k + 1; rw [trow_n z k]
theorem trow_ok {z : Nat → Nat} (h : ∀ j, z j < 18446744073709551616) (k : Nat) : (trow z k).ok := by
  induction k with
  | zero => exact t0_ok
  | succ k ih => exact tnext_ok ih (h k)
theorem trow_last (z : Nat → Nat) (k : Nat) : (trow z (k + 1)).last = z k := rfl
theorem trow_step (z : Nat → Nat) (k : Nat) : (trow z k).step = st z k := by
  have one : ∀ k, (trow z (k + 1)).step = if (trow z k).n = 0 then (trow z k).step else stp (trow z k) (z k) := fun _ => rfl
  rcases k with _ | _ | k
  · rfl
  · rw [one, trow_n, if_pos rfl]; rfl
  · rw [one, trow_n, if_neg (by omega)]
    unfold st stp
    rw [if_neg (by omega), trow_last]
    rfl
theorem tall_le (b : Bool) (z : Nat → Nat) (k : Nat) : (tall b z k).length ≤ 72 * k := by
  induction k with
  | zero => simp [tall]
  | succ k ih => have := tbits_le b (trow z k) (z k); simp only [tall, List.length_append]; omega
theorem tall_split (b : Bool) (z : Nat → Nat) (k m : Nat) (h : k < m) : ∃ r, tall b z m = tall b z k ++ tbits b (trow z k) (z k) ++ r := by
  have : ∀ d, ∃ r, tall b z (k + 1 + d) = tall b z k ++ tbits b (trow z k) (z k) ++ r := by
    intro d
    induction d with
    | zero => exact ⟨[], by simp [tall]⟩
    | succ d ih => obtain ⟨r, hr⟩ := ih; exact ⟨r ++ tbits b (trow z (k + 1 + d)) (z (k + 1 + d)), by rw [← Nat.add_assoc]; simp only [tall]; rw [show tall b z (k + 1 + d) = _ from hr]; simp⟩
  have := this (m - (k + 1))
  rwa [show k + 1 + (m - (k + 1)) = m from by omega] at this
theorem trow_congr {z z' : Nat → Nat} {k : Nat} (h : ∀ j, j < k → z j = z' j) : trow z k = trow z' k := by
  induction k with
  | zero => rfl
  | succ k ih => show tnext (trow z k) (z k) = tnext (trow z' k) (z' k); rw [ih (fun j hj => h j (by omega)), h k (by omega)]
end Go.Proofs.YtmoodonemcpgnaaDoor.Evens
