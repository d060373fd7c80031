/-
  Plain mathematics of the groups of varbit. No program is named here.
-/
import Derived.Test.YtkphonepblkcdaaGreatDoorBits
namespace Go.Proofs.YtkphonepblkcdaaGreatDoor.Groups
open Bits

/-- How many bits stand behind a group's ones. -/
def bh (g : Nat) : Nat := [0, 3, 6, 9, 12, 18, 25, 56, 64].getD g 0
/-- The group of a number without a sign. -/
def gU (v : Nat) : Nat := if v < 1 then 0 else if v < 8 then 1 else if v < 64 then 2 else if v < 512 then 3 else if v < 4096 then 4 else if v < 262144 then 5 else if v < 33554432 then 6 else if v < 72057594037927936 then 7 else 8
/-- The group of a number with one. -/
def gS (v : Int) : Nat := if v = 0 then 0 else if -4 < v ∧ v ≤ 4 then 1 else if -32 < v ∧ v ≤ 32 then 2 else if -256 < v ∧ v ≤ 256 then 3 else if -2048 < v ∧ v ≤ 2048 then 4 else if -131072 < v ∧ v ≤ 131072 then 5 else if -16777216 < v ∧ v ≤ 16777216 then 6 else if -36028797018963968 < v ∧ v ≤ 36028797018963968 then 7 else 8
/-- The 64 bits of a number with a sign. -/
def tw (v : Int) : Nat := (v % 18446744073709551616).toNat
/-- n bits as a number with a sign. -/
def sgn (B n : Nat) : Int := if n = 64 then (if 9223372036854775808 ≤ B then (B : Int) - 18446744073709551616 else B) else if 2 ^ n < 2 * B then (B : Int) - ((2 ^ n : Nat) : Int) else B
/-- A group's ones and their nought. -/
def lead (k : Nat) : List Bool := List.replicate k true ++ if k < 8 then [false] else []
/-- How many bits these are. -/
def fore (k : Nat) : Nat := if k < 8 then k + 1 else k
/-- A group's bits of a number. -/
def gbits (k V : Nat) : List Bool := lead k ++ numBits V (bh k)
def ubits (v : Nat) : List Bool := gbits (gU v) v
def sbits (v : Int) : List Bool := gbits (gS v) (tw v)

theorem nine {k : Nat} (h : k ≤ 8) : k = 0 ∨ k = 1 ∨ k = 2 ∨ k = 3 ∨ k = 4 ∨ k = 5 ∨ k = 6 ∨ k = 7 ∨ k = 8 := by omega
theorem bh_le (k : Nat) : bh k ≤ 64 := by
  by_cases h : k ≤ 8
  · rcases nine h with rfl | rfl | rfl | rfl | rfl | rfl | rfl | rfl | rfl <;> decide
  · unfold bh
    rw [List.getD_eq_getElem?_getD, List.getElem?_eq_none (by simp; omega)]
    decide
theorem bh_cases {k : Nat} (h : k ≤ 8) : (k = 0 ∧ bh k = 0) ∨ (1 ≤ k ∧ 1 ≤ bh k) := by
  rcases nine h with rfl | rfl | rfl | rfl | rfl | rfl | rfl | rfl | rfl <;> decide
theorem gU_le (v : Nat) : gU v ≤ 8 := by unfold gU; (repeat' split) <;> omega
theorem gS_le (v : Int) : gS v ≤ 8 := by unfold gS; (repeat' split) <;> omega
theorem fore_le {k : Nat} (h : k ≤ 8) : fore k ≤ 8 := by unfold fore; split <;> omega
@[simp] theorem lead_length (k : Nat) : (lead k).length = fore k := by unfold lead fore; split <;> simp
@[simp] theorem gbits_length (k V : Nat) : (gbits k V).length = fore k + bh k := by simp [gbits]
theorem gbits_le {k : Nat} (V : Nat) (h : k ≤ 8) : (gbits k V).length ≤ 72 := by
  have := fore_le h; have := bh_le k; rw [gbits_length]; omega
theorem size_lt {j k : Nat} (h : j < k) (hk : k ≤ 8) : fore j + bh j < fore k + bh k := by
  have hj : j ≤ 8 := by omega
  rcases nine hk with rfl | rfl | rfl | rfl | rfl | rfl | rfl | rfl | rfl <;> rcases nine hj with rfl | rfl | rfl | rfl | rfl | rfl | rfl | rfl | rfl <;> first | omega | decide
theorem size_le {j k : Nat} (h : j ≤ k) (hk : k ≤ 8) : fore j + bh j ≤ fore k + bh k := by
  rcases Nat.lt_or_eq_of_le h with h | rfl
  · exact Nat.le_of_lt (size_lt h hk)
  · exact Nat.le_refl _

/-- A group has all numbers below its power. -/
theorem gU_iff {k : Nat} (v : Nat) (hk : k < 8) : gU v ≤ k ↔ v < 2 ^ bh k := by
  rcases nine (Nat.le_of_lt hk) with rfl | rfl | rfl | rfl | rfl | rfl | rfl | rfl | rfl
  · show gU v ≤ 0 ↔ v < 1; unfold gU; (repeat' split) <;> omega
  · show gU v ≤ 1 ↔ v < 8; unfold gU; (repeat' split) <;> omega
  · show gU v ≤ 2 ↔ v < 64; unfold gU; (repeat' split) <;> omega
  · show gU v ≤ 3 ↔ v < 512; unfold gU; (repeat' split) <;> omega
  · show gU v ≤ 4 ↔ v < 4096; unfold gU; (repeat' split) <;> omega
  · show gU v ≤ 5 ↔ v < 262144; unfold gU; (repeat' split) <;> omega
  · show gU v ≤ 6 ↔ v < 33554432; unfold gU; (repeat' split) <;> omega
  · show gU v ≤ 7 ↔ v < 72057594037927936; unfold gU; (repeat' split) <;> omega
  · omega
/-- The lowest bits of a number are the number, from its group on. -/
theorem low_iff {k : Nat} (v : Nat) (hk : k < 8) (h : k ≤ gU v) : v % 2 ^ bh k = v ↔ gU v = k := by
  have e : gU v = k ↔ v < 2 ^ bh k := by rw [← gU_iff v hk]; omega
  rw [e]
  constructor
  · intro h1; rw [← h1]; exact Nat.mod_lt _ (Nat.two_pow_pos _)
  · exact Nat.mod_eq_of_lt
theorem gU_lt {v : Nat} (hv : v < 18446744073709551616) : v < 2 ^ bh (gU v) := by
  rcases Nat.lt_or_ge (gU v) 8 with h | h
  · exact (gU_iff v h).1 (Nat.le_refl _)
  · have e : gU v = 8 := by have := gU_le v; omega
    rw [e]; exact hv
theorem gU_of {k v : Nat} (hk : k ≤ 8) (h : v < 2 ^ bh k) : gU v ≤ k := by
  rcases Nat.lt_or_eq_of_le hk with h1 | rfl
  · exact (gU_iff v h1).2 h
  · exact gU_le v
theorem gU_mono {u v : Nat} (h : u ≤ v) : gU u ≤ gU v := by
  rcases Nat.lt_or_ge (gU v) 8 with h1 | h1
  · exact (gU_iff u h1).2 (Nat.lt_of_le_of_lt h ((gU_iff v h1).1 (Nat.le_refl _)))
  · have := gU_le u; omega
/-- The greatest number with a sign of a group but the last. -/
def th (k : Nat) : Int := [0, 4, 32, 256, 2048, 131072, 16777216, 36028797018963968].getD k 0
theorem gS_iff {k : Nat} (v : Int) (hk : k < 8) : gS v ≤ k ↔ (v ≤ th k ∧ -(th k) < v) ∨ v = 0 := by
  rcases nine (Nat.le_of_lt hk) with rfl | rfl | rfl | rfl | rfl | rfl | rfl | rfl | rfl
  · show gS v ≤ 0 ↔ (v ≤ 0 ∧ -0 < v) ∨ v = 0; unfold gS; (repeat' split) <;> omega
  · show gS v ≤ 1 ↔ (v ≤ 4 ∧ -4 < v) ∨ v = 0; unfold gS; (repeat' split) <;> omega
  · show gS v ≤ 2 ↔ (v ≤ 32 ∧ -32 < v) ∨ v = 0; unfold gS; (repeat' split) <;> omega
  · show gS v ≤ 3 ↔ (v ≤ 256 ∧ -256 < v) ∨ v = 0; unfold gS; (repeat' split) <;> omega
  · show gS v ≤ 4 ↔ (v ≤ 2048 ∧ -2048 < v) ∨ v = 0; unfold gS; (repeat' split) <;> omega
  · show gS v ≤ 5 ↔ (v ≤ 131072 ∧ -131072 < v) ∨ v = 0; unfold gS; (repeat' split) <;> omega
  · show gS v ≤ 6 ↔ (v ≤ 16777216 ∧ -16777216 < v) ∨ v = 0; unfold gS; (repeat' split) <;> omega
  · show gS v ≤ 7 ↔ (v ≤ 36028797018963968 ∧ -36028797018963968 < v) ∨ v = 0; unfold gS; (repeat' split) <;> omega
  · omega

theorem tw_lt (v : Int) : tw v < 18446744073709551616 := by unfold tw; omega
theorem tw_in {v : Int} (h1 : -9223372036854775808 ≤ v) (h2 : v ≤ 9223372036854775807) : (tw v : Int) = if v < 0 then v + 18446744073709551616 else v := by
  unfold tw; split <;> omega
theorem sgn_in {B n : Nat} (hn : n = 64 ∨ n ≤ 56) (h : B < 2 ^ n) : -9223372036854775808 ≤ sgn B n ∧ sgn B n ≤ 9223372036854775807 := by
  unfold sgn
  rcases hn with rfl | hn
  · have h' : B < 18446744073709551616 := h
    split <;> split <;> omega
  · have h3 : 2 ^ n ≤ 2 ^ 56 := Nat.pow_le_pow_right (by omega) hn
    generalize 2 ^ n = X at *
    rw [if_neg (by omega)]
    split <;> omega
theorem bh_sort {k : Nat} (h : k ≤ 8) : bh k = 64 ∨ bh k ≤ 56 := by
  rcases nine h with rfl | rfl | rfl | rfl | rfl | rfl | rfl | rfl | rfl <;> decide
/-- What a group's bits are with a sign, written out. -/
theorem sgn_at {k : Nat} (B : Nat) (hk : k < 8) : sgn B (bh k) = if (2 ^ bh k : Nat) < 2 * B then (B : Int) - ((2 ^ bh k : Nat) : Int) else B := by
  have h : bh k ≠ 64 := by rcases nine (Nat.le_of_lt hk) with rfl | rfl | rfl | rfl | rfl | rfl | rfl | rfl | rfl <;> first | decide | omega
  unfold sgn; rw [if_neg h]
theorem sgn_th {k : Nat} (t : Nat) (v : Int) (h1 : -9223372036854775808 ≤ v) (h2 : v ≤ 9223372036854775807) (ht : (t : Int) = if v < 0 then v + 18446744073709551616 else v) (hk : k < 8) :
    sgn (t % 2 ^ bh k) (bh k) = v ↔ (v ≤ th k ∧ -(th k) < v) ∨ v = 0 := by
  rw [sgn_at _ hk]
  rcases nine (Nat.le_of_lt hk) with rfl | rfl | rfl | rfl | rfl | rfl | rfl | rfl | rfl
  · show (if 1 < 2 * (t % 1) then ((t % 1 : Nat) : Int) - (1 : Nat) else ((t % 1 : Nat) : Int)) = v ↔ (v ≤ 0 ∧ -0 < v) ∨ v = 0
    split at ht <;> split <;> omega
  · show (if 8 < 2 * (t % 8) then ((t % 8 : Nat) : Int) - (8 : Nat) else ((t % 8 : Nat) : Int)) = v ↔ (v ≤ 4 ∧ -4 < v) ∨ v = 0
    split at ht <;> split <;> omega
  · show (if 64 < 2 * (t % 64) then ((t % 64 : Nat) : Int) - (64 : Nat) else ((t % 64 : Nat) : Int)) = v ↔ (v ≤ 32 ∧ -32 < v) ∨ v = 0
    split at ht <;> split <;> omega
  · show (if 512 < 2 * (t % 512) then ((t % 512 : Nat) : Int) - (512 : Nat) else ((t % 512 : Nat) : Int)) = v ↔ (v ≤ 256 ∧ -256 < v) ∨ v = 0
    split at ht <;> split <;> omega
  · show (if 4096 < 2 * (t % 4096) then ((t % 4096 : Nat) : Int) - (4096 : Nat) else ((t % 4096 : Nat) : Int)) = v ↔ (v ≤ 2048 ∧ -2048 < v) ∨ v = 0
    split at ht <;> split <;> omega
  · show (if 262144 < 2 * (t % 262144) then ((t % 262144 : Nat) : Int) - (262144 : Nat) else ((t % 262144 : Nat) : Int)) = v ↔ (v ≤ 131072 ∧ -131072 < v) ∨ v = 0
    split at ht <;> split <;> omega
  · show (if 33554432 < 2 * (t % 33554432) then ((t % 33554432 : Nat) : Int) - (33554432 : Nat) else ((t % 33554432 : Nat) : Int)) = v ↔ (v ≤ 16777216 ∧ -16777216 < v) ∨ v = 0
    split at ht <;> split <;> omega
  · show (if 72057594037927936 < 2 * (t % 72057594037927936) then ((t % 72057594037927936 : Nat) : Int) - (72057594037927936 : Nat) else ((t % 72057594037927936 : Nat) : Int)) = v ↔ (v ≤ 36028797018963968 ∧ -36028797018963968 < v) ∨ v = 0
    split at ht <;> split <;> omega
  · omega
/-- A group's lowest bits of a number, read with a sign, are the number from its group on. -/
theorem sgn_iff {k : Nat} (v : Int) (h1 : -9223372036854775808 ≤ v) (h2 : v ≤ 9223372036854775807) (hk : k < 8) (h : k ≤ gS v) : sgn (tw v % 2 ^ bh k) (bh k) = v ↔ gS v = k := by
  rw [sgn_th (tw v) v h1 h2 (tw_in h1 h2) hk, ← gS_iff v hk]; omega
/-- Its group's bits of a number, read with a sign. -/
theorem sgn_tw (v : Int) (h1 : -9223372036854775808 ≤ v) (h2 : v ≤ 9223372036854775807) : sgn (tw v % 2 ^ bh (gS v)) (bh (gS v)) = v := by
  rcases Nat.lt_or_ge (gS v) 8 with h | h
  · exact (sgn_iff v h1 h2 h (Nat.le_refl _)).2 rfl
  · have e : gS v = 8 := by have := gS_le v; omega
    rw [e]
    have ht := tw_in h1 h2
    have hl := tw_lt v
    unfold sgn
    simp [bh]
    generalize tw v = t at *
    split <;> split at ht <;> omega
theorem sgn_last (B : Nat) : sgn B 64 = if 9223372036854775808 ≤ B then (B : Int) - 18446744073709551616 else B := by unfold sgn; rw [if_pos rfl]
/-- Bits that are read with a sign are the number's own. -/
theorem tw_sgn {k B : Nat} (hk : k ≤ 8) (h : B < 2 ^ bh k) : tw (sgn B (bh k)) % 2 ^ bh k = B := by
  rcases Nat.lt_or_eq_of_le hk with h8 | rfl
  · have hd : ∃ q, 18446744073709551616 = 2 ^ bh k * q := by
      have := bh_le k
      exact ⟨2 ^ (64 - bh k), by rw [← Nat.pow_add, show bh k + (64 - bh k) = 64 from by omega]⟩
    have hp : 0 < 2 ^ bh k := Nat.two_pow_pos _
    have hb : bh k ≤ 56 := by rcases nine hk with rfl | rfl | rfl | rfl | rfl | rfl | rfl | rfl | rfl <;> first | decide | omega
    have hle : 2 ^ bh k ≤ 2 ^ 56 := Nat.pow_le_pow_right (by omega) hb
    rw [sgn_at B h8]
    generalize 2 ^ bh k = X at *
    obtain ⟨q, hq⟩ := hd
    unfold tw
    split
    · have e : (((B : Int) - (X : Int)) % 18446744073709551616).toNat = B + (18446744073709551616 - X) := by omega
      have e2 : 18446744073709551616 - X = X * (q - 1) := by rw [hq, Nat.mul_sub, Nat.mul_one]
      rw [e, e2, Nat.add_mul_mod_self_left, Nat.mod_eq_of_lt h]
    · have e : ((B : Int) % 18446744073709551616).toNat = B := by omega
      rw [e, Nat.mod_eq_of_lt h]
  · have h' : B < 18446744073709551616 := h
    show tw (sgn B 64) % 18446744073709551616 = B
    rw [sgn_last]
    unfold tw
    split <;> omega
theorem gS_of {k B : Nat} (hk : k ≤ 8) (h : B < 2 ^ bh k) : gS (sgn B (bh k)) ≤ k := by
  rcases Nat.lt_or_eq_of_le hk with h8 | rfl
  · obtain ⟨h1, h2⟩ := sgn_in (bh_sort hk) h
    have := tw_sgn hk h
    rw [gS_iff _ h8, ← sgn_th (tw (sgn B (bh k))) _ h1 h2 (tw_in h1 h2) h8, this]
  · exact gS_le _
theorem th_pos (k : Nat) : 0 ≤ th k := by
  by_cases h : k ≤ 8
  · rcases nine h with rfl | rfl | rfl | rfl | rfl | rfl | rfl | rfl | rfl <;> decide
  · unfold th
    rw [List.getD_eq_getElem?_getD, List.getElem?_eq_none (by simp; omega)]
    decide
theorem gS_mono {u v : Int} (h0 : 0 ≤ u) (h : u ≤ v) : gS u ≤ gS v := by
  rcases Nat.lt_or_ge (gS v) 8 with h1 | h1
  · have h2 := (gS_iff v h1).1 (Nat.le_refl _)
    rw [gS_iff u h1]
    have := th_pos (gS v)
    omega
  · have := gS_le u; omega
theorem gS_mono' {u v : Int} (h0 : 0 ≤ u) (h : u ≤ v) : gS (-u) ≤ gS (-v) := by
  rcases Nat.lt_or_ge (gS (-v)) 8 with h1 | h1
  · have h2 := (gS_iff (-v) h1).1 (Nat.le_refl _)
    rw [gS_iff (-u) h1]
    have := th_pos (gS (-v))
    omega
  · have := gS_le (-u); omega

/-- From pos on (up to lim) there are just k ones, or eight of them. -/
def LeadIs (l : List Bool) (pos lim k : Nat) : Prop :=
  k ≤ 8 ∧ pos + k ≤ lim ∧ (∀ i, i < k → l.getD (pos + i) false = true) ∧ (k < 8 → pos + k < lim → l.getD (pos + k) false = false)

theorem lead_is (l : List Bool) (pos lim : Nat) (h : pos ≤ lim) : ∃ k, LeadIs l pos lim k := by
  have : ∀ n, n ≤ 8 → (∃ k, LeadIs l pos lim k) ∨ (pos + n ≤ lim ∧ ∀ i, i < n → l.getD (pos + i) false = true) := by
    intro n
    induction n with
    | zero => intro _; exact .inr ⟨h, fun i hi => by omega⟩
    | succ n ih =>
      intro hn
      rcases ih (by omega) with h1 | ⟨h1, h2⟩
      · exact .inl h1
      · by_cases hlt : pos + n < lim
        · cases hb : l.getD (pos + n) false with
          | true => exact .inr ⟨by omega, fun i hi => by rcases Nat.lt_or_eq_of_le (Nat.lt_succ_iff.1 hi) with h3 | rfl; exact h2 i h3; exact hb⟩
          | false => exact .inl ⟨n, by omega, by omega, h2, fun _ _ => hb⟩
        · exact .inl ⟨n, by omega, by omega, h2, fun _ h3 => absurd h3 hlt⟩
  rcases this 8 (by omega) with h1 | ⟨h1, h2⟩
  · exact h1
  · exact ⟨8, by omega, h1, h2, fun h3 => by omega⟩

/-- What a group has put stands there, and is found. -/
theorem lead_put (a c : List Bool) (k V lim : Nat) (hk : k ≤ 8) (hl : a.length + (fore k + bh k) ≤ lim) : LeadIs (a ++ gbits k V ++ c) a.length lim k := by
  have ha : k ≤ fore k := by unfold fore; split <;> omega
  refine ⟨hk, by omega, fun i hi => ?_, fun h8 _ => ?_⟩
  · simp only [List.getD_eq_getElem?_getD]
    rw [List.append_assoc, List.getElem?_append_right (by omega), show a.length + i - a.length = i from by omega]
    unfold gbits lead
    rw [List.append_assoc, List.append_assoc, List.getElem?_append_left (by simp; omega)]
    simp [hi]
  · simp only [List.getD_eq_getElem?_getD]
    rw [List.append_assoc, List.getElem?_append_right (by omega), show a.length + k - a.length = k from by omega]
    unfold gbits lead
    rw [List.append_assoc, List.append_assoc, List.getElem?_append_right (by simp), if_pos h8]
    simp
theorem val_put (a c : List Bool) (k V : Nat) : val (((a ++ gbits k V ++ c).drop (a.length + fore k)).take (bh k)) = V % 2 ^ bh k := by
  have e : a ++ gbits k V ++ c = (a ++ lead k) ++ (numBits V (bh k) ++ c) := by simp [gbits]
  rw [e, List.drop_left' (by simp), List.take_left' (by simp), val_numBits]
/-- What is read there is just the group's bits. -/
theorem lead_take (l : List Bool) (pos lim k : Nat) (h : LeadIs l pos lim k) (hl : lim ≤ l.length) (hs : pos + (fore k + bh k) ≤ lim) :
    (l.drop pos).take (fore k + bh k) = gbits k (val ((l.drop (pos + fore k)).take (bh k))) := by
  obtain ⟨hk, h1, h2, h3⟩ := h
  have hlen : ((l.drop (pos + fore k)).take (bh k)).length = bh k := by simp; omega
  have e1 : numBits (val ((l.drop (pos + fore k)).take (bh k))) (bh k) = (l.drop (pos + fore k)).take (bh k) := by
    have := numBits_val ((l.drop (pos + fore k)).take (bh k))
    rwa [hlen] at this
  unfold gbits
  rw [e1, List.take_add, List.drop_drop]
  congr 1
  apply List.ext_getElem
  · simp; omega
  · intro i hi1 hi2
    simp only [lead_length] at hi2
    have hx : l.getD (pos + i) false = l[pos + i]'(by omega) := by
      rw [List.getD_eq_getElem?_getD, List.getElem?_eq_getElem (by omega)]; rfl
    have hL : ((l.drop pos).take (fore k))[i] = l.getD (pos + i) false := by rw [hx]; simp
    rw [hL]
    have hR : (lead k)[i] = (List.replicate k true ++ if k < 8 then [false] else [])[i]'(by have := lead_length k; unfold lead at this; omega) := rfl
    rw [hR, List.getElem_append]
    split
    · next hh => rw [h2 i (by simpa using hh)]; simp
    · next hh =>
      simp only [List.length_replicate] at hh
      by_cases h8 : k < 8
      · have hik : i = k := by unfold fore at hi2; rw [if_pos h8] at hi2; omega
        subst hik
        rw [h3 h8 (by unfold fore at hs; rw [if_pos h8] at hs; omega)]
        simp [h8]
      · exfalso; unfold fore at hi2; rw [if_neg h8] at hi2; omega
end Go.Proofs.YtkphonepblkcdaaGreatDoor.Groups
