/-
  Thresholds by themselves (no program): tby (the byte of one), tbits (its bits), tgt (what bits begin with: the threshold, the error, how many were read).
-/
import Derived.Test.YtkphonepblkcdaaGreatDoorBits
namespace Go.Proofs.YtkphonepblkcdaaGreatDoor.Thrs
open Bits
set_option linter.unusedSimpArgs false
set_option linter.unusedVariables false

/-- Whether a float is a power of two in reach. -/
def pw2 (v : Nat) : Bool := decide (v % 4503599627370496 = 0 ∧ 780 ≤ v / 4503599627370496 ∧ v / 4503599627370496 ≤ 1033)
/-- The byte by itself; 255: none. -/
def tby (v : Nat) : Nat := if v = 0 then 0 else if pw2 v then v / 4503599627370496 - 779 else 255
/-- A threshold's bits. -/
def tbits (v : Nat) : List Bool := if tby v = 255 then numBits 255 8 ++ numBits v 64 else numBits (tby v) 8
/-- A right threshold's bits lie below those of the infinite one. -/
def inf : Nat := 9218868437227405312
/-- What bits begin with: the threshold, the error, how many bits were read. -/
def tgt (l : List Bool) (pos lim : Nat) : Nat × Nat × Nat :=
  if lim - pos < 8 then (0, 16, 0)
  else if val ((l.drop pos).take 8) = 0 then (0, 0, 8)
  else if val ((l.drop pos).take 8) < 255 then ((val ((l.drop pos).take 8) + 779) * 4503599627370496, 0, 8)
  else if lim - (pos + 8) < 64 then (0, 16, 8)
  else if inf ≤ val ((l.drop (pos + 8)).take 64) then (0, 11, 72)
  else if tby (val ((l.drop (pos + 8)).take 64)) = 255 then (val ((l.drop (pos + 8)).take 64), 0, 72) else (0, 10, 72)

theorem pw2_iff (v : Nat) : pw2 v = true ↔ ∃ c, 1 ≤ c ∧ c ≤ 254 ∧ v = (c + 779) * 4503599627370496 := by
  unfold pw2
  rw [decide_eq_true_iff]
  constructor
  · rintro ⟨h1, h2, h3⟩
    exact ⟨v / 4503599627370496 - 779, by omega, by omega, by omega⟩
  · rintro ⟨c, h1, h2, rfl⟩
    omega
theorem tby_power (c : Nat) (h1 : 1 ≤ c) (h2 : c ≤ 254) : tby ((c + 779) * 4503599627370496) = c := by
  unfold tby
  rw [if_neg (by omega), if_pos ((pw2_iff _).2 ⟨c, h1, h2, rfl⟩)]
  omega
theorem tby_none {v : Nat} (h0 : v ≠ 0) (h : pw2 v = false) : tby v = 255 := by
  unfold tby
  rw [if_neg h0, if_neg (by simp [h])]
theorem tby_cases (v : Nat) : (v = 0 ∧ tby v = 0 ∧ pw2 v = false) ∨ (∃ c, 1 ≤ c ∧ c ≤ 254 ∧ v = (c + 779) * 4503599627370496 ∧ tby v = c ∧ pw2 v = true) ∨ (v ≠ 0 ∧ tby v = 255 ∧ pw2 v = false) := by
  by_cases h0 : v = 0
  · subst h0; exact .inl ⟨rfl, rfl, by decide⟩
  · cases hp : pw2 v
    · exact .inr (.inr ⟨h0, tby_none h0 hp, rfl⟩)
    · obtain ⟨c, h1, h2, h3⟩ := (pw2_iff v).1 hp
      exact .inr (.inl ⟨c, h1, h2, h3, by rw [h3]; exact tby_power c h1 h2, rfl⟩)
theorem tby_le (v : Nat) : tby v ≤ 255 := by rcases tby_cases v with ⟨_, h, _⟩ | ⟨c, _, _, _, h, _⟩ | ⟨_, h, _⟩ <;> omega
theorem tbits_length (v : Nat) : (tbits v).length = if tby v = 255 then 72 else 8 := by
  unfold tbits
  split <;> simp
theorem tbits_le (v : Nat) : (tbits v).length ≤ 72 := by rw [tbits_length]; split <;> omega
/-- What is put is read again. -/
theorem tgt_put (a c : List Bool) (v lim : Nat) (hv : v < inf) (hs : a.length + (tbits v).length ≤ lim) : tgt (a ++ tbits v ++ c) a.length lim = (v, 0, (tbits v).length) := by
  have hl := tbits_length v
  have hd : (a ++ tbits v ++ c).drop a.length = tbits v ++ c := by rw [List.append_assoc, List.drop_left]
  unfold tgt
  rw [hd]
  rcases tby_cases v with ⟨rfl, h, _⟩ | ⟨k, h1, h2, h3, h, _⟩ | ⟨h0, h, _⟩
  · have hb : tbits 0 = numBits 0 8 := by unfold tbits; rw [h]; rfl
    have ht : ((tbits 0) ++ c).take 8 = numBits 0 8 := by rw [hb]; exact List.take_left' (by simp)
    rw [h] at hl
    rw [hl] at hs ⊢
    rw [if_neg (by simp at hs; omega), ht, val_numBits]
    simp
  · have hb : tbits v = numBits k 8 := by unfold tbits; rw [h, if_neg (by omega)]
    have ht : ((tbits v) ++ c).take 8 = numBits k 8 := by rw [hb]; exact List.take_left' (by simp)
    rw [h, if_neg (by omega)] at hl
    rw [hl] at hs ⊢
    have hk : k % 2 ^ 8 = k := Nat.mod_eq_of_lt (by omega)
    rw [if_neg (by omega), ht, val_numBits, hk, if_neg (by omega), if_pos (by omega), h3]
  · have hb : tbits v = numBits 255 8 ++ numBits v 64 := by unfold tbits; rw [h]; rfl
    have ht : ((tbits v) ++ c).take 8 = numBits 255 8 := by rw [hb, List.append_assoc]; exact List.take_left' (by simp)
    have hd2 : (a ++ tbits v ++ c).drop (a.length + 8) = numBits v 64 ++ c := by
      rw [← List.drop_drop, hd, hb, List.append_assoc]; exact List.drop_left' (by simp)
    have ht2 : (numBits v 64 ++ c).take 64 = numBits v 64 := List.take_left' (by simp)
    rw [h, if_pos rfl] at hl
    rw [hl] at hs ⊢
    have hv64 : v % 2 ^ 64 = v := Nat.mod_eq_of_lt (by unfold inf at hv; omega)
    rw [if_neg (by omega), ht, val_numBits, hd2, ht2, val_numBits, hv64]
    rw [if_neg (by decide), if_neg (by decide), if_neg (by omega), if_neg (by omega), h, if_pos rfl]
/-- Of two powers the greater one's byte is the greater one. -/
theorem pow_mono (a b : Nat) : (a + 779) * 4503599627370496 < (b + 779) * 4503599627370496 ↔ a < b := by omega
end Go.Proofs.YtkphonepblkcdaaGreatDoor.Thrs
