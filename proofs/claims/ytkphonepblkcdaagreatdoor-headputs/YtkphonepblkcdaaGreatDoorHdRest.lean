/-
  What is left of bits, as a list: the readers' contracts told by what is left.
-/
import Derived.Test.YtkphonepblkcdaaGreatDoorHeads
import Derived.Test.YtkphonepblkcdaaGreatDoorVbGet
import Derived.Test.YtkphonepblkcdaaGreatDoorThPut
namespace Go.Proofs.YtkphonepblkcdaaGreatDoor
open Go.RowKit Mem Bits Groups Thrs
set_option linter.unusedSimpArgs false
set_option linter.unusedVariables false
set_option maxRecDepth 100000

/-- The bits from pos on, up to lim. -/
def rest (l : List Bool) (pos lim : Nat) : List Bool := (l.take lim).drop pos
theorem rest_len {l : List Bool} {pos lim : Nat} (h : lim ≤ l.length) : (rest l pos lim).length = lim - pos := by simp [rest]; omega
theorem rest_drop (l : List Bool) (pos lim a : Nat) : (rest l pos lim).drop a = rest l (pos + a) lim := by simp [rest, List.drop_drop]
theorem rest_take {l : List Bool} {pos lim b : Nat} (h : pos + b ≤ lim) : (rest l pos lim).take b = (l.drop pos).take b := by
  unfold rest
  rw [List.drop_take, List.take_take, Nat.min_eq_left (by omega)]
theorem rest_mid {l : List Bool} {pos lim a b : Nat} (h : pos + a + b ≤ lim) : ((rest l pos lim).drop a).take b = (l.drop (pos + a)).take b := by
  rw [rest_drop, rest_take h]
theorem rest_at {l : List Bool} {pos lim i : Nat} (h : pos + i < lim) : (rest l pos lim).getD i false = l.getD (pos + i) false := by
  simp only [rest, List.getD_eq_getElem?_getD, List.getElem?_drop, List.getElem?_take]
  rw [if_pos h]
theorem rest_lead {l : List Bool} {pos lim : Nat} (h1 : pos ≤ lim) (h2 : lim ≤ l.length) : LeadIs l pos lim (ldn 8 (rest l pos lim)) := by
  obtain ⟨a1, a2, a3, a4⟩ := ldn_le 8 (rest l pos lim)
  have hl := rest_len (pos := pos) h2
  refine ⟨a1, by omega, fun i hi => ?_, fun h8 hk => ?_⟩
  · rw [← rest_at (show pos + i < lim by omega)]; exact a3 i hi
  · rw [← rest_at hk]; exact a4 h8
theorem lead_of {k : Nat} {t : List Bool} (h : LeadIs t 0 t.length k) : ldn 8 t = k := by
  obtain ⟨a1, a2, a3, a4⟩ := ldn_le 8 t
  obtain ⟨b1, b2, b3, b4⟩ := h
  rcases Nat.lt_trichotomy (ldn 8 t) k with hh | hh | hh
  · have h1 := b3 _ hh
    rw [Nat.zero_add] at h1
    rw [a4 (by omega)] at h1
    exact absurd h1 (by decide)
  · exact hh
  · have h1 := a3 _ hh
    have h2 := b4 (by omega) (by omega)
    rw [Nat.zero_add] at h2
    rw [h2] at h1
    exact absurd h1 (by decide)
theorem rest_tgt {l : List Bool} {pos lim : Nat} (h2 : lim ≤ l.length) : tgt l pos lim = tgt (rest l pos lim) 0 (rest l pos lim).length := by
  have hl := rest_len (pos := pos) h2
  unfold tgt
  rw [hl, Nat.sub_zero]
  by_cases h : lim - pos < 8
  · rw [if_pos h, if_pos h]
  rw [if_neg h, if_neg h]
  have e1 : ((rest l pos lim).drop 0).take 8 = (l.drop pos).take 8 := by rw [rest_mid (by omega)]; rfl
  rw [e1]
  by_cases h64 : lim - (pos + 8) < 64
  · rw [if_pos h64, if_pos (show lim - pos - (0 + 8) < 64 by omega)]
  · have e2 : ((rest l pos lim).drop (0 + 8)).take 64 = (l.drop (pos + 8)).take 64 := by rw [Nat.zero_add, rest_mid (by omega)]
    rw [if_neg h64, if_neg (show ¬ lim - pos - (0 + 8) < 64 by omega), e2]

set_option maxHeartbeats 1000000 in
theorem vgetU_rd (w : World) (p g : Nat) (l : List Bool) (pos lim : Nat) (sh : Bool) (hT : Tab w) (hp : 0 < p) (h : Rd w p g l pos lim sh) (hb : l.length ≤ 4294967296) :
    Calls Tryz.prog 99 #[.pointer (some ⟨p, 0, none⟩)] w fun e w' => e = .returned (.tuple #[.int .u64 ((rdU (rest l pos lim)).1 : Int), .int .i64 (rdU (rest l pos lim)).2.2]) ∧ ((rdU (rest l pos lim)).2.2 = 0 → Rd w' p g l (pos + (rdU (rest l pos lim)).2.1) lim sh) ∧ Fr [p] w w' := by
  have hbl : pos ≤ lim ∧ lim ≤ l.length := ⟨h.2.1, h.2.2.1⟩
  have hL := rest_lead hbl.1 hbl.2
  have hl := rest_len (pos := pos) hbl.2
  unfold rdU
  rw [hl]
  generalize ldn 8 (rest l pos lim) = k at *
  by_cases hs : pos + (fore k + bh k) ≤ lim
  · rw [if_neg (by omega), rest_mid (by omega)]
    have hd : ((l.drop (pos + fore k)).take (bh k)) = ((l.drop (pos + fore k)).take (bh k)) := rfl
    by_cases hg : gU (val ((l.drop (pos + fore k)).take (bh k))) = k
    · rw [if_pos hg]
      refine (vgetU_ok w p g l pos lim sh k hT hp h hb hL hs _ rfl hg).mono ?_
      rintro e w' ⟨rfl, h1, h2⟩
      exact ⟨rfl, fun _ => h1, h2⟩
    · rw [if_neg hg]
      refine (vgetU_form w p g l pos lim sh k hT hp h hb hL hs _ rfl (Nat.lt_of_le_of_ne (gU_of hL.1 (behind_lt _ _ _)) hg)).mono ?_
      rintro e w' ⟨rfl, h1, h2⟩
      exact ⟨rfl, fun hh => absurd hh (by decide), h2⟩
  · rw [if_pos (by omega)]
    refine (vgetU_short w p g l pos lim sh k hT hp h hb hL (by omega)).mono ?_
    rintro e w' ⟨rfl, h1, h2⟩
    exact ⟨rfl, fun hh => absurd hh (by decide), h2⟩

set_option maxHeartbeats 1000000 in
theorem vgetS_rd (w : World) (p g : Nat) (l : List Bool) (pos lim : Nat) (sh : Bool) (hT : Tab w) (hp : 0 < p) (h : Rd w p g l pos lim sh) (hb : l.length ≤ 4294967296) :
    Calls Tryz.prog 83 #[.pointer (some ⟨p, 0, none⟩)] w fun e w' => e = .returned (.tuple #[.int .i64 (rdS (rest l pos lim)).1, .int .i64 (rdS (rest l pos lim)).2.2]) ∧ ((rdS (rest l pos lim)).2.2 = 0 → Rd w' p g l (pos + (rdS (rest l pos lim)).2.1) lim sh) ∧ Fr [p] w w' := by
  have hbl : pos ≤ lim ∧ lim ≤ l.length := ⟨h.2.1, h.2.2.1⟩
  have hL := rest_lead hbl.1 hbl.2
  have hl := rest_len (pos := pos) hbl.2
  unfold rdS
  rw [hl]
  generalize ldn 8 (rest l pos lim) = k at *
  by_cases hs : pos + (fore k + bh k) ≤ lim
  · rw [if_neg (by omega), rest_mid (by omega)]
    by_cases hg : gS (sgn (val ((l.drop (pos + fore k)).take (bh k))) (bh k)) = k
    · rw [if_pos hg]
      refine (vgetS_ok w p g l pos lim sh k hT hp h hb hL hs _ rfl hg).mono ?_
      rintro e w' ⟨rfl, h1, h2⟩
      exact ⟨rfl, fun _ => h1, h2⟩
    · rw [if_neg hg]
      refine (vgetS_form w p g l pos lim sh k hT hp h hb hL hs _ rfl (Nat.lt_of_le_of_ne (gS_of hL.1 (behind_lt _ _ _)) hg)).mono ?_
      rintro e w' ⟨rfl, h1, h2⟩
      exact ⟨rfl, fun hh => absurd hh (by decide), h2⟩
  · rw [if_pos (by omega)]
    refine (vgetS_short w p g l pos lim sh k hT hp h hb hL (by omega)).mono ?_
    rintro e w' ⟨rfl, h1, h2⟩
    exact ⟨rfl, fun hh => absurd hh (by decide), h2⟩

theorem rdU_lt (t : List Bool) : (rdU t).1 < 18446744073709551616 := by
  unfold rdU
  split
  · simp
  · split
    · exact Nat.lt_of_lt_of_le (behind_lt _ _ _) (pow_bh _)
    · simp
theorem rdS_in (t : List Bool) : -9223372036854775808 ≤ (rdS t).1 ∧ (rdS t).1 ≤ 9223372036854775807 := by
  unfold rdS
  split
  · simp
  · split
    · exact sgn_in (bh_sort (ldn_le 8 t).1) (behind_lt _ _ _)
    · simp
theorem rdU_err (t : List Bool) : (rdU t).2.2 = 0 ∨ (rdU t).2.2 = 16 ∨ (rdU t).2.2 = 10 := by
  unfold rdU
  split
  · simp
  · split <;> simp
theorem rdS_err (t : List Bool) : (rdS t).2.2 = 0 ∨ (rdS t).2.2 = 16 ∨ (rdS t).2.2 = 10 := by
  unfold rdS
  split
  · simp
  · split <;> simp
end Go.Proofs.YtkphonepblkcdaaGreatDoor
