/-
  Package threshold: Put and Get.
-/
import Derived.Test.YtkphonepblkcdaaGreatDoorThPow
import Derived.Test.YtkphonepblkcdaaGreatDoorPut
namespace Go.Proofs.YtkphonepblkcdaaGreatDoor
open Go.RowKit Mem Bits Thrs
set_option linter.unusedSimpArgs false
set_option linter.unusedVariables false

theorem fst_yes {v : Nat} (hi : v < inf) : fstv v = tby v := by unfold fstv; rw [if_pos hi]
theorem fst_no {v : Nat} (hi : ¬ v < inf) : fstv v = 0 := by unfold fstv; rw [if_neg hi]

set_option maxHeartbeats 1000000 in
theorem tput_no (w : World) (p : Nat) (v : Nat) (hv : v < 18446744073709551616) (hi : ¬ v < inf) :
    Calls Tryz.prog 44 #[.pointer (some ⟨p, 0, none⟩), .int .u64 (v : Int)] w fun e w' => e = .returned (.int .i64 11) ∧ w = w' := by
  have HV : Hid (v < 18446744073709551616) := hv
  clear hv
  go_enter Tryz.func44, Tryz.ntmps44
  go_wp2_with fail
  refine (tfirst_any v w HV.out).mono ?_
  rintro e w1 ⟨rfl, rfl⟩
  rw [decide_eq_false hi, fst_no hi]
  clear hi
  go_wp2_with fail
  go_ret
  exact ⟨rfl, rfl⟩

set_option maxHeartbeats 1000000 in
theorem tput_ok (w : World) (p g : Nat) (l : List Bool) (v : Nat) (h : Wr w p g l) (hl : l.length ≤ 4294966000) (hi : v < inf) :
    Calls Tryz.prog 44 #[.pointer (some ⟨p, 0, none⟩), .int .u64 (v : Int)] w fun e w' => e = .returned (.int .i64 0) ∧ ∃ g', Wr w' p g' (l ++ tbits v) ∧ (g' = g ∨ w.heap.size ≤ g') ∧ Fr [p, g] w w' := by
  have HV : Hid (v < 18446744073709551616) := by show _ < _; unfold inf at hi; omega
  have hb5 := tby_le v
  go_enter Tryz.func44, Tryz.ntmps44
  go_wp2_with fail
  refine (tfirst_any v w HV.out).mono ?_
  rintro e w1 ⟨rfl, rfl⟩
  rw [decide_eq_true hi, fst_yes hi]
  clear hi
  by_cases hb : tby v = 255
  · have HB : Hid (tbits v = numBits 255 8 ++ numBits v 64) := by show _ = _; unfold tbits; rw [if_pos hb]
    rw [hb]
    clear hb hb5
    go_wp2_with fail
    refine (put_ok w p g l 255 8 h (by omega) (by omega) (by omega) (by omega)).mono ?_
    rintro e w1 ⟨rfl, g1, hw1, hg1, hf1⟩
    have hz1 := hf1.size
    go_wp2_with fail
    refine (put_ok w1 p g1 _ v 64 hw1 (by simp; omega) HV.out (by omega) (by omega)).mono ?_
    rintro e w2 ⟨rfl, g2, hw2, hg2, hf2⟩
    have hf : Fr [p, g] w w2 := Mem.Fr.two hf1 hf2 hg1
    have hg : g2 = g ∨ w.heap.size ≤ g2 := by omega
    rw [List.append_assoc, ← HB.out] at hw2
    clear hw1 hg1 hf1 hg2 hf2 hz1
    go_wp2_with fail
    go_ret
    exact ⟨by first | rfl | trivial, g2, hw2, hg, hf⟩
  · have HB : Hid (tbits v = numBits (tby v) 8) := by show _ = _; unfold tbits; rw [if_neg hb]
    have db : (((tby v : Nat) : Int) == 255) = false := beq_eq_false_iff_ne.2 (by omega)
    generalize tby v = b at *
    clear hb
    go_wp2_with fail
    refine (put_ok w p g l b 8 h (by omega) (by omega) (by omega) (by omega)).mono ?_
    rintro e w1 ⟨rfl, g1, hw1, hg1, hf1⟩
    rw [← HB.out] at hw1
    go_wp2_with fail
    go_ret
    exact ⟨by first | rfl | trivial, g1, hw1, hg1, hf1⟩

/-- The bits that were read are below 2 to their number. -/
theorem val_take_lt (l : List Bool) (pos k : Nat) : val ((l.drop pos).take k) < 2 ^ k :=
  Nat.lt_of_lt_of_le (val_lt _) (Nat.pow_le_pow_right (by omega) (by simp; omega))

set_option maxHeartbeats 2000000 in
theorem tgetBits_any (w : World) (p g : Nat) (l : List Bool) (pos lim : Nat) (sh : Bool) (v f u : Nat) (h : Rd w p g l pos lim sh) (hb : l.length ≤ 4294967296)
    (ht : (if lim - pos < 64 then (0, 16, 0) else if inf ≤ val ((l.drop pos).take 64) then (0, 11, 64) else if tby (val ((l.drop pos).take 64)) = 255 then (val ((l.drop pos).take 64), 0, 64) else (0, 10, 64)) = ((v, f, u) : Nat × Nat × Nat)) :
    Calls Tryz.prog 97 #[.pointer (some ⟨p, 0, none⟩)] w fun e w' => e = .returned (.tuple #[.int .u64 (v : Int), .int .i64 (f : Int)]) ∧ Rd w' p g l (pos + u) lim sh ∧ Fr [p] w w' := by
  have hbl : pos ≤ lim ∧ lim ≤ l.length := ⟨h.2.1, h.2.2.1⟩
  have HB : Hid (l.length ≤ 4294967296) := hb
  clear hb
  go_enter Tryz.func97, Tryz.ntmps97
  go_wp2_with fail
  refine (left_any w p g l pos lim sh h HB.out).mono ?_
  rintro e w1 ⟨rfl, hf1⟩
  have h1 := h.kept hf1 (by simp) (by simp)
  clear h
  by_cases hs : lim - pos < 64
  · rw [if_pos hs] at ht
    obtain ⟨rfl, rfl, rfl⟩ : 0 = v ∧ 16 = f ∧ 0 = u := by simpa using ht
    have dl : decide (((lim - pos : Nat) : Int) < 64) = true := decide_eq_true (by omega)
    clear ht
    generalize lim - pos = D at *
    go_wp2_with fail
    go_ret2
    exact ⟨by first | rfl | trivial, h1, hf1.nil⟩
  · rw [if_neg hs] at ht
    have dl : decide (((lim - pos : Nat) : Int) < 64) = false := decide_eq_false (by omega)
    obtain ⟨V, hV⟩ : ∃ V, V = val ((l.drop pos).take 64) := ⟨_, rfl⟩
    have hV2 : V < 18446744073709551616 := by rw [hV]; exact val_take_lt l pos 64
    rw [← hV] at ht
    have HV2 : Hid (V < 18446744073709551616) := hV2
    have hp64 : pos + 64 ≤ lim := by omega
    clear hV2
    generalize lim - pos = D at *
    go_wp2_with fail
    refine (get_ok w1 p g l pos lim sh 64 h1 HB.out (by omega) (by omega) hp64).mono ?_
    rintro e w2 ⟨rfl, h2, hf2⟩
    rw [← hV]
    have hf : Fr [p] w w2 := hf1.nil.trans hf2 (by simp)
    clear hV h1 hf1 hf2
    go_wp2_with fail
    refine (tfirst_any V w2 HV2.out).mono ?_
    rintro e w3 ⟨rfl, rfl⟩
    by_cases hi : V < inf
    · rw [if_neg (by omega)] at ht
      rw [decide_eq_true hi, fst_yes hi]
      by_cases hb : tby V = 255
      · rw [if_pos hb] at ht
        obtain ⟨rfl, rfl, rfl⟩ : V = v ∧ 0 = f ∧ 64 = u := by simpa using ht
        rw [hb]
        clear ht hi hb
        go_wp2_with fail
        go_ret2
        exact ⟨by first | rfl | trivial, h2, hf⟩
      · rw [if_neg hb] at ht
        obtain ⟨rfl, rfl, rfl⟩ : 0 = v ∧ 10 = f ∧ 64 = u := by simpa using ht
        have db : (((tby V : Nat) : Int) != 255) = true := bne_iff_ne.2 (by omega)
        clear ht hi hb
        generalize tby V = b at *
        go_wp2_with fail
        go_ret2
        exact ⟨by first | rfl | trivial, h2, hf⟩
    · rw [if_pos (by omega)] at ht
      obtain ⟨rfl, rfl, rfl⟩ : 0 = v ∧ 11 = f ∧ 64 = u := by simpa using ht
      rw [decide_eq_false hi, fst_no hi]
      clear ht hi
      go_wp2_with fail
      go_ret2
      exact ⟨by first | rfl | trivial, h2, hf⟩

set_option maxHeartbeats 2000000 in
theorem tget_any (w : World) (p g : Nat) (l : List Bool) (pos lim : Nat) (sh : Bool) (v f u : Nat) (h : Rd w p g l pos lim sh) (hb : l.length ≤ 4294967296) (ht : tgt l pos lim = (v, f, u)) :
    Calls Tryz.prog 84 #[.pointer (some ⟨p, 0, none⟩)] w fun e w' => e = .returned (.tuple #[.int .u64 (v : Int), .int .i64 (f : Int)]) ∧ Rd w' p g l (pos + u) lim sh ∧ Fr [p] w w' := by
  have hbl : pos ≤ lim ∧ lim ≤ l.length := ⟨h.2.1, h.2.2.1⟩
  have HB : Hid (l.length ≤ 4294967296) := hb
  clear hb
  unfold tgt at ht
  go_enter Tryz.func84, Tryz.ntmps84
  go_wp2_with fail
  refine (left_any w p g l pos lim sh h HB.out).mono ?_
  rintro e w1 ⟨rfl, hf1⟩
  have h1 := h.kept hf1 (by simp) (by simp)
  clear h
  by_cases hs : lim - pos < 8
  · rw [if_pos hs] at ht
    obtain ⟨rfl, rfl, rfl⟩ : 0 = v ∧ 16 = f ∧ 0 = u := by simpa using ht
    have dl : decide (((lim - pos : Nat) : Int) < 8) = true := decide_eq_true (by omega)
    clear ht
    generalize lim - pos = D at *
    go_wp2_with fail
    go_ret2
    exact ⟨by first | rfl | trivial, h1, hf1.nil⟩
  · rw [if_neg hs] at ht
    have dl : decide (((lim - pos : Nat) : Int) < 8) = false := decide_eq_false (by omega)
    obtain ⟨V, hV⟩ : ∃ V, V = val ((l.drop pos).take 8) := ⟨_, rfl⟩
    have hV2 : V < 256 := by rw [hV]; exact val_take_lt l pos 8
    rw [← hV] at ht
    have hp8 : pos + 8 ≤ lim := by omega
    generalize lim - pos = D at *
    go_wp2_with fail
    refine (get_ok w1 p g l pos lim sh 8 h1 HB.out (by omega) (by omega) hp8).mono ?_
    rintro e w2 ⟨rfl, h2, hf2⟩
    rw [← hV]
    have hf : Fr [p] w w2 := hf1.nil.trans hf2 (by simp)
    clear hV h1 hf1 hf2
    by_cases hz : V = 0
    · rw [if_pos hz] at ht
      obtain ⟨rfl, rfl, rfl⟩ : 0 = v ∧ 0 = f ∧ 8 = u := by simpa using ht
      subst hz
      clear ht
      go_wp2_with fail
      go_ret2
      exact ⟨by first | rfl | trivial, h2, hf⟩
    rw [if_neg hz] at ht
    have dz : ((V : Int) == 0) = false := beq_eq_false_iff_ne.2 (by omega)
    by_cases h5 : V < 255
    · rw [if_pos h5] at ht
      obtain ⟨X, hX⟩ : ∃ X, X = (V + 779) * 4503599627370496 := ⟨_, rfl⟩
      rw [← hX] at ht
      obtain ⟨rfl, rfl, rfl⟩ : X = v ∧ 0 = f ∧ 8 = u := by simpa using ht
      have d5 : ((V : Int) == 255) = false := beq_eq_false_iff_ne.2 (by omega)
      have HO : Hid (ofv ((V : Int) - 244) = (X : Int) ∧ ofh ((V : Int) - 244) = true) := by
        unfold ofv ofh
        exact ⟨by rw [if_pos (by omega)]; omega, decide_eq_true (by omega)⟩
      clear ht hX
      go_wp2_with fail
      refine (of_any ((V : Int) - 244) w2 (by omega) (by omega)).mono ?_
      rintro e w3 ⟨rfl, rfl⟩
      rw [HO.out.1, HO.out.2]
      go_wp2_with fail
      go_ret2
      exact ⟨by first | rfl | trivial, h2, hf⟩
    · rw [if_neg h5] at ht
      obtain rfl : V = 255 := by omega
      have ht2 : (if lim - (pos + 8) < 64 then (0, 16, 0) else if inf ≤ val ((l.drop (pos + 8)).take 64) then (0, 11, 64) else if tby (val ((l.drop (pos + 8)).take 64)) = 255 then (val ((l.drop (pos + 8)).take 64), 0, 64) else (0, 10, 64)) = ((v, f, u - 8) : Nat × Nat × Nat) ∧ 8 ≤ u := by
        revert ht
        split
        · intro e; simp only [Prod.mk.injEq] at e ⊢; omega
        · split
          · intro e; simp only [Prod.mk.injEq] at e ⊢; omega
          · split
            · intro e; simp only [Prod.mk.injEq] at e ⊢; omega
            · intro e; simp only [Prod.mk.injEq] at e ⊢; omega
      have HT : Hid _ := ht2.1
      have hu := ht2.2
      clear ht ht2 hz h5
      go_wp2_with fail
      refine (tgetBits_any w2 p g l (pos + 8) lim sh v f (u - 8) h2 HB.out HT.out).mono ?_
      rintro e w3 ⟨rfl, h3, hf3⟩
      have hf4 : Fr [p] w w3 := hf.trans hf3 (by simp)
      rw [show pos + 8 + (u - 8) = pos + u from by omega] at h3
      clear hu h2 hf hf3
      go_wp2_with fail
      go_ret2
      exact ⟨by first | rfl | trivial, h3, hf4⟩
end Go.Proofs.YtkphonepblkcdaaGreatDoor
