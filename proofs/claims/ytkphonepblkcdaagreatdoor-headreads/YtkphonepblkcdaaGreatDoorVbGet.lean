/-
  Package varbit: get, GetU, GetS.
-/
import Derived.Test.YtkphonepblkcdaaGreatDoorVbPut
namespace Go.Proofs.YtkphonepblkcdaaGreatDoor
open Go.RowKit Mem Bits Groups
set_option linter.unusedSimpArgs false
set_option linter.unusedVariables false

set_option maxHeartbeats 400000 in
/-- Left, told as an operation that only reads. -/
theorem left_quiet (w : World) (p g : Nat) (l : List Bool) (pos lim : Nat) (sh : Bool) (h : Rd w p g l pos lim sh) (hb : l.length ≤ 4294967296) :
    Calls Tryz.prog 25 #[.pointer (some ⟨p, 0, none⟩)] w fun e w' => e = .returned (.int .i64 ((lim - pos : Nat) : Int)) ∧ ∃ m, w' = w.drewN m := by
  obtain ⟨hpg, h1, h2, v, hp, hrow⟩ := h
  have c1 : w.cell? ⟨p, 1, none⟩ = some (.int .i64 (lim : Int)) := by rw [cell_at hp]; rfl
  have c2 : w.cell? ⟨p, 2, none⟩ = some (.int .i64 (pos : Int)) := by rw [cell_at hp]; rfl
  have e : ((lim - pos : Nat) : Int) = (lim : Int) - (pos : Int) := by omega
  rw [e]
  clear hp hrow e
  go_enter Tryz.func25, Tryz.ntmps25
  go_wp2
  go_quiet (fail)
  go_wp2
  go_ret
  exact ⟨rfl, _, rfl⟩

/-- What get answers, k ones being there: the group and its bits; or that there are too few. -/
def VGet (w : World) (p g : Nat) (l : List Bool) (pos lim : Nat) (sh : Bool) (k : Nat) (e : Ending) (w' : World) : Prop :=
  Fr [p] w w' ∧ if pos + (fore k + bh k) ≤ lim then
    e = .returned (.tuple #[.int .i64 (k : Int), .int .u64 ((val ((l.drop (pos + fore k)).take (bh k)) : Nat) : Int), .int .i64 0]) ∧ Rd w' p g l (pos + (fore k + bh k)) lim sh
  else e = .returned (.tuple #[.int .i64 0, .int .u64 0, .int .i64 16]) ∧ ∃ pos', Rd w' p g l pos' lim sh

set_option maxRecDepth 100000 in
set_option maxHeartbeats 2000000 in
theorem vget_any (w : World) (p g : Nat) (l : List Bool) (pos lim : Nat) (sh : Bool) (k : Nat) (hT : Tab w) (hp : 0 < p) (h : Rd w p g l pos lim sh) (hb : l.length ≤ 4294967296) (hL : LeadIs l pos lim k) :
    Calls Tryz.prog 96 #[.pointer (some ⟨p, 0, none⟩)] w (VGet w p g l pos lim sh k) := by
  have HT : Hid (Tab w) := hT
  have HLD : Hid ((∀ i, i < k → l.getD (pos + i) false = true) ∧ (k < 8 → pos + k < lim → l.getD (pos + k) false = false)) := hL.2.2
  have hk8 := hL.1
  have hkl := hL.2.1
  have hsz := hT.lt
  clear hT hL
  go_enter Tryz.func96, Tryz.ntmps96
  go_wp2_with fail
  go_loopw [5] (fun c wr => ∃ j : Nat, j ≤ k ∧ c = .int .i64 (j : Int) ∧ Rd wr p g l (pos + j) lim sh ∧ Fr [p] w wr) (fun c _ => 8 - (intOf c).toNat)
  case atStart => exact ⟨0, by omega, rfl, h, Fr.refl _ _⟩
  case round =>
    obtain ⟨j, hj, rfl, hr, hfr⟩ := hrel
    have hlim := hr.2.1
    have hlim2 := hr.2.2.1
    by_cases h8 : j < 8
    · have d8 : decide ((j : Int) < 8) = true := decide_eq_true (by omega)
      go_wp2_with fail
      refine (left_any wr p g l (pos + j) lim sh hr hb).mono ?_
      rintro e w1 ⟨rfl, hf1⟩
      have hr1 := hr.kept hf1 (by simp) (by simp)
      have hfr1 : Fr [p] w w1 := hfr.trans hf1 (by simp)
      clear hr hf1 hfr
      by_cases h0 : lim - (pos + j) = 0
      · rw [h0]
        have HP : Hid (∀ e w', VGet w p g l pos lim sh k e w' ↔ (Fr [p] w w' ∧ e = .returned (.tuple #[.int .i64 0, .int .u64 0, .int .i64 16]) ∧ ∃ pos', Rd w' p g l pos' lim sh)) := by
          intro e w'; unfold VGet; rw [if_neg (by unfold fore; rw [if_pos (by omega)]; omega)]
        go_wp2_with fail
        go_ret3
        exact (HP.out _ _).2 ⟨hfr1, by first | rfl | trivial, _, hr1⟩
      · have d0 : (((lim - (pos + j) : Nat) : Int) == 0) = false := beq_eq_false_iff_ne.2 (by omega)
        go_wp2_with fail
        refine (rbit_ok w1 p g l (pos + j) lim sh hr1 hb (by omega)).mono ?_
        rintro e w2 ⟨rfl, hr2, hf2⟩
        have hfr2 : Fr [p] w w2 := hfr1.trans hf2 (by simp)
        clear hr1 hfr1 hf2
        by_cases hjk : j < k
        · rw [HLD.out.1 j hjk]
          go_wp2_with fail
          go_roundw
          case rel => exact ⟨j + 1, by omega, by go_num, hr2, hfr2⟩
          case measure => simp [intOf]; omega
        · have ej : j = k := by omega
          subst ej
          rw [HLD.out.2 h8 (by omega)]
          have hrX : Rd w2 p g l (pos + fore j) lim sh := by unfold fore; rw [if_pos h8]; exact hr2
          have hfX := hfr2
          clear hr2 hfr2
          have hm := hrX.2.1
          have hm2 := hrX.2.2.1
          have hfF : Fr [p] w w2 := hfX
          have hc := HT.out.kept hfF (by simp; omega) j (by omega)
          have hb64 := bh_le j
          have hbr : l.length ≤ 4294967296 := hb
          by_cases hs : pos + (fore j + bh j) ≤ lim
          · have HP : Hid (∀ e w', VGet w p g l pos lim sh j e w' ↔ (Fr [p] w w' ∧ e = .returned (.tuple #[.int .i64 (j : Int), .int .u64 ((val ((l.drop (pos + fore j)).take (bh j)) : Nat) : Int), .int .i64 0]) ∧ Rd w' p g l (pos + (fore j + bh j)) lim sh)) := by
              intro e w'; unfold VGet; rw [if_pos hs]
            have dl : decide (((lim - (pos + fore j) : Nat) : Int) < ((bh j : Nat) : Int)) = false := decide_eq_false (by omega)
            go_wp2_with fail
            go_quiet ((go_at_call 25; exact Calls.quiet_of (left_quiet _ p g l (pos + fore j) lim sh (hrX.kept ((Fr.refl [] _).drewN _) (by simp) (by simp)) hbr)))
            have hrY : Rd (w2.drewN nq) p g l (pos + fore j) lim sh := hrX.kept ((Fr.refl [] _).drewN _) (by simp) (by simp)
            have hfY : Fr [p] w (w2.drewN nq) := hfF.drewN _
            have hcY := HT.out.kept hfY (by simp; omega) j (by omega)
            clear hc hrX hfF
            generalize w2.drewN nq = wy at *
            rcases bh_cases (show j ≤ 8 by omega) with ⟨h0, hb0⟩ | ⟨hk1, hb1⟩
            · subst h0
              have hcZ : wy.cell? ⟨0, 0, none⟩ = some (.int .i64 0) := hcY
              clear hcY
              go_wp2_with fail
              refine (get_bad wy p 0 (by omega)).mono ?_
              rintro e w3 ⟨rfl, rfl⟩
              go_wp2_with fail
              go_ret3
              exact (HP.out _ _).2 ⟨hfY, by first | rfl | trivial, hrY⟩
            · go_wp2_with fail
              refine (get_ok wy p g l (pos + fore j) lim sh (bh j) hrY hbr hb1 hb64 (by omega)).mono ?_
              rintro e w3 ⟨rfl, hr3, hf3⟩
              rw [Nat.add_assoc] at hr3
              have hfZ : Fr [p] w w3 := hfY.trans hf3 (by simp)
              go_wp2_with fail
              go_ret3
              exact (HP.out _ _).2 ⟨hfZ, by first | rfl | trivial, hr3⟩
          · have HP : Hid (∀ e w', VGet w p g l pos lim sh j e w' ↔ (Fr [p] w w' ∧ e = .returned (.tuple #[.int .i64 0, .int .u64 0, .int .i64 16]) ∧ ∃ pos', Rd w' p g l pos' lim sh)) := by
              intro e w'; unfold VGet; rw [if_neg hs]
            have dl : decide (((lim - (pos + fore j) : Nat) : Int) < ((bh j : Nat) : Int)) = true := decide_eq_true (by omega)
            go_wp2_with fail
            go_quiet ((go_at_call 25; exact Calls.quiet_of (left_quiet _ p g l (pos + fore j) lim sh (hrX.kept ((Fr.refl [] _).drewN _) (by simp) (by simp)) hbr)))
            have hrY : Rd (w2.drewN nq) p g l (pos + fore j) lim sh := hrX.kept ((Fr.refl [] _).drewN _) (by simp) (by simp)
            have hfY : Fr [p] w (w2.drewN nq) := hfF.drewN _
            clear hc hrX hfF
            generalize w2.drewN nq = wy at *
            go_wp2_with fail
            go_ret3
            exact (HP.out _ _).2 ⟨hfY, by first | rfl | trivial, _, hrY⟩
    · have d8 : decide ((j : Int) < 8) = false := decide_eq_false (by omega)
      have ej : j = k := by omega
      subst ej
      have hrX : Rd wr p g l (pos + fore j) lim sh := by unfold fore; rw [if_neg h8]; exact hr
      have hfX := hfr
      clear hr hfr
      have hm := hrX.2.1
      have hm2 := hrX.2.2.1
      have hfF : Fr [p] w wr := hfX
      have hc := HT.out.kept hfF (by simp; omega) j (by omega)
      have hb64 := bh_le j
      have hbr : l.length ≤ 4294967296 := hb
      by_cases hs : pos + (fore j + bh j) ≤ lim
      · have HP : Hid (∀ e w', VGet w p g l pos lim sh j e w' ↔ (Fr [p] w w' ∧ e = .returned (.tuple #[.int .i64 (j : Int), .int .u64 ((val ((l.drop (pos + fore j)).take (bh j)) : Nat) : Int), .int .i64 0]) ∧ Rd w' p g l (pos + (fore j + bh j)) lim sh)) := by
          intro e w'; unfold VGet; rw [if_pos hs]
        have dl : decide (((lim - (pos + fore j) : Nat) : Int) < ((bh j : Nat) : Int)) = false := decide_eq_false (by omega)
        go_wp2_with fail
        go_quiet ((go_at_call 25; exact Calls.quiet_of (left_quiet _ p g l (pos + fore j) lim sh (hrX.kept ((Fr.refl [] _).drewN _) (by simp) (by simp)) hbr)))
        have hrY : Rd (wr.drewN nq) p g l (pos + fore j) lim sh := hrX.kept ((Fr.refl [] _).drewN _) (by simp) (by simp)
        have hfY : Fr [p] w (wr.drewN nq) := hfF.drewN _
        have hcY := HT.out.kept hfY (by simp; omega) j (by omega)
        clear hc hrX hfF
        generalize wr.drewN nq = wy at *
        have hb1 : 1 ≤ bh j := by have := bh_cases hk8; omega
        go_wp2_with fail
        refine (get_ok wy p g l (pos + fore j) lim sh (bh j) hrY hbr hb1 hb64 (by omega)).mono ?_
        rintro e w3 ⟨rfl, hr3, hf3⟩
        rw [Nat.add_assoc] at hr3
        have hfZ : Fr [p] w w3 := hfY.trans hf3 (by simp)
        go_wp2_with fail
        go_ret3
        exact (HP.out _ _).2 ⟨hfZ, by first | rfl | trivial, hr3⟩
      · have HP : Hid (∀ e w', VGet w p g l pos lim sh j e w' ↔ (Fr [p] w w' ∧ e = .returned (.tuple #[.int .i64 0, .int .u64 0, .int .i64 16]) ∧ ∃ pos', Rd w' p g l pos' lim sh)) := by
          intro e w'; unfold VGet; rw [if_neg hs]
        have dl : decide (((lim - (pos + fore j) : Nat) : Int) < ((bh j : Nat) : Int)) = true := decide_eq_true (by omega)
        go_wp2_with fail
        go_quiet ((go_at_call 25; exact Calls.quiet_of (left_quiet _ p g l (pos + fore j) lim sh (hrX.kept ((Fr.refl [] _).drewN _) (by simp) (by simp)) hbr)))
        have hrY : Rd (wr.drewN nq) p g l (pos + fore j) lim sh := hrX.kept ((Fr.refl [] _).drewN _) (by simp) (by simp)
        have hfY : Fr [p] w (wr.drewN nq) := hfF.drewN _
        clear hc hrX hfF
        generalize wr.drewN nq = wy at *
        go_wp2_with fail
        go_ret3
        exact (HP.out _ _).2 ⟨hfY, by first | rfl | trivial, _, hrY⟩

/-- What is behind the ones is no more than so many bits. -/
theorem behind_lt (l : List Bool) (pos k : Nat) : val ((l.drop pos).take (bh k)) < 2 ^ bh k :=
  Nat.lt_of_lt_of_le (val_lt _) (Nat.pow_le_pow_right (by omega) (by simp; omega))
theorem pow_bh (k : Nat) : 2 ^ bh k ≤ 18446744073709551616 := Nat.pow_le_pow_right (n := 2) (by omega) (bh_le k)
theorem VGet.fits {w w' : World} {p g : Nat} {l : List Bool} {pos lim k : Nat} {sh : Bool} {e : Ending} (h : VGet w p g l pos lim sh k e w') (hs : pos + (fore k + bh k) ≤ lim) :
    Fr [p] w w' ∧ e = .returned (.tuple #[.int .i64 (k : Int), .int .u64 ((val ((l.drop (pos + fore k)).take (bh k)) : Nat) : Int), .int .i64 0]) ∧ Rd w' p g l (pos + (fore k + bh k)) lim sh := by
  unfold VGet at h; rwa [if_pos hs] at h
theorem VGet.short {w w' : World} {p g : Nat} {l : List Bool} {pos lim k : Nat} {sh : Bool} {e : Ending} (h : VGet w p g l pos lim sh k e w') (hs : lim < pos + (fore k + bh k)) :
    Fr [p] w w' ∧ e = .returned (.tuple #[.int .i64 0, .int .u64 0, .int .i64 16]) ∧ ∃ pos', Rd w' p g l pos' lim sh := by
  unfold VGet at h; rwa [if_neg (by omega)] at h

set_option maxHeartbeats 400000 in
theorem vgetU_short (w : World) (p g : Nat) (l : List Bool) (pos lim : Nat) (sh : Bool) (k : Nat) (hT : Tab w) (hp : 0 < p) (h : Rd w p g l pos lim sh) (hb : l.length ≤ 4294967296) (hL : LeadIs l pos lim k) (hs : lim < pos + (fore k + bh k)) :
    Calls Tryz.prog 99 #[.pointer (some ⟨p, 0, none⟩)] w fun e w' => e = .returned (.tuple #[.int .u64 0, .int .i64 16]) ∧ (∃ pos', Rd w' p g l pos' lim sh) ∧ Fr [p] w w' := by
  go_enter Tryz.func99, Tryz.ntmps99
  go_wp2_with fail
  refine (vget_any w p g l pos lim sh k hT hp h hb hL).mono ?_
  intro e w1 h1
  obtain ⟨hf, rfl, hr⟩ := h1.short hs
  clear h1
  go_wp2_with fail
  go_ret2
  exact ⟨by first | rfl | trivial, hr, hf⟩

set_option maxHeartbeats 400000 in
theorem vgetS_short (w : World) (p g : Nat) (l : List Bool) (pos lim : Nat) (sh : Bool) (k : Nat) (hT : Tab w) (hp : 0 < p) (h : Rd w p g l pos lim sh) (hb : l.length ≤ 4294967296) (hL : LeadIs l pos lim k) (hs : lim < pos + (fore k + bh k)) :
    Calls Tryz.prog 83 #[.pointer (some ⟨p, 0, none⟩)] w fun e w' => e = .returned (.tuple #[.int .i64 0, .int .i64 16]) ∧ (∃ pos', Rd w' p g l pos' lim sh) ∧ Fr [p] w w' := by
  go_enter Tryz.func83, Tryz.ntmps83
  go_wp2_with fail
  refine (vget_any w p g l pos lim sh k hT hp h hb hL).mono ?_
  intro e w1 h1
  obtain ⟨hf, rfl, hr⟩ := h1.short hs
  clear h1
  go_wp2_with fail
  go_ret2
  exact ⟨by first | rfl | trivial, hr, hf⟩

set_option maxHeartbeats 400000 in
theorem vgetU_form (w : World) (p g : Nat) (l : List Bool) (pos lim : Nat) (sh : Bool) (k : Nat) (hT : Tab w) (hp : 0 < p) (h : Rd w p g l pos lim sh) (hb : l.length ≤ 4294967296) (hL : LeadIs l pos lim k) (hs : pos + (fore k + bh k) ≤ lim) (V : Nat) (hV : val ((l.drop (pos + fore k)).take (bh k)) = V) (hg : gU V < k) :
    Calls Tryz.prog 99 #[.pointer (some ⟨p, 0, none⟩)] w fun e w' => e = .returned (.tuple #[.int .u64 0, .int .i64 10]) ∧ Rd w' p g l (pos + (fore k + bh k)) lim sh ∧ Fr [p] w w' := by
  have hk := hL.1
  have hz := hT.lt
  have hVlt : V < 18446744073709551616 := by have := behind_lt l (pos + fore k) k; have := pow_bh k; omega
  have dg : decide (((gU V : Nat) : Int) < (k : Int)) = true := decide_eq_true (by omega)
  go_enter Tryz.func99, Tryz.ntmps99
  go_wp2_with fail
  refine (vget_any w p g l pos lim sh k hT hp h hb hL).mono ?_
  intro e w1 h1
  obtain ⟨hf, rfl, hr⟩ := h1.fits hs
  clear h1
  rw [hV]
  clear hV
  go_wp2_with fail
  refine (groupU_any V w1 (hT.kept hf (by simp; omega)) hVlt).mono ?_
  rintro e w2 ⟨rfl, rfl⟩
  clear hT h hL
  go_wp2_with fail
  go_ret2
  exact ⟨by first | rfl | trivial, hr, hf⟩

set_option maxHeartbeats 400000 in
theorem vgetU_ok (w : World) (p g : Nat) (l : List Bool) (pos lim : Nat) (sh : Bool) (k : Nat) (hT : Tab w) (hp : 0 < p) (h : Rd w p g l pos lim sh) (hb : l.length ≤ 4294967296) (hL : LeadIs l pos lim k) (hs : pos + (fore k + bh k) ≤ lim) (V : Nat) (hV : val ((l.drop (pos + fore k)).take (bh k)) = V) (hg : gU V = k) :
    Calls Tryz.prog 99 #[.pointer (some ⟨p, 0, none⟩)] w fun e w' => e = .returned (.tuple #[.int .u64 (V : Int), .int .i64 0]) ∧ Rd w' p g l (pos + (fore k + bh k)) lim sh ∧ Fr [p] w w' := by
  have hk := hL.1
  have hz := hT.lt
  have hVlt : V < 18446744073709551616 := by have := behind_lt l (pos + fore k) k; have := pow_bh k; omega
  have dg : decide (((gU V : Nat) : Int) < (k : Int)) = false := decide_eq_false (by omega)
  go_enter Tryz.func99, Tryz.ntmps99
  go_wp2_with fail
  refine (vget_any w p g l pos lim sh k hT hp h hb hL).mono ?_
  intro e w1 h1
  obtain ⟨hf, rfl, hr⟩ := h1.fits hs
  clear h1
  rw [hV]
  clear hV
  go_wp2_with fail
  refine (groupU_any V w1 (hT.kept hf (by simp; omega)) hVlt).mono ?_
  rintro e w2 ⟨rfl, rfl⟩
  clear hT h hL
  go_wp2_with fail
  go_ret2
  exact ⟨by first | rfl | trivial, hr, hf⟩

set_option maxHeartbeats 400000 in
theorem vgetS_form (w : World) (p g : Nat) (l : List Bool) (pos lim : Nat) (sh : Bool) (k : Nat) (hT : Tab w) (hp : 0 < p) (h : Rd w p g l pos lim sh) (hb : l.length ≤ 4294967296) (hL : LeadIs l pos lim k) (hs : pos + (fore k + bh k) ≤ lim) (V : Nat) (hV : val ((l.drop (pos + fore k)).take (bh k)) = V) (hg : gS (sgn V (bh k)) < k) :
    Calls Tryz.prog 83 #[.pointer (some ⟨p, 0, none⟩)] w fun e w' => e = .returned (.tuple #[.int .i64 0, .int .i64 10]) ∧ Rd w' p g l (pos + (fore k + bh k)) lim sh ∧ Fr [p] w w' := by
  have hk := hL.1
  have hz := hT.lt
  have HVlt : Hid (V < 2 ^ bh k) := by show _ < _; have := behind_lt l (pos + fore k) k; omega
  have hbs := bh_sort hk
  obtain ⟨hx1, hx2⟩ := sgn_in hbs HVlt.out
  have dg : decide (((gS (sgn V (bh k)) : Nat) : Int) < (k : Int)) = true := decide_eq_true (by omega)
  go_enter Tryz.func83, Tryz.ntmps83
  go_wp2_with fail
  refine (vget_any w p g l pos lim sh k hT hp h hb hL).mono ?_
  intro e w1 h1
  obtain ⟨hf, rfl, hr⟩ := h1.fits hs
  clear h1
  rw [hV]
  clear hV
  have hT1 := hT.kept hf (by simp; omega)
  have hc := hT1 k (by omega)
  have HT1 : Hid (Tab w1) := hT1
  clear hT h hL hT1
  go_wp2_with fail
  refine (signed_any V (bh k) w1 HVlt.out hbs).mono ?_
  rintro e w2 ⟨rfl, rfl⟩
  clear hbs
  go_wp2_with fail
  refine (groupS_any (sgn V (bh k)) w1 HT1.out hx1 hx2).mono ?_
  rintro e w2 ⟨rfl, hf2⟩
  have hr2 := hr.kept hf2 (by simp) (by simp)
  have hf3 : Fr [p] w w2 := hf.trans hf2 (by simp)
  clear hr hf hc
  go_wp2_with fail
  go_ret2
  exact ⟨by first | rfl | trivial, hr2, hf3⟩

set_option maxHeartbeats 400000 in
theorem vgetS_ok (w : World) (p g : Nat) (l : List Bool) (pos lim : Nat) (sh : Bool) (k : Nat) (hT : Tab w) (hp : 0 < p) (h : Rd w p g l pos lim sh) (hb : l.length ≤ 4294967296) (hL : LeadIs l pos lim k) (hs : pos + (fore k + bh k) ≤ lim) (V : Nat) (hV : val ((l.drop (pos + fore k)).take (bh k)) = V) (hg : gS (sgn V (bh k)) = k) :
    Calls Tryz.prog 83 #[.pointer (some ⟨p, 0, none⟩)] w fun e w' => e = .returned (.tuple #[.int .i64 (sgn V (bh k)), .int .i64 0]) ∧ Rd w' p g l (pos + (fore k + bh k)) lim sh ∧ Fr [p] w w' := by
  have hk := hL.1
  have hz := hT.lt
  have HVlt : Hid (V < 2 ^ bh k) := by show _ < _; have := behind_lt l (pos + fore k) k; omega
  have hbs := bh_sort hk
  obtain ⟨hx1, hx2⟩ := sgn_in hbs HVlt.out
  have dg : decide (((gS (sgn V (bh k)) : Nat) : Int) < (k : Int)) = false := decide_eq_false (by omega)
  go_enter Tryz.func83, Tryz.ntmps83
  go_wp2_with fail
  refine (vget_any w p g l pos lim sh k hT hp h hb hL).mono ?_
  intro e w1 h1
  obtain ⟨hf, rfl, hr⟩ := h1.fits hs
  clear h1
  rw [hV]
  clear hV
  have hT1 := hT.kept hf (by simp; omega)
  have hc := hT1 k (by omega)
  have HT1 : Hid (Tab w1) := hT1
  clear hT h hL hT1
  go_wp2_with fail
  refine (signed_any V (bh k) w1 HVlt.out hbs).mono ?_
  rintro e w2 ⟨rfl, rfl⟩
  clear hbs
  go_wp2_with fail
  refine (groupS_any (sgn V (bh k)) w1 HT1.out hx1 hx2).mono ?_
  rintro e w2 ⟨rfl, hf2⟩
  have hr2 := hr.kept hf2 (by simp) (by simp)
  have hf3 : Fr [p] w w2 := hf.trans hf2 (by simp)
  clear hr hf hc
  go_wp2_with fail
  go_ret2
  exact ⟨by first | rfl | trivial, hr2, hf3⟩

/-- What is put is read again. -/
theorem vgetU_put (w : World) (p g : Nat) (a c : List Bool) (lim : Nat) (sh : Bool) (V : Nat) (hT : Tab w) (hp : 0 < p) (h : Rd w p g (a ++ ubits V ++ c) a.length lim sh) (hb : (a ++ ubits V ++ c).length ≤ 4294967296) (hV : V < 18446744073709551616) (hs : a.length + (ubits V).length ≤ lim) :
    Calls Tryz.prog 99 #[.pointer (some ⟨p, 0, none⟩)] w fun e w' => e = .returned (.tuple #[.int .u64 (V : Int), .int .i64 0]) ∧ Rd w' p g (a ++ ubits V ++ c) (a.length + (ubits V).length) lim sh ∧ Fr [p] w w' := by
  have e : (ubits V).length = fore (gU V) + bh (gU V) := gbits_length _ _
  rw [e] at hs ⊢
  exact vgetU_ok w p g _ _ lim sh (gU V) hT hp h hb (lead_put a c (gU V) V lim (gU_le V) hs) hs V (by
    have := val_put a c (gU V) V
    rw [Nat.mod_eq_of_lt (gU_lt hV)] at this
    exact this) rfl
theorem vgetS_put (w : World) (p g : Nat) (a c : List Bool) (lim : Nat) (sh : Bool) (v : Int) (hT : Tab w) (hp : 0 < p) (h : Rd w p g (a ++ sbits v ++ c) a.length lim sh) (hb : (a ++ sbits v ++ c).length ≤ 4294967296) (h1 : -9223372036854775808 ≤ v) (h2 : v ≤ 9223372036854775807) (hs : a.length + (sbits v).length ≤ lim) :
    Calls Tryz.prog 83 #[.pointer (some ⟨p, 0, none⟩)] w fun e w' => e = .returned (.tuple #[.int .i64 v, .int .i64 0]) ∧ Rd w' p g (a ++ sbits v ++ c) (a.length + (sbits v).length) lim sh ∧ Fr [p] w w' := by
  have e : (sbits v).length = fore (gS v) + bh (gS v) := gbits_length _ _
  rw [e] at hs ⊢
  have ev := sgn_tw v h1 h2
  have := vgetS_ok w p g _ _ lim sh (gS v) hT hp h hb (lead_put a c (gS v) (tw v) lim (gS_le v) hs) hs (tw v % 2 ^ bh (gS v)) (val_put a c (gS v) (tw v)) (by rw [ev])
  rwa [ev] at this
end Go.Proofs.YtkphonepblkcdaaGreatDoor
