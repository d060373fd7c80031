/-
  Package threshold: Power, Of, first, Len.
-/
import Derived.Test.YtkphonepblkcdaaGreatDoorThrs
import Derived.Test.YtkphonepblkcdaaGreatDoorGet
import Derived.Deep.DeepCutAuto
namespace Go.Proofs.YtkphonepblkcdaaGreatDoor
open Go.RowKit Mem Bits Thrs
set_option linter.unusedSimpArgs false
set_option linter.unusedVariables false

theorem thTh_any (v : Int) (w : World) :
    Calls Tryz.prog 36 #[.int .u64 v] w fun e w' => e = .returned (.bool (decide (v < 9218868437227405312))) ∧ w = w' := by
  go_enter Tryz.func36, Tryz.ntmps36
  go_wp2
  go_ret
  exact ⟨rfl, rfl⟩

/-- Power's answer. -/
def pwv (v : Nat) : Int := if pw2 v then ((v / 4503599627370496 : Nat) : Int) - 1023 else 0

theorem pw2_no {v E : Nat} (hE : E = v / 4503599627370496) (h : v ≠ E * 4503599627370496 ∨ E < 780 ∨ 1033 < E) : pw2 v = false := by
  unfold pw2; rw [decide_eq_false_iff_not]; omega
theorem pw2_yes {v E : Nat} (hE : E = v / 4503599627370496) (h : v = E * 4503599627370496) (h1 : 780 ≤ E) (h2 : E ≤ 1033) : pw2 v = true := by
  unfold pw2; rw [decide_eq_true_iff]; omega
theorem div_cast {v E : Nat} (hE : E = v / 4503599627370496) : (v : Int) / 4503599627370496 = (E : Int) := by omega
theorem exp_lt {v E : Nat} (hE : E = v / 4503599627370496) (h : v < 18446744073709551616) : E < 4096 := by omega

set_option maxRecDepth 10000 in
set_option maxHeartbeats 1000000 in
theorem power_any (v : Nat) (w : World) (hv : v < 18446744073709551616) :
    Calls Tryz.prog 94 #[.int .u64 (v : Int)] w fun e w' => e = .returned (.tuple #[.int .i64 (pwv v), .bool (pw2 v)]) ∧ w = w' := by
  obtain ⟨E, hE⟩ : ∃ E, E = v / 4503599627370496 := ⟨_, rfl⟩
  have h1 := exp_lt hE hv
  have e1 := div_cast hE
  have HE : Hid (E = v / 4503599627370496) := hE
  clear hE
  go_enter Tryz.func94, Tryz.ntmps94
  go_upto_region 2 with fail
  clear e1 hv
  by_cases hq : v = E * 4503599627370496
  · have d0 : ((v : Int) != (E : Int) * 4503599627370496) = false := by rw [bne_eq_false_iff_eq]; omega
    have HQ : Hid (v = E * 4503599627370496) := hq
    clear hq
    by_cases ha : E < 780
    · have HN : Hid (pw2 v = false) := pw2_no HE.out (.inr (.inl ha))
      have d1 : decide ((E : Int) < 780) = true := decide_eq_true (by omega)
      clear ha
      go_wp2_with fail
      go_ret2
      exact ⟨by unfold pwv; rw [HN.out]; rfl, rfl⟩
    have d1 : decide ((E : Int) < 780) = false := decide_eq_false (by omega)
    by_cases hb : 1033 < E
    · have HN : Hid (pw2 v = false) := pw2_no HE.out (.inr (.inr hb))
      have d2 : decide (1033 < (E : Int)) = true := decide_eq_true (by omega)
      clear ha hb
      go_wp2_with fail
      go_ret2
      exact ⟨by unfold pwv; rw [HN.out]; rfl, rfl⟩
    have HY : Hid (pw2 v = true) := pw2_yes HE.out HQ.out (by omega) (by omega)
    have d2 : decide (1033 < (E : Int)) = false := decide_eq_false (by omega)
    clear ha hb
    go_wp2_with fail
    go_ret2
    exact ⟨by unfold pwv; rw [HY.out, if_pos rfl, ← HE.out]; rfl, rfl⟩
  · have HN : Hid (pw2 v = false) := pw2_no HE.out (.inl hq)
    have d0 : ((v : Int) != (E : Int) * 4503599627370496) = true := by rw [bne_iff_ne]; omega
    clear hq
    go_wp2_with fail
    go_ret2
    exact ⟨by unfold pwv; rw [HN.out]; rfl, rfl⟩

/-- Of's answer. -/
def ofh (p : Int) : Bool := decide (-243 ≤ p ∧ p ≤ 10)
def ofv (p : Int) : Int := if -243 ≤ p ∧ p ≤ 10 then (1023 + p) * 4503599627370496 else 0

set_option maxHeartbeats 1000000 in
theorem of_any (p : Int) (w : World) (h1 : -9223372036854775808 ≤ p) (h2 : p ≤ 9223372036854775807) :
    Calls Tryz.prog 98 #[.int .i64 p] w fun e w' => e = .returned (.tuple #[.int .u64 (ofv p), .bool (ofh p)]) ∧ w = w' := by
  go_enter Tryz.func98, Tryz.ntmps98
  by_cases ha : p < -243
  · have d1 : decide (p < -243) = true := decide_eq_true ha
    have HN : Hid (ofv p = 0) := by show _ = _; unfold ofv; rw [if_neg (by omega)]
    have HD : Hid (ofh p = false) := decide_eq_false (by omega)
    go_wp2_with fail
    go_ret2
    exact ⟨by rw [HN.out, HD.out]; rfl, rfl⟩
  have d1 : decide (p < -243) = false := decide_eq_false ha
  by_cases hb : 10 < p
  · have d2 : decide (10 < p) = true := decide_eq_true hb
    have HN : Hid (ofv p = 0) := by show _ = _; unfold ofv; rw [if_neg (by omega)]
    have HD : Hid (ofh p = false) := decide_eq_false (by omega)
    go_wp2_with fail
    go_ret2
    exact ⟨by rw [HN.out, HD.out]; rfl, rfl⟩
  have d2 : decide (10 < p) = false := decide_eq_false hb
  have HN : Hid (ofv p = (1023 + p) * 4503599627370496) := by show _ = _; unfold ofv; rw [if_pos (by omega)]
  have HD : Hid (ofh p = true) := decide_eq_true (by omega)
  go_wp2_with fail
  go_ret2
  exact ⟨by rw [HN.out, HD.out]; rfl, rfl⟩

/-- first's byte. -/
def fstv (v : Nat) : Nat := if v < inf then tby v else 0

set_option maxHeartbeats 1000000 in
theorem tfirst_any (v : Nat) (w : World) (hv : v < 18446744073709551616) :
    Calls Tryz.prog 75 #[.int .u64 (v : Int)] w fun e w' => e = .returned (.tuple #[.int .u64 ((fstv v : Nat) : Int), .bool (decide (v < inf))]) ∧ w = w' := by
  have HV : Hid (v < 18446744073709551616) := hv
  clear hv
  go_enter Tryz.func75, Tryz.ntmps75
  go_wp2_with fail
  refine (power_any v w HV.out).mono ?_
  rintro e w1 ⟨rfl, rfl⟩
  by_cases hi : v < inf
  · have HT : Hid (∀ wx, Calls Tryz.prog 36 #[.int .u64 (v : Int)] wx fun e w' => e = .returned (.bool true) ∧ wx = w') := fun wx => by
      have h := thTh_any (v : Int) wx
      rwa [decide_eq_true (by unfold inf at hi; omega)] at h
    have HF : Hid (fstv v = tby v ∧ decide (v < inf) = true) := ⟨by unfold fstv; rw [if_pos hi], decide_eq_true hi⟩
    clear hi
    rcases tby_cases v with ⟨h0, hb, hp⟩ | ⟨c, h1, h2, h3, hb, hp⟩ | ⟨h0, hb, hp⟩
    · have HB : Hid (tby v = 0) := hb
      rw [hp]
      subst h0
      clear hb hp
      go_wp2_with fail
      refine (HT.out w).mono ?_
      rintro e w1 ⟨rfl, rfl⟩
      go_wp2_with fail
      go_ret2
      exact ⟨by rw [HF.out.1, HF.out.2, HB.out]; rfl, rfl⟩
    · have HB : Hid (tby v = c) := hb
      have HP : Hid (pwv v = (c : Int) - 244) := by show _ = _; unfold pwv; rw [hp, if_pos rfl]; omega
      have dz : ((v : Int) == 0) = false := beq_eq_false_iff_ne.2 (by omega)
      rw [hp, HP.out]
      clear hb hp h3
      go_wp2_with fail
      refine (HT.out w).mono ?_
      rintro e w1 ⟨rfl, rfl⟩
      go_wp2_with fail
      go_ret2
      exact ⟨by rw [HF.out.1, HF.out.2, HB.out]; go_num, rfl⟩
    · have HB : Hid (tby v = 255) := hb
      have dz : ((v : Int) == 0) = false := beq_eq_false_iff_ne.2 (by omega)
      rw [hp]
      clear hb hp h0
      go_wp2_with fail
      refine (HT.out w).mono ?_
      rintro e w1 ⟨rfl, rfl⟩
      go_wp2_with fail
      go_ret2
      exact ⟨by rw [HF.out.1, HF.out.2, HB.out]; rfl, rfl⟩
  · have HT : Hid (∀ wx, Calls Tryz.prog 36 #[.int .u64 (v : Int)] wx fun e w' => e = .returned (.bool false) ∧ wx = w') := fun wx => by
      have h := thTh_any (v : Int) wx
      rwa [decide_eq_false (by unfold inf at hi; omega)] at h
    have HF : Hid (fstv v = 0 ∧ decide (v < inf) = false) := ⟨by unfold fstv; rw [if_neg hi], decide_eq_false hi⟩
    clear hi
    go_wp2_with fail
    refine (HT.out w).mono ?_
    rintro e w1 ⟨rfl, rfl⟩
    go_wp2_with fail
    go_ret2
    exact ⟨by rw [HF.out.1, HF.out.2]; rfl, rfl⟩

/-- Len's answer. -/
def tln (v : Nat) : Nat := if v < inf then (tbits v).length else 0

set_option maxHeartbeats 1000000 in
theorem tlen_any (v : Nat) (w : World) (hv : v < 18446744073709551616) :
    Calls Tryz.prog 47 #[.int .u64 (v : Int)] w fun e w' => e = .returned (.int .i64 ((tln v : Nat) : Int)) ∧ w = w' := by
  have HV : Hid (v < 18446744073709551616) := hv
  clear hv
  go_enter Tryz.func47, Tryz.ntmps47
  go_wp2_with fail
  refine (tfirst_any v w HV.out).mono ?_
  rintro e w1 ⟨rfl, rfl⟩
  by_cases hi : v < inf
  · rw [decide_eq_true hi, show fstv v = tby v from by unfold fstv; rw [if_pos hi]]
    by_cases hb : tby v = 255
    · have HL : Hid (tln v = 72) := by show _ = _; unfold tln; rw [if_pos hi, tbits_length, if_pos hb]
      rw [hb]
      clear hi hb
      go_wp2_with fail
      go_ret
      exact ⟨by rw [HL.out]; rfl, rfl⟩
    · have HL : Hid (tln v = 8) := by show _ = _; unfold tln; rw [if_pos hi, tbits_length, if_neg hb]
      have db : (((tby v : Nat) : Int) == 255) = false := beq_eq_false_iff_ne.2 (by omega)
      generalize tby v = b at *
      clear hi hb
      go_wp2_with fail
      go_ret
      exact ⟨by rw [HL.out]; rfl, rfl⟩
  · rw [decide_eq_false hi, show fstv v = 0 from by unfold fstv; rw [if_neg hi]]
    have HL : Hid (tln v = 0) := by show _ = _; unfold tln; rw [if_neg hi]
    clear hi
    go_wp2_with fail
    go_ret
    exact ⟨by rw [HL.out]; rfl, rfl⟩
end Go.Proofs.YtkphonepblkcdaaGreatDoor
