/-
  The float of a whole number and the whole number of a float, without any program: bits as numbers.
-/
import Derived.WalkKit
import Derived.Laws.FloatArith
namespace Go.Proofs.Ytoaibabkkphlaaa.Floats
set_option linter.unusedSimpArgs false
set_option linter.unusedVariables false

/-- A number's quotient by 2^d, to the nearest; of two the even one. -/
def rnd (n d : Nat) : Nat := n / 2 ^ d + (if 2 ^ d < 2 * (n % 2 ^ d) ∨ (2 ^ d = 2 * (n % 2 ^ d) ∧ n / 2 ^ d % 2 = 1) then 1 else 0)
/-- The digits that are kept. -/
def kpt (n : Nat) : Nat := if n.log2 ≤ 52 then n * 2 ^ (52 - n.log2) else rnd n (n.log2 - 52)
/-- The bits of a whole number's float. -/
def flt (n : Nat) : Nat := if n = 0 then 0 else (1022 + n.log2) * 4503599627370496 + kpt n
/-- The whole number of a float, cut. -/
def trn (v : Nat) : Nat :=
  if v < 4503599627370496 then 0
  else if v / 4503599627370496 ≤ 1075 then (4503599627370496 + v % 4503599627370496) / 2 ^ (1075 - v / 4503599627370496)
  else (4503599627370496 + v % 4503599627370496) * 2 ^ (v / 4503599627370496 - 1075)
/-- The whole number that a float is, if it is one. -/
def whl (v : Nat) : Option Nat :=
  if v < 4895412794951729152 then (if flt (trn v) = v then some (trn v) else none) else none

theorem log2_eq {n k : Nat} (h1 : 2 ^ k ≤ n) (h2 : n < 2 ^ (k + 1)) : n.log2 = k := by
  have h0 : n ≠ 0 := by have := Nat.two_pow_pos k; omega
  have a := (Nat.le_log2 h0).2 h1
  have b := (Nat.log2_lt h0).2 h2
  omega
theorem log2_le {n : Nat} (h0 : n ≠ 0) : 2 ^ n.log2 ≤ n := Nat.log2_self_le h0
theorem log2_gt (n : Nat) : n < 2 ^ (n.log2 + 1) := Nat.lt_log2_self

theorem kpt_bounds {n : Nat} (h0 : n ≠ 0) : 4503599627370496 ≤ kpt n ∧ kpt n ≤ 9007199254740992 := by
  have a := log2_le h0
  have b := log2_gt n
  have e52 : (4503599627370496 : Nat) = 2 ^ 52 := by decide
  have e53 : (9007199254740992 : Nat) = 2 ^ 53 := by decide
  unfold kpt
  split
  · rename_i h
    have e1 : (2 : Nat) ^ 52 = 2 ^ n.log2 * 2 ^ (52 - n.log2) := by rw [← Nat.pow_add]; congr 1; omega
    have e2 : (2 : Nat) ^ 53 = 2 ^ (n.log2 + 1) * 2 ^ (52 - n.log2) := by rw [← Nat.pow_add]; congr 1; omega
    rw [e52, e53, e1, e2]
    exact ⟨Nat.mul_le_mul_right _ a, Nat.mul_le_mul_right _ (by omega)⟩
  · rename_i h
    have e1 : 2 ^ n.log2 = 2 ^ 52 * 2 ^ (n.log2 - 52) := by rw [← Nat.pow_add]; congr 1; omega
    have e2 : 2 ^ (n.log2 + 1) = 2 ^ 53 * 2 ^ (n.log2 - 52) := by rw [← Nat.pow_add]; congr 1; omega
    have hp := Nat.two_pow_pos (n.log2 - 52)
    have c1 : 2 ^ 52 ≤ n / 2 ^ (n.log2 - 52) := (Nat.le_div_iff_mul_le hp).2 (by rw [← e1]; exact a)
    have c2 : n / 2 ^ (n.log2 - 52) < 2 ^ 53 := (Nat.div_lt_iff_lt_mul hp).2 (by rw [← e2]; exact b)
    unfold rnd
    rw [e52, e53]
    split <;> omega
theorem rnd_mono {a b d : Nat} (h : a ≤ b) : rnd a d ≤ rnd b d := by
  have hq : a / 2 ^ d ≤ b / 2 ^ d := Nat.div_le_div_right h
  have ha := Nat.div_add_mod a (2 ^ d)
  have hb := Nat.div_add_mod b (2 ^ d)
  unfold rnd
  by_cases e : a / 2 ^ d = b / 2 ^ d
  · rw [e] at ha
    have hr : a % 2 ^ d ≤ b % 2 ^ d := by omega
    rw [e]
    split
    · rename_i h1
      rw [if_pos (by omega)]
      exact Nat.le_refl _
    · omega
  · split <;> split <;> omega
theorem flt_mono {a b : Nat} (h : a ≤ b) : flt a ≤ flt b := by
  unfold flt
  by_cases ha : a = 0
  · rw [if_pos ha]; omega
  · have hb : b ≠ 0 := by omega
    rw [if_neg ha, if_neg hb]
    have h1 := kpt_bounds ha
    have h2 := kpt_bounds hb
    have hl : a.log2 ≤ b.log2 := (Nat.le_log2 hb).2 (Nat.le_trans (log2_le ha) h)
    by_cases e : a.log2 = b.log2
    · have : kpt a ≤ kpt b := by
        unfold kpt
        rw [e]
        split
        · exact Nat.mul_le_mul_right _ h
        · exact rnd_mono h
      rw [e]; omega
    · omega
theorem flt_lt {n : Nat} (h : n < 18446744073709551616) : flt n ≤ 4895412794951729152 := by
  unfold flt
  split
  · omega
  · rename_i h0
    have h1 := kpt_bounds h0
    have h64 : (18446744073709551616 : Nat) = 2 ^ 64 := by decide
    have : n.log2 < 64 := (Nat.log2_lt h0).2 (by omega)
    omega

/-- The language's own float. -/
theorem nearest_flt {n : Nat} (h : n < 18446744073709551616) : floatOfInt .f64 (n : Int) = flt n := by
  have h64 : (18446744073709551616 : Nat) = 2 ^ 64 := by decide
  unfold floatOfInt FloatKind.nearest FloatKind.encode FloatKind.format Ieee.Format.write
  simp only
  have hd : decide ((n : Int) < 0) = false := by simp
  rw [hd, Int.natAbs_natCast]
  unfold Ieee.Format.nearest flt
  by_cases h0 : n = 0
  · rw [if_pos h0, if_pos h0]; rfl
  · rw [if_neg h0, if_neg h0]
    have hk : n.log2 < 64 := (Nat.log2_lt h0).2 (by omega)
    have hf : Ieee.double.fractionBits = 52 := rfl
    have hp : Ieee.double.leastPlace = -1074 := by decide
    have hb : Ieee.double.binade = 4503599627370496 := by decide
    have hi : Ieee.double.infRung = 9218868437227405312 := by decide
    simp only [hf, hp, hb, hi]
    have hm : max (0 + (n.log2 : Int) - ((52 : Nat) : Int)) (-1074) = (n.log2 : Int) - 52 := by omega
    rw [hm]
    have hkp : Ieee.Toward.even.cut false (n <<< (0 - ((n.log2 : Int) - 52)).toNat) ((n.log2 : Int) - 52 - 0).toNat = kpt n := by
      unfold kpt
      split
      · rename_i hle
        have e1 : (0 - ((n.log2 : Int) - 52)).toNat = 52 - n.log2 := by omega
        have e2 : ((n.log2 : Int) - 52 - 0).toNat = 0 := by omega
        rw [e1, e2]
        unfold Ieee.Toward.cut
        simp only [Nat.zero_min, Nat.shiftLeft_eq, Nat.pow_zero, Nat.mul_one, Nat.div_one, Nat.mod_one]
        simp
      · rename_i hle
        have e1 : (0 - ((n.log2 : Int) - 52)).toNat = 0 := by omega
        have e2 : ((n.log2 : Int) - 52 - 0).toNat = n.log2 - 52 := by omega
        rw [e1, e2]
        unfold Ieee.Toward.cut rnd
        simp only [Nat.shiftLeft_eq, Nat.pow_zero, Nat.mul_one, Nat.one_mul]
        rw [Nat.min_eq_left (by omega)]
        congr 1
        by_cases c1 : 2 ^ (n.log2 - 52) < 2 * (n % 2 ^ (n.log2 - 52))
        · simp [c1]
        · by_cases c2 : 2 ^ (n.log2 - 52) = 2 * (n % 2 ^ (n.log2 - 52))
          · by_cases c3 : n / 2 ^ (n.log2 - 52) % 2 = 1
            · simp [c1, c2.symm, c3]
            · simp [c1, c2.symm, c3]
          · simp [c1, c2]
    rw [hkp]
    have h1 := kpt_bounds h0
    have e3 : ((n.log2 : Int) - 52 - -1074).toNat = n.log2 + 1022 := by omega
    rw [e3]
    unfold Ieee.Format.word
    rw [if_neg (by simp), Nat.min_eq_left (by omega)]
    omega

/-- How the language reads a float that isn't below 0. -/
theorem read_low {v : Nat} (h : v < 4503599627370496) : FloatKind.f64.decode v = .number false v (-1074) := by
  unfold FloatKind.decode FloatKind.format Ieee.Format.read
  have hw : Ieee.double.signWeight = 9223372036854775808 := by decide
  have hp : Ieee.double.leastPlace = -1074 := by decide
  have hb : Ieee.double.binade = 4503599627370496 := by decide
  simp only [hw, hp, hb]
  rw [Nat.div_eq_of_lt (by omega), Nat.mod_eq_of_lt (by omega), if_pos h]
  rfl
theorem read_high {v : Nat} (h : 4503599627370496 ≤ v) (h2 : v < 9218868437227405312) : FloatKind.f64.decode v = .number false (4503599627370496 + v % 4503599627370496) ((v / 4503599627370496 : Nat) - 1075 : Int) := by
  unfold FloatKind.decode FloatKind.format Ieee.Format.read
  have hw : Ieee.double.signWeight = 9223372036854775808 := by decide
  have hp : Ieee.double.leastPlace = -1074 := by decide
  have hb : Ieee.double.binade = 4503599627370496 := by decide
  have hi : Ieee.double.infRung = 9218868437227405312 := by decide
  simp only [hw, hp, hb, hi]
  rw [Nat.div_eq_of_lt (by omega), Nat.mod_eq_of_lt (by omega), if_neg (by omega), if_pos h2]
  have : (-1074 : Int) + ((v / 4503599627370496 - 1 : Nat) : Int) = ((v / 4503599627370496 : Nat) : Int) - 1075 := by omega
  rw [this]
  rfl

theorem pow_ge {a b : Nat} (h : a ≤ b) : 2 ^ a ≤ 2 ^ b := Nat.pow_le_pow_right (by omega) h
theorem trn_lt {v : Nat} (h : v < 4895412794951729152) : trn v < 18446744073709551616 := by
  unfold trn
  split
  · omega
  · split
    · have : (4503599627370496 + v % 4503599627370496) / 2 ^ (1075 - v / 4503599627370496) ≤ 4503599627370496 + v % 4503599627370496 := Nat.div_le_self _ _
      omega
    · have h1 : v / 4503599627370496 - 1075 ≤ 11 := by omega
      have h2 := pow_ge h1
      have h3 : (4503599627370496 + v % 4503599627370496) * 2 ^ (v / 4503599627370496 - 1075) ≤ (4503599627370496 + v % 4503599627370496) * 2 ^ 11 := Nat.mul_le_mul_left _ h2
      omega

theorem cut_shift (m d : Nat) (h : m < 2 ^ (m.log2 + 2)) : Ieee.Toward.zero.cut false m d = m / 2 ^ d := by
  unfold Ieee.Toward.cut
  simp only [Nat.shiftLeft_eq, Nat.one_mul, Bool.toNat_false, Nat.add_zero]
  by_cases hd : d ≤ m.log2 + 2
  · rw [Nat.min_eq_left hd]
  · rw [Nat.min_eq_right (by omega)]
    rw [Nat.div_eq_of_lt h, Nat.div_eq_of_lt (Nat.lt_of_lt_of_le h (pow_ge (by omega)))]
theorem lt_log2_two (m : Nat) : m < 2 ^ (m.log2 + 2) := Nat.lt_of_lt_of_le (log2_gt m) (pow_ge (by omega))

theorem toInt_trn {v : Nat} (h : v < 4895412794951729152) : floatToIntVal .f64 v .u64 = some (trn v : Int) := by
  have ht := trn_lt h
  unfold floatToIntVal
  have e : (FloatKind.f64.decode v).toInt .zero = some (trn v : Int) := by
    unfold trn
    by_cases h1 : v < 4503599627370496
    · rw [read_low h1, if_pos h1]
      unfold Ieee.Datum.toInt Ieee.Datum.integral
      simp only [Ieee.signed]
      rw [cut_shift _ _ (lt_log2_two _)]
      have e1 : (-1074 : Int).toNat = 0 := by decide
      obtain ⟨E, hE⟩ : ∃ E, E = (- (-1074 : Int)).toNat := ⟨_, rfl⟩
      have hE2 : 52 ≤ E := by omega
      have e3 : v < 2 ^ E := Nat.lt_of_lt_of_le (by omega : v < 2 ^ 52) (pow_ge hE2)
      rw [e1, ← hE]
      simp [Nat.shiftLeft_eq, Nat.div_eq_of_lt e3]
    · rw [read_high (by omega) (by omega), if_neg h1]
      unfold Ieee.Datum.toInt Ieee.Datum.integral
      simp only [Ieee.signed]
      rw [cut_shift _ _ (lt_log2_two _)]
      rw [if_neg (by simp)]
      split
      · rename_i h2
        have e1 : ((v / 4503599627370496 : Nat) - 1075 : Int).toNat = 0 := by omega
        have e2 : (- ((v / 4503599627370496 : Nat) - 1075 : Int)).toNat = 1075 - v / 4503599627370496 := by omega
        rw [e1, e2]
        simp [Nat.shiftLeft_eq]
      · rename_i h2
        have e1 : ((v / 4503599627370496 : Nat) - 1075 : Int).toNat = v / 4503599627370496 - 1075 := by omega
        have e2 : (- ((v / 4503599627370496 : Nat) - 1075 : Int)).toNat = 0 := by omega
        rw [e1, e2]
        simp [Nat.shiftLeft_eq]
  rw [e]
  simp only
  have hmin : IntKind.u64.min = 0 := by decide
  have hmax : IntKind.u64.max = 18446744073709551615 := by decide
  rw [if_pos ⟨by omega, by omega⟩]

/-- How the language holds a float against 2^64. -/
theorem order_two {v : Nat} (h : v < 9218868437227405312) : (FloatKind.f64.format.order v 4895412794951729152 == some .gt || FloatKind.f64.format.order v 4895412794951729152 == some .eq) = decide (4895412794951729152 ≤ v) := by
  have hr : FloatKind.f64.format.read 4895412794951729152 = .number false 4503599627370496 12 := by
    have := read_high (v := 4895412794951729152) (by omega) (by omega)
    unfold FloatKind.decode at this
    rw [this]; decide
  unfold Ieee.Format.order
  rw [hr]
  by_cases h1 : v < 4503599627370496
  · have h2 : FloatKind.f64.format.read v = _ := read_low h1
    rw [h2]
    have e1 : min (-1074 : Int) 12 = -1074 := by decide
    have e2 : (-1074 - -1074 : Int).toNat = 0 := by decide
    obtain ⟨E, hE⟩ : ∃ E, (12 - -1074 : Int).toNat = E := ⟨_, rfl⟩
    simp only [Ieee.Datum.order, Ieee.signed, e1, e2, hE, Nat.shiftLeft_eq]
    have hl : compare ((v * 2 ^ 0 : Nat) : Int) ((4503599627370496 * 2 ^ E : Nat) : Int) = .lt := by
      rw [Int.compare_eq_lt]
      have := Nat.two_pow_pos E
      generalize (2 ^ E : Nat) = Q at *
      have h3 : 4503599627370496 * 1 ≤ 4503599627370496 * Q := Nat.mul_le_mul_left _ this
      omega
    simp only [Bool.false_eq_true, if_false, hl]
    rw [decide_eq_false (by omega)]
    rfl
  · have h2 : FloatKind.f64.format.read v = _ := read_high (by omega) h
    rw [h2]
    by_cases h3 : 4895412794951729152 ≤ v
    · have e1 : min ((v / 4503599627370496 : Nat) - 1075 : Int) 12 = 12 := by omega
      have e2 : (12 - 12 : Int).toNat = 0 := by decide
      simp only [Ieee.Datum.order, Ieee.signed, e1, e2, Nat.shiftLeft_eq, Bool.false_eq_true, if_false]
      have hp := Nat.two_pow_pos (((v / 4503599627370496 : Nat) - 1075 : Int) - 12).toNat
      generalize (2 ^ (((v / 4503599627370496 : Nat) - 1075 : Int) - 12).toNat : Nat) = Q at *
      have hge : 4503599627370496 * 2 ^ 0 ≤ (4503599627370496 + v % 4503599627370496) * Q := by
        have : (4503599627370496 + v % 4503599627370496) * 1 ≤ (4503599627370496 + v % 4503599627370496) * Q := Nat.mul_le_mul_left _ hp
        omega
      generalize (4503599627370496 + v % 4503599627370496) * Q = R at *
      rw [decide_eq_true h3]
      rcases Nat.lt_or_eq_of_le hge with h4 | h4
      · have : compare ((R : Nat) : Int) ((4503599627370496 * 2 ^ 0 : Nat) : Int) = .gt := by rw [Int.compare_eq_gt]; omega
        rw [this]; rfl
      · have : compare ((R : Nat) : Int) ((4503599627370496 * 2 ^ 0 : Nat) : Int) = .eq := by rw [Int.compare_eq_eq]; omega
        rw [this]; rfl
    · have e1 : min ((v / 4503599627370496 : Nat) - 1075 : Int) 12 = ((v / 4503599627370496 : Nat) - 1075 : Int) := by omega
      have e2 : (((v / 4503599627370496 : Nat) - 1075 : Int) - ((v / 4503599627370496 : Nat) - 1075 : Int)).toNat = 0 := by omega
      simp only [Ieee.Datum.order, Ieee.signed, e1, e2, Nat.shiftLeft_eq, Bool.false_eq_true, if_false]
      have hs : 1 ≤ (12 - ((v / 4503599627370496 : Nat) - 1075 : Int)).toNat := by omega
      have hp := pow_ge hs
      generalize (2 ^ (12 - ((v / 4503599627370496 : Nat) - 1075 : Int)).toNat : Nat) = Q at *
      have hlt : (4503599627370496 + v % 4503599627370496) * 2 ^ 0 < 4503599627370496 * Q := by
        have : 4503599627370496 * 2 ^ 1 ≤ 4503599627370496 * Q := Nat.mul_le_mul_left _ hp
        omega
      have : compare (((4503599627370496 + v % 4503599627370496) * 2 ^ 0 : Nat) : Int) ((4503599627370496 * Q : Nat) : Int) = .lt := by rw [Int.compare_eq_lt]; omega
      rw [this, decide_eq_false h3]
      rfl
end Go.Proofs.Ytoaibabkkphlaaa.Floats
