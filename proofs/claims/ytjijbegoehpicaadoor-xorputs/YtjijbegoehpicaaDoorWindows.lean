/-
  Plain mathematics of the windows of xor. No program is named here.
-/
import Derived.Test.YtjijbegoehpicaaDoorBits
import Derived.Lib.BitFns
import Derived.Lib.TrailingZeros
namespace Go.Proofs.YtjijbegoehpicaaDoor.Windows
open Bits

/-- How many bits a number takes; how many noughts stand behind its last one. -/
def bl (d : Nat) : Nat := Lib.bitLen d
def tz (d : Nat) : Nat := Lib.ctz 64 d

theorem bl_aux : ∀ (f x : Nat), x ≠ 0 → x < 2 ^ f → 1 ≤ Lib.bitLenAux f x ∧ 2 ^ (Lib.bitLenAux f x - 1) ≤ x ∧ x < 2 ^ Lib.bitLenAux f x
  | 0, x, h0, h => by simp at h; omega
  | f + 1, x, h0, h => by
    rw [Lib.bitLenAux, if_neg h0]
    by_cases h2 : x / 2 = 0
    · have e : Lib.bitLenAux f (x / 2) = 0 := by rw [h2]; cases f <;> simp [Lib.bitLenAux]
      rw [e]
      simp
      omega
    · obtain ⟨h3, h4, h5⟩ := bl_aux f (x / 2) h2 (by rw [Nat.pow_succ] at h; omega)
      generalize Lib.bitLenAux f (x / 2) = k at *
      obtain ⟨j, rfl⟩ : ∃ j, k = j + 1 := ⟨k - 1, by omega⟩
      rw [show 1 + (j + 1) - 1 = j + 1 from by omega, show 1 + (j + 1) = j + 1 + 1 from by omega]
      rw [show j + 1 - 1 = j from by omega] at h4
      rw [Nat.pow_succ] at h5
      rw [Nat.pow_succ 2 (j + 1), Nat.pow_succ]
      omega

theorem bl_le (d : Nat) (h : d < 18446744073709551616) : bl d ≤ 64 := Lib.bitLen_le d 64 (by omega) h
theorem bl_pos {d : Nat} (h0 : d ≠ 0) (h : d < 18446744073709551616) : 1 ≤ bl d := (bl_aux 64 d h0 h).1
theorem bl_lt {d : Nat} (h0 : d ≠ 0) (h : d < 18446744073709551616) : d < 2 ^ bl d := (bl_aux 64 d h0 h).2.2
theorem bl_ge {d : Nat} (h0 : d ≠ 0) (h : d < 18446744073709551616) : 2 ^ (bl d - 1) ≤ d := (bl_aux 64 d h0 h).2.1
theorem bl_bit {d : Nat} (h0 : d ≠ 0) (h : d < 18446744073709551616) : d.testBit (bl d - 1) = true := by
  have h1 := bl_pos h0 h
  have h2 := bl_lt h0 h
  have h3 := bl_ge h0 h
  obtain ⟨k, hk⟩ : ∃ k, bl d = k + 1 := ⟨bl d - 1, by omega⟩
  rw [hk] at h2 h3 ⊢
  rw [show k + 1 - 1 = k from by omega] at h3 ⊢
  rw [Nat.testBit_eq_decide_div_mod_eq]
  have hp := Nat.two_pow_pos k
  have e : d / 2 ^ k = 1 := Nat.div_eq_of_lt_le (by omega) (by rw [Nat.pow_succ] at h2; omega)
  rw [e]; rfl
theorem tz_spec {d : Nat} (h0 : d ≠ 0) (h : d < 18446744073709551616) : (∃ m, d = 2 ^ tz d * (2 * m + 1)) ∧ tz d < 64 := by
  obtain ⟨m, hm, hk⟩ := Lib.ctzFrom_spec 64 d (by omega) h
  have e : tz d = Lib.ctzFrom 64 d := by unfold tz Lib.ctz; rw [if_neg h0]
  rw [e]
  exact ⟨⟨m, hm⟩, hk⟩
theorem tz_le (d : Nat) (h : d < 18446744073709551616) : tz d ≤ 64 := by
  by_cases h0 : d = 0
  · subst h0; decide
  · exact Nat.le_of_lt (tz_spec h0 h).2
theorem tz_bit {d : Nat} (h0 : d ≠ 0) (h : d < 18446744073709551616) : d.testBit (tz d) = true := by
  obtain ⟨⟨m, hm⟩, _⟩ := tz_spec h0 h
  generalize tz d = t at *
  rw [Nat.testBit_eq_decide_div_mod_eq, hm, Nat.mul_div_cancel_left _ (Nat.two_pow_pos _)]
  simp
theorem tz_dvd {d k : Nat} (h0 : d ≠ 0) (h : d < 18446744073709551616) (hk : k ≤ tz d) : 2 ^ k ∣ d := by
  obtain ⟨⟨m, hm⟩, _⟩ := tz_spec h0 h
  rw [hm]
  exact Nat.dvd_trans (Nat.pow_dvd_pow 2 hk) (Nat.dvd_mul_right _ _)
theorem tz_lt_bl {d : Nat} (h0 : d ≠ 0) (h : d < 18446744073709551616) : tz d < bl d := by
  have h2 := bl_lt h0 h
  have h3 := Nat.le_of_dvd (by omega) (tz_dvd h0 h (Nat.le_refl _))
  refine Nat.lt_of_not_le fun hle => ?_
  have := Nat.pow_le_pow_right (n := 2) (by omega) hle
  omega

/-- Bits above the first and behind the last one are noughts. -/
theorem above {d j : Nat} (h0 : d ≠ 0) (h : d < 18446744073709551616) (hj : bl d ≤ j) : d.testBit j = false :=
  Nat.testBit_lt_two_pow (Nat.lt_of_lt_of_le (bl_lt h0 h) (Nat.pow_le_pow_right (by omega) hj))
theorem behind {d j : Nat} (h0 : d ≠ 0) (h : d < 18446744073709551616) (hj : j < tz d) : d.testBit j = false := by
  obtain ⟨m, hm⟩ := tz_dvd h0 h (k := j + 1) hj
  rw [hm, Nat.testBit_eq_decide_div_mod_eq, Nat.pow_succ, Nat.mul_assoc, Nat.mul_div_cancel_left _ (Nat.two_pow_pos _)]
  simp

/-- Has a window all bits that differ? -/
def hasW (a b d : Nat) : Bool := decide (a ≤ 64 - bl d) && decide (64 - a - b ≤ tz d)
/-- The window that is told of what differs. -/
def wa (d : Nat) : Nat := if 64 - bl d < 31 then 64 - bl d else 31
def wb (d : Nat) : Nat := 64 - wa d - tz d
/-- A window is none, or within 64 bits. -/
def wok (a b : Nat) : Prop := (a = 0 ∧ b = 0) ∨ (a ≤ 31 ∧ 1 ≤ b ∧ a + b ≤ 64)
theorem wok.le {a b : Nat} (h : wok a b) : a ≤ 31 ∧ a + b ≤ 64 := by unfold wok at h; omega
theorem wa_wb {d : Nat} (h0 : d ≠ 0) (h : d < 18446744073709551616) : wa d ≤ 31 ∧ 1 ≤ wb d ∧ wa d + wb d = 64 - tz d ∧ wa d ≤ 64 - bl d := by
  have h1 := bl_le d h
  have h2 := tz_lt_bl h0 h
  unfold wb wa
  split <;> omega
theorem wok_told {d : Nat} (h0 : d ≠ 0) (h : d < 18446744073709551616) : wok (wa d) (wb d) := by
  have := wa_wb h0 h; unfold wok; omega
theorem hasW_told {d : Nat} (h0 : d ≠ 0) (h : d < 18446744073709551616) : hasW (wa d) (wb d) d = true := by
  have := wa_wb h0 h
  unfold hasW
  rw [decide_eq_true (by omega), decide_eq_true (by omega)]; rfl
theorem hasW_none {d : Nat} (h0 : d ≠ 0) (h : d < 18446744073709551616) {a : Nat} (ha : a = 0) : hasW a 0 d = false := by
  have := (tz_spec h0 h).2
  subst ha
  unfold hasW
  rw [decide_eq_false (p := 64 - 0 - 0 ≤ tz d) (by omega), Bool.and_false]

/-- A window's bits of what differs. -/
def dbits (a b d : Nat) : List Bool := numBits (d / 2 ^ (64 - a - b)) b
@[simp] theorem dbits_length (a b d : Nat) : (dbits a b d).length = b := by simp [dbits]
/-- They are all of it. -/
theorem dbits_whole {a b d : Nat} (h0 : d ≠ 0) (h : d < 18446744073709551616) (hw : a + b ≤ 64) (hh : hasW a b d = true) : val (dbits a b d) * 2 ^ (64 - a - b) = d := by
  unfold hasW at hh
  simp only [Bool.and_eq_true, decide_eq_true_eq] at hh
  have h1 := bl_le d h
  have h2 : d < 2 ^ (64 - a) := Nat.lt_of_lt_of_le (bl_lt h0 h) (Nat.pow_le_pow_right (by omega) (by omega))
  have h3 := tz_dvd h0 h hh.2
  unfold dbits
  rw [val_numBits, Nat.mod_eq_of_lt, Nat.div_mul_cancel h3]
  rw [Nat.div_lt_iff_lt_mul (Nat.two_pow_pos _), ← Nat.pow_add, show b + (64 - a - b) = 64 - a from by omega]
  exact h2
theorem numBits_window (v a b : Nat) (h : a + b ≤ 64) : ((numBits v 64).drop a).take b = dbits a b v := by
  apply List.ext_getElem
  · simp; omega
  · intro i h1 h2
    simp only [dbits_length] at h2
    simp only [dbits, numBits, List.getElem_take, List.getElem_drop, List.getElem_map, List.getElem_range]
    rw [Nat.testBit_div_two_pow]
    congr 1
    omega

/-- A row of values: the last one, how many, and the window. -/
structure XRow where
  last : Nat
  n : Nat
  a : Nat
  b : Nat
def XRow.ok (s : XRow) : Prop := s.last < 18446744073709551616 ∧ wok s.a s.b
def xnew : XRow := ⟨0, 0, 0, 0⟩
theorem xnew_ok : xnew.ok := ⟨by decide, .inl ⟨rfl, rfl⟩⟩
/-- The window of which what differs is put. -/
def fw (a b d : Nat) : Nat × Nat := if hasW a b d = true then (a, b) else (wa d, wb d)
/-- The bits of what differs. -/
def diffBits (a b d : Nat) : List Bool := if hasW a b d = true then false :: dbits a b d else true :: (numBits (wa d) 5 ++ numBits (wb d) 6 ++ dbits (wa d) (wb d) d)
/-- The bits of one more. -/
def xbits (s : XRow) (v : Nat) : List Bool := if s.n = 0 then numBits v 64 else if v ^^^ s.last = 0 then [false] else true :: diffBits s.a s.b (v ^^^ s.last)
/-- The row with one more. -/
def xnext (s : XRow) (v : Nat) : XRow := if s.n = 0 then ⟨v, s.n + 1, s.a, s.b⟩ else if v ^^^ s.last = 0 then ⟨v, s.n + 1, s.a, s.b⟩ else ⟨v, s.n + 1, (fw s.a s.b (v ^^^ s.last)).1, (fw s.a s.b (v ^^^ s.last)).2⟩

theorem xor_lt {u v : Nat} (hu : u < 18446744073709551616) (hv : v < 18446744073709551616) : u ^^^ v < 18446744073709551616 := Nat.xor_lt_two_pow (n := 64) hu hv
theorem xor_zero {u v : Nat} : u ^^^ v = 0 ↔ u = v := by
  constructor
  · intro h
    apply Nat.eq_of_testBit_eq
    intro i
    have := congrArg (fun x => Nat.testBit x i) h
    simp only [Nat.testBit_xor, Nat.zero_testBit] at this
    cases h1 : u.testBit i <;> cases h2 : v.testBit i <;> simp_all
  · rintro rfl; exact Nat.xor_self _
theorem xor_back (u v : Nat) : u ^^^ (v ^^^ u) = v := by
  apply Nat.eq_of_testBit_eq
  intro i
  simp only [Nat.testBit_xor]
  cases u.testBit i <;> cases v.testBit i <;> rfl
theorem fw_ok {a b d : Nat} (hw : wok a b) (h0 : d ≠ 0) (h : d < 18446744073709551616) : wok (fw a b d).1 (fw a b d).2 := by
  unfold fw
  split
  · exact hw
  · exact wok_told h0 h
theorem fw_pos {a b d : Nat} (hw : wok a b) (h0 : d ≠ 0) (h : d < 18446744073709551616) : 1 ≤ (fw a b d).2 ∧ hasW (fw a b d).1 (fw a b d).2 d = true := by
  unfold fw
  split
  · next hh =>
    refine ⟨?_, hh⟩
    rcases hw with ⟨rfl, rfl⟩ | ⟨_, h1, _⟩
    · rw [hasW_none h0 h rfl] at hh; cases hh
    · exact h1
  · exact ⟨(wa_wb h0 h).2.1, hasW_told h0 h⟩
theorem fw_same {a b d : Nat} (h0 : d ≠ 0) (h : d < 18446744073709551616) (hh : hasW a b d = false) : ¬ (wa d = a ∧ wb d = b) := by
  rintro ⟨rfl, rfl⟩
  rw [hasW_told h0 h] at hh; cases hh
theorem xnext_ok {s : XRow} {v : Nat} (hs : s.ok) (hv : v < 18446744073709551616) : (xnext s v).ok := by
  unfold xnext
  split
  · exact ⟨hv, hs.2⟩
  · split
    · exact ⟨hv, hs.2⟩
    · next h => exact ⟨hv, fw_ok hs.2 h (xor_lt hv hs.1)⟩
theorem xnext_last (s : XRow) (v : Nat) : (xnext s v).last = v := by unfold xnext; split <;> (try split) <;> rfl
theorem xnext_n (s : XRow) (v : Nat) : (xnext s v).n = s.n + 1 := by unfold xnext; split <;> (try split) <;> rfl
theorem diffBits_le {a b d : Nat} (hw : wok a b) (h0 : d ≠ 0) (h : d < 18446744073709551616) : (diffBits a b d).length ≤ 76 := by
  have := hw.le
  have := wa_wb h0 h
  unfold diffBits
  split <;> simp <;> omega
theorem xbits_le {s : XRow} {v : Nat} (hs : s.ok) (hv : v < 18446744073709551616) : (xbits s v).length ≤ 77 := by
  unfold xbits
  split
  · simp
  · split
    · simp
    · next h => have := diffBits_le hs.2 h (xor_lt hv hs.1); simp; omega

/-! What is read -/
/-- n bits of l from pos on, as a number. -/
def rd (l : List Bool) (pos n : Nat) : Nat := val ((l.drop pos).take n)
theorem rd_lt (l : List Bool) (pos n : Nat) : rd l pos n < 2 ^ n :=
  Nat.lt_of_lt_of_le (val_lt _) (Nat.pow_le_pow_right (by omega) (by simp; omega))
theorem rd_put (x y z : List Bool) : rd (x ++ y ++ z) x.length y.length = val y := by
  unfold rd
  rw [List.append_assoc, List.drop_left, List.take_left]
theorem rd_at {l x y z : List Bool} {pos n : Nat} (e : l = x ++ y ++ z) (hp : pos = x.length) (hn : n = y.length) : rd l pos n = val y := by
  subst e hp hn; exact rd_put x y z
/-- What is put of a window that has all, and what is read of it. -/
theorem own_put {a b d : Nat} (x z : List Bool) (hw : wok a b) (h0 : d ≠ 0) (h : d < 18446744073709551616) (hh : hasW a b d = true) :
    rd (x ++ diffBits a b d ++ z) x.length 1 = 0 ∧ rd (x ++ diffBits a b d ++ z) (x.length + 1) b * 2 ^ (64 - a - b) = d ∧ (diffBits a b d).length = 1 + b ∧ fw a b d = (a, b) := by
  have hle := hw.le
  have e2 := dbits_whole h0 h hle.2 hh
  unfold diffBits fw
  rw [if_pos hh, if_pos hh]
  refine ⟨rd_at (y := [false]) (x := x) (z := dbits a b d ++ z) (by simp) rfl rfl, ?_, by simp; omega, rfl⟩
  rw [rd_at (x := x ++ [false]) (y := dbits a b d) (z := z) (by simp) (by simp) (by simp)]
  exact e2
/-- The same of a window that is told. -/
theorem told_put {a b d : Nat} (x z : List Bool) (h0 : d ≠ 0) (h : d < 18446744073709551616) (hh : hasW a b d = false) :
    rd (x ++ diffBits a b d ++ z) x.length 1 = 1 ∧ rd (x ++ diffBits a b d ++ z) (x.length + 1) 5 = wa d ∧ rd (x ++ diffBits a b d ++ z) (x.length + 1 + 5) 6 = wb d % 64 ∧ (if wb d % 64 = 0 then 64 else wb d % 64) = wb d
      ∧ rd (x ++ diffBits a b d ++ z) (x.length + 1 + 11) (wb d) * 2 ^ (64 - wa d - wb d) = d ∧ (diffBits a b d).length = 12 + wb d ∧ fw a b d = (wa d, wb d) := by
  obtain ⟨w1, w2, w3, w4⟩ := wa_wb h0 h
  have e2 := dbits_whole h0 h (by omega) (hasW_told h0 h)
  have hn : ¬ hasW a b d = true := by simp [hh]
  unfold diffBits fw
  rw [if_neg hn, if_neg hn]
  obtain ⟨A, hA⟩ : ∃ A, A = wa d := ⟨_, rfl⟩
  obtain ⟨W, hW⟩ : ∃ W, W = wb d := ⟨_, rfl⟩
  rw [← hA, ← hW] at w3 e2 ⊢
  rw [← hA] at w1 w4
  rw [← hW] at w2
  obtain ⟨l, hL⟩ : ∃ l, l = x ++ true :: (numBits A 5 ++ numBits W 6 ++ dbits A W d) ++ z := ⟨_, rfl⟩
  rw [← hL]
  refine ⟨rd_at (y := [true]) (x := x) (z := numBits A 5 ++ numBits W 6 ++ dbits A W d ++ z) (by rw [hL]; simp) rfl rfl, ?_, ?_, by split <;> omega, ?_, by simp; omega, rfl⟩
  · rw [rd_at (x := x ++ [true]) (y := numBits A 5) (z := numBits W 6 ++ dbits A W d ++ z) (by rw [hL]; simp) (by simp) (by simp), val_numBits]
    exact Nat.mod_eq_of_lt (by omega)
  · rw [rd_at (x := x ++ [true] ++ numBits A 5) (y := numBits W 6) (z := dbits A W d ++ z) (by rw [hL]; simp) (by simp) (by simp), val_numBits]
  · rw [rd_at (x := x ++ [true] ++ numBits A 5 ++ numBits W 6) (y := dbits A W d) (z := z) (by rw [hL]; simp) (by simp) (by simp)]
    exact e2
end Go.Proofs.YtjijbegoehpicaaDoor.Windows
