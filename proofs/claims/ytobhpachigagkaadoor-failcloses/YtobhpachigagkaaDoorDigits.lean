/-
  tidepoleref02.Digits: the decimal digits of any int.
-/
import Derived.Test.YtobhpachigagkaaDoorTextStep
import Derived.Laws.BytesString
import Derived.Laws.BytesArg
import Derived.Deep.RegionWith
namespace Go.Proofs.YtobhpachigagkaaDoor
open Go.RowKit Go.Extern.Stop Go.Stop Go.Extern Mem
set_option linter.unusedVariables false
set_option maxRecDepth 100000

/-- The byte of a number. -/
def byteOf (z : Int) : UInt8 := UInt8.ofNat z.toNat
/-- string([]byte{z}). -/
theorem run_str1 (W : World) (g : Nat) (z : Int) (hc : W.cell? ⟨g, 0, none⟩ = some (.int .u8 z)) :
    (convert 62 9 (.slice (some ⟨g, 0, none⟩) 1 1)).run Tryd.prog W = .ok (.string ⟨#[byteOf z]⟩) W := by
  rw [run_convert_bytes_arg W 62 5 Tryd.underlying62 Tryd.underlying5 g 0 1 1 [z] rfl (fun i hi => by
    have : i = 0 := by omega
    subst this
    simpa using hc) 9 Tryd.underlying9]
  rfl

theorem dec_small (u : Nat) (h : u < 10) : Lib.decDigits u = [UInt8.ofNat (48 + u)] := by rw [Lib.decDigits, dif_pos h]
theorem dec_big (u : Nat) (h : ¬ u < 10) : Lib.decDigits u = Lib.decDigits (u / 10) ++ [UInt8.ofNat (48 + u % 10)] := by rw [Lib.decDigits, dif_neg h]

set_option maxHeartbeats 2000000 in
theorem digits_small (u : Nat) (h : u < 10) (w : World) : Calls Tryd.prog 18 #[.int .i64 (u : Int)] w fun e w' => e = .returned (.string ⟨(Lib.decDigits u).toArray⟩) ∧ Fr [] w w' := by
  have h1 : (u : Int) < 10 := by omega
  have h0 : ¬ (u : Int) < 0 := by omega
  have hcv := run_str1 (w.alloc (.cells #[.int .u8 (48 + (u : Int))] 5)) w.heap.size (48 + (u : Int)) (by simp)
  have HD : Hid (ByteArray.mk (Lib.decDigits u).toArray = ⟨#[byteOf (48 + (u : Int))]⟩) := by
    rw [Hid, dec_small u h, byteOf]
    have : (48 + (u : Int)).toNat = 48 + u := by omega
    rw [this]
  go_enter Tryd.func18, Tryd.ntmps18
  go_wp2
  go_ret
  exact ⟨by rw [HD.out]; rfl, (Fr.refl _ _).alloc _⟩

set_option maxHeartbeats 4000000 in
theorem digits_walk (u q m d : Int) (D : ByteArray) (h0 : 0 ≤ u) (h1 : 10 ≤ u) (q1 : IntKind.i64.wrap (u.tdiv 10) = q) (q2 : u.tmod 10 = m) (q3 : IntKind.i64.wrap (48 + m) = d) (q4 : IntKind.u8.wrap d = d)
    (ih : ∀ w, Calls Tryd.prog 18 #[.int .i64 q] w fun e w' => e = .returned (.string D) ∧ Fr [] w w') (hadd : ∀ W, (Op.stringOp .add D ⟨#[byteOf d]⟩).run Tryd.prog W = .ok (.string (D ++ ⟨#[byteOf d]⟩)) W) (w : World) :
    Calls Tryd.prog 18 #[.int .i64 u] w fun e w' => e = .returned (.string (D ++ ⟨#[byteOf d]⟩)) ∧ Fr [] w w' := by
  have IH : Hid (∀ w, Calls Tryd.prog 18 #[.int .i64 q] w fun e w' => e = .returned (.string D) ∧ Fr [] w w') := ih
  have hcv : ∀ (W : World) (g : Nat), W.cell? ⟨g, 0, none⟩ = some (.int .u8 d) → (convert 62 9 (.slice (some ⟨g, 0, none⟩) 1 1)).run Tryd.prog W = .ok (.string ⟨#[byteOf d]⟩) W := fun W g h => run_str1 W g d h
  clear ih
  go_enter Tryd.func18, Tryd.ntmps18
  go_wp2
  go_region_with (go_at_call 18; refine (IH.out _).mono ?_; rintro e w1 ⟨rfl, f1⟩; have k1 := fun h => f1.cell_some (p := ⟨w.heap.size, 0, none⟩) (v := .int .u8 d) h (by simp); (try simp at k1))
  all_goals go_wp2
  all_goals go_ret
  all_goals refine ⟨rfl, ?_⟩
  all_goals first
    | exact ⟨f1.os, f1.tape, f1.output, f1.size, f1.block⟩
    | exact (show Fr [] w w1 from ⟨f1.os, f1.tape, f1.output, f1.size, f1.block⟩).alloc _
    | exact ((Fr.refl [] w).alloc _).trans (show Fr [] (w.alloc (.cells #[.int .u8 d] 5)) w1 from ⟨f1.os, f1.tape, f1.output, f1.size, f1.block⟩) (by simp)

theorem dec_len (k : Nat) : ∀ u : Nat, u < 10 ^ (k + 1) → (Lib.decDigits u).length ≤ k + 1 := by
  induction k with
  | zero => intro u hu; rw [Lib.decDigits]; simp at hu; simp [hu]
  | succ k ih =>
    intro u hu
    rw [Lib.decDigits]
    split
    · simp
    · have := ih (u / 10) (by rw [Nat.div_lt_iff_lt_mul (by decide)]; rw [Nat.pow_succ] at hu; exact hu)
      simp
      omega
theorem wrap_of (x : Int) (h0 : -9223372036854775808 ≤ x) (h1 : x ≤ 9223372036854775807) : IntKind.i64.wrap x = x := by
  rw [IntKind.wrap_i64]; omega
theorem wrap8_of (x : Int) (h0 : 0 ≤ x) (h1 : x ≤ 255) : IntKind.u8.wrap x = x := by
  rw [IntKind.wrap_u8]; omega

theorem digits_nat (k : Nat) : ∀ (u : Nat), u < 10 ^ (k + 1) → u ≤ 9223372036854775807 → ∀ w, Calls Tryd.prog 18 #[.int .i64 (u : Int)] w fun e w' => e = .returned (.string ⟨(Lib.decDigits u).toArray⟩) ∧ Fr [] w w' := by
  induction k with
  | zero => intro u hu _ w; exact digits_small u (by simpa using hu) w
  | succ k ih =>
    intro u hu h63 w
    by_cases h : u < 10
    · exact digits_small u h w
    · have hq := ih (u / 10) (by rw [Nat.div_lt_iff_lt_mul (by decide)]; rw [Nat.pow_succ] at hu; exact hu) (by omega)
      have hl := dec_len 18 (u / 10) (by have : (10 : Nat) ^ (18 + 1) = 10000000000000000000 := by decide
                                         omega)
      have hd : ((48 + u % 10 : Nat) : Int) = 48 + (u : Int) % 10 := by omega
      refine (digits_walk (u : Int) ((u / 10 : Nat) : Int) ((u : Int) % 10) ((48 + u % 10 : Nat) : Int) ⟨(Lib.decDigits (u / 10)).toArray⟩ (by omega) (by omega) ?_ ?_ ?_ ?_ hq ?_ w).mono ?_
      · rw [Int.tdiv_eq_ediv_of_nonneg (by omega), wrap_of _ (by omega) (by omega)]; omega
      · rw [Int.tmod_eq_emod_of_nonneg (by omega)]
      · rw [hd, wrap_of _ (by omega) (by omega)]
      · exact wrap8_of _ (by omega) (by omega)
      · intro W
        refine adds _ _ ?_ W
        rw [size_mk]
        have : (ByteArray.mk #[byteOf ((48 + u % 10 : Nat) : Int)]).size = 1 := rfl
        omega
      · rintro e w' ⟨rfl, f⟩
        refine ⟨?_, f⟩
        rw [dec_big u h]
        have e1 : (⟨(Lib.decDigits (u / 10)).toArray⟩ ++ ⟨#[byteOf ((48 + u % 10 : Nat) : Int)]⟩ : ByteArray) = ⟨(Lib.decDigits (u / 10) ++ [UInt8.ofNat (48 + u % 10)]).toArray⟩ := by
          have e2 : byteOf ((48 + u % 10 : Nat) : Int) = UInt8.ofNat (48 + u % 10) := by rw [byteOf, Int.toNat_natCast]
          rw [e2]
          generalize UInt8.ofNat (48 + u % 10) = y
          apply ByteArray.ext
          rw [ByteArray.data_append]
          simp
        rw [e1]

theorem min_digits : (ByteArray.mk (Lib.itoa (-9223372036854775808)).toArray) = ⟨#[45, 57, 50, 50, 51, 51, 55, 50, 48, 51, 54, 56, 53, 52, 55, 55, 53, 56, 48, 56]⟩ := by
  have h : Lib.itoa (-9223372036854775808) = [45, 57, 50, 50, 51, 51, 55, 50, 48, 51, 54, 56, 53, 52, 55, 55, 53, 56, 48, 56] := by
    rw [Lib.itoa, if_pos (by omega)]
    rw [show (-9223372036854775808 : Int).natAbs = 9223372036854775808 from rfl]
    iterate 18 rw [dec_big _ (by decide)]
    rw [dec_small _ (by decide)]
    decide
  rw [h]

set_option maxHeartbeats 2000000 in
theorem digits_min (w : World) : Calls Tryd.prog 18 #[.int .i64 (-9223372036854775808)] w fun e w' => e = .returned (.string ⟨(Lib.itoa (-9223372036854775808)).toArray⟩) ∧ Fr [] w w' := by
  have HD : Hid (ByteArray.mk (Lib.itoa (-9223372036854775808)).toArray = ⟨#[45, 57, 50, 50, 51, 51, 55, 50, 48, 51, 54, 56, 53, 52, 55, 55, 53, 56, 48, 56]⟩) := min_digits
  rw [HD.out]
  clear HD
  go_enter Tryd.func18, Tryd.ntmps18
  go_wp2
  go_ret
  exact ⟨rfl, Fr.refl _ _⟩

set_option maxHeartbeats 2000000 in
theorem digits_neg (n m : Int) (D : ByteArray) (h0 : n < 0) (h1 : -9223372036854775807 ≤ n) (hm : -n = m) (hq : ∀ w, Calls Tryd.prog 18 #[.int .i64 m] w fun e w' => e = .returned (.string D) ∧ Fr [] w w')
    (hadd : ∀ W, (Op.stringOp .add ⟨#[45]⟩ D).run Tryd.prog W = .ok (.string (⟨#[45]⟩ ++ D)) W) (w : World) :
    Calls Tryd.prog 18 #[.int .i64 n] w fun e w' => e = .returned (.string (⟨#[45]⟩ ++ D)) ∧ Fr [] w w' := by
  have HQ : Hid (∀ w, Calls Tryd.prog 18 #[.int .i64 m] w fun e w' => e = .returned (.string D) ∧ Fr [] w w') := hq
  have hne : (n == -9223372036854775808) = false := by simp; omega
  clear hq
  go_enter Tryd.func18, Tryd.ntmps18
  go_wp2_with fail
  refine (HQ.out _).mono ?_
  rintro e w1 ⟨rfl, f1⟩
  go_wp2_with fail
  go_ret
  exact ⟨rfl, f1⟩

/-- tidepoleref02.Digits of any int. -/
theorem digits_any (n : Int) (h0 : -9223372036854775808 ≤ n) (h1 : n ≤ 9223372036854775807) (w : World) :
    Calls Tryd.prog 18 #[.int .i64 n] w fun e w' => e = .returned (.string ⟨(Lib.itoa n).toArray⟩) ∧ Fr [] w w' := by
  have hp : (10 : Nat) ^ (18 + 1) = 10000000000000000000 := by decide
  by_cases hn : n < 0
  · by_cases hm : n = -9223372036854775808
    · subst hm; exact digits_min w
    · have hq := digits_nat 18 n.natAbs (by omega) (by omega)
      refine (digits_neg n (n.natAbs : Int) ⟨(Lib.decDigits n.natAbs).toArray⟩ hn (by omega) (by omega) hq ?_ w).mono ?_
      · intro W
        refine adds _ _ ?_ W
        have h2 := dec_len 18 n.natAbs (by omega)
        have h3 : (ByteArray.mk #[45]).size = 1 := rfl
        have h4 := size_mk (Lib.decDigits n.natAbs)
        omega
      · rintro e w' ⟨rfl, f⟩
        refine ⟨?_, f⟩
        rw [Lib.itoa, if_pos hn]
        have e1 : (⟨#[45]⟩ ++ ⟨(Lib.decDigits n.natAbs).toArray⟩ : ByteArray) = ⟨(45 :: Lib.decDigits n.natAbs).toArray⟩ := by
          apply ByteArray.ext
          rw [ByteArray.data_append]
          simp
        rw [e1]
  · obtain ⟨u, rfl⟩ : ∃ u : Nat, n = u := ⟨n.toNat, by omega⟩
    refine (digits_nat 18 u (by omega) (by omega) w).mono ?_
    rintro e w' ⟨rfl, f⟩
    refine ⟨?_, f⟩
    rw [Lib.itoa, if_neg hn]
    rfl
end Go.Proofs.YtobhpachigagkaaDoor
