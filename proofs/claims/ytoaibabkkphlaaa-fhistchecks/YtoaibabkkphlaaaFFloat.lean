/-
  Package fhist: Float, Whole.
-/
import Derived.Test.YtoaibabkkphlaaaFMem
import Derived.Test.YtoaibabkkphlaaaFloats
import Derived.Laws.Externs
namespace Go.Proofs.Ytoaibabkkphlaaa
open Go.RowKit Mem Spans Floats
set_option linter.unusedSimpArgs false
set_option linter.unusedVariables false
set_option maxRecDepth 100000

theorem run_bits (v : Nat) (w : World) : (callFunc 66 #[.float .f64 v]).run Try.prog w = .ok (.value (.int .u64 (v : Int))) w := by
  rw [run_callFunc_extern Try.func66 (by kernel_rfl) (by kernel_rfl) (by kernel_rfl) (e := Extern.MathFloatBits.float64bits) (by kernel_rfl)]
  rfl
theorem run_frombits (v : Nat) (w : World) : (callFunc 65 #[.int .u64 (v : Int)]).run Try.prog w = .ok (.value (.float .f64 v)) w := by
  rw [run_callFunc_extern Try.func65 (by kernel_rfl) (by kernel_rfl) (by kernel_rfl) (e := Extern.MathFloatBits.float64frombits) (by kernel_rfl)]
  rfl

set_option maxHeartbeats 400000 in
theorem float_any (n : Nat) (w : World) (h : n < 18446744073709551616) :
    Calls Try.prog 39 #[.int .u64 (n : Int)] w fun e w' => e = .returned (.int .u64 (flt n : Int)) ∧ w = w' := by
  have hb := run_bits
  have hc : ∀ w, (convert 22 106 (.int .u64 (n : Int))).run Try.prog w = .ok (.float .f64 (flt n)) w := by
    intro w
    rw [run_convert_int_float w 22 106 .u64 .f64 n (by rw [Try.underlying22]; rfl) Try.underlying106, nearest_flt h]
  go_enter Try.func39, Try.ntmps39
  go_wp2_with (simp only [hc])
  go_ret
  exact ⟨rfl, rfl⟩

/-- Whole's answers. -/
def whv (v : Nat) : Nat := (whl v).getD 0
def whb (v : Nat) : Bool := (whl v).isSome
theorem whl_pos {v : Nat} (h : v < 4895412794951729152) (e : flt (trn v) = v) : whl v = some (trn v) := by unfold whl; rw [if_pos h, if_pos e]
theorem whl_neg {v : Nat} (h : ¬ (v < 4895412794951729152 ∧ flt (trn v) = v)) : whl v = none := by
  unfold whl
  split
  · rename_i h1
    rw [if_neg (fun e => h ⟨h1, e⟩)]
  · rfl

set_option maxHeartbeats 1000000 in
theorem whole_any (v : Nat) (w : World) :
    Calls Try.prog 37 #[.int .u64 (v : Int)] w fun e w' => e = .returned (.tuple #[.int .u64 (whv v : Int), .bool (whb v)]) ∧ w = w' := by
  have hb := run_frombits v
  go_enter Try.func37, Try.ntmps37
  by_cases h1 : v < 9218868437227405312
  · have HR : Hid (rgt (v : Int) = true) := decide_eq_true (by omega)
    have ho := order_two h1
    by_cases h2 : v < 4895412794951729152
    · have hd : decide (4895412794951729152 ≤ v) = false := decide_eq_false (by omega)
      rw [hd] at ho
      have hc : ∀ w, (convert 106 22 (.float .f64 v)).run Try.prog w = .ok (.int .u64 (trn v : Int)) w := fun w => run_convert_float_int w 106 22 .f64 .u64 v _ (by rw [Try.underlying106]; rfl) Try.underlying22 (toInt_trn h2)
      have HT : Hid (trn v < 18446744073709551616) := trn_lt h2
      have HV : Hid (v < 4895412794951729152) := h2
      clear h1 h2 hd
      go_wp2_with fail
      refine (right_any (v : Int) _).mono ?_
      rintro e w1 ⟨rfl, rfl⟩
      rw [HR.out]
      go_wp2_with (first | simp only [hc] | fail)
      refine (float_any (trn v) _ HT.out).mono ?_
      rintro e w1 ⟨rfl, rfl⟩
      clear ho hb
      by_cases h3 : flt (trn v) = v
      · have HW : Hid (whv v = trn v ∧ whb v = true) := by unfold Hid whv whb; rw [whl_pos HV.out h3]; exact ⟨rfl, rfl⟩
        rw [h3]
        go_wp2
        go_ret2
        exact ⟨by rw [HW.out.1, HW.out.2]; rfl, rfl⟩
      · have HW : Hid (whv v = 0 ∧ whb v = false) := by unfold Hid whv whb; rw [whl_neg (fun k => h3 k.2)]; exact ⟨rfl, rfl⟩
        have h4 : ¬ (flt (trn v) : Int) = (v : Int) := by omega
        have h5 : ((flt (trn v) : Int) != (v : Int)) = true := by simp only [bne_iff_ne, ne_eq]; exact h4
        clear h3
        generalize (flt (trn v) : Int) = X at *
        go_wp2
        go_ret2
        exact ⟨by rw [HW.out.1, HW.out.2]; rfl, rfl⟩
    · have hd : decide (4895412794951729152 ≤ v) = true := decide_eq_true (by omega)
      rw [hd] at ho
      have HW : Hid (whv v = 0 ∧ whb v = false) := by unfold Hid whv whb; rw [whl_neg (fun k => h2 k.1)]; exact ⟨rfl, rfl⟩
      clear h1 h2 hd
      go_wp2_with fail
      refine (right_any (v : Int) _).mono ?_
      rintro e w1 ⟨rfl, rfl⟩
      rw [HR.out]
      go_wp2
      go_ret2
      exact ⟨by rw [HW.out.1, HW.out.2]; rfl, rfl⟩
  · have HR : Hid (rgt (v : Int) = false) := decide_eq_false (by omega)
    have HW : Hid (whv v = 0 ∧ whb v = false) := by unfold Hid whv whb; rw [whl_neg (fun k => by omega)]; exact ⟨rfl, rfl⟩
    clear h1
    go_wp2_with fail
    refine (right_any (v : Int) _).mono ?_
    rintro e w1 ⟨rfl, rfl⟩
    rw [HR.out]
    go_wp2
    go_ret2
    exact ⟨by rw [HW.out.1, HW.out.2]; rfl, rfl⟩
end Go.Proofs.Ytoaibabkkphlaaa
