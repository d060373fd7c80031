/-
  FhistFloats: the walk.
-/
import Derived.Test.YtoaibabkkphlaaaGH
import Derived.Test.YtoaibabkkphlaaaGE
import Derived.Test.YtoaibabkkphlaaaGF
namespace Go.Proofs.Ytoaibabkkphlaaa
open Go.RowKit Mem Spans Floats
set_option linter.unusedSimpArgs false
set_option linter.unusedVariables false
set_option maxRecDepth 100000

theorem lfloatI_any (z : Int) (w : World) (h : inu z) :
    Calls Try.prog 40 #[.int .u64 z] w fun e w' => e = .returned (.int .u64 (flI z)) ∧ Fr [] w w' := by
  unfold inu at h
  obtain ⟨n, rfl⟩ := Int.eq_ofNat_of_zero_le h.1
  have := lfloat10_any n w (by omega)
  simpa [flI] using this
/-- The document's second answer. -/
def w1I (z : Int) : Int := wh1 z.toNat
theorem lwholeI_any (z : Int) (w : World) (h : inu z) :
    Calls Try.prog 38 #[.int .u64 z] w fun e w' => e = .returned (.tuple #[.int .u64 (wvI z), .int .i64 (w1I z)]) ∧ Fr [] w w' := by
  unfold inu at h
  obtain ⟨n, rfl⟩ := Int.eq_ofNat_of_zero_le h.1
  have := lwhole10_any n w (by omega)
  simpa [wvI, w1I] using this
theorem w1_cases (z : Int) : (wbI z = true ∧ w1I z = 1) ∨ (wbI z = false ∧ w1I z = 0) := by
  unfold wbI w1I wh1
  cases whb z.toNat
  · exact .inr ⟨rfl, rfl⟩
  · exact .inl ⟨rfl, rfl⟩
theorem flI_wv {z : Int} (hz : inu z) (h : wbI z = true) : flI (wvI z) = z := by
  unfold inu at hz
  obtain ⟨n, rfl⟩ := Int.eq_ofNat_of_zero_le hz.1
  unfold wbI whb at h
  unfold flI wvI whv
  simp only [Int.toNat_natCast] at h ⊢
  cases hw : whl n with
  | none => rw [hw] at h; cases h
  | some m =>
    have : flt m = n := by
      unfold whl at hw
      split at hw
      · split at hw
        · rename_i e; cases hw; exact e
        · cases hw
      · cases hw
    simp [this]
theorem flI_mono {a b : Int} (h : a ≤ b) : flI a ≤ flI b := by
  unfold flI
  have := flt_mono (show a.toNat ≤ b.toNat by omega)
  omega

set_option maxHeartbeats 4000000 in
theorem ffloats_walk (a b v : Int) (w : World) (w0 : (Lit.int .u64 a).wf = true) (w1 : (Lit.int .u64 b).wf = true) (w2 : (Lit.int .u64 v).wf = true) :
    Calls Try.prog 9 #[.int .u64 a, .int .u64 b, .int .u64 v] w fun e w' => e = .returned (.bool true) ∧ Below w.heap.size w w' := by
  have HA : Hid (inu a ∧ inu b ∧ inu v) := ⟨of_wf w0, of_wf w1, of_wf w2⟩
  clear w0 w1 w2
  go_enter Try.func9, Try.ntmps9
  go_wp2_with fail
  refine (wholeI_any v w HA.out.2.2).mono ?_
  rintro e w1 ⟨rfl, rfl⟩
  go_wp2_with fail
  refine (lwholeI_any v w HA.out.2.2).mono ?_
  rintro e w2 ⟨rfl, hf2⟩
  have HF2 : Hid (Fr [] w w2) := hf2
  have HFV : Hid (wbI v = true → flI (wvI v) = v) := flI_wv HA.out.2.2
  have HWI : Hid (inu (wvI v)) := wvI_in v
  have hcs := w1_cases v
  clear hf2
  generalize wvI v = V at *
  have HREST : Hid (∀ wx, Fr [] w wx → Calls Try.prog 13 #[] wx fun e w' => e = .returned (.bool true) ∧ Fr [] w w') := by
    intro wx hx
    refine (awake10_any wx).mono ?_
    rintro e w' ⟨rfl, hf⟩
    exact ⟨rfl, hx.trans hf (by simp)⟩
  rcases hcs with ⟨hb, h1⟩ | ⟨hb, h1⟩
  · have HV : Hid (flI V = v) := HFV.out hb
    rw [hb, h1]
    clear hb h1 HFV
    go_wp2_with fail
    refine (floatI_any V w2 HWI.out).mono ?_
    rintro e w3 ⟨rfl, rfl⟩
    rw [HV.out]
    go_wp2_with fail
    refine (floatI_any a w2 HA.out.1).mono ?_
    rintro e w4 ⟨rfl, rfl⟩
    go_wp2_with fail
    refine (lfloatI_any a w2 HA.out.1).mono ?_
    rintro e w5 ⟨rfl, hf5⟩
    have HF5 : Hid (Fr [] w w5) := HF2.out.trans hf5 (by simp)
    clear hf5
    by_cases hab : a < b
    · have hle : flI a ≤ flI b := flI_mono (by omega)
      have hle2 : a ≤ b := by omega
      have hab2 : ¬ b < a := by omega
      skip
      go_wp2_with fail
      refine (floatI_any a w5 HA.out.1).mono ?_
      rintro e w6 ⟨rfl, rfl⟩
      go_wp2_with fail
      refine (floatI_any b w5 HA.out.2.1).mono ?_
      rintro e w7 ⟨rfl, rfl⟩
      go_wp2_with fail
      refine (HREST.out _ HF5.out).mono ?_
      rintro e w8 ⟨rfl, hf8⟩
      have HF8 : Hid (Fr [] w w8) := hf8
      clear hf8
      go_wp2
      go_ret
      exact ⟨rfl, HF8.out.below (Nat.le_refl _) (by simp)⟩
    · by_cases heq : a = b
      · have hle : flI a ≤ flI a := Int.le_refl _
        subst heq
        skip
        go_wp2_with fail
        refine (floatI_any a w5 HA.out.1).mono ?_
        rintro e w6 ⟨rfl, rfl⟩
        go_wp2_with fail
        refine (floatI_any a w5 HA.out.1).mono ?_
        rintro e w7 ⟨rfl, rfl⟩
        go_wp2_with fail
        refine (HREST.out _ HF5.out).mono ?_
        rintro e w8 ⟨rfl, hf8⟩
        have HF8 : Hid (Fr [] w w8) := hf8
        clear hf8
        go_wp2
        go_ret
        exact ⟨rfl, HF8.out.below (Nat.le_refl _) (by simp)⟩
      · have hba : b < a := by omega
        have hle : flI b ≤ flI a := flI_mono (by omega)
        skip
        go_wp2_with fail
        refine (floatI_any b w5 HA.out.2.1).mono ?_
        rintro e w6 ⟨rfl, rfl⟩
        go_wp2_with fail
        refine (floatI_any a w5 HA.out.1).mono ?_
        rintro e w7 ⟨rfl, rfl⟩
        go_wp2_with fail
        refine (HREST.out _ HF5.out).mono ?_
        rintro e w8 ⟨rfl, hf8⟩
        have HF8 : Hid (Fr [] w w8) := hf8
        clear hf8
        go_wp2
        go_ret
        exact ⟨rfl, HF8.out.below (Nat.le_refl _) (by simp)⟩
  · rw [hb, h1]
    clear hb h1 HFV
    go_wp2_with fail
    refine (floatI_any a w2 HA.out.1).mono ?_
    rintro e w4 ⟨rfl, rfl⟩
    go_wp2_with fail
    refine (lfloatI_any a w2 HA.out.1).mono ?_
    rintro e w5 ⟨rfl, hf5⟩
    have HF5 : Hid (Fr [] w w5) := HF2.out.trans hf5 (by simp)
    clear hf5
    by_cases hab : a < b
    · have hle : flI a ≤ flI b := flI_mono (by omega)
      have hle2 : a ≤ b := by omega
      have hab2 : ¬ b < a := by omega
      skip
      go_wp2_with fail
      refine (floatI_any a w5 HA.out.1).mono ?_
      rintro e w6 ⟨rfl, rfl⟩
      go_wp2_with fail
      refine (floatI_any b w5 HA.out.2.1).mono ?_
      rintro e w7 ⟨rfl, rfl⟩
      go_wp2_with fail
      refine (HREST.out _ HF5.out).mono ?_
      rintro e w8 ⟨rfl, hf8⟩
      have HF8 : Hid (Fr [] w w8) := hf8
      clear hf8
      go_wp2
      go_ret
      exact ⟨rfl, HF8.out.below (Nat.le_refl _) (by simp)⟩
    · by_cases heq : a = b
      · have hle : flI a ≤ flI a := Int.le_refl _
        subst heq
        skip
        go_wp2_with fail
        refine (floatI_any a w5 HA.out.1).mono ?_
        rintro e w6 ⟨rfl, rfl⟩
        go_wp2_with fail
        refine (floatI_any a w5 HA.out.1).mono ?_
        rintro e w7 ⟨rfl, rfl⟩
        go_wp2_with fail
        refine (HREST.out _ HF5.out).mono ?_
        rintro e w8 ⟨rfl, hf8⟩
        have HF8 : Hid (Fr [] w w8) := hf8
        clear hf8
        go_wp2
        go_ret
        exact ⟨rfl, HF8.out.below (Nat.le_refl _) (by simp)⟩
      · have hba : b < a := by omega
        have hle : flI b ≤ flI a := flI_mono (by omega)
        skip
        go_wp2_with fail
        refine (floatI_any b w5 HA.out.2.1).mono ?_
        rintro e w6 ⟨rfl, rfl⟩
        go_wp2_with fail
        refine (floatI_any a w5 HA.out.1).mono ?_
        rintro e w7 ⟨rfl, rfl⟩
        go_wp2_with fail
        refine (HREST.out _ HF5.out).mono ?_
        rintro e w8 ⟨rfl, hf8⟩
        have HF8 : Hid (Fr [] w w8) := hf8
        clear hf8
        go_wp2
        go_ret
        exact ⟨rfl, HF8.out.below (Nat.le_refl _) (by simp)⟩
end Go.Proofs.Ytoaibabkkphlaaa
