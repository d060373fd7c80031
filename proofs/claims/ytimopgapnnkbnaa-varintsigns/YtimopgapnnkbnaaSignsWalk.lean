/-
  The walk of tidepolelaw03.VarintSigns: it returns true, whatever it is given, and writes nothing that was there.
-/
import Derived.Test.YtimopgapnnkbnaaAwake
namespace Go.Proofs.Ytimopgapnnkbnaa
open Go.RowKit Mem Bits Sevens
set_option linter.unusedSimpArgs false
set_option linter.unusedVariables false

set_option maxRecDepth 100000 in
set_option maxHeartbeats 1000000 in
theorem signs_walk (a0 a1 : Int) (w : World) (w0 : (Lit.int .i64 a0).wf = true) (w1 : (Lit.int .u64 a1).wf = true) :
    Calls Try.prog 4 #[.int .i64 a0, .int .u64 a1] w fun e w' => e = .returned (.bool true) ∧ Below w.heap.size w w' := by
  simp [Lit.wf, IntKind.min, IntKind.max, IntKind.bits, IntKind.signed] at w0 w1
  obtain ⟨u, rfl⟩ := Int.eq_ofNat_of_zero_le w1.1
  have hu : u < 18446744073709551616 := by omega
  have hz := zig_lt w0.1 (by omega)
  have hg := zag_in hu
  have e1 := zag_zig a0
  have e2 := zig_zag u
  go_enter Try.func4, Try.ntmps4
  go_wp2_with fail
  refine (zig_any a0 w (by omega) (by omega)).mono ?_
  rintro e wa ⟨rfl, rfl⟩
  go_wp2_with fail
  refine (rzig_any a0 w (by omega) (by omega)).mono ?_
  rintro e wa ⟨rfl, rfl⟩
  go_wp2_with fail
  refine (zig_any a0 w (by omega) (by omega)).mono ?_
  rintro e wa ⟨rfl, rfl⟩
  go_wp2_with fail
  refine (zag_any (zig a0) w hz).mono ?_
  rintro e wa ⟨rfl, rfl⟩
  rw [e1]
  go_wp2_with fail
  refine (zag_any u w hu).mono ?_
  rintro e wa ⟨rfl, rfl⟩
  go_wp2_with fail
  refine (zig_any (zag u) w hg.1 hg.2).mono ?_
  rintro e wa ⟨rfl, rfl⟩
  rw [e2]
  go_wp2_with fail
  refine (awake_any w).mono ?_
  rintro e wa ⟨rfl, hf⟩
  go_wp2_with fail
  go_ret
  exact ⟨rfl, hf.below (Nat.le_refl _) (by simp)⟩
end Go.Proofs.Ytimopgapnnkbnaa
