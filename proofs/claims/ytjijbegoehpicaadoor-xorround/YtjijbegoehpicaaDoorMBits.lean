/-
  The library's math/bits.Len64, LeadingZeros64, TrailingZeros64, walked at this program (nothing is assumed of them).
-/
import Derived.Test.YtjijbegoehpicaaDoorPure
import Derived.Test.YtjijbegoehpicaaDoorMLen
import Derived.Test.YtjijbegoehpicaaDoorWindows
import Derived.Laws.Bits64b
import Derived.Lib.BitFns
import Derived.Lib.TrailingZeros
namespace Go.Proofs.YtjijbegoehpicaaDoor
open Go.RowKit Mem Bits Windows
set_option linter.unusedSimpArgs false
set_option linter.unusedVariables false

/-- The library's table in its variable. -/
def XTab (w : World) : Prop := ∀ i, i < 64 → w.cell? ⟨0, i, none⟩ = some (.int .u8 ((Lib.deBruijn64tab.getD i 0 : Nat) : Int))
theorem XTab.kept {w w' : World} {S : List Nat} (h : XTab w) (f : Fr S w w') (hn : 0 ∉ S) : XTab w' := fun i hi => f.cell_some (h i hi) hn
theorem XTab.lt {w : World} (h : XTab w) : 0 < w.heap.size := World.block_lt_of_cell? w _ (h 0 (by omega))
theorem XTab.drew {w : World} (h : XTab w) : XTab w.drew := h

theorem lz_any (d : Nat) (w : World) (h : d < 18446744073709551616) :
    Calls Tryd.prog 40 #[.int .u64 (d : Int)] w fun e w' => e = .returned (.int .i64 ((64 - bl d : Nat) : Int)) ∧ w = w' := by
  have l := bl_le d h
  have e8 : wrap64 (64 - ((bl d : Nat) : Int)) = ((64 - bl d : Nat) : Int) := by unfold wrap64; omega
  go_enter Tryd.func40, Tryd.ntmps40
  go_wp2_with (go_at_call 45; refine (len64_any (d : Int) _ (by omega) (by omega)).mono ?_; rintro e w' ⟨rfl, rfl⟩)
  go_ret
  refine ⟨?_, rfl⟩
  rw [← e8]
  rfl

theorem tz_key (x a : Nat) (hx : x < 18446744073709551616) (hx0 : x ≠ 0) (hlow : x &&& (18446744073709551616 - x) = a) :
    IntKind.u64.wrap (Go.bits BinOp.and IntKind.u64 (x : Int) (IntKind.u64.wrap (-(x : Int))) * 285870213051353865) / 288230376151711744 = ((a * 285870213051353865 % 18446744073709551616 / 288230376151711744 : Nat) : Int) := by
  have e1 : IntKind.u64.wrap (-(x : Int)) = ((18446744073709551616 - x : Nat) : Int) := by rw [IntKind.wrap_u64]; omega
  rw [e1, u64_and_nat x _ hx (by omega), hlow, IntKind.wrap_u64]
  omega

set_option maxHeartbeats 1000000 in
theorem tz_core (x k idx : Nat) (w : World) (hx0 : ((x : Int) == 0) = false)
    (key : IntKind.u64.wrap (Go.bits BinOp.and IntKind.u64 (x : Int) (IntKind.u64.wrap (-(x : Int))) * 285870213051353865) / 288230376151711744 = (idx : Int))
    (hi : idx < 64) (hk : k < 64) (hcell : w.cell? ⟨0, idx, none⟩ = some (.int .u8 k)) :
    Calls Tryd.prog 41 #[.int .u64 x] w fun e w' => e = .returned (.int .i64 k) ∧ w = w' := by
  go_enter Tryd.func41, Tryd.ntmps41
  go_wp2_with (simp only [key])
  go_ret
  exact ⟨rfl, rfl⟩

theorem tz_zero (w : World) : Calls Tryd.prog 41 #[.int .u64 0] w fun e w' => e = .returned (.int .i64 64) ∧ w = w' := by
  go_enter Tryd.func41, Tryd.ntmps41
  go_wp2
  go_ret
  exact ⟨rfl, rfl⟩

theorem tz_any (d : Nat) (w : World) (hT : XTab w) (h : d < 18446744073709551616) :
    Calls Tryd.prog 41 #[.int .u64 (d : Int)] w fun e w' => e = .returned (.int .i64 ((tz d : Nat) : Int)) ∧ w = w' := by
  by_cases hx0 : d = 0
  · subst hx0
    exact tz_zero w
  · obtain ⟨hlow, hk⟩ := Lib.lowest_bit 64 d hx0 h
    obtain ⟨hi, htab⟩ := Lib.deBruijn64_at _ hk
    have hcell := hT _ hi
    rw [htab] at hcell
    exact tz_core d _ _ w (by simp; omega) (tz_key d _ h hx0 hlow) hi hk hcell
end Go.Proofs.YtjijbegoehpicaaDoor
