/-
  Slices of numbers that came in, cell by cell.
-/
import Derived.Test.YtmoodonemcpgnaaDoorStr
namespace Go.Proofs.YtmoodonemcpgnaaDoor
open Go.RowKit Mem Bits
set_option linter.unusedSimpArgs false
set_option linter.unusedVariables false

/-- A slice of numbers without a sign that came in. -/
theorem IsRow.nats {w : World} {a : Option Addr} {len cap : Nat} {zs : List Int} (h : IsRow .u64 w a len cap zs) :
    ∃ (b off : Nat) (z : Nat → Nat), (0 < len → a = some ⟨b, off, none⟩) ∧ (∀ j, j < len → w.cell? ⟨b, off + j, none⟩ = some (.int .u64 (z j : Int))) ∧ (∀ j, z j < 18446744073709551616) := by
  rcases h with ⟨rfl, rfl, rfl, rfl⟩ | ⟨x, rfl, hl, hm, hz, hc, hw⟩
  · exact ⟨0, 0, fun _ => 0, fun h => by omega, fun j h => by omega, fun j => by simp⟩
  · have hbd : ∀ j, 0 ≤ zs.getD j 0 ∧ zs.getD j 0 < 18446744073709551616 := by
      intro j
      rw [List.getD_eq_getElem?_getD]
      by_cases hj : j < zs.length
      · rw [List.getElem?_eq_getElem hj]
        have := hw _ (List.getElem_mem hj)
        simp [Lit.wf, IntKind.min, IntKind.max, IntKind.bits, IntKind.signed] at this
        simp
        omega
      · rw [List.getElem?_eq_none (by omega)]; simp
    by_cases h0 : 0 < len
    · obtain ⟨b, off, spot⟩ := x
      have hc0 := hc 0 (by omega)
      have hspot : spot = none := by simpa [Addr.add] using World.cell?_spot hc0
      subst hspot
      refine ⟨b, off, fun j => (zs.getD j 0).toNat, fun _ => rfl, fun j hj => ?_, fun j => by have := hbd j; show (zs.getD j 0).toNat < _; omega⟩
      have e1 : (⟨b, off, none⟩ : Addr).add j = ⟨b, off + j, none⟩ := by unfold Addr.add; split <;> simp_all
      rw [← e1, hc j (by omega), Int.toNat_of_nonneg (hbd j).1]
    · exact ⟨0, 0, fun j => (zs.getD j 0).toNat, fun h => by omega, fun j h => by omega, fun j => by have := hbd j; show (zs.getD j 0).toNat < _; omega⟩
end Go.Proofs.YtmoodonemcpgnaaDoor
