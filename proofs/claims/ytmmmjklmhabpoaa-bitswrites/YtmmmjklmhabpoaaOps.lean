/-
  A slice of the statements' calls (tidepolelaw01.Op) that came in, as three rows of numbers.
-/
import Derived.Test.YtmmmjklmhabpoaaArgs
import Derived.Deep.Strs
import Derived.ProofKit
namespace Go.Proofs.Ytmmmjklmhabpoaa
open Go.RowKit Mem Bits
open Go.ChangeShapes Go.WideShapes Go.ChangeAt
set_option linter.unusedSimpArgs false
set_option linter.unusedVariables false

theorem Try.cells33 : Try.prog.cellsOf 33 = 3 := by kernel_rfl
theorem Try.cells3 : Try.prog.cellsOf 3 = 1 := by kernel_rfl
theorem Try.cells31 : Try.prog.cellsOf 31 = 1 := by kernel_rfl

/-- One call: its kind, how many bits, and a number. -/
abbrev Call := Int × Int × Nat
/-- What the walk is told of a slice of calls. -/
def IsOps (w : World) (a : Option Addr) (len cap : Nat) (z : Nat → Call) : Prop :=
  ∃ b off, (0 < len → a = some ⟨b, off, none⟩) ∧ (∀ j, j < len → w.cell? ⟨b, off + j * 3, none⟩ = some (.int .i64 (z j).1) ∧ w.cell? ⟨b, off + j * 3 + 1, none⟩ = some (.int .i64 (z j).2.1) ∧ w.cell? ⟨b, off + j * 3 + 2, none⟩ = some (.int .u64 ((z j).2.2 : Int))) ∧
    ∀ j, j < len → (-9223372036854775808 ≤ (z j).1 ∧ (z j).1 ≤ 9223372036854775807) ∧ (-9223372036854775808 ≤ (z j).2.1 ∧ (z j).2.1 ≤ 9223372036854775807) ∧ (z j).2.2 < 18446744073709551616

theorem ops_of {H : Type} {enc : TypeId × Value → H} {W : World} {base : Nat} {a : Option Addr} {len cap : Nat} {d : DataW H} {p : List MemPlace}
    (h : DataW.Trod enc Try.prog W base (fun _ => true) true 23 (.slice a len cap) d p) : ∃ z, IsOps W a len cap z := by
  obtain ⟨fuel, hf⟩ := h
  rcases Go.Deep.open_slice Try.underlying23 hf with ⟨hcs, _⟩ | ⟨x, l, c, m, n, D, Pl, hcs, _, hl, hm, hmm, _, hx⟩
  · simp [Value.cells] at hcs
    obtain ⟨rfl, rfl, rfl⟩ := hcs
    exact ⟨fun _ => (0, 0, 0), 0, 0, fun h => by omega, fun j h => by omega, fun j h => by omega⟩
  · simp [Value.cells] at hcs
    obtain ⟨rfl, rfl, rfl⟩ := hcs
    have hlm : len ≤ m := by rw [hmm]; split <;> omega
    have each : ∀ i, i < len → ∃ y : Call, (W.cell? (x.add (i * 3)) = some (.int .i64 y.1) ∧ W.cell? (x.add (i * 3 + 1)) = some (.int .i64 y.2.1) ∧ W.cell? (x.add (i * 3 + 2)) = some (.int .u64 (y.2.2 : Int))) ∧
        (-9223372036854775808 ≤ y.1 ∧ y.1 ≤ 9223372036854775807) ∧ (-9223372036854775808 ≤ y.2.1 ∧ y.2.1 ≤ 9223372036854775807) ∧ y.2.2 < 18446744073709551616 := by
      intro i hi
      obtain ⟨cs, hc, ht⟩ := hx i (by omega)
      rw [Try.cells33] at hc
      obtain ⟨_, hlen, hcell⟩ := World.cells?_some hc
      obtain ⟨y0, y1, y2, k, _, _, t0, t1, t2⟩ := Go.Deep.trod_struct3 Try.underlying33 ht
      match cs, hlen with
      | [c0, c1, c2], _ =>
        simp only [Try.cells3, Try.cells31, List.drop_zero, List.drop_succ_cons, List.take_succ_cons, List.take_zero] at t0 t1 t2
        obtain ⟨n0, e0, _, w0⟩ := DataW.trod_int Try.underlying3 t0
        obtain ⟨n1, e1, _, w1⟩ := DataW.trod_int Try.underlying3 t1
        obtain ⟨n2, e2, _, w2⟩ := DataW.trod_int Try.underlying31 t2
        simp at e0 e1 e2
        subst e0 e1 e2
        simp [Lit.wf, IntKind.min, IntKind.max, IntKind.bits, IntKind.signed] at w0 w1 w2
        have h0 := hcell 0 (by omega)
        have h1 := hcell 1 (by omega)
        have h2 := hcell 2 (by omega)
        rw [Go.Deep.add_add] at h0 h1 h2
        refine ⟨(n0, n1, n2.toNat), ⟨by simpa using h0, by simpa using h1, ?_⟩, by omega, by omega, by show n2.toNat < 18446744073709551616; omega⟩
        simp only [Int.toNat_of_nonneg w2.1]
        simpa using h2
    have : Inhabited Call := ⟨(0, 0, 0)⟩
    obtain ⟨z, hz⟩ := Go.Deep.choose_lt each
    by_cases h0 : 0 < len
    · obtain ⟨b, off, spot⟩ := x
      have hc0 := (hz 0 h0).1.1
      have hspot : spot = none := by simpa [Addr.add] using World.cell?_spot hc0
      subst hspot
      have e1 : ∀ j, (⟨b, off, none⟩ : Addr).add j = ⟨b, off + j, none⟩ := by intro j; unfold Addr.add; split <;> simp_all
      refine ⟨z, b, off, fun _ => rfl, fun j hj => ?_, fun j hj => (hz j hj).2⟩
      have := (hz j hj).1
      rw [e1, e1, e1] at this
      exact this
    · exact ⟨z, 0, 0, fun h => by omega, fun j h => by omega, fun j h => by omega⟩
end Go.Proofs.Ytmmmjklmhabpoaa
