/-
  Slices of pairs that came in.
-/
import Derived.Test.YtoaibabkkphlaaaArgsS
namespace Go.Proofs.Ytoaibabkkphlaaa
open Go.RowKit Mem Spans
open Go.ChangeShapes Go.WideShapes Go.ChangeAt
set_option linter.unusedSimpArgs false
set_option linter.unusedVariables false
set_option maxRecDepth 100000

/-- A slice of pairs that came in. -/

theorem Try.cells141 : Try.prog.cellsOf 141 = 2 := by kernel_rfl
theorem Try.cells2 : Try.prog.cellsOf 2 = 1 := by kernel_rfl

theorem pairs_of {H : Type} {enc : TypeId × Value → H} {W : World} {base : Nat} {a : Option Addr} {len cap : Nat} {d : DataW H} {p : List MemPlace}
    (h : DataW.Trod enc Try.prog W base (fun _ => true) true 118 (.slice a len cap) d p) : ∃ l, IsSpans W a len cap l := by
  obtain ⟨fuel, hf⟩ := h
  rcases Go.Deep.open_slice Try.underlying118 hf with ⟨hcs, _⟩ | ⟨x, l, c, m, n, D, Pl, hcs, _, hl, hm, hmm, _, hx⟩
  · simp [Value.cells] at hcs
    obtain ⟨rfl, rfl, rfl⟩ := hcs
    exact ⟨[], rfl, SSrc.nil W⟩
  · simp [Value.cells] at hcs
    obtain ⟨rfl, rfl, rfl⟩ := hcs
    have hlm : len ≤ m := by rw [hmm]; split <;> omega
    have each : ∀ i, i < len → ∃ y : Sp, (W.cell? (x.add (i * 2)) = some (.int .i64 y.1) ∧ W.cell? (x.add (i * 2 + 1)) = some (.int .i64 y.2)) ∧ in64 y.1 ∧ in64 y.2 := by
      intro i hi
      obtain ⟨cs, hc, ht⟩ := hx i (by omega)
      rw [Try.cells141] at hc
      obtain ⟨_, hlen, hcell⟩ := World.cells?_some hc
      obtain ⟨y0, y1, k, _, _, t0, t1⟩ := trod_struct2 Try.underlying141 ht
      match cs, hlen with
      | [c0, c1], _ =>
        simp only [Try.cells3, Try.cells2, List.drop_zero, List.drop_succ_cons, List.take_succ_cons, List.take_zero] at t0 t1
        obtain ⟨n0, e0, _, w0⟩ := DataW.trod_int Try.underlying3 t0
        obtain ⟨n1, e1, _, w1⟩ := DataW.trod_int Try.underlying2 t1
        simp at e0 e1
        subst e0 e1
        simp [Lit.wf, IntKind.min, IntKind.max, IntKind.bits, IntKind.signed] at w0 w1
        have h0 := hcell 0 (by omega)
        have h1 := hcell 1 (by omega)
        rw [Go.Deep.add_add] at h0 h1
        exact ⟨(n0, n1), ⟨by simpa using h0, by simpa using h1⟩, ⟨by omega, by omega⟩, ⟨by omega, by omega⟩⟩
    have : Inhabited Sp := ⟨(0, 0)⟩
    obtain ⟨z, hz⟩ := Go.Deep.choose_lt each
    refine ⟨(List.range len).map z, by simp, some x, cap, by simp, by simp; omega, by omega, ?_, ?_⟩
    · intro s hs
      obtain ⟨j, hj, rfl⟩ := List.mem_map.1 hs
      exact (hz j (by simpa using hj)).2
    · by_cases h0 : 0 < len
      · obtain ⟨b, off, spot⟩ := x
        have hc0 := (hz 0 h0).1.1
        have hspot : spot = none := by simpa [Addr.add] using World.cell?_spot hc0
        subst hspot
        have e1 : ∀ j, (⟨b, off, none⟩ : Addr).add j = ⟨b, off + j, none⟩ := by intro j; unfold Addr.add; split <;> simp_all
        refine ⟨b, off, fun _ => rfl, fun j s hj => ?_⟩
        rw [List.getElem?_map] at hj
        obtain ⟨j', hj', rfl⟩ := Option.map_eq_some_iff.1 hj
        have hjl : j < len := by have := (List.getElem?_eq_some_iff.1 hj').1; simpa using this
        have : j' = j := by
          rw [List.getElem?_range hjl] at hj'
          simpa using hj'.symm
        subst this
        have := (hz j' hjl).1
        rw [e1, e1] at this
        rw [Nat.add_assoc]
        exact this
      · refine ⟨0, 0, fun h => by simp at h; omega, fun j y hj => ?_⟩
        have : len = 0 := by omega
        subst this
        simp at hj
end Go.Proofs.Ytoaibabkkphlaaa
