/-
  Args10.
-/
import Derived.Test.YtnfbmdniomelnaaGB
import Derived.Test.YtnfbmdniomelnaaGD
import Derived.Deep.Strs
import Derived.ProofKit
/-
  Histograms that came in.
-/
namespace Go.Proofs.Ytnfbmdniomelnaa
open Go.RowKit Mem Spans
open Go.ChangeShapes Go.WideShapes Go.ChangeAt
set_option linter.unusedSimpArgs false
set_option linter.unusedVariables false
set_option maxRecDepth 100000

theorem Try.cells23 : Try.prog.cellsOf 23 = 1 := by kernel_rfl
theorem Try.cells24 : Try.prog.cellsOf 24 = 1 := by kernel_rfl

/-- A cell that is a slice of spans. -/
theorem spans_cell {H : Type} {enc : TypeId × Value → H} {W : World} {base n : Nat} {c : Value} {y : DataW H × List MemPlace}
    (h : DataW.trod enc Try.prog W base (fun _ => true) true n 23 [c] = some y) : ∃ l, SSrc W c l := by
  rcases Go.Deep.open_slice Try.underlying23 h with ⟨hcs, _⟩ | ⟨x, l, cp, m, n2, D, Pl, hcs, _⟩
  · simp at hcs
    subst hcs
    exact ⟨[], SSrc.nil W⟩
  · simp at hcs
    subst hcs
    obtain ⟨z, hz⟩ := spans_of (a := some x) (len := l) (cap := cp) (d := y.1) (p := y.2) ⟨n, h⟩
    exact ⟨z, hz.2⟩
/-- A cell that is a slice of numbers. -/
theorem ints_cell {H : Type} {enc : TypeId × Value → H} {W : World} {base n : Nat} {c : Value} {y : DataW H × List MemPlace}
    (h : DataW.trod enc Try.prog W base (fun _ => true) true n 24 [c] = some y) : ∃ l, ISrc W c l := by
  rcases open_ints Try.underlying24 Try.underlying2 (by kernel_rfl) h with ⟨hcs, _⟩ | ⟨x, l, cp, zs, hcs, _, hl, hm, hz, _, hcell, hwz⟩
  · simp at hcs
    subst hcs
    exact ⟨[], ISrc.nil W⟩
  · simp at hcs
    subst hcs
    obtain ⟨z, _, hz2⟩ := IsRow.isrc (.inr ⟨_, rfl, hl, hm, by simpa using hz, hcell, hwz⟩)
    exact ⟨z, hz2⟩
theorem hist_of {H : Type} {enc : TypeId × Value → H} {W : World} {base0 base : Nat} {v : Value} {d : DataW H} {p : List MemPlace}
    (hok : Value.okWide Try.prog W .any base0 26 v) (h : DataW.Trod enc Try.prog W base (fun _ => true) true 26 v d p) : ∃ z : Hs, HSrc W v z := by
  obtain ⟨cs, rfl, hsz⟩ := okWide_struct Try.underlying26 hok
  obtain ⟨fuel, hf⟩ := h
  obtain ⟨xs, n, _, hx, hl, hlen, hf⟩ := DataW.trod_struct Try.underlying26 hf
  have hs9 : cs.size = 9 := by rw [hsz]; kernel_rfl
  obtain ⟨l⟩ := cs
  have hx9 : xs.length = 9 := by rw [hlen]; rfl
  clear hsz hok hl hlen hx
  match l, hs9, xs, hx9 with
  | [c0, c1, c2, c3, c4, c5, c6, c7, c8], _, [y0, y1, y2, y3, y4, y5, y6, y7, y8], _ =>
    have t0 : DataW.trod enc Try.prog W base (fun _ => true) true n 3 [c0] = some y0 := by
      have := hf 0 _ rfl
      simpa [Value.cells, Try.cells3, Try.cells22, Try.cells23, Try.cells24] using this
    have t1 : DataW.trod enc Try.prog W base (fun _ => true) true n 22 [c1] = some y1 := by
      have := hf 1 _ rfl
      simpa [Value.cells, Try.cells3, Try.cells22, Try.cells23, Try.cells24] using this
    have t2 : DataW.trod enc Try.prog W base (fun _ => true) true n 22 [c2] = some y2 := by
      have := hf 2 _ rfl
      simpa [Value.cells, Try.cells3, Try.cells22, Try.cells23, Try.cells24] using this
    have t3 : DataW.trod enc Try.prog W base (fun _ => true) true n 22 [c3] = some y3 := by
      have := hf 3 _ rfl
      simpa [Value.cells, Try.cells3, Try.cells22, Try.cells23, Try.cells24] using this
    have t4 : DataW.trod enc Try.prog W base (fun _ => true) true n 22 [c4] = some y4 := by
      have := hf 4 _ rfl
      simpa [Value.cells, Try.cells3, Try.cells22, Try.cells23, Try.cells24] using this
    have t5 : DataW.trod enc Try.prog W base (fun _ => true) true n 23 [c5] = some y5 := by
      have := hf 5 _ rfl
      simpa [Value.cells, Try.cells3, Try.cells22, Try.cells23, Try.cells24] using this
    have t6 : DataW.trod enc Try.prog W base (fun _ => true) true n 23 [c6] = some y6 := by
      have := hf 6 _ rfl
      simpa [Value.cells, Try.cells3, Try.cells22, Try.cells23, Try.cells24] using this
    have t7 : DataW.trod enc Try.prog W base (fun _ => true) true n 24 [c7] = some y7 := by
      have := hf 7 _ rfl
      simpa [Value.cells, Try.cells3, Try.cells22, Try.cells23, Try.cells24] using this
    have t8 : DataW.trod enc Try.prog W base (fun _ => true) true n 24 [c8] = some y8 := by
      have := hf 8 _ rfl
      simpa [Value.cells, Try.cells3, Try.cells22, Try.cells23, Try.cells24] using this
    clear hf
    obtain ⟨n0, e0, _, w0⟩ := DataW.trod_int Try.underlying3 t0
    obtain ⟨n1, e1, _, w1⟩ := DataW.trod_int Try.underlying22 t1
    obtain ⟨n2, e2, _, w2⟩ := DataW.trod_int Try.underlying22 t2
    obtain ⟨n3, e3, _, w3⟩ := DataW.trod_int Try.underlying22 t3
    obtain ⟨n4, e4, _, w4⟩ := DataW.trod_int Try.underlying22 t4
    obtain ⟨l5, s5⟩ := spans_cell t5
    obtain ⟨l6, s6⟩ := spans_cell t6
    obtain ⟨l7, s7⟩ := ints_cell t7
    obtain ⟨l8, s8⟩ := ints_cell t8
    simp at e0 e1 e2 e3 e4
    subst e0 e1 e2 e3 e4
    simp [Lit.wf, IntKind.min, IntKind.max, IntKind.bits, IntKind.signed] at w0 w1 w2 w3 w4
    refine ⟨⟨n0, n1, n2, n3, n4, l5, l6, l7, l8⟩, c5, c6, c7, c8, rfl, ?_, ?_, s5, s6, s7, s8⟩
    · unfold in64; simp only; omega
    · unfold inu; simp only; omega
theorem Try.cells42 : Try.prog.cellsOf 42 = 1 := by kernel_rfl
/-- A cell that is a slice of numbers. -/
theorem uints_cell {H : Type} {enc : TypeId × Value → H} {W : World} {base n : Nat} {c : Value} {y : DataW H × List MemPlace}
    (h : DataW.trod enc Try.prog W base (fun _ => true) true n 42 [c] = some y) : ∃ l, USrc W c l := by
  rcases open_ints Try.underlying42 Try.underlying22 (by kernel_rfl) h with ⟨hcs, _⟩ | ⟨x, l, cp, zs, hcs, _, hl, hm, hz, _, hcell, hwz⟩
  · simp at hcs
    subst hcs
    exact ⟨[], USrc.nil W⟩
  · simp at hcs
    subst hcs
    obtain ⟨z, _, hz2⟩ := IsRow.usrc (.inr ⟨_, rfl, hl, hm, by simpa using hz, hcell, hwz⟩)
    exact ⟨z, hz2⟩
theorem fhist_of {H : Type} {enc : TypeId × Value → H} {W : World} {base0 base : Nat} {v : Value} {d : DataW H} {p : List MemPlace}
    (hok : Value.okWide Try.prog W .any base0 44 v) (h : DataW.Trod enc Try.prog W base (fun _ => true) true 44 v d p) : ∃ z : Fs, FSrc W v z := by
  obtain ⟨cs, rfl, hsz⟩ := okWide_struct Try.underlying44 hok
  obtain ⟨fuel, hf⟩ := h
  obtain ⟨xs, n, _, hx, hl, hlen, hf⟩ := DataW.trod_struct Try.underlying44 hf
  have hs9 : cs.size = 9 := by rw [hsz]; kernel_rfl
  obtain ⟨l⟩ := cs
  have hx9 : xs.length = 9 := by rw [hlen]; rfl
  clear hsz hok hl hlen hx
  match l, hs9, xs, hx9 with
  | [c0, c1, c2, c3, c4, c5, c6, c7, c8], _, [y0, y1, y2, y3, y4, y5, y6, y7, y8], _ =>
    have t0 : DataW.trod enc Try.prog W base (fun _ => true) true n 3 [c0] = some y0 := by
      have := hf 0 _ rfl
      simpa [Value.cells, Try.cells3, Try.cells22, Try.cells23, Try.cells42] using this
    have t1 : DataW.trod enc Try.prog W base (fun _ => true) true n 22 [c1] = some y1 := by
      have := hf 1 _ rfl
      simpa [Value.cells, Try.cells3, Try.cells22, Try.cells23, Try.cells42] using this
    have t2 : DataW.trod enc Try.prog W base (fun _ => true) true n 22 [c2] = some y2 := by
      have := hf 2 _ rfl
      simpa [Value.cells, Try.cells3, Try.cells22, Try.cells23, Try.cells42] using this
    have t3 : DataW.trod enc Try.prog W base (fun _ => true) true n 22 [c3] = some y3 := by
      have := hf 3 _ rfl
      simpa [Value.cells, Try.cells3, Try.cells22, Try.cells23, Try.cells42] using this
    have t4 : DataW.trod enc Try.prog W base (fun _ => true) true n 22 [c4] = some y4 := by
      have := hf 4 _ rfl
      simpa [Value.cells, Try.cells3, Try.cells22, Try.cells23, Try.cells42] using this
    have t5 : DataW.trod enc Try.prog W base (fun _ => true) true n 23 [c5] = some y5 := by
      have := hf 5 _ rfl
      simpa [Value.cells, Try.cells3, Try.cells22, Try.cells23, Try.cells42] using this
    have t6 : DataW.trod enc Try.prog W base (fun _ => true) true n 23 [c6] = some y6 := by
      have := hf 6 _ rfl
      simpa [Value.cells, Try.cells3, Try.cells22, Try.cells23, Try.cells42] using this
    have t7 : DataW.trod enc Try.prog W base (fun _ => true) true n 42 [c7] = some y7 := by
      have := hf 7 _ rfl
      simpa [Value.cells, Try.cells3, Try.cells22, Try.cells23, Try.cells42] using this
    have t8 : DataW.trod enc Try.prog W base (fun _ => true) true n 42 [c8] = some y8 := by
      have := hf 8 _ rfl
      simpa [Value.cells, Try.cells3, Try.cells22, Try.cells23, Try.cells42] using this
    clear hf
    obtain ⟨n0, e0, _, w0⟩ := DataW.trod_int Try.underlying3 t0
    obtain ⟨n1, e1, _, w1⟩ := DataW.trod_int Try.underlying22 t1
    obtain ⟨n2, e2, _, w2⟩ := DataW.trod_int Try.underlying22 t2
    obtain ⟨n3, e3, _, w3⟩ := DataW.trod_int Try.underlying22 t3
    obtain ⟨n4, e4, _, w4⟩ := DataW.trod_int Try.underlying22 t4
    obtain ⟨l5, s5⟩ := spans_cell t5
    obtain ⟨l6, s6⟩ := spans_cell t6
    obtain ⟨l7, s7⟩ := uints_cell t7
    obtain ⟨l8, s8⟩ := uints_cell t8
    simp at e0 e1 e2 e3 e4
    subst e0 e1 e2 e3 e4
    simp [Lit.wf, IntKind.min, IntKind.max, IntKind.bits, IntKind.signed] at w0 w1 w2 w3 w4
    refine ⟨⟨n0, n1, n2, n3, n4, l5, l6, l7, l8⟩, c5, c6, c7, c8, rfl, ?_, ?_, s5, s6, s7, s8⟩
    · unfold in64; simp only; omega
    · unfold inu; simp only; omega
theorem of_wf {v : Int} (h : (Lit.int .u64 v).wf = true) : inu v := by
  simp [Lit.wf, IntKind.min, IntKind.max, IntKind.bits, IntKind.signed] at h
  unfold inu; omega
end Go.Proofs.Ytnfbmdniomelnaa
