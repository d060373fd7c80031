/-
  Heads that came in.
-/
import Derived.Test.YtkphonepblkcdaaGreatDoorHdMem
import Derived.Deep.Strs
import Derived.ProofKit
namespace Go.Proofs.YtkphonepblkcdaaGreatDoor
open Go.RowKit Mem Spans
open Go.ChangeShapes Go.WideShapes Go.ChangeAt
set_option linter.unusedSimpArgs false
set_option linter.unusedVariables false
set_option maxRecDepth 100000

/-- A slice of spans that came in. -/
def IsSpans (w : World) (a : Option Addr) (len cap : Nat) (l : List Sp) : Prop := l.length = len ∧ SSrc w (.slice a len cap) l

theorem Tryz.cells64 : Tryz.prog.cellsOf 64 = 2 := by kernel_rfl
theorem Tryz.cells3 : Tryz.prog.cellsOf 3 = 1 := by kernel_rfl

theorem spans_of {H : Type} {enc : TypeId × Value → H} {W : World} {base : Nat} {a : Option Addr} {len cap : Nat} {d : DataW H} {p : List MemPlace}
    (h : DataW.Trod enc Tryz.prog W base (fun _ => true) true 23 (.slice a len cap) d p) : ∃ l, IsSpans W a len cap l := by
  obtain ⟨fuel, hf⟩ := h
  rcases Go.Deep.open_slice Tryz.underlying23 hf with ⟨hcs, _⟩ | ⟨x, l, c, m, n, D, Pl, hcs, _, hl, hm, hmm, _, hx⟩
  · simp [Value.cells] at hcs
    obtain ⟨rfl, rfl, rfl⟩ := hcs
    exact ⟨[], rfl, SSrc.nil W⟩
  · simp [Value.cells] at hcs
    obtain ⟨rfl, rfl, rfl⟩ := hcs
    have hlm : len ≤ m := by rw [hmm]; split <;> omega
    have each : ∀ i, i < len → ∃ y : Sp, (W.cell? (x.add (i * 2)) = some (.int .i64 y.1) ∧ W.cell? (x.add (i * 2 + 1)) = some (.int .i64 y.2)) ∧ in64 y.1 ∧ in64 y.2 := by
      intro i hi
      obtain ⟨cs, hc, ht⟩ := hx i (by omega)
      rw [Tryz.cells64] at hc
      obtain ⟨_, hlen, hcell⟩ := World.cells?_some hc
      obtain ⟨y0, y1, k, _, _, t0, t1⟩ := trod_struct2 Tryz.underlying64 ht
      match cs, hlen with
      | [c0, c1], _ =>
        simp only [Tryz.cells3, List.drop_zero, List.drop_succ_cons, List.take_succ_cons, List.take_zero] at t0 t1
        obtain ⟨n0, e0, _, w0⟩ := DataW.trod_int Tryz.underlying3 t0
        obtain ⟨n1, e1, _, w1⟩ := DataW.trod_int Tryz.underlying3 t1
        simp at e0 e1
        subst e0 e1
        simp [Lit.wf, IntKind.min, IntKind.max, IntKind.bits, IntKind.signed] at w0 w1
        have h0 := hcell 0 (by omega)
        have h1 := hcell 1 (by omega)
        rw [Go.Deep.add_add] at h0 h1
        exact ⟨(n0, n1), ⟨by simpa using h0, by simpa using h1⟩, ⟨by omega, by omega⟩, ⟨by omega, by omega⟩⟩
    have : Inhabited Sp := ⟨(0, 0)⟩
    obtain ⟨z, hz⟩ := Go.Deep.choose_lt each
    refine ⟨(List.range len).map z, by simp, some x, cap, by simp, by simp; omega, by omega, ?_, ?_⟩
    · intro s hs
      obtain ⟨j, hj, rfl⟩ := List.mem_map.1 hs
      exact (hz j (by simpa using hj)).2
    · by_cases h0 : 0 < len
      · obtain ⟨b, off, spot⟩ := x
        have hc0 := (hz 0 h0).1.1
        have hspot : spot = none := by simpa [Addr.add] using World.cell?_spot hc0
        subst hspot
        have e1 : ∀ j, (⟨b, off, none⟩ : Addr).add j = ⟨b, off + j, none⟩ := by intro j; unfold Addr.add; split <;> simp_all
        refine ⟨b, off, fun _ => rfl, fun j s hj => ?_⟩
        rw [List.getElem?_map] at hj
        obtain ⟨j', hj', rfl⟩ := Option.map_eq_some_iff.1 hj
        have hjl : j < len := by have := (List.getElem?_eq_some_iff.1 hj').1; simpa using this
        have : j' = j := by
          rw [List.getElem?_range hjl] at hj'
          simpa using hj'.symm
        subst this
        have := (hz j' hjl).1
        rw [e1, e1] at this
        rw [Nat.add_assoc]
        exact this
      · refine ⟨0, 0, fun h => by simp at h; omega, fun j y hj => ?_⟩
        have : len = 0 := by omega
        subst this
        simp at hj

theorem Tryz.cells22 : Tryz.prog.cellsOf 22 = 1 := by kernel_rfl
theorem Tryz.cells23 : Tryz.prog.cellsOf 23 = 1 := by kernel_rfl

/-- A cell that is a slice of spans. -/
theorem spans_cell {H : Type} {enc : TypeId × Value → H} {W : World} {base n : Nat} {c : Value} {y : DataW H × List MemPlace}
    (h : DataW.trod enc Tryz.prog W base (fun _ => true) true n 23 [c] = some y) : ∃ l, SSrc W c l := by
  rcases Go.Deep.open_slice Tryz.underlying23 h with ⟨hcs, _⟩ | ⟨x, l, cp, m, n2, D, Pl, hcs, _⟩
  · simp at hcs
    subst hcs
    exact ⟨[], SSrc.nil W⟩
  · simp at hcs
    subst hcs
    obtain ⟨z, hz⟩ := spans_of (a := some x) (len := l) (cap := cp) (d := y.1) (p := y.2) ⟨n, h⟩
    exact ⟨z, hz.2⟩
theorem head_of {H : Type} {enc : TypeId × Value → H} {W : World} {base0 base : Nat} {v : Value} {d : DataW H} {p : List MemPlace}
    (hok : Value.okWide Tryz.prog W .any base0 25 v) (h : DataW.Trod enc Tryz.prog W base (fun _ => true) true 25 v d p) : ∃ z : Hd, HdSrc W v z := by
  obtain ⟨cs, rfl, hsz⟩ := okWide_struct Tryz.underlying25 hok
  obtain ⟨fuel, hf⟩ := h
  obtain ⟨xs, n, _, hx, hl, hlen, hf⟩ := DataW.trod_struct Tryz.underlying25 hf
  have hs6 : cs.size = 6 := by rw [hsz]; kernel_rfl
  obtain ⟨l⟩ := cs
  have hx6 : xs.length = 6 := by rw [hlen]; rfl
  clear hsz hok hl hlen hx
  match l, hs6, xs, hx6 with
  | [c0, c1, c2, c3, c4, c5], _, [y0, y1, y2, y3, y4, y5], _ =>
    have t0 : DataW.trod enc Tryz.prog W base (fun _ => true) true n 3 [c0] = some y0 := by
      have := hf 0 _ rfl
      simpa [Value.cells, Tryz.cells3, Tryz.cells22, Tryz.cells23] using this
    have t1 : DataW.trod enc Tryz.prog W base (fun _ => true) true n 3 [c1] = some y1 := by
      have := hf 1 _ rfl
      simpa [Value.cells, Tryz.cells3, Tryz.cells22, Tryz.cells23] using this
    have t2 : DataW.trod enc Tryz.prog W base (fun _ => true) true n 3 [c2] = some y2 := by
      have := hf 2 _ rfl
      simpa [Value.cells, Tryz.cells3, Tryz.cells22, Tryz.cells23] using this
    have t3 : DataW.trod enc Tryz.prog W base (fun _ => true) true n 22 [c3] = some y3 := by
      have := hf 3 _ rfl
      simpa [Value.cells, Tryz.cells3, Tryz.cells22, Tryz.cells23] using this
    have t4 : DataW.trod enc Tryz.prog W base (fun _ => true) true n 23 [c4] = some y4 := by
      have := hf 4 _ rfl
      simpa [Value.cells, Tryz.cells3, Tryz.cells22, Tryz.cells23] using this
    have t5 : DataW.trod enc Tryz.prog W base (fun _ => true) true n 23 [c5] = some y5 := by
      have := hf 5 _ rfl
      simpa [Value.cells, Tryz.cells3, Tryz.cells22, Tryz.cells23] using this
    clear hf
    obtain ⟨n0, e0, _, w0⟩ := DataW.trod_int Tryz.underlying3 t0
    obtain ⟨n1, e1, _, w1⟩ := DataW.trod_int Tryz.underlying3 t1
    obtain ⟨n2, e2, _, w2⟩ := DataW.trod_int Tryz.underlying3 t2
    obtain ⟨n3, e3, _, w3⟩ := DataW.trod_int Tryz.underlying22 t3
    obtain ⟨l4, s4⟩ := spans_cell t4
    obtain ⟨l5, s5⟩ := spans_cell t5
    simp at e0 e1 e2 e3
    subst e0 e1 e2 e3
    simp [Lit.wf, IntKind.min, IntKind.max, IntKind.bits, IntKind.signed] at w0 w1 w2 w3
    obtain ⟨z3, hz3⟩ := Int.eq_ofNat_of_zero_le (show 0 ≤ n3 by omega)
    subst hz3
    have s4' := s4
    have s5' := s5
    obtain ⟨po, pc, rfl, _⟩ := s4'
    obtain ⟨no, nc, rfl, _⟩ := s5'
    refine ⟨⟨n0, n1, n2, z3, l4, l5⟩, po, pc, no, nc, rfl, ⟨?_, ?_, ?_, ?_⟩, s4, s5⟩
    · unfold in64; simp only; omega
    · unfold in64; simp only; omega
    · unfold in64; simp only; omega
    · simp only; omega
end Go.Proofs.YtkphonepblkcdaaGreatDoor
