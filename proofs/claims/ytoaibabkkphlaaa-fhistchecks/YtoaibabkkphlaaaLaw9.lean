/-
  What the statements of layer 9 share: spans, few, small, ref.
-/
import Derived.Test.YtoaibabkkphlaaaHOver
import Derived.Test.YtoaibabkkphlaaaRef6P
import Derived.Test.YtoaibabkkphlaaaArgsP
namespace Go.Proofs.Ytoaibabkkphlaaa
open Go.RowKit Mem Spans
set_option linter.unusedSimpArgs false
set_option linter.unusedVariables false
set_option maxRecDepth 100000


def FewPost (l : List Sp) (w : World) (e : Ending) (w' : World) : Prop := ∃ r : Bool, e = .returned (.bool r) ∧ (r = true → l.length ≤ 400) ∧ Fr [] w w'

theorem div10 {m : Int} (h0 : 0 ≤ m) (h1 : m ≤ 5000) : 0 ≤ m / 10 ∧ m / 10 ≤ 500 := by omega



/-- What small lets by. -/
def Few (h : Hs) : Prop := h.P.length ≤ 400 ∧ h.N.length ≤ 400 ∧ h.pd.length ≤ 300 ∧ h.nd.length ≤ 300

/-- A block of the document's histogram. -/
def NineR (w : World) (b : Nat) (cs : Array Value) : Prop := w.heap[b]? = some (.cells cs 74 (0, 0))
theorem NineR.kept {w w' : World} {b : Nat} {cs : Array Value} {S : List Nat} (h : NineR w b cs) (f : Fr S w w') (hb : b ∉ S) : NineR w' b cs := f.heap h hb
theorem NineR.cell {w : World} {b : Nat} {cs : Array Value} (h : NineR w b cs) (i : Nat) {v : Value} (hv : cs[i]? = some v) : w.cell? ⟨b, i, none⟩ = some v := by rw [cell_at h]; exact hv
theorem NineR.frozen {w : World} {b : Nat} {cs : Array Value} (h : NineR w b cs) (i : Nat) : w.frozen? ⟨b, i, none⟩ = false := frozen_at h i
theorem NineR.new (w : World) (cs : Array Value) : NineR (w.alloc (.cells cs 74)) w.heap.size cs := heap_alloc_new _ _
theorem nineR_top (w : World) (o : Obj) (cs : Array Value) : NineR ((w.alloc o).alloc (.cells cs 74)) (w.heap.size + 1) cs := by
  have := NineR.new (w.alloc o) cs
  rwa [World.size_alloc] at this
theorem set9_nineR {w : World} {g : Nat} {a0 a1 a2 a3 a4 a5 a6 a7 a8 : Value} (h : NineR w g #[a0, a1, a2, a3, a4, a5, a6, a7, a8]) (u0 u1 u2 u3 u4 u5 u6 u7 u8 : Value) : NineR (set9 w g u0 u1 u2 u3 u4 u5 u6 u7 u8) g #[u0, u1, u2, u3, u4, u5, u6, u7, u8] := by
  unfold NineR at h ⊢
  simp [set9, World.setCell, Array.getElem?_modify, h]
theorem Try.sizeOf74 : (Try.prog.info? 74).map (·.size) = some 9 := by kernel_rfl
theorem histR_res {fn : Func} {p : Tmp} (h : fn.results = #[.cell p 74]) (tmps : Array Value) (w : World) (g : Nat) (a0 a1 a2 a3 a4 a5 a6 a7 a8 : Value)
    (hp : tmps.getD p undef = .pointer (some ⟨g, 0, none⟩)) (hg : NineR w g #[a0, a1, a2, a3, a4, a5, a6, a7, a8]) : (results fn tmps).run Try.prog w = .ok (.agg #[a0, a1, a2, a3, a4, a5, a6, a7, a8]) w :=
  results_cell_row h tmps w g 74 #[a0, a1, a2, a3, a4, a5, a6, a7, a8] (0, 0) _ hp hg Try.underlying74 rfl Try.sizeOf74

end Go.Proofs.Ytoaibabkkphlaaa
