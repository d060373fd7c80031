/-
  Package hist: Walk: which worlds its rounds leave; slices.Backward's own function: the pairs from behind, as far as it is asked.
-/
import Derived.Test.YtjkiiccdcjcfbaaHSpread
namespace Go.Proofs.Ytjkiiccdcjcfbaa
open Go.RowKit Go.Shelf Mem Spans
set_option linter.unusedSimpArgs false
set_option linter.unusedVariables false
set_option maxRecDepth 100000
attribute [local go_sem] Oper.semAt_some

/-- Of the blocks of cells none has turned but those of S. -/
structure Kc (S : List Nat) (w w' : World) : Prop where
  size : w.heap.size ≤ w'.heap.size
  same : ∀ (k : Nat) (o : Obj), w.heap[k]? = some o → o.isCells = true → k ∉ S → w'.heap[k]? = some o
theorem Kc.refl (S : List Nat) (w : World) : Kc S w w := ⟨Nat.le_refl _, fun _ _ h _ _ => h⟩
theorem Kc.trans {S : List Nat} {a b c : World} (h : Kc S a b) (k : Kc S b c) : Kc S a c := ⟨Nat.le_trans h.size k.size, fun i o hi ho hs => k.same i o (h.same i o hi ho hs) ho hs⟩
theorem Kc.put {S : List Nat} (w : World) (l : Nat) (o o' : Obj) (h : w.heap[l]? = some o) (hc : o.isCells = false) : Kc S w (w.putObj l o') :=
  ⟨by simp, fun k u hu hk _ => (World.putObj_heap_other (fun e => by subst e; rw [h] at hu; cases hu; rw [hc] at hk; cases hk)).trans hu⟩
theorem Kc.fr {S : List Nat} {w w' : World} (h : Fr S w w') : Kc S w w' := ⟨h.size, fun k o hk _ hs => (h.block k (Array.getElem?_eq_some_iff.1 hk).1 hs).trans hk⟩
theorem cells_block {w : World} {a : Addr} {v : Value} (h : w.cell? a = some v) : ∃ o : Obj, w.heap[a.block]? = some o ∧ o.isCells = true := by
  unfold World.cell? at h
  cases ho : w.heap[a.block]? with
  | none => simp [ho] at h
  | some o => exact ⟨o, rfl, by cases o <;> simp_all [Obj.isCells]⟩
theorem Kc.cell {S : List Nat} {w w' : World} (h : Kc S w w') {a : Addr} {v : Value} (hv : w.cell? a = some v) (hs : a.block ∉ S) : w'.cell? a = some v := by
  obtain ⟨o, h1, h2⟩ := cells_block hv
  exact (World.cell?_of_block (w := w) (a := a) ((h.same _ o h1 h2 hs).trans h1.symm)).trans hv
theorem Kc.boxed {S : List Nat} {w w' : World} {b : Nat} {t : TypeId} {v : Value} (h : Kc S w w') (hv : Boxed w b t v) (hs : b ∉ S) : Boxed w' b t v := h.same b _ hv rfl hs
theorem Kc.own {β : Type} (S : List Nat) (B : Nat) (w0 : World) : OwnFrom B (fun (_ : β) w => Kc S w0 w) := fun _ X Y row hs hg hr =>
  ⟨Nat.le_trans hs.size hg.size, fun k o hk ho hn => by
    have hX := hs.same k o hk ho hn
    refine (hg.block k (Array.getElem?_eq_some_iff.1 hX).1 (fun e => ?_)).trans hX
    obtain ⟨_, o2, h2, h3⟩ := hr k e.symm
    rw [hX] at h2; cases h2; rw [ho] at h3; cases h3⟩

end Go.Proofs.Ytjkiiccdcjcfbaa
