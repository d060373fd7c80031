/-
  A row of buckets in a box, one more behind it: what the world is then.
-/
import Derived.Test.YtjkiiccdcjcfbaaHBuck
namespace Go.Proofs.Ytjkiiccdcjcfbaa
open Go.RowKit Mem Spans
set_option linter.unusedSimpArgs false
set_option linter.unusedVariables false
set_option maxRecDepth 100000

theorem sdO_le (d : Int) (l : List Sp) : (sdO d l).length ≤ l.length := by
  unfold sdO
  rw [List.length_map]
  exact List.length_filter_le _ _
/-- All that a round knows of the memory: nothing old of w has turned, nor what is neither a bucket nor a box of buckets since wd; the box P holds the row. -/
def Bx (w wd : World) (P : Nat) (wx : World) (v : Value) (L : List Bk) : Prop :=
  Fr [] w wx ∧ Oty wd wx ∧ Boxed wx P 64 v ∧ BOwn (P + 1) wx v L
theorem Bx.kept {w wd wx wy : World} {P : Nat} {v : Value} {L : List Bk} (h : Bx w wd P wx v L) (f : Fr [] wx wy) : Bx w wd P wy v L :=
  ⟨h.1.trans f (by simp), h.2.1.trans (Oty.fr f), f.heap h.2.2.1 (by simp), h.2.2.2.kept f⟩
theorem Bx.lt {w wd wx : World} {P : Nat} {v : Value} {L : List Bk} (h : Bx w wd P wx v L) : P + 1 ≤ wx.heap.size := h.2.2.1.lt
theorem Bx.box {w wd wx wa : World} {P : Nat} {v va : Value} {L M : List Bk} (h : Bx w wd P wx v L) (hva : BOwn (P + 1) wa va M) (hb : Below (P + 1) wx wa) (ht : Ots 66 wx wa) (hP : w.heap.size ≤ P) :
    Boxed wa P 64 v ∧ ∀ u, u = va → Bx w wd P (wa.setCell ⟨P, 0, none⟩ u) va M := by
  have b1 : Boxed wa P 64 v := ht _ _ _ _ h.2.2.1 (by decide)
  refine ⟨b1, fun u hu => ?_⟩
  subst hu
  have f1 : Fr [] w wa := Fr.ofBelow ((h.1.below (Nat.le_refl _) (by simp)).trans ⟨hb.os, hb.tape, hb.output, hb.size, fun k hk => hb.block k (by omega)⟩)
  exact ⟨f1.setCell _ _ (.inr hP), (h.2.1.trans (Oty.ots ht)).trans (Oty.set b1 u), b1.set u, hva.box u⟩
/-- What a region that draws may take for granted of its end: it is no panic (for go_region_law, where the function's own end looks at what it was at when it panicked). -/
def calmQ (Q : Exit → Act → World → Prop) : Exit → Act → World → Prop
  | .normal, a, w => Q .normal a w
  | _, _, _ => False
theorem wp_calm {P : Program} {c : Code} {Q : Exit → Act → World → Prop} {a : Act} {w : World} (h : c.wp P (calmQ Q) a w) : c.wp P Q a w := by
  refine Code.wp_mono (fun e a w hq => ?_) h
  cases e with
  | normal => exact hq
  | _ => exact hq.elim
theorem calm_normal {Q : Exit → Act → World → Prop} {a : Act} {w : World} (h : Q .normal a w) : calmQ Q .normal a w := h
end Go.Proofs.Ytjkiiccdcjcfbaa
