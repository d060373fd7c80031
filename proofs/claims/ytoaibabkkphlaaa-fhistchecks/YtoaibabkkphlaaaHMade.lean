/-
  Package hist: Make.
-/
import Derived.Test.YtoaibabkkphlaaaHMake
import Derived.Test.YtoaibabkkphlaaaArgsS
import Derived.Deep.DeepCutAuto
namespace Go.Proofs.Ytoaibabkkphlaaa
open Go.RowKit Mem Spans
set_option linter.unusedSimpArgs false
set_option linter.unusedVariables false
set_option maxRecDepth 100000

/-- A histogram's block, written anew. -/
abbrev set9 (w : World) (g : Nat) (u0 u1 u2 u3 u4 u5 u6 u7 u8 : Value) : World :=
  ((((((((w.setCell ⟨g, 0, none⟩ u0).setCell ⟨g, 1, none⟩ u1).setCell ⟨g, 2, none⟩ u2).setCell ⟨g, 3, none⟩ u3).setCell ⟨g, 4, none⟩ u4).setCell ⟨g, 5, none⟩ u5).setCell ⟨g, 6, none⟩ u6).setCell ⟨g, 7, none⟩ u7).setCell ⟨g, 8, none⟩ u8
theorem set9_fr {S : List Nat} {a b : World} {g : Nat} (h : Fr S a b) (hg : g ∈ S ∨ a.heap.size ≤ g) (u0 u1 u2 u3 u4 u5 u6 u7 u8 : Value) : Fr S a (set9 b g u0 u1 u2 u3 u4 u5 u6 u7 u8) :=
  ((((((((h.setCell _ _ hg).setCell _ _ hg).setCell _ _ hg).setCell _ _ hg).setCell _ _ hg).setCell _ _ hg).setCell _ _ hg).setCell _ _ hg).setCell _ _ hg
theorem set9_nine {w : World} {g : Nat} {a0 a1 a2 a3 a4 a5 a6 a7 a8 : Value} (h : Nine w g #[a0, a1, a2, a3, a4, a5, a6, a7, a8]) (u0 u1 u2 u3 u4 u5 u6 u7 u8 : Value) : Nine (set9 w g u0 u1 u2 u3 u4 u5 u6 u7 u8) g #[u0, u1, u2, u3, u4, u5, u6, u7, u8] := by
  unfold Nine at h ⊢
  simp [set9, World.setCell, Array.getElem?_modify, h]
theorem Nine.set57 {w : World} {g : Nat} {a0 a1 a2 a3 a4 a5 a6 a7 a8 : Value} (h : Nine w g #[a0, a1, a2, a3, a4, a5, a6, a7, a8]) (u x : Value) : Nine ((w.setCell ⟨g, 5, none⟩ u).setCell ⟨g, 7, none⟩ x) g #[a0, a1, a2, a3, a4, u, a6, x, a8] := by
  unfold Nine at h ⊢
  simp [World.setCell, Array.getElem?_modify, h]
theorem Nine.set68 {w : World} {g : Nat} {a0 a1 a2 a3 a4 a5 a6 a7 a8 : Value} (h : Nine w g #[a0, a1, a2, a3, a4, a5, a6, a7, a8]) (u x : Value) : Nine ((w.setCell ⟨g, 6, none⟩ u).setCell ⟨g, 8, none⟩ x) g #[a0, a1, a2, a3, a4, a5, u, a7, x] := by
  unfold Nine at h ⊢
  simp [World.setCell, Array.getElem?_modify, h]
theorem Nine.other {w : World} {b : Nat} {cs : Array Value} (h : Nine w b cs) {g i : Nat} {v : Value} (hn : b ≠ g) : Nine (w.setCell ⟨g, i, none⟩ v) b cs := by
  unfold Nine at h ⊢
  simp [World.setCell, Array.getElem?_modify, h, Ne.symm hn]
theorem Nine.frozen {w : World} {b : Nat} {cs : Array Value} (h : Nine w b cs) (i : Nat) : w.frozen? ⟨b, i, none⟩ = false := frozen_at h i
theorem nine_mid (w : World) (cs : Array Value) (o : Obj) : Nine ((w.alloc (.cells cs 70)).alloc o) w.heap.size cs := (Nine.new w cs).kept ((Fr.refl [] _).alloc _) (by simp)
theorem nine_top (w : World) (o : Obj) (cs : Array Value) : Nine ((w.alloc o).alloc (.cells cs 70)) (w.heap.size + 1) cs := by
  have := Nine.new (w.alloc o) cs
  rwa [World.size_alloc] at this

theorem SOwn.keptS {e : TypeId} {B : Nat} {w w' : World} {v : Value} {l : List Sp} {S : List Nat} (h : SOwn e B w v l) (f : Fr S w w') (hs : ∀ y ∈ S, y < B) : SOwn e B w' v l := by
  rcases h with h | ⟨g, h1, h2, h3⟩
  · exact .inl h
  · exact .inr ⟨g, h1, h2, h3.kept f (fun hg => by have := hs g hg; omega)⟩
theorem NOwn.keptS {e : TypeId} {B : Nat} {w w' : World} {v : Value} {l : List Int} {S : List Nat} (h : NOwn e B w v l) (f : Fr S w w') (hs : ∀ y ∈ S, y < B) : NOwn e B w' v l := by
  rcases h with h | ⟨g, h1, h2, h3⟩
  · exact .inl h
  · exact .inr ⟨g, h1, h2, h3.kept f (fun hg => by have := hs g hg; omega)⟩

theorem HOwn.keptS {B : Nat} {w w' : World} {v : Value} {h : Hs} {S : List Nat} (k : HOwn B w v h) (f : Fr S w w') (hs : ∀ y ∈ S, y < B) : HOwn B w' v h := by
  obtain ⟨a, b, c, d, h1, h2, h3, h4, h5, h6, h7⟩ := k
  exact ⟨a, b, c, d, h1, h2, h3, h4.keptS f hs, h5.keptS f hs, h6.keptS f hs, h7.keptS f hs⟩

end Go.Proofs.Ytoaibabkkphlaaa
