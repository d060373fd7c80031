/-
  Package pairs: Unzip.
-/
import Derived.Test.YtoaibabkkphlaaaPNum
namespace Go.Proofs.Ytoaibabkkphlaaa
open Go.RowKit Mem Spans
set_option linter.unusedSimpArgs false
set_option linter.unusedVariables false
set_option maxRecDepth 100000

def fsts (l : List Sp) : List Int := l.map fun s => s.1
def snds (l : List Sp) : List Int := l.map fun s => s.2
/-- Unzip's values. -/
def uzv (l : List Sp) : List Int := if frm (fsts l) = 0 then snds l else []
theorem fsts_length (l : List Sp) : (fsts l).length = l.length := by simp [fsts]
theorem snds_length (l : List Sp) : (snds l).length = l.length := by simp [snds]

/-- A row of numbers that lies in block g, or none at all. -/
def NAt (e : TypeId) (w : World) (v : Value) (g : Nat) (zs : List Int) : Prop :=
  (zs = [] ∧ v = .slice none 0 0) ∨ (0 < zs.length ∧ Row w e 1 v g zs.length (inCells zs))
theorem NAt.kept {e : TypeId} {w w' : World} {v : Value} {g : Nat} {zs : List Int} {S : List Nat} (h : NAt e w v g zs) (f : Fr S w w') (hn : zs ≠ [] → g ∉ S) : NAt e w' v g zs := by
  rcases h with h | ⟨h1, h2⟩
  · exact .inl h
  · exact .inr ⟨h1, h2.kept f (hn (by intro h; rw [h] at h1; simp at h1))⟩
theorem NAt.lt {e : TypeId} {w : World} {v : Value} {g : Nat} {zs : List Int} (h : NAt e w v g zs) (hn : zs ≠ []) : g < w.heap.size := by
  rcases h with ⟨h, _⟩ | ⟨h1, h2⟩
  · exact absurd h hn
  · exact h2.lt
theorem NAt.own {e : TypeId} {B : Nat} {w : World} {v : Value} {g : Nat} {zs : List Int} (h : NAt e w v g zs) (hB : zs ≠ [] → B ≤ g) : NOwn e B w v zs := by
  rcases h with h | ⟨h1, h2⟩
  · exact .inl h
  · exact .inr ⟨g, hB (by intro h; rw [h] at h1; simp at h1), h1, h2⟩
/-- The blocks that an append to such a row may turn. -/
def tch (zs : List Int) (g : Nat) : List Nat := match zs with | [] => [] | _ :: _ => [g]
theorem tch_nil {zs : List Int} {g : Nat} (h : zs = []) : tch zs g = [] := by rw [h]; rfl
theorem tch_mem {zs : List Int} {g x : Nat} (h : x ∈ tch zs g) : zs ≠ [] ∧ x = g := by
  cases zs with
  | nil => simp [tch] at h
  | cons a r => exact ⟨by simp, by simpa [tch] using h⟩

section
variable (w : World)
theorem wpList_append_at {ops : Array Oper} {rest : List Oper} {o : Oper} {a : Act} {Q : Exit → Act → World → Prop} (hgd : o.guard = none) (sx x : Operand) (t : TypeId)
    (ho : o.op = .call { callee := .builtin .append, args := #[sx, x], argTypes := #[t, t] })
    {e : TypeId} {i0 : TypeInfo} (ht : Try.prog.underlying t = some (.slice e)) (hi : NInfo e i0)
    {v : Value} {g gn : Nat} {l : List Int} {s : Int} (hs : a.eval sx = v) (hx : a.eval x = .slice (some ⟨gn, 0, none⟩) 1 1) (hn : w.cell? ⟨gn, 0, none⟩ = some (.int .i64 s)) (h1 : NAt e w v g l) (hl : l.length ≤ 1000000)
    (h : ∀ v' g' w', NAt e w' v' g' (l ++ [s]) → Hid ((l ≠ [] ∧ g' = g) ∨ g' = w.heap.size) → Hid (Fr (tch l g) w w') → wpList Try.prog ops Q rest (a.put o.dst v') w') : wpList Try.prog ops Q (o :: rest) a w := by
  have hnew : ∀ (j : Nat) (u : Value), (inCells [s])[j]? = some u → w.cell? ((⟨gn, 0, none⟩ : Addr).add j) = some u := by
    intro j u hj
    have hj0 : j = 0 := by have := (List.getElem?_eq_some_iff.1 hj).1; simp [inCells] at this; omega
    subst hj0
    have e : (⟨gn, 0, none⟩ : Addr).add 0 = ⟨gn, 0, none⟩ := by unfold Addr.add; split <;> simp_all
    rw [e, hn]
    simpa [inCells] using hj
  have hc : inCells (l ++ [s]) = inCells l ++ inCells [s] := by simp [inCells]
  rcases h1 with ⟨rfl, rfl⟩ | ⟨h0, hrow⟩
  · refine wpList_append_new w hgd sx x t ho e i0 _ 1 8 ht hi.1 hi.2.1 hi.2.2.1 hi.2.2.2 rfl hs ⟨gn, 0, none⟩ 1 1 (inCells [s]) hx rfl hnew (by omega) (by unfold maxLen; omega) (by omega) ?_
    intro v' w' hr hf
    exact h v' _ w' (.inr ⟨by simp, hr⟩) (.inr rfl) hf
  · refine wpList_append_row w hgd sx x t ho e i0 _ 1 8 ht hi.1 hi.2.1 hi.2.2.1 hi.2.2.2 rfl v g l.length (inCells l) hs hrow ⟨gn, 0, none⟩ 1 1 (inCells [s]) hx rfl hnew (by simp [inCells, Value.oneCell']) (by unfold maxLen; omega) (by omega) ?_
    intro v' g' w' hr hg hf
    have hne : l ≠ [] := by intro h; rw [h] at h0; simp at h0
    refine h v' g' w' (.inr ⟨by simp, ?_⟩) ?_ ?_
    · rw [hc, List.length_append]; exact hr
    · rcases hg.out with h2 | h2
      · exact .inl ⟨hne, h2⟩
      · exact .inr h2
    · cases l with
      | nil => exact absurd rfl hne
      | cons y r => exact hf
end

end Go.Proofs.Ytoaibabkkphlaaa
