/-
  Rows of buckets (three cells each) of the call's own: append, in a region that draws and in one that doesn't.
-/
import Derived.Test.YtjkiiccdcjcfbaaHWalk
import Derived.Test.YtjkiiccdcjcfbaaSOwns
namespace Go.Proofs.Ytjkiiccdcjcfbaa
open Go.RowKit Mem Spans
set_option linter.unusedSimpArgs false
set_option linter.unusedVariables false
set_option maxRecDepth 100000

/-- What an append to a row of type e leaves: all blocks of other types. -/
def Ots (e : TypeId) (w w' : World) : Prop := ∀ (G : Nat) (cs : Array Value) (t : TypeId) (f : Nat × Nat), w.heap[G]? = some (Obj.cells cs t f) → t ≠ e → w'.heap[G]? = some (Obj.cells cs t f)
theorem Ots.refl (e : TypeId) (w : World) : Ots e w w := fun _ _ _ _ h _ => h
theorem Ots.trans {e : TypeId} {a b c : World} (h : Ots e a b) (k : Ots e b c) : Ots e a c := fun G cs t f hg ht => k G cs t f (h G cs t f hg ht) ht
theorem Ots.fr {e : TypeId} {a b : World} (h : Fr [] a b) : Ots e a b := fun _ _ _ _ hg _ => h.heap hg (by simp)
theorem Ots.of {e : TypeId} {size : Nat} {B n : Nat} {w w' : World} {v : Value} {xs : List Value} (h : w.ownsRow B e size v n xs) (g : w.grownBy w' v.ownBlock) : Ots e w w' := by
  intro G cs t f hg ht
  rw [g.block G (lt_of_heap hg) ?_, hg]
  intro hb
  rcases h.2 with ⟨rfl, _⟩ | ⟨g', cap, cur, rfl, _, hh, _⟩
  · simp [Value.ownBlock] at hb
  · simp [Value.ownBlock] at hb
    subst hb
    rw [hg] at hh
    simp at hh
    exact ht hh.2.1

def bkCells (l : List Bk) : List Value := l.flatMap fun x => [.int .i64 x.1, .int .i64 x.2.1, .int .u64 x.2.2]
theorem bkCells_length (l : List Bk) : (bkCells l).length = l.length * 3 := by
  induction l with
  | nil => rfl
  | cons x y ih => rw [bkCells, List.flatMap_cons, List.length_append, ← bkCells, ih]; simp; omega
theorem bkCells_append (l m : List Bk) : bkCells (l ++ m) = bkCells l ++ bkCells m := by simp [bkCells]
theorem bkCells_at (l : List Bk) (j : Nat) (s : Bk) (h : l[j]? = some s) : (bkCells l)[j * 3]? = some (.int .i64 s.1) ∧ (bkCells l)[j * 3 + 1]? = some (.int .i64 s.2.1) ∧ (bkCells l)[j * 3 + 2]? = some (.int .u64 s.2.2) := by
  induction l generalizing j with
  | nil => simp at h
  | cons x y ih =>
    have e : bkCells (x :: y) = .int .i64 x.1 :: .int .i64 x.2.1 :: .int .u64 x.2.2 :: bkCells y := by simp [bkCells]
    rw [e]
    rcases j with _ | j
    · have : x = s := by simpa using h
      subst this
      exact ⟨rfl, rfl, rfl⟩
    · have := ih j (by simpa using h)
      rw [show (j + 1) * 3 = j * 3 + 3 from by omega]
      simpa using this

/-- A slice of buckets that the call made itself, from block B on. -/
def BOwn (B : Nat) (w : World) (v : Value) (l : List Bk) : Prop :=
  (l = [] ∧ v = .slice none 0 0) ∨ ∃ g, B ≤ g ∧ 0 < l.length ∧ Row w 66 3 v g l.length (bkCells l)
theorem BOwn.nil (B : Nat) (w : World) : BOwn B w (.slice none 0 0) [] := .inl ⟨rfl, rfl⟩
theorem BOwn.kept {B : Nat} {w w' : World} {v : Value} {l : List Bk} (h : BOwn B w v l) (f : Fr [] w w') : BOwn B w' v l := by
  rcases h with h | ⟨g, h1, h2, h3⟩
  · exact .inl h
  · exact .inr ⟨g, h1, h2, h3.kept f (by simp)⟩
theorem BOwn.keptS {B : Nat} {w w' : World} {v : Value} {l : List Bk} {S : List Nat} (h : BOwn B w v l) (f : Fr S w w') (hs : ∀ y ∈ S, y < B) : BOwn B w' v l := by
  rcases h with h | ⟨g, h1, h2, h3⟩
  · exact .inl h
  · exact .inr ⟨g, h1, h2, h3.kept f (fun hg => by have := hs g hg; omega)⟩
theorem BOwn.owns {B : Nat} {w : World} {v : Value} {l : List Bk} (h : BOwn B w v l) : w.ownsRow B 66 3 v l.length (bkCells l) := by
  rcases h with ⟨rfl, rfl⟩ | ⟨g, h1, h2, h3, cap, cur, hv, r⟩
  · exact World.ownsRow_nil _ _ _ _
  · exact ⟨h3, .inr ⟨g, cap, cur, hv, h1, r⟩⟩
theorem BOwn.block {B : Nat} {w : World} {v : Value} {l : List Bk} (h : BOwn B w v l) : ∀ k, v.ownBlock = some k → B ≤ k := by
  rcases h with ⟨rfl, rfl⟩ | ⟨g, h1, h2, h3⟩
  · intro k hk; simp [Value.ownBlock] at hk
  · obtain ⟨c, rfl⟩ := h3.val
    intro k hk
    have : g = k := by simpa [Value.ownBlock] using hk
    omega
theorem BOwn.of_owns {B : Nat} {w : World} {v : Value} {l : List Bk} (h : w.ownsRow B 66 3 v l.length (bkCells l)) (hn : v = .slice none 0 0 ↔ l = []) : BOwn B w v l := by
  rcases h.2 with ⟨h1, h2⟩ | ⟨g, cap, cur, hv, hg, r⟩
  · exact .inl ⟨hn.1 h1, h1⟩
  · refine .inr ⟨g, hg, ?_, h.1, cap, cur, hv, r⟩
    cases l with
    | nil => have := hn.2 rfl; rw [hv] at this; simp at this
    | cons x r => simp
theorem BOwn.val {B : Nat} {w : World} {v : Value} {l : List Bk} (h : BOwn B w v l) : ∃ ao cap, v = .slice ao l.length cap := by
  rcases h with ⟨rfl, rfl⟩ | ⟨g, _, _, hr⟩
  · exact ⟨none, 0, rfl⟩
  · obtain ⟨c, h⟩ := hr.val; exact ⟨_, c, h⟩
theorem BOwn.spot {B : Nat} {w : World} {v : Value} {l : List Bk} (h : BOwn B w v l) : ∃ ao cap b, v = .slice ao l.length cap ∧ B ≤ b ∧ l.length ≤ maxLen ∧ (0 < l.length → ao = some ⟨b, 0, none⟩) ∧
    ∀ j s, l[j]? = some s → w.cell? ⟨b, j * 3, none⟩ = some (.int .i64 s.1) ∧ w.cell? ⟨b, j * 3 + 1, none⟩ = some (.int .i64 s.2.1) ∧ w.cell? ⟨b, j * 3 + 2, none⟩ = some (.int .u64 s.2.2) := by
  rcases h with ⟨rfl, rfl⟩ | ⟨g, h1, h2, h3⟩
  · exact ⟨none, 0, B, rfl, Nat.le_refl _, Nat.zero_le _, fun h => by simp at h, fun j s hj => by simp at hj⟩
  · have hr := h3
    obtain ⟨_, cap, cur, hv, _, hn, hm, _⟩ := h3
    refine ⟨_, cap, g, hv, h1, by omega, fun _ => rfl, fun j x hj => ?_⟩
    have hjl := (List.getElem?_eq_some_iff.1 hj).1
    rw [hr.cell (j * 3) (by omega), hr.cell (j * 3 + 1) (by omega), hr.cell (j * 3 + 2) (by omega)]
    exact bkCells_at l j x hj
theorem lit_bk {B g : Nat} (w : World) (x : Bk) (hg : w.heap.size = g) (h : B ≤ g) : BOwn B (w.alloc (.cells #[.int .i64 x.1, .int .i64 x.2.1, .int .u64 x.2.2] 66)) (.slice (some ⟨g, 0, none⟩) 1 1) [x] := by
  subst hg
  exact .inr ⟨w.heap.size, h, by simp, Row.made (heap_alloc_new _ _) (by unfold maxLen; simp) (bkCells_length [x])⟩

theorem Try.infoBucket : (Try.prog.info? 66).map (fun i => (i.zero, i.size, i.bytes)) = some (some (.agg #[.int .i64 0, .int .i64 0, .int .u64 0]), 3, 24) := by kernel_rfl
theorem info_bucket : ∃ i, Try.prog.info? 66 = some i ∧ i.zero = some (.agg #[.int .i64 0, .int .i64 0, .int .u64 0]) ∧ i.size = 3 ∧ i.bytes = 24 := by
  obtain ⟨i, hi, h⟩ := Option.map_eq_some_iff.1 Try.infoBucket
  simp only [Prod.mk.injEq] at h
  exact ⟨i, hi, h.1, h.2.1, h.2.2⟩

theorem run_append_bk {B : Nat} {w : World} {v u : Value} {l : List Bk} {s : Bk} (hB : B ≤ w.heap.size) (h : BOwn B w v l) (h2 : BOwn B w u [s]) (hl : l.length ≤ 1000000) (ty : TypeId) :
    ∃ v' w', (Builtin.append_ #[64, 64] ty #[v, u]).run Try.prog w = .ok v' w' ∧ BOwn B w' v' (l ++ [s]) ∧ Below B w w' ∧ Ots 66 w w' := by
  obtain ⟨i0, hi, hz, hs, hb⟩ := info_bucket
  rcases h2 with ⟨h0, _⟩ | ⟨g, hg, hy, hrow⟩
  · simp at h0
  · have hr := hrow
    obtain ⟨c, rfl⟩ := hrow.val
    obtain ⟨v', w', e1, e2, e3, e4⟩ := run_append_own w B 64 ty 66 i0 _ 3 24 Try.underlying64 hi hz hs hb rfl (by decide) v l.length (bkCells l) h.owns ⟨g, 0, none⟩ 1 c (bkCells [s]) rfl
      (fun j x hj => by
        have hjl : j < (bkCells [s]).length := (List.getElem?_eq_some_iff.1 hj).1
        rw [bkCells_length] at hjl
        have e : (⟨g, 0, none⟩ : Addr).add j = ⟨g, j, none⟩ := by unfold Addr.add; split <;> simp_all
        rw [e, hr.cell j (by simpa using hjl), hj])
      (fun x hx => by
        simp [bkCells] at hx
        rcases hx with rfl | rfl | rfl <;> rfl) (by unfold maxLen; omega) (by omega) hB
    refine ⟨v', w', e1, BOwn.of_owns ?_ ?_, (Below.refl B w).grown e3 hB h.block, Ots.of h.owns e3⟩
    · rw [bkCells_append, List.length_append]; exact e2
    · rw [e4]
      constructor
      · rintro ⟨_, h0⟩; omega
      · intro h0; simp at h0

section
variable (w : World)
theorem wpList_append_bk {ops : Array Oper} {rest : List Oper} {o : Oper} {a : Act} {Q : Exit → Act → World → Prop} (hgd : o.guard = none) (sx x : Operand)
    (ho : o.op = .call { callee := .builtin .append, args := #[sx, x], argTypes := #[64, 64] })
    {B : Nat} {v u : Value} {l : List Bk} {s : Bk} (hB : B ≤ w.heap.size) (hs : a.eval sx = v) (hx : a.eval x = u) (h1 : BOwn B w v l) (h2 : BOwn B w u [s]) (hl : l.length ≤ 1000000)
    (h : ∀ v' w', BOwn B w' v' (l ++ [s]) → Below B w w' → Ots 66 w w' → wpList Try.prog ops Q rest (a.put o.dst v') w') : wpList Try.prog ops Q (o :: rest) a w := by
  refine wpList_plain hgd fun _ hK => ?_
  obtain ⟨v', w', hr, h3, h4, h5⟩ := run_append_bk hB h1 h2 hl o.type
  unfold Oper.wp execOp
  simp only [ho, resolve, invoke, builtin, Sem.run_bind, Sem.run_pure, Result.andThen_ok, List.map_toArray, List.map_cons, List.map_nil, hs, hx, hr]
  exact hK _ _ (h v' w' h3 h4 h5)
end
/-- The same, as one step of a region that draws. -/
theorem step_append_bk {ops : Array Oper} {o : Oper} {a : Act} {w : World} {K : Act → World → Prop} {Q : Exit → Act → World → Prop} {E : Prop} (hgd : o.guard = none) (sx x : Operand)
    (ho : o.op = .call { callee := .builtin .append, args := #[sx, x], argTypes := #[64, 64] })
    {B : Nat} {v u : Value} {l : List Bk} {s : Bk} (hs : a.eval sx = v) (hx : a.eval x = u) (hB : B ≤ w.heap.size) (h1 : BOwn B w v l) (h2 : BOwn B w u [s]) (hl : l.length ≤ 1000000)
    (h : ∀ v' w', BOwn B w' v' (l ++ [s]) → Below B w w' → Ots 66 w w' → K (a.put o.dst v') w') :
    if Region.wanted o (yielded ops a.tmps) = true then Oper.wp Try.prog o a w K Q else E := by
  have hw : Region.wanted o (yielded ops a.tmps) = true := by simp [Region.wanted, hgd]
  rw [if_pos hw]
  obtain ⟨v', w', hr, h3, h4, h5⟩ := run_append_bk hB h1 h2 hl o.type
  unfold Oper.wp execOp
  simp only [ho, resolve, invoke, builtin, Sem.run_bind, Sem.run_pure, Result.andThen_ok, List.map_toArray, List.map_cons, List.map_nil, hs, hx, hr]
  exact h v' w' h3 h4 h5

/-- Blocks that are neither buckets nor a box of a slice of buckets lie as they lay. -/
def Oty (w w' : World) : Prop := ∀ (G : Nat) (cs : Array Value) (t : TypeId) (f : Nat × Nat), w.heap[G]? = some (Obj.cells cs t f) → t ≠ 66 → t ≠ 64 → w'.heap[G]? = some (Obj.cells cs t f)
theorem Oty.refl (w : World) : Oty w w := fun _ _ _ _ h _ _ => h
theorem Oty.trans {a b c : World} (h : Oty a b) (k : Oty b c) : Oty a c := fun G cs t f hg h1 h2 => k G cs t f (h G cs t f hg h1 h2) h1 h2
theorem Oty.fr {a b : World} (h : Fr [] a b) : Oty a b := fun _ _ _ _ hg _ _ => h.heap hg (by simp)
theorem Oty.ots {a b : World} (h : Ots 66 a b) : Oty a b := fun G cs t f hg h1 _ => h G cs t f hg h1
theorem Oty.set {w : World} {P : Nat} {v : Value} (h : Boxed w P 64 v) (u : Value) : Oty w (w.setCell ⟨P, 0, none⟩ u) := fun G cs t f hg _ h2 => by
  have hne : G ≠ P := fun e => by
    subst e
    rw [show w.heap[G]? = _ from h] at hg
    simp at hg
    exact h2 hg.2.1.symm
  exact ((Fr.refl [P] w).setCell ⟨P, 0, none⟩ u (.inl (by simp))).heap hg (by simpa using hne)
theorem Row.oty {w w' : World} {e : TypeId} {size : Nat} {v : Value} {g n : Nat} {xs : List Value} (h : Row w e size v g n xs) (k : Oty w w') (h1 : e ≠ 66) (h2 : e ≠ 64) : Row w' e size v g n xs := by
  obtain ⟨a, cap, cur, hv, hg, r⟩ := h
  exact ⟨a, cap, cur, hv, k _ _ _ _ hg h1 h2, r⟩
theorem IOwn.oty {B : Nat} {w w' : World} {v : Value} {l : List Int} (h : IOwn B w v l) (k : Oty w w') : IOwn B w' v l := by
  rcases h with h | ⟨g, h1, h2, h3⟩
  · exact .inl h
  · exact .inr ⟨g, h1, h2, Row.oty h3 k (by decide) (by decide)⟩
theorem NOwn.oty {B : Nat} {w w' : World} {v : Value} {l : List Int} (h : NOwn 2 B w v l) (k : Oty w w') : NOwn 2 B w' v l := by
  rcases h with h | ⟨g, h1, h2, h3⟩
  · exact .inl h
  · exact .inr ⟨g, h1, h2, Row.oty h3 k (by decide) (by decide)⟩
theorem Nine.oty {w w' : World} {b : Nat} {cs : Array Value} (h : Nine w b cs) (k : Oty w w') : Nine w' b cs := k _ _ _ _ h (by decide) (by decide)
theorem Boxed.oty {w w' : World} {b : Nat} {t : TypeId} {v : Value} (h : Boxed w b t v) (k : Oty w w') (h1 : t ≠ 66) (h2 : t ≠ 64) : Boxed w' b t v := k _ _ _ _ h h1 h2
theorem Boxed.ots {w w' : World} {b : Nat} {t : TypeId} {v : Value} (h : Boxed w b t v) (k : Ots 66 w w') (h1 : t ≠ 66) : Boxed w' b t v := k _ _ _ _ h h1
theorem BOwn.box {P : Nat} {w : World} {v : Value} {l : List Bk} (h : BOwn (P + 1) w v l) (u : Value) : BOwn (P + 1) (w.setCell ⟨P, 0, none⟩ u) v l := h.keptS ((Fr.refl [P] w).setCell ⟨P, 0, none⟩ u (.inl (by simp))) (fun y hy => by simp at hy; omega)
end Go.Proofs.Ytjkiiccdcjcfbaa
