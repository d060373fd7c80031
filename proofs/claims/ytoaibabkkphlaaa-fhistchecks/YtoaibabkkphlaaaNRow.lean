/-
  Rows of numbers of whatever type, of the call's own; append of one, and of a slice that came in.
-/
import Derived.Test.YtoaibabkkphlaaaSOwns
namespace Go.Proofs.Ytoaibabkkphlaaa
open Go.RowKit Mem Spans
set_option linter.unusedSimpArgs false
set_option linter.unusedVariables false
set_option maxRecDepth 100000

/-- A slice of numbers (of whatever such type) that the call made itself. -/
def NOwn (e : TypeId) (B : Nat) (w : World) (v : Value) (zs : List Int) : Prop :=
  (zs = [] ∧ v = .slice none 0 0) ∨ ∃ g, B ≤ g ∧ 0 < zs.length ∧ Row w e 1 v g zs.length (inCells zs)
theorem NOwn.kept {e : TypeId} {B : Nat} {w w' : World} {v : Value} {zs : List Int} (h : NOwn e B w v zs) (f : Fr [] w w') : NOwn e B w' v zs := by
  rcases h with h | ⟨g, h1, h2, h3⟩
  · exact .inl h
  · exact .inr ⟨g, h1, h2, h3.kept f (by simp)⟩
theorem NOwn.mono {e : TypeId} {B C : Nat} {w : World} {v : Value} {zs : List Int} (h : NOwn e B w v zs) (hc : C ≤ B) : NOwn e C w v zs := by
  rcases h with h | ⟨g, h1, h2, h3⟩
  · exact .inl h
  · exact .inr ⟨g, by omega, h2, h3⟩
theorem NOwn.src {e : TypeId} {B : Nat} {w : World} {v : Value} {zs : List Int} (h : NOwn e B w v zs) (hz : ∀ z ∈ zs, in64 z) : ISrc w v zs := by
  rcases h with ⟨rfl, rfl⟩ | ⟨g, h1, h2, h3⟩
  · exact ISrc.nil w
  · have hr := h3
    obtain ⟨_, cap, cur, hv, _, hn, hm, _⟩ := h3
    refine ⟨_, cap, hv, hn, hm, hz, g, 0, fun _ => rfl, fun j x hj => ?_⟩
    have hjl := (List.getElem?_eq_some_iff.1 hj).1
    have := hr.cell j (by omega)
    rw [show 0 + j = j from by omega, this, inCells, List.getElem?_map, hj]
    rfl
theorem NOwn.owns {e : TypeId} {B : Nat} {w : World} {v : Value} {zs : List Int} (h : NOwn e B w v zs) : w.ownsRow B e 1 v zs.length (inCells zs) := by
  rcases h with ⟨rfl, rfl⟩ | ⟨g, h1, h2, h3, cap, cur, hv, r⟩
  · exact World.ownsRow_nil _ _ _ _
  · exact ⟨h3, .inr ⟨g, cap, cur, hv, h1, r⟩⟩
theorem NOwn.block {e : TypeId} {B : Nat} {w : World} {v : Value} {zs : List Int} (h : NOwn e B w v zs) : ∀ k, v.ownBlock = some k → B ≤ k := by
  rcases h with ⟨rfl, rfl⟩ | ⟨g, h1, h2, h3⟩
  · intro k hk; simp [Value.ownBlock] at hk
  · obtain ⟨c, rfl⟩ := h3.val
    intro k hk
    have : g = k := by simpa [Value.ownBlock] using hk
    omega
theorem NOwn.of_owns {e : TypeId} {B : Nat} {w : World} {v : Value} {zs : List Int} (h : w.ownsRow B e 1 v zs.length (inCells zs)) (hn : v = .slice none 0 0 ↔ zs = []) : NOwn e B w v zs := by
  rcases h.2 with ⟨h1, h2⟩ | ⟨g, cap, cur, hv, hg, r⟩
  · exact .inl ⟨hn.1 h1, h1⟩
  · refine .inr ⟨g, hg, ?_, h.1, cap, cur, hv, r⟩
    cases zs with
    | nil => have := hn.2 rfl; rw [hv] at this; simp at this
    | cons x r => simp
theorem NOwn.val {e : TypeId} {B : Nat} {w : World} {v : Value} {zs : List Int} (h : NOwn e B w v zs) : ∃ ao cap, v = .slice ao zs.length cap := by
  rcases h with ⟨rfl, rfl⟩ | ⟨g, _, _, hr⟩
  · exact ⟨none, 0, rfl⟩
  · obtain ⟨c, h⟩ := hr.val; exact ⟨_, c, h⟩
theorem NOwn.nil {e : TypeId} {B : Nat} {w : World} {v : Value} (h : NOwn e B w v []) : v = .slice none 0 0 := by
  rcases h with ⟨_, h⟩ | ⟨g, _, h, _⟩
  · exact h
  · simp at h
theorem SOwn.nil {e : TypeId} {B : Nat} {w : World} {v : Value} (h : SOwn e B w v []) : v = .slice none 0 0 := by
  rcases h with ⟨_, h⟩ | ⟨g, _, h, _⟩
  · exact h
  · simp at h
/-- A slice of numbers, as it is built. -/
theorem lit_n {B g : Nat} (e : TypeId) (w : World) (l : List Int) (hg : w.heap.size = g) (h : B ≤ g) (h0 : 0 < l.length) (hm : l.length ≤ maxLen) : NOwn e B (w.alloc (.cells (inCells l).toArray e)) (.slice (some ⟨g, 0, none⟩) l.length l.length) l := by
  subst hg
  exact .inr ⟨w.heap.size, h, h0, Row.made (heap_alloc_new _ _) hm (by simp [inCells])⟩

theorem run_append_n {e t : TypeId} {i0 : TypeInfo} (ht : Try.prog.underlying t = some (.slice e)) (hi : Try.prog.info? e = some i0) (hz : i0.zero = some (.int .i64 0)) (hs : i0.size = 1) (hb : i0.bytes = 8)
    {B : Nat} {w : World} {v u : Value} {l : List Int} {s : Int} (hB : B ≤ w.heap.size) (h : NOwn e B w v l) (h2 : NOwn e B w u [s]) (hl : l.length ≤ 1000000) (ty : TypeId) :
    ∃ v' w', (Builtin.append_ #[t, t] ty #[v, u]).run Try.prog w = .ok v' w' ∧ NOwn e B w' v' (l ++ [s]) ∧ Below B w w' := by
  rcases h2 with ⟨h0, _⟩ | ⟨g, hg, hy, hrow⟩
  · simp at h0
  · have hr := hrow
    obtain ⟨c, rfl⟩ := hrow.val
    obtain ⟨v', w', e1, e2, e3, e4⟩ := run_append_own w B t ty e i0 _ 1 8 ht hi hz hs hb rfl (by decide) v l.length (inCells l) h.owns ⟨g, 0, none⟩ 1 c (inCells [s]) rfl
      (fun j x hj => by
        have hjl : j < (inCells [s]).length := (List.getElem?_eq_some_iff.1 hj).1
        have e : (⟨g, 0, none⟩ : Addr).add j = ⟨g, j, none⟩ := by unfold Addr.add; split <;> simp_all
        rw [e, hr.cell j (by simpa [inCells] using hjl), hj])
      (fun x hx => by
        simp [inCells] at hx
        subst hx; rfl) (by unfold maxLen; omega) (by omega) hB
    refine ⟨v', w', e1, NOwn.of_owns ?_ ?_, (Below.refl B w).grown e3 hB h.block⟩
    · have : inCells (l ++ [s]) = inCells l ++ inCells [s] := by simp [inCells]
      rw [this, List.length_append]; exact e2
    · rw [e4]
      constructor
      · rintro ⟨_, h0⟩; omega
      · intro h0; simp at h0

section
variable (w : World)
theorem wpList_append_n {ops : Array Oper} {rest : List Oper} {o : Oper} {a : Act} {Q : Exit → Act → World → Prop} (hgd : o.guard = none) (sx x : Operand) (t : TypeId)
    (ho : o.op = .call { callee := .builtin .append, args := #[sx, x], argTypes := #[t, t] })
    {e : TypeId} {i0 : TypeInfo} (ht : Try.prog.underlying t = some (.slice e)) (hi : Try.prog.info? e = some i0) (hz : i0.zero = some (.int .i64 0)) (hsz : i0.size = 1) (hb : i0.bytes = 8)
    {B : Nat} {v u : Value} {l : List Int} {s : Int} (hB : B ≤ w.heap.size) (hs : a.eval sx = v) (hx : a.eval x = u) (h1 : NOwn e B w v l) (h2 : NOwn e B w u [s]) (hl : l.length ≤ 1000000)
    (h : ∀ v' w', NOwn e B w' v' (l ++ [s]) → Below B w w' → wpList Try.prog ops Q rest (a.put o.dst v') w') : wpList Try.prog ops Q (o :: rest) a w := by
  refine wpList_plain hgd fun _ hK => ?_
  obtain ⟨v', w', hr, h3, h4⟩ := run_append_n ht hi hz hsz hb hB h1 h2 hl o.type
  unfold Oper.wp execOp
  simp only [ho, resolve, invoke, builtin, Sem.run_bind, Sem.run_pure, Result.andThen_ok, List.map_toArray, List.map_cons, List.map_nil, hs, hx, hr]
  exact hK _ _ (h v' w' h3 h4)
end

/-- What the kit knows of a type whose values are numbers of one cell; of pairs of two cells. -/
def NInfo (e : TypeId) (i : TypeInfo) : Prop := Try.prog.info? e = some i ∧ i.zero = some (.int .i64 0) ∧ i.size = 1 ∧ i.bytes = 8
def SInfo (e : TypeId) (i : TypeInfo) : Prop := Try.prog.info? e = some i ∧ i.zero = some (.agg #[.int .i64 0, .int .i64 0]) ∧ i.size = 2 ∧ i.bytes = 16
theorem Try.infoI64 : (Try.prog.info? 2).map (fun i => (i.zero, i.size, i.bytes)) = some (some (.int .i64 0), 1, 8) := by kernel_rfl
theorem info_int64 : ∃ i, NInfo 2 i := by
  obtain ⟨i, hi, h⟩ := Option.map_eq_some_iff.1 Try.infoI64
  simp only [Prod.mk.injEq] at h
  exact ⟨i, hi, h.1, h.2.1, h.2.2⟩
theorem ninfo_int : ∃ i, NInfo 3 i := info_int
theorem run_append_src {e t : TypeId} {i0 : TypeInfo} (ht : Try.prog.underlying t = some (.slice e)) (hi : SInfo e i0)
    {B : Nat} {w : World} {v u : Value} {xs ys : List Sp} (hB : B ≤ w.heap.size) (h : SOwn e B w v xs) (h2 : SSrc w u ys) (hl : xs.length + ys.length ≤ 1000000) (ty : TypeId) :
    ∃ v' w', (Builtin.append_ #[t, t] ty #[v, u]).run Try.prog w = .ok v' w' ∧ SOwn e B w' v' (xs ++ ys) ∧ Below B w w' := by
  obtain ⟨ao, c, rfl, hc1, hc2, h64, b, off, ha, hc⟩ := h2
  cases ao with
  | none =>
    have h0 : ys = [] := by
      by_cases hy : 0 < ys.length
      · have := ha hy; cases this
      · exact List.eq_nil_of_length_eq_zero (by omega)
    subst h0
    refine ⟨v, w, ?_, by simpa using h, Below.refl _ _⟩
    rcases h.owns.2 with ⟨rfl, _⟩ | ⟨g, cap, cur, rfl, _, _, hnc, _⟩
    · simp [Builtin.append_, run_underlying ht, sizeOf, typeInfo, hi.1, Builtin.lenOf, Builtin.firstCells]
    · simp [Builtin.append_, run_underlying ht, sizeOf, typeInfo, hi.1, Builtin.lenOf, Builtin.firstCells, hnc, storeCells]
  | some ad =>
    have hnew : ∀ (j : Nat) (x : Value), (spCells ys)[j]? = some x → w.cell? (ad.add j) = some x := by
      intro j x hj
      have hjl : j < (spCells ys).length := (List.getElem?_eq_some_iff.1 hj).1
      rw [spCells_length] at hjl
      have hlen : 0 < ys.length := by omega
      have := ha hlen
      simp only [Option.some.injEq] at this
      subst this
      have e : (⟨b, off, none⟩ : Addr).add j = ⟨b, off + j, none⟩ := by unfold Addr.add; split <;> simp_all
      rw [e]
      obtain ⟨s, hs⟩ := at_lt (l := ys) (k := j / 2) (by omega)
      have h1 := spCells_at ys (j / 2) s hs
      have h2 := hc (j / 2) s hs
      by_cases hp : j % 2 = 0
      · have ej : j / 2 * 2 = j := by omega
        rw [ej] at h1 h2
        rw [h2.1, ← h1.1, hj]
      · have ej : j / 2 * 2 + 1 = j := by omega
        rw [Nat.add_assoc, ej] at h2
        rw [ej] at h1
        rw [h2.2, ← h1.2, hj]
    obtain ⟨v', w', e1, e2, e3, e4⟩ := run_append_own w B t ty e i0 _ 2 16 ht hi.1 hi.2.1 hi.2.2.1 hi.2.2.2 rfl (by decide) v xs.length (spCells xs) h.owns ad ys.length c (spCells ys) (by rw [spCells_length])
      hnew
      (fun x hx => by
        obtain ⟨s, _, hs⟩ := List.mem_flatMap.1 hx
        simp at hs
        rcases hs with rfl | rfl <;> rfl) (by unfold maxLen; omega) (by omega) hB
    refine ⟨v', w', e1, SOwn.of_owns ?_ ?_, (Below.refl B w).grown e3 hB h.block⟩
    · rw [spCells_append, List.length_append]; exact e2
    · rw [e4]
      constructor
      · rintro ⟨h1, h0⟩
        have hx : xs = [] := by
          rcases h with ⟨h, _⟩ | ⟨g, _, h3, hr⟩
          · exact h
          · obtain ⟨cc, hv⟩ := hr.val
            rw [hv] at h1
            simp at h1
        have hy : ys = [] := List.eq_nil_of_length_eq_zero (by omega)
        rw [hx, hy]; rfl
      · intro h0
        have hx := (List.append_eq_nil_iff.1 h0).1
        have hy := (List.append_eq_nil_iff.1 h0).2
        subst hx
        exact ⟨h.nil, by rw [hy]; rfl⟩

section
variable (w : World)
theorem wpList_append_src {ops : Array Oper} {rest : List Oper} {o : Oper} {a : Act} {Q : Exit → Act → World → Prop} (hgd : o.guard = none) (sx x : Operand) (t : TypeId)
    (ho : o.op = .call { callee := .builtin .append, args := #[sx, x], argTypes := #[t, t] })
    {e : TypeId} {i0 : TypeInfo} (ht : Try.prog.underlying t = some (.slice e)) (hi : SInfo e i0)
    {B : Nat} {v u : Value} {xs ys : List Sp} (hB : B ≤ w.heap.size) (hs : a.eval sx = v) (hx : a.eval x = u) (h1 : SOwn e B w v xs) (h2 : SSrc w u ys) (hl : xs.length + ys.length ≤ 1000000)
    (h : ∀ v' w', SOwn e B w' v' (xs ++ ys) → Below B w w' → wpList Try.prog ops Q rest (a.put o.dst v') w') : wpList Try.prog ops Q (o :: rest) a w := by
  refine wpList_plain hgd fun _ hK => ?_
  obtain ⟨v', w', hr, h3, h4⟩ := run_append_src ht hi hB h1 h2 hl o.type
  unfold Oper.wp execOp
  simp only [ho, resolve, invoke, builtin, Sem.run_bind, Sem.run_pure, Result.andThen_ok, List.map_toArray, List.map_cons, List.map_nil, hs, hx, hr]
  exact hK _ _ (h v' w' h3 h4)
end
theorem SOwn.cells2 {e : TypeId} {B : Nat} {w : World} {v : Value} {l : List Sp} (h : SOwn e B w v l) (h0 : 0 < l.length) : ∃ g cap, v = .slice (some ⟨g, 0, none⟩) l.length cap ∧ l.length ≤ cap ∧ ∀ j s, l[j]? = some s → w.cell? ⟨g, j * 2, none⟩ = some (.int .i64 s.1) ∧ w.cell? ⟨g, j * 2 + 1, none⟩ = some (.int .i64 s.2) := by
  rcases h with ⟨h, _⟩ | ⟨g, _, _, hr⟩
  · rw [h] at h0; simp at h0
  · have hr' := hr
    obtain ⟨_, cap, cur, hv, _, hn, hm, _⟩ := hr
    refine ⟨g, cap, hv, hn, fun j s hj => ?_⟩
    have hjl := (List.getElem?_eq_some_iff.1 hj).1
    have c0 := hr'.cell (j * 2) (by omega)
    have c1 := hr'.cell (j * 2 + 1) (by omega)
    rw [c0, c1]
    exact spCells_at l j s hj
theorem NOwn.cells1 {e : TypeId} {B : Nat} {w : World} {v : Value} {l : List Int} (h : NOwn e B w v l) (h0 : 0 < l.length) : ∃ g cap, v = .slice (some ⟨g, 0, none⟩) l.length cap ∧ l.length ≤ cap ∧ ∀ j x, l[j]? = some x → w.cell? ⟨g, j, none⟩ = some (.int .i64 x) := by
  rcases h with ⟨h, _⟩ | ⟨g, _, _, hr⟩
  · rw [h] at h0; simp at h0
  · have hr' := hr
    obtain ⟨_, cap, cur, hv, _, hn, hm, _⟩ := hr
    refine ⟨g, cap, hv, hn, fun j x hj => ?_⟩
    have hjl := (List.getElem?_eq_some_iff.1 hj).1
    rw [hr'.cell j (by omega), inCells, List.getElem?_map, hj]
    rfl

end Go.Proofs.Ytoaibabkkphlaaa
