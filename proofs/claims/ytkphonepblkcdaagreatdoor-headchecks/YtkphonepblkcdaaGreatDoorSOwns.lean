/-
  Slices of spans of the call's own: append; how they are built.
-/
import Derived.Test.YtkphonepblkcdaaGreatDoorSApp
namespace Go.Proofs.YtkphonepblkcdaaGreatDoor
open Go.RowKit Mem Spans
set_option linter.unusedSimpArgs false
set_option linter.unusedVariables false
set_option maxRecDepth 100000

theorem Tryz.infoRefSpan : (Tryz.prog.info? 115).map (fun i => (i.zero, i.size, i.bytes)) = some (some (.agg #[.int .i64 0, .int .i64 0]), 2, 16) := by kernel_rfl
theorem info_refspan : ∃ i, Tryz.prog.info? 115 = some i ∧ i.zero = some (.agg #[.int .i64 0, .int .i64 0]) ∧ i.size = 2 ∧ i.bytes = 16 := by
  obtain ⟨i, hi, h⟩ := Option.map_eq_some_iff.1 Tryz.infoRefSpan
  simp only [Prod.mk.injEq] at h
  exact ⟨i, hi, h.1, h.2.1, h.2.2⟩

/-- A slice of spans, as it is built. -/
theorem lit_sp {B : Nat} (e : TypeId) (w : World) (l : List Sp) (h : B ≤ w.heap.size) (h0 : 0 < l.length) (hm : l.length ≤ maxLen) : SOwn e B (w.alloc (.cells (spCells l).toArray e)) (.slice (some ⟨w.heap.size, 0, none⟩) l.length l.length) l :=
  .inr ⟨w.heap.size, h, h0, Row.made (heap_alloc_new _ _) hm (spCells_length l)⟩
theorem lit_sp' {B g : Nat} (e : TypeId) (w : World) (l : List Sp) (hg : w.heap.size = g) (h : B ≤ g) (h0 : 0 < l.length) (hm : l.length ≤ maxLen) : SOwn e B (w.alloc (.cells (spCells l).toArray e)) (.slice (some ⟨g, 0, none⟩) l.length l.length) l := by
  subst hg; exact lit_sp e w l h h0 hm
/-- A slice of numbers, as it is built. -/
theorem lit_in {B : Nat} (w : World) (l : List Int) (h : B ≤ w.heap.size) (h0 : 0 < l.length) (hm : l.length ≤ maxLen) : IOwn B (w.alloc (.cells (inCells l).toArray 3)) (.slice (some ⟨w.heap.size, 0, none⟩) l.length l.length) l :=
  .inr ⟨w.heap.size, h, h0, Row.made (heap_alloc_new _ _) hm (by simp [inCells])⟩

theorem SOwn.owns {e : TypeId} {B : Nat} {w : World} {v : Value} {l : List Sp} (h : SOwn e B w v l) : w.ownsRow B e 2 v l.length (spCells l) := by
  rcases h with ⟨rfl, rfl⟩ | ⟨g, h1, h2, h3, cap, cur, hv, r⟩
  · exact World.ownsRow_nil _ _ _ _
  · exact ⟨h3, .inr ⟨g, cap, cur, hv, h1, r⟩⟩
theorem SOwn.block {e : TypeId} {B : Nat} {w : World} {v : Value} {l : List Sp} (h : SOwn e B w v l) : ∀ k, v.ownBlock = some k → B ≤ k := by
  rcases h with ⟨rfl, rfl⟩ | ⟨g, h1, h2, h3⟩
  · intro k hk; simp [Value.ownBlock] at hk
  · obtain ⟨c, rfl⟩ := h3.val
    intro k hk
    have : g = k := by simpa [Value.ownBlock] using hk
    omega
theorem SOwn.of_owns {e : TypeId} {B : Nat} {w : World} {v : Value} {l : List Sp} (h : w.ownsRow B e 2 v l.length (spCells l)) (hn : v = .slice none 0 0 ↔ l = []) : SOwn e B w v l := by
  rcases h.2 with ⟨h1, h2⟩ | ⟨g, cap, cur, hv, hg, r⟩
  · exact .inl ⟨hn.1 h1, h1⟩
  · refine .inr ⟨g, hg, ?_, h.1, cap, cur, hv, r⟩
    cases l with
    | nil => have := hn.2 rfl; rw [hv] at this; simp at this
    | cons x r => simp
theorem SOwn.mono {e : TypeId} {B C : Nat} {w : World} {v : Value} {l : List Sp} (h : SOwn e B w v l) (hc : C ≤ B) : SOwn e C w v l := by
  rcases h with h | ⟨g, h1, h2, h3⟩
  · exact .inl h
  · exact .inr ⟨g, by omega, h2, h3⟩

theorem run_append_sp {e t : TypeId} {i0 : TypeInfo} (ht : Tryz.prog.underlying t = some (.slice e)) (hi : Tryz.prog.info? e = some i0) (hz : i0.zero = some (.agg #[.int .i64 0, .int .i64 0])) (hs : i0.size = 2) (hb : i0.bytes = 16)
    {B : Nat} {w : World} {v u : Value} {l : List Sp} {s : Sp} (hB : B ≤ w.heap.size) (h : SOwn e B w v l) (h2 : SOwn e B w u [s]) (hl : l.length ≤ 1000000) (ty : TypeId) :
    ∃ v' w', (Builtin.append_ #[t, t] ty #[v, u]).run Tryz.prog w = .ok v' w' ∧ SOwn e B w' v' (l ++ [s]) ∧ Below B w w' := by
  rcases h2 with ⟨h0, _⟩ | ⟨g, hg, hy, hrow⟩
  · simp at h0
  · have hr := hrow
    obtain ⟨c, rfl⟩ := hrow.val
    obtain ⟨v', w', e1, e2, e3, e4⟩ := run_append_own w B t ty e i0 _ 2 16 ht hi hz hs hb rfl (by decide) v l.length (spCells l) h.owns ⟨g, 0, none⟩ 1 c (spCells [s]) rfl
      (fun j x hj => by
        have hjl : j < (spCells [s]).length := (List.getElem?_eq_some_iff.1 hj).1
        rw [spCells_length] at hjl
        have e : (⟨g, 0, none⟩ : Addr).add j = ⟨g, j, none⟩ := by unfold Addr.add; split <;> simp_all
        rw [e, hr.cell j (by simpa using hjl), hj])
      (fun x hx => by
        simp [spCells] at hx
        rcases hx with rfl | rfl <;> rfl) (by unfold maxLen; omega) (by omega) hB
    refine ⟨v', w', e1, SOwn.of_owns ?_ ?_, (Below.refl B w).grown e3 hB h.block⟩
    · rw [spCells_append, List.length_append]; exact e2
    · rw [e4]
      constructor
      · rintro ⟨_, h0⟩; omega
      · intro h0; simp at h0

section
variable (w : World)
theorem wpList_append_sp {ops : Array Oper} {rest : List Oper} {o : Oper} {a : Act} {Q : Exit → Act → World → Prop} (hgd : o.guard = none) (sx x : Operand) (t : TypeId)
    (ho : o.op = .call { callee := .builtin .append, args := #[sx, x], argTypes := #[t, t] })
    {e : TypeId} {i0 : TypeInfo} (ht : Tryz.prog.underlying t = some (.slice e)) (hi : Tryz.prog.info? e = some i0) (hz : i0.zero = some (.agg #[.int .i64 0, .int .i64 0])) (hsz : i0.size = 2) (hb : i0.bytes = 16)
    {B : Nat} {v u : Value} {l : List Sp} {s : Sp} (hB : B ≤ w.heap.size) (hs : a.eval sx = v) (hx : a.eval x = u) (h1 : SOwn e B w v l) (h2 : SOwn e B w u [s]) (hl : l.length ≤ 1000000)
    (h : ∀ v' w', SOwn e B w' v' (l ++ [s]) → Below B w w' → wpList Tryz.prog ops Q rest (a.put o.dst v') w') : wpList Tryz.prog ops Q (o :: rest) a w := by
  refine wpList_plain hgd fun _ hK => ?_
  obtain ⟨v', w', hr, h3, h4⟩ := run_append_sp ht hi hz hsz hb hB h1 h2 hl o.type
  unfold Oper.wp execOp
  simp only [ho, resolve, invoke, builtin, Sem.run_bind, Sem.run_pure, Result.andThen_ok, List.map_toArray, List.map_cons, List.map_nil, hs, hx, hr]
  exact hK _ _ (h v' w' h3 h4)
end

end Go.Proofs.YtkphonepblkcdaaGreatDoor
