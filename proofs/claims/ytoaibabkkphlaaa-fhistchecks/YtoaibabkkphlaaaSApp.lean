/-
  Rows of numbers of the call's own: append of one to another.
-/
import Derived.Test.YtoaibabkkphlaaaSPlaces
import Derived.Laws.OwnMore
import Derived.Lib.RowBridge
namespace Go.Proofs.Ytoaibabkkphlaaa
open Go.RowKit Mem Spans
open Classical
set_option linter.unusedSimpArgs false
set_option linter.unusedVariables false
set_option maxRecDepth 100000

theorem IOwn.owns {B : Nat} {w : World} {v : Value} {zs : List Int} (h : IOwn B w v zs) : w.ownsRow B 3 1 v zs.length (inCells zs) := by
  rcases h with ⟨rfl, rfl⟩ | ⟨g, h1, h2, h3, cap, cur, hv, r⟩
  · exact World.ownsRow_nil _ _ _ _
  · exact ⟨h3, .inr ⟨g, cap, cur, hv, h1, r⟩⟩
theorem IOwn.block {B : Nat} {w : World} {v : Value} {zs : List Int} (h : IOwn B w v zs) : ∀ k, v.ownBlock = some k → B ≤ k := by
  rcases h with ⟨rfl, rfl⟩ | ⟨g, h1, h2, h3⟩
  · intro k hk; simp [Value.ownBlock] at hk
  · obtain ⟨c, rfl⟩ := h3.val
    intro k hk
    have : g = k := by simpa [Value.ownBlock] using hk
    omega
theorem inCells_length (zs : List Int) : (inCells zs).length = zs.length := by simp [inCells]

theorem run_append_ints {B : Nat} {w : World} {v u : Value} {xs ys : List Int} (hB : B ≤ w.heap.size) (h : IOwn B w v xs) (h2 : IOwn B w u ys) (hl : xs.length + ys.length ≤ 1000000) (ty : TypeId) :
    ∃ v' w', (Builtin.append_ #[41, 41] ty #[v, u]).run Try.prog w = .ok v' w' ∧ IOwn B w' v' (xs ++ ys) ∧ Below B w w' := by
  obtain ⟨i0, hi, hz0, hz1, hz2⟩ := info_int
  rcases h2 with ⟨rfl, rfl⟩ | ⟨g, hg, hy, hrow⟩
  · exact ⟨v, w, run_append_owned_none w B _ ty 3 i0 1 Try.underlying41 hi v xs.length _ h.owns, by simpa using h, Below.refl _ _⟩
  · have hr := hrow
    obtain ⟨c, rfl⟩ := hrow.val
    obtain ⟨v', w', e1, e2, e3, e4⟩ := run_append_own w B 41 ty 3 i0 (.int .i64 0) 1 8 Try.underlying41 hi hz0 hz1 hz2 rfl (by decide) v xs.length (inCells xs) h.owns ⟨g, 0, none⟩ ys.length c (inCells ys) (by simp [inCells])
      (fun j x hj => by
        have hjl : j < (inCells ys).length := (List.getElem?_eq_some_iff.1 hj).1
        rw [inCells_length] at hjl
        have e : (⟨g, 0, none⟩ : Addr).add j = ⟨g, j, none⟩ := by unfold Addr.add; split <;> simp_all
        rw [e, hr.cell j (by omega), hj])
      (fun x hx => by
        obtain ⟨z, _, rfl⟩ := List.mem_map.1 hx
        rfl) (by unfold maxLen; omega) (by omega) hB
    refine ⟨v', w', e1, IOwn.of_owns ?_ ?_, (Below.refl B w).grown e3 hB h.block⟩
    · have e5 : (xs ++ ys).map (Value.int .i64) = inCells xs ++ inCells ys := by simp [inCells]
      rw [e5, List.length_append]; exact e2
    · rw [e4]
      constructor
      · rintro ⟨_, h0⟩; omega
      · intro h0
        have := congrArg List.length h0
        rw [List.length_append] at this
        simp only [List.length_nil] at this
        exact absurd this (by omega)

section
variable (w : World)
theorem wpList_append_ints {ops : Array Oper} {rest : List Oper} {o : Oper} {a : Act} {Q : Exit → Act → World → Prop} (hgd : o.guard = none) (s x : Operand)
    (ho : o.op = .call { callee := .builtin .append, args := #[s, x], argTypes := #[41, 41] })
    {B : Nat} {v u : Value} {xs ys : List Int} (hB : B ≤ w.heap.size) (hs : a.eval s = v) (hx : a.eval x = u) (h1 : IOwn B w v xs) (h2 : IOwn B w u ys) (hl : xs.length + ys.length ≤ 1000000)
    (h : ∀ v' w', IOwn B w' v' (xs ++ ys) → Below B w w' → wpList Try.prog ops Q rest (a.put o.dst v') w') : wpList Try.prog ops Q (o :: rest) a w := by
  refine wpList_plain hgd fun _ hK => ?_
  obtain ⟨v', w', hr, h3, h4⟩ := run_append_ints hB h1 h2 hl o.type
  unfold Oper.wp execOp
  simp only [ho, resolve, invoke, builtin, Sem.run_bind, Sem.run_pure, Result.andThen_ok, List.map_toArray, List.map_cons, List.map_nil, hs, hx, hr]
  exact hK _ _ (h v' w' h3 h4)
end

end Go.Proofs.Ytoaibabkkphlaaa
