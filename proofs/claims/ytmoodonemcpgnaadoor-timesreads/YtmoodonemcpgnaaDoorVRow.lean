/-
  A row of numbers without a sign that the call itself makes by append, number by number: where it lies, and append as one step of a region that draws.
-/
import Derived.Test.YtmoodonemcpgnaaDoorRef13
import Derived.Deep.RegionHeld3
import Derived.Deep.DeepCutAuto
import Derived.Deep.RegionLaw
import Derived.Laws.OwnMore
namespace Go.Proofs.YtmoodonemcpgnaaDoor
open Go.RowKit Mem Bits Groups Evens
set_option linter.unusedSimpArgs false
set_option linter.unusedVariables false
set_option maxRecDepth 100000

def vCells (z : Nat → Nat) (k : Nat) : List Value := (List.range k).map fun j => .int .u64 ((z j : Nat) : Int)
def upd (z : Nat → Nat) (k x : Nat) : Nat → Nat := fun j => if j = k then x else z j
theorem upd_lt {z : Nat → Nat} {k x : Nat} (h : ∀ j, z j < 18446744073709551616) (hx : x < 18446744073709551616) : ∀ j, upd z k x j < 18446744073709551616 := by
  intro j; unfold upd; split
  · exact hx
  · exact h j
theorem upd_at (z : Nat → Nat) (k x : Nat) : upd z k x k = x := by unfold upd; rw [if_pos rfl]
theorem upd_trow (z : Nat → Nat) (k x : Nat) : trow (upd z k x) k = trow z k := trow_congr (fun j hj => by unfold upd; rw [if_neg (by omega)])
theorem upd_next (z : Nat → Nat) (k x : Nat) : trow (upd z k x) (k + 1) = tnext (trow z k) x := by
  show tnext (trow (upd z k x) k) (upd z k x k) = _
  rw [upd_trow, upd_at]
theorem upd_cells (z : Nat → Nat) (k x : Nat) : vCells (upd z k x) (k + 1) = vCells z k ++ [.int .u64 ((x : Nat) : Int)] := by
  unfold vCells
  rw [List.range_succ, List.map_append]
  congr 1
  · apply List.map_congr_left
    intro j hj
    have : j < k := by simpa using hj
    unfold upd; rw [if_neg (by omega)]
  · simp [upd_at]

/-- The row: k numbers, in a block from B on. -/
def VRow (B : Nat) (w : World) (v : Value) (k : Nat) (z : Nat → Nat) : Prop :=
  (k = 0 ∧ v = .slice none 0 0) ∨ ∃ g, B ≤ g ∧ 0 < k ∧ Row w 31 1 v g k (vCells z k)
theorem VRow.kept {B : Nat} {w w' : World} {v : Value} {k : Nat} {z : Nat → Nat} {S : List Nat} (h : VRow B w v k z) (f : Fr S w w') (hS : ∀ x ∈ S, x < B) : VRow B w' v k z := by
  rcases h with h | ⟨g, h1, h2, h3⟩
  · exact .inl h
  · exact .inr ⟨g, h1, h2, h3.kept f (fun hm => by have := hS _ hm; omega)⟩
theorem VRow.nums {B : Nat} {w : World} {v : Value} {k : Nat} {z : Nat → Nat} (h : VRow B w v k z) : ∃ ao cap b, v = .slice ao k cap ∧ Nums w ao k b 0 z := by
  rcases h with ⟨rfl, rfl⟩ | ⟨g, h1, h2, h3⟩
  · exact ⟨none, 0, 0, rfl, fun h => by omega, fun j h => by omega⟩
  · obtain ⟨c, hc⟩ := h3.val
    refine ⟨_, c, g, hc, fun _ => rfl, fun j hj => ?_⟩
    have := h3.cell j (by omega)
    rw [show 0 + j = j from by omega, this, vCells, List.getElem?_map, List.getElem?_range hj]
    rfl

theorem Tryd.infoU64V : (Tryd.prog.info? 31).map (fun i => (i.zero, i.size, i.bytes)) = some (some (.int .u64 0), 1, 8) := by kernel_rfl
theorem info_u64v : ∃ i, Tryd.prog.info? 31 = some i ∧ i.zero = some (.int .u64 0) ∧ i.size = 1 ∧ i.bytes = 8 := by
  obtain ⟨i, hi, h⟩ := Option.map_eq_some_iff.1 Tryd.infoU64V
  simp only [Prod.mk.injEq] at h
  exact ⟨i, hi, h.1, h.2.1, h.2.2⟩

theorem run_append_v {B : Nat} {w : World} {v : Value} {k : Nat} {z : Nat → Nat} {x g c : Nat} (hB : B ≤ w.heap.size) (h : VRow B w v k z) (hx : w.cell? ⟨g, 0, none⟩ = some (.int .u64 ((x : Nat) : Int))) (hk : k ≤ 1000000) (ty : TypeId) :
    ∃ v' w', (Builtin.append_ #[22, 22] ty #[v, .slice (some ⟨g, 0, none⟩) 1 c]).run Tryd.prog w = .ok v' w' ∧ VRow B w' v' (k + 1) (upd z k x) ∧ ∃ G, B ≤ G ∧ Fr [G] w w' := by
  obtain ⟨i0, hi, hz, hs, hb⟩ := info_u64v
  have hown : w.ownsRow B 31 1 v k (vCells z k) := by
    rcases h with ⟨rfl, rfl⟩ | ⟨g, h1, h2, h3, cap, cur, hv, r⟩
    · exact World.ownsRow_nil _ _ _ _
    · exact ⟨h3, .inr ⟨g, cap, cur, hv, h1, r⟩⟩
  obtain ⟨v', w', e1, e2, e3, e4⟩ := run_append_own (P := Tryd.prog) (w := w) B 22 ty 31 i0 _ 1 8 Tryd.underlying22 hi hz hs hb rfl (by decide) v k (vCells z k) hown ⟨g, 0, none⟩ 1 c [.int .u64 ((x : Nat) : Int)] rfl
    (fun j u hj => by
      have hjl : j < 1 := (List.getElem?_eq_some_iff.1 hj).1
      have : j = 0 := by omega
      subst this
      have e : (⟨g, 0, none⟩ : Addr).add 0 = ⟨g, 0, none⟩ := by unfold Addr.add; split <;> simp_all
      rw [e, hx]
      exact hj)
    (fun u hu => by
      simp at hu
      subst hu; rfl) (by unfold maxLen; omega) (by omega) hB
  refine ⟨v', w', e1, ?_, ?_⟩
  · rw [← upd_cells] at e2
    rcases e2.2 with ⟨h1, h2⟩ | ⟨g', cap, cur, hv, hg, r⟩
    · omega
    · exact .inr ⟨g', hg, by omega, e2.1, cap, cur, hv, r⟩
  · rcases h with ⟨_, rfl⟩ | ⟨g', h1, _, h3⟩
    · exact ⟨B, Nat.le_refl _, (Fr.refl [B] w).grown e3 (fun k hk => by simp [Value.ownBlock] at hk)⟩
    · obtain ⟨c', rfl⟩ := h3.val
      exact ⟨g', h1, (Fr.refl [g'] w).grown e3 (fun k hk => by
        have : g' = k := by simpa [Value.ownBlock] using hk
        simp [this])⟩

/-- append of a number to the row, as one step of a region that draws. -/
theorem step_append_v {ops : Array Oper} {o : Oper} {a : Act} {w : World} {K : Act → World → Prop} {Q : Exit → Act → World → Prop} {E : Prop} (hgd : o.guard = none) (sx x : Operand)
    (ho : o.op = .call { callee := .builtin .append, args := #[sx, x], argTypes := #[22, 22] })
    {B : Nat} {v : Value} {k : Nat} {z : Nat → Nat} {X g c : Nat} (hs : a.eval sx = v) (hx : a.eval x = .slice (some ⟨g, 0, none⟩) 1 c) (hB : B ≤ w.heap.size) (h1 : VRow B w v k z) (h2 : w.cell? ⟨g, 0, none⟩ = some (.int .u64 ((X : Nat) : Int))) (hk : k ≤ 1000000)
    (h : ∀ v' w' G, VRow B w' v' (k + 1) (upd z k X) → B ≤ G → Fr [G] w w' → K (a.put o.dst v') w') :
    if Region.wanted o (yielded ops a.tmps) = true then Oper.wp Tryd.prog o a w K Q else E := by
  have hw : Region.wanted o (yielded ops a.tmps) = true := by simp [Region.wanted, hgd]
  rw [if_pos hw]
  obtain ⟨v', w', hr, h3, G, hG, h4⟩ := run_append_v hB h1 h2 hk o.type (c := c)
  unfold Oper.wp execOp
  simp only [ho, resolve, invoke, builtin, Sem.run_bind, Sem.run_pure, Result.andThen_ok, List.map_toArray, List.map_cons, List.map_nil, hs, hx, hr]
  exact h v' w' G h3 hG h4
end Go.Proofs.YtmoodonemcpgnaaDoor
