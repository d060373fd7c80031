/-
  Package pairs: Merge.
-/
import Derived.Test.YtlcnjiibapehbaaPNum
import Derived.Deep.RegionHeld3
import Derived.Deep.DeepCutAuto
import Derived.Deep.RegionLaw
import Derived.Laws.OwnMore
namespace Go.Proofs.Ytlcnjiibapehbaa
open Go.RowKit Mem Spans
set_option linter.unusedSimpArgs false
set_option linter.unusedVariables false
set_option maxRecDepth 100000

/-- All of both; n: how many turns at most. -/
def mgp (f : Int → Int → Int) : Nat → List Sp → List Sp → List Sp
  | 0, a, b => a ++ b
  | n + 1, a, b =>
    match a, b with
    | s :: ra, t :: rb => if s.1 < t.1 then s :: mgp f n ra (t :: rb) else if t.1 < s.1 then t :: mgp f n (s :: ra) rb else (s.1, f s.2 t.2) :: mgp f n ra rb
    | a, b => a ++ b
def mrp (f : Int → Int → Int) (a b : List Sp) : List Sp := mgp f (a.length + b.length) a b
theorem mgp_nil {f : Int → Int → Int} {n : Nat} {a b : List Sp} (h : a = [] ∨ b = []) : mgp f n a b = a ++ b := by
  cases n with
  | zero => rfl
  | succ n =>
    unfold mgp
    rcases h with rfl | rfl
    · rfl
    · cases a <;> rfl
theorem mgp_cons {f : Int → Int → Int} {n : Nat} {s t : Sp} {ra rb : List Sp} (h : (s :: ra).length + (t :: rb).length ≤ n) : ∃ m, n = m + 1 ∧ ra.length + (t :: rb).length ≤ m ∧ (s :: ra).length + rb.length ≤ m ∧ ra.length + rb.length ≤ m ∧
    mgp f n (s :: ra) (t :: rb) = if s.1 < t.1 then s :: mgp f m ra (t :: rb) else if t.1 < s.1 then t :: mgp f m (s :: ra) rb else (s.1, f s.2 t.2) :: mgp f m ra rb := by
  simp only [List.length_cons] at h ⊢
  obtain ⟨m, rfl⟩ : ∃ m, n = m + 1 := ⟨n - 1, by omega⟩
  exact ⟨m, rfl, by omega, by omega, by omega, rfl⟩

theorem run_append_src {e t : TypeId} {i0 : TypeInfo} (ht : Try.prog.underlying t = some (.slice e)) (hi : SInfo e i0)
    {B : Nat} {w : World} {v u : Value} {xs ys : List Sp} (hB : B ≤ w.heap.size) (h : SOwn e B w v xs) (h2 : SSrc w u ys) (hl : xs.length + ys.length ≤ 1000000) (ty : TypeId) :
    ∃ v' w', (Builtin.append_ #[t, t] ty #[v, u]).run Try.prog w = .ok v' w' ∧ SOwn e B w' v' (xs ++ ys) ∧ Below B w w' := by
  obtain ⟨ao, c, rfl, hc1, hc2, h64, b, off, ha, hc⟩ := h2
  cases ao with
  | none =>
    have h0 : ys = [] := by
      by_cases hy : 0 < ys.length
      · have := ha hy; cases this
      · exact List.eq_nil_of_length_eq_zero (by omega)
    subst h0
    refine ⟨v, w, ?_, by simpa using h, Below.refl _ _⟩
    rcases h.owns.2 with ⟨rfl, _⟩ | ⟨g, cap, cur, rfl, _, _, hnc, _⟩
    · simp [Builtin.append_, run_underlying ht, sizeOf, typeInfo, hi.1, Builtin.lenOf, Builtin.firstCells]
    · simp [Builtin.append_, run_underlying ht, sizeOf, typeInfo, hi.1, Builtin.lenOf, Builtin.firstCells, hnc, storeCells]
  | some ad =>
    have hnew : ∀ (j : Nat) (x : Value), (spCells ys)[j]? = some x → w.cell? (ad.add j) = some x := by
      intro j x hj
      have hjl : j < (spCells ys).length := (List.getElem?_eq_some_iff.1 hj).1
      rw [spCells_length] at hjl
      have hlen : 0 < ys.length := by omega
      have := ha hlen
      simp only [Option.some.injEq] at this
      subst this
      have e : (⟨b, off, none⟩ : Addr).add j = ⟨b, off + j, none⟩ := by unfold Addr.add; split <;> simp_all
      rw [e]
      obtain ⟨s, hs⟩ := at_lt (l := ys) (k := j / 2) (by omega)
      have h1 := spCells_at ys (j / 2) s hs
      have h2 := hc (j / 2) s hs
      by_cases hp : j % 2 = 0
      · have ej : j / 2 * 2 = j := by omega
        rw [ej] at h1 h2
        rw [h2.1, ← h1.1, hj]
      · have ej : j / 2 * 2 + 1 = j := by omega
        rw [Nat.add_assoc, ej] at h2
        rw [ej] at h1
        rw [h2.2, ← h1.2, hj]
    obtain ⟨v', w', e1, e2, e3, e4⟩ := run_append_own w B t ty e i0 _ 2 16 ht hi.1 hi.2.1 hi.2.2.1 hi.2.2.2 rfl (by decide) v xs.length (spCells xs) h.owns ad ys.length c (spCells ys) (by rw [spCells_length])
      hnew
      (fun x hx => by
        obtain ⟨s, _, hs⟩ := List.mem_flatMap.1 hx
        simp at hs
        rcases hs with rfl | rfl <;> rfl) (by unfold maxLen; omega) (by omega) hB
    refine ⟨v', w', e1, SOwn.of_owns ?_ ?_, (Below.refl B w).grown e3 hB h.block⟩
    · rw [spCells_append, List.length_append]; exact e2
    · rw [e4]
      constructor
      · rintro ⟨h1, h0⟩
        have hx : xs = [] := by
          rcases h with ⟨h, _⟩ | ⟨g, _, h3, hr⟩
          · exact h
          · obtain ⟨cc, hv⟩ := hr.val
            rw [hv] at h1
            simp at h1
        have hy : ys = [] := List.eq_nil_of_length_eq_zero (by omega)
        rw [hx, hy]; rfl
      · intro h0
        have hx := (List.append_eq_nil_iff.1 h0).1
        have hy := (List.append_eq_nil_iff.1 h0).2
        subst hx
        exact ⟨h.nil, by rw [hy]; rfl⟩

section
variable (w : World)
theorem wpList_append_src {ops : Array Oper} {rest : List Oper} {o : Oper} {a : Act} {Q : Exit → Act → World → Prop} (hgd : o.guard = none) (sx x : Operand) (t : TypeId)
    (ho : o.op = .call { callee := .builtin .append, args := #[sx, x], argTypes := #[t, t] })
    {e : TypeId} {i0 : TypeInfo} (ht : Try.prog.underlying t = some (.slice e)) (hi : SInfo e i0)
    {B : Nat} {v u : Value} {xs ys : List Sp} (hB : B ≤ w.heap.size) (hs : a.eval sx = v) (hx : a.eval x = u) (h1 : SOwn e B w v xs) (h2 : SSrc w u ys) (hl : xs.length + ys.length ≤ 1000000)
    (h : ∀ v' w', SOwn e B w' v' (xs ++ ys) → Below B w w' → wpList Try.prog ops Q rest (a.put o.dst v') w') : wpList Try.prog ops Q (o :: rest) a w := by
  refine wpList_plain hgd fun _ hK => ?_
  obtain ⟨v', w', hr, h3, h4⟩ := run_append_src ht hi hB h1 h2 hl o.type
  unfold Oper.wp execOp
  simp only [ho, resolve, invoke, builtin, Sem.run_bind, Sem.run_pure, Result.andThen_ok, List.map_toArray, List.map_cons, List.map_nil, hs, hx, hr]
  exact hK _ _ (h v' w' h3 h4)
end
/-- append of a pair to a row of the call's own, as one step of a region that draws. -/
theorem step_append_sp {ops : Array Oper} {o : Oper} {a : Act} {w : World} {K : Act → World → Prop} {Q : Exit → Act → World → Prop} {E : Prop} (hgd : o.guard = none) (sx x : Operand) (t : TypeId)
    (ho : o.op = .call { callee := .builtin .append, args := #[sx, x], argTypes := #[t, t] })
    {e : TypeId} {i0 : TypeInfo} (ht : Try.prog.underlying t = some (.slice e)) (hi : SInfo e i0)
    {B : Nat} {v u : Value} {l : List Sp} {s : Sp} (hs : a.eval sx = v) (hx : a.eval x = u) (hB : B ≤ w.heap.size) (h1 : SOwn e B w v l) (h2 : SOwn e B w u [s]) (hl : l.length ≤ 1000000)
    (h : ∀ v' w', SOwn e B w' v' (l ++ [s]) → Below B w w' → K (a.put o.dst v') w') :
    if Region.wanted o (yielded ops a.tmps) = true then Oper.wp Try.prog o a w K Q else E := by
  have hw : Region.wanted o (yielded ops a.tmps) = true := by simp [Region.wanted, hgd]
  rw [if_pos hw]
  obtain ⟨v', w', hr, h3, h4⟩ := run_append_sp ht hi.1 hi.2.1 hi.2.2.1 hi.2.2.2 hB h1 h2 hl o.type
  unfold Oper.wp execOp
  simp only [ho, resolve, invoke, builtin, Sem.run_bind, Sem.run_pure, Result.andThen_ok, List.map_toArray, List.map_cons, List.map_nil, hs, hx, hr]
  exact h v' w' h3 h4
/-- A call of a function that turns nothing, as one step of a region that draws. -/
theorem step_call {P : Program} {ops : Array Oper} {o : Oper} {a : Act} {w : World} {K : Act → World → Prop} {Q : Exit → Act → World → Prop} {E : Prop} (hgd : o.guard = none) {f : Nat} {ags : Array Operand} {ts : Array TypeId}
    (ho : o.op = .call { callee := .value (.func f), args := ags, argTypes := ts }) {args : Array Value} (ha : ags.map a.eval = args) (hent : ∀ args w, (callFunc f args).run P w = .ok (.enter f args) w)
    {v : Value} (hc : Calls P f args w fun e w' => e = .returned v ∧ w = w') (hK : K (a.put o.dst v) w) :
    if Region.wanted o (yielded ops a.tmps) = true then Oper.wp P o a w K Q else E := by
  have hw : Region.wanted o (yielded ops a.tmps) = true := by simp [Region.wanted, hgd]
  rw [if_pos hw]
  unfold Oper.wp execOp
  simp [ho, resolve, invoke, go_sem, ha, hent]
  refine hc.mono ?_
  rintro e w' ⟨rfl, rfl⟩
  exact hK
end Go.Proofs.Ytlcnjiibapehbaa
