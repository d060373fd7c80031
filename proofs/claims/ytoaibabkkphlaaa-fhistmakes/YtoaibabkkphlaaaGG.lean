/-
  TwoU, LawG10.
-/
import Derived.Test.YtoaibabkkphlaaaGD
import Derived.Test.YtoaibabkkphlaaaGF
import Derived.Deep.DeepCutAuto
import Derived.Deep.RegionHeld3
/-
  A row of numbers and a row of numbers without a sign that grow side by side, in a region that draws.
-/
namespace Go.Proofs.Ytoaibabkkphlaaa
open Go.RowKit Mem Spans
set_option linter.unusedSimpArgs false
set_option linter.unusedVariables false
set_option maxRecDepth 100000

theorem run_append_at {e t : TypeId} {i0 : TypeInfo} (ht : Try.prog.underlying t = some (.slice e)) (hi : NInfo e i0)
    {w : World} {v : Value} {g gn : Nat} {l : List Int} {s : Int} (hn : w.cell? ⟨gn, 0, none⟩ = some (.int .i64 s)) (h1 : NAt e w v g l) (hl : l.length ≤ 1000000) (ty : TypeId) :
    ∃ v' g' w', (Builtin.append_ #[t, t] ty #[v, .slice (some ⟨gn, 0, none⟩) 1 1]).run Try.prog w = .ok v' w' ∧ NAt e w' v' g' (l ++ [s]) ∧ ((l ≠ [] ∧ g' = g) ∨ g' = w.heap.size) ∧ Fr (tch l g) w w' := by
  have hnew : ∀ (j : Nat) (u : Value), (inCells [s])[j]? = some u → w.cell? ((⟨gn, 0, none⟩ : Addr).add j) = some u := by
    intro j u hj
    have hj0 : j = 0 := by have := (List.getElem?_eq_some_iff.1 hj).1; simp [inCells] at this; omega
    subst hj0
    have e : (⟨gn, 0, none⟩ : Addr).add 0 = ⟨gn, 0, none⟩ := by unfold Addr.add; split <;> simp_all
    rw [e, hn]
    simpa [inCells] using hj
  have hc : inCells (l ++ [s]) = inCells l ++ inCells [s] := by simp [inCells]
  rcases h1 with ⟨rfl, rfl⟩ | ⟨h0, hrow⟩
  · obtain ⟨v', w', hr, h2, h3⟩ : ∃ v' w', (Builtin.append_ #[t, t] ty #[.slice none 0 0, .slice (some ⟨gn, 0, none⟩) 1 1]).run Try.prog w = .ok v' w' ∧ Row w' e 1 v' w.heap.size 1 (inCells [s]) ∧ Fr [] w w' := by
      obtain ⟨hi1, hz, hs, hb⟩ := hi
      have hr := run_append_nil (P := Try.prog) w t ty e i0 (.int .i64 0) ht hi1 hz ⟨gn, 0, none⟩ 1 1 (inCells [s]) (by rw [hs]; rfl) hnew (by omega) (by omega) (by rw [hb]; omega)
      have hge := grownCap_ge w 1 0 e
      refine ⟨_, _, hr, ⟨by simp [inCells], _, _, rfl, heap_alloc_new w.drew _, hge, grownCap_le_maxLen w 1 0 e (by unfold maxLen; omega), ?_, ?_⟩, ((Fr.refl _ _).drew).alloc _⟩
      · simp only [Array.size_append, List.size_toArray, size_zeroCells, inCells, List.length_map, List.length_cons, List.length_nil]
        rw [show (Value.int IntKind.i64 0).cells.size = 1 from rfl]
        omega
      · simp only [Array.toList_append]
        rw [show 1 * 1 = (inCells [s]).length from by simp [inCells]]
        exact List.take_left
    exact ⟨v', _, w', hr, .inr ⟨by simp, h2⟩, .inr rfl, h3⟩
  · obtain ⟨v', g', w', hr, h2, h3, h4⟩ := run_append_row (P := Try.prog) w t ty e i0 _ 1 8 ht hi.1 hi.2.1 hi.2.2.1 hi.2.2.2 rfl v g l.length (inCells l) hrow ⟨gn, 0, none⟩ 1 1 (inCells [s]) (by simp [inCells]) hnew (by simp [inCells, Value.oneCell']) (by unfold maxLen; omega) (by omega)
    have hne : l ≠ [] := by intro h; rw [h] at h0; simp at h0
    refine ⟨v', g', w', hr, .inr ⟨by simp, ?_⟩, ?_, ?_⟩
    · rw [hc, List.length_append]; exact h2
    · rcases h3 with h | h
      · exact .inl ⟨hne, h⟩
      · exact .inr h
    · cases l with
      | nil => exact absurd rfl hne
      | cons y r => exact h4

theorem run_append_uat {e t : TypeId} {i0 : TypeInfo} (ht : Try.prog.underlying t = some (.slice e)) (hi : UInfo e i0)
    {w : World} {v : Value} {g gn : Nat} {l : List Int} {s : Int} (hn : w.cell? ⟨gn, 0, none⟩ = some (.int .u64 s)) (h1 : UAt e w v g l) (hl : l.length ≤ 1000000) (ty : TypeId) :
    ∃ v' g' w', (Builtin.append_ #[t, t] ty #[v, .slice (some ⟨gn, 0, none⟩) 1 1]).run Try.prog w = .ok v' w' ∧ UAt e w' v' g' (l ++ [s]) ∧ ((l ≠ [] ∧ g' = g) ∨ g' = w.heap.size) ∧ Fr (tch l g) w w' := by
  have hnew : ∀ (j : Nat) (u : Value), (unCells [s])[j]? = some u → w.cell? ((⟨gn, 0, none⟩ : Addr).add j) = some u := by
    intro j u hj
    have hj0 : j = 0 := by have := (List.getElem?_eq_some_iff.1 hj).1; simp [unCells] at this; omega
    subst hj0
    have e : (⟨gn, 0, none⟩ : Addr).add 0 = ⟨gn, 0, none⟩ := by unfold Addr.add; split <;> simp_all
    rw [e, hn]
    simpa [unCells] using hj
  have hc : unCells (l ++ [s]) = unCells l ++ unCells [s] := by simp [unCells]
  rcases h1 with ⟨rfl, rfl⟩ | ⟨h0, hrow⟩
  · obtain ⟨v', w', hr, h2, h3⟩ : ∃ v' w', (Builtin.append_ #[t, t] ty #[.slice none 0 0, .slice (some ⟨gn, 0, none⟩) 1 1]).run Try.prog w = .ok v' w' ∧ Row w' e 1 v' w.heap.size 1 (unCells [s]) ∧ Fr [] w w' := by
      obtain ⟨hi1, hz, hs, hb⟩ := hi
      have hr := run_append_nil (P := Try.prog) w t ty e i0 (.int .u64 0) ht hi1 hz ⟨gn, 0, none⟩ 1 1 (unCells [s]) (by rw [hs]; rfl) hnew (by omega) (by omega) (by rw [hb]; omega)
      have hge := grownCap_ge w 1 0 e
      refine ⟨_, _, hr, ⟨by simp [unCells], _, _, rfl, heap_alloc_new w.drew _, hge, grownCap_le_maxLen w 1 0 e (by unfold maxLen; omega), ?_, ?_⟩, ((Fr.refl _ _).drew).alloc _⟩
      · simp only [Array.size_append, List.size_toArray, size_zeroCells, unCells, List.length_map, List.length_cons, List.length_nil]
        rw [show (Value.int IntKind.u64 0).cells.size = 1 from rfl]
        omega
      · simp only [Array.toList_append]
        rw [show 1 * 1 = (unCells [s]).length from by simp [unCells]]
        exact List.take_left
    exact ⟨v', _, w', hr, .inr ⟨by simp, h2⟩, .inr rfl, h3⟩
  · obtain ⟨v', g', w', hr, h2, h3, h4⟩ := run_append_row (P := Try.prog) w t ty e i0 _ 1 8 ht hi.1 hi.2.1 hi.2.2.1 hi.2.2.2 rfl v g l.length (unCells l) hrow ⟨gn, 0, none⟩ 1 1 (unCells [s]) (by simp [unCells]) hnew (by simp [unCells, Value.oneCell']) (by unfold maxLen; omega) (by omega)
    have hne : l ≠ [] := by intro h; rw [h] at h0; simp at h0
    refine ⟨v', g', w', hr, .inr ⟨by simp, ?_⟩, ?_, ?_⟩
    · rw [hc, List.length_append]; exact h2
    · rcases h3 with h | h
      · exact .inl ⟨hne, h⟩
      · exact .inr h
    · cases l with
      | nil => exact absurd rfl hne
      | cons y r => exact h4

/-- Two rows side by side, and some cells beside them. -/
def TWU (B : Nat) (w : World) (v1 v2 : Value) (l1 l2 : List Int) (cs : List ((Nat × Nat) × Value)) : Prop :=
  ∃ g1 g2, NAt 3 w v1 g1 l1 ∧ UAt 22 w v2 g2 l2 ∧ (l1 ≠ [] → B ≤ g1) ∧ (l2 ≠ [] → B ≤ g2) ∧ (l1 ≠ [] → l2 ≠ [] → g1 ≠ g2) ∧
    ∀ c ∈ cs, c.1.1 < w.heap.size ∧ w.cell? ⟨c.1.1, c.1.2, none⟩ = some c.2 ∧ (l1 ≠ [] → c.1.1 ≠ g1) ∧ (l2 ≠ [] → c.1.1 ≠ g2)
theorem TWU.kept {B : Nat} {w w' : World} {v1 v2 : Value} {l1 l2 : List Int} {cs : List ((Nat × Nat) × Value)} (h : TWU B w v1 v2 l1 l2 cs) (f : Fr [] w w') : TWU B w' v1 v2 l1 l2 cs := by
  obtain ⟨g1, g2, h1, h2, h3, h4, h5, h6⟩ := h
  refine ⟨g1, g2, h1.kept f (by simp), h2.kept f (by simp), h3, h4, h5, fun c hc => ?_⟩
  obtain ⟨k1, k2, k3, k4⟩ := h6 c hc
  exact ⟨Nat.lt_of_lt_of_le k1 f.size, f.cell_some k2 (by simp), k3, k4⟩
theorem TWU.lit {B g : Nat} {w : World} {v1 v2 : Value} {l1 l2 : List Int} {cs : List ((Nat × Nat) × Value)} (h : TWU B w v1 v2 l1 l2 cs) (hg : w.heap.size = g) (x : Value) (t : TypeId) : TWU B (w.alloc (.cells #[x] t)) v1 v2 l1 l2 (((g, 0), x) :: cs) := by
  subst hg
  have hk := h.kept ((Fr.refl [] w).alloc (.cells #[x] t))
  obtain ⟨g1, g2, h1, h2, h3, h4, h5, _⟩ := h
  obtain ⟨k1, k2, k3, k4, k5, k6, k7, k8⟩ := hk
  refine ⟨g1, g2, h1.kept ((Fr.refl [] w).alloc _) (by simp), h2.kept ((Fr.refl [] w).alloc _) (by simp), h3, h4, h5, fun c hc => ?_⟩
  rcases List.mem_cons.1 hc with rfl | hc
  · refine ⟨by simp, by rw [World.cell?_alloc_at _ _ _ _ rfl]; rfl, fun hn => ?_, fun hn => ?_⟩
    · have := h1.lt hn; simp only; omega
    · have := h2.lt hn; simp only; omega
  · obtain ⟨m1, m2, _, _⟩ := k8 c hc
    refine ⟨m1, m2, fun hn => ?_, fun hn => ?_⟩
    · obtain ⟨_, _, z1, z2⟩ := k8 c hc
      have e : k1 = g1 := by
        rcases h1 with ⟨h, _⟩ | ⟨_, h⟩
        · exact absurd h hn
        · rcases k3 with ⟨h', _⟩ | ⟨_, h'⟩
          · exact absurd h' hn
          · obtain ⟨c1, e1⟩ := h.val
            obtain ⟨c2, e2⟩ := h'.val
            rw [e1] at e2
            simp only [Value.slice.injEq, Option.some.injEq, Addr.mk.injEq, and_true, true_and] at e2
            exact e2.1.symm
      rw [← e]; exact z1 hn
    · obtain ⟨_, _, z1, z2⟩ := k8 c hc
      have e : k2 = g2 := by
        rcases h2 with ⟨h, _⟩ | ⟨_, h⟩
        · exact absurd h hn
        · rcases k4 with ⟨h', _⟩ | ⟨_, h'⟩
          · exact absurd h' hn
          · obtain ⟨c1, e1⟩ := h.val
            obtain ⟨c2, e2⟩ := h'.val
            rw [e1] at e2
            simp only [Value.slice.injEq, Option.some.injEq, Addr.mk.injEq, and_true, true_and] at e2
            exact e2.1.symm
      rw [← e]; exact z2 hn
theorem twu_app1 {B q : Nat} {w : World} {v1 v2 : Value} {l1 l2 : List Int} {s : Int} {cs : List ((Nat × Nat) × Value)} {i0 : TypeInfo} (hi : NInfo 3 i0) (h : TWU B w v1 v2 l1 l2 cs) (hq : ((q, 0), .int .i64 s) ∈ cs) (hB : B ≤ w.heap.size) (hl : l1.length ≤ 1000000) (ty : TypeId) :
    ∃ v' w', (Builtin.append_ #[41, 41] ty #[v1, .slice (some ⟨q, 0, none⟩) 1 1]).run Try.prog w = .ok v' w' ∧ TWU B w' v' v2 (l1 ++ [s]) l2 cs ∧ Below B w w' := by
  obtain ⟨g1, g2, h1, h2, h3, h4, h5, h6⟩ := h
  obtain ⟨v', g', w', hr, k1, k2, k3⟩ := run_append_at Try.underlying41 hi (h6 _ hq).2.1 h1 hl ty
  have hg' : l1 ≠ [] ∧ g' = g1 ∨ g' = w.heap.size := k2
  refine ⟨v', w', hr, ⟨g', g2, k1, h2.kept k3 (fun hn hm => ?_), fun _ => ?_, h4, fun _ hn => ?_, fun c hc => ?_⟩, k3.below hB (fun x hx => ?_)⟩
  · have := tch_mem hm; exact h5 this.1 hn this.2.symm
  · rcases hg' with ⟨hn, rfl⟩ | rfl
    · exact h3 hn
    · exact hB
  · rcases hg' with ⟨hn1, rfl⟩ | rfl
    · exact h5 hn1 hn
    · have := h2.lt hn; omega
  · obtain ⟨m1, m2, m3, m4⟩ := h6 c hc
    refine ⟨Nat.lt_of_lt_of_le m1 k3.size, k3.cell_some m2 (fun hm => ?_), fun _ => ?_, m4⟩
    · have := tch_mem hm; exact m3 this.1 this.2
    · rcases hg' with ⟨hn1, rfl⟩ | rfl
      · exact m3 hn1
      · omega
  · have := tch_mem hx; rw [this.2]; exact h3 this.1
theorem twu_app2 {B q : Nat} {w : World} {v1 v2 : Value} {l1 l2 : List Int} {s : Int} {cs : List ((Nat × Nat) × Value)} {i0 : TypeInfo} (hi : UInfo 22 i0) (h : TWU B w v1 v2 l1 l2 cs) (hq : ((q, 0), .int .u64 s) ∈ cs) (hB : B ≤ w.heap.size) (hl : l2.length ≤ 1000000) (ty : TypeId) :
    ∃ v' w', (Builtin.append_ #[24, 24] ty #[v2, .slice (some ⟨q, 0, none⟩) 1 1]).run Try.prog w = .ok v' w' ∧ TWU B w' v1 v' l1 (l2 ++ [s]) cs ∧ Below B w w' := by
  obtain ⟨g1, g2, h1, h2, h3, h4, h5, h6⟩ := h
  obtain ⟨v', g', w', hr, k1, k2, k3⟩ := run_append_uat Try.underlying24 hi (h6 _ hq).2.1 h2 hl ty
  have hg' : l2 ≠ [] ∧ g' = g2 ∨ g' = w.heap.size := k2
  refine ⟨v', w', hr, ⟨g1, g', h1.kept k3 (fun hn hm => ?_), k1, h3, fun _ => ?_, fun hn _ => ?_, fun c hc => ?_⟩, k3.below hB (fun x hx => ?_)⟩
  · have := tch_mem hm; exact h5 hn this.1 this.2
  · rcases hg' with ⟨hn, rfl⟩ | rfl
    · exact h4 hn
    · exact hB
  · rcases hg' with ⟨hn2, rfl⟩ | rfl
    · exact h5 hn hn2
    · have := h1.lt hn; omega
  · obtain ⟨m1, m2, m3, m4⟩ := h6 c hc
    refine ⟨Nat.lt_of_lt_of_le m1 k3.size, k3.cell_some m2 (fun hm => ?_), m3, fun _ => ?_⟩
    · have := tch_mem hm; exact m4 this.1 this.2
    · rcases hg' with ⟨hn2, rfl⟩ | rfl
      · exact m4 hn2
      · omega
  · have := tch_mem hx; rw [this.2]; exact h4 this.1
section
variable {ops : Array Oper} {o : Oper} {a : Act} {w : World} {K : Act → World → Prop} {Q : Exit → Act → World → Prop} {E : Prop}
theorem step_twu1 (hgd : o.guard = none) (sx x : Operand) (ho : o.op = .call { callee := .builtin .append, args := #[sx, x], argTypes := #[41, 41] })
    {i0 : TypeInfo} (hi : NInfo 3 i0) {B q : Nat} {v1 v2 : Value} {l1 l2 : List Int} {s : Int} {cs : List ((Nat × Nat) × Value)} (hs : a.eval sx = v1) (hx : a.eval x = .slice (some ⟨q, 0, none⟩) 1 1)
    (h1 : TWU B w v1 v2 l1 l2 cs) (hq : ((q, 0), .int .i64 s) ∈ cs) (hB : B ≤ w.heap.size) (hl : l1.length ≤ 1000000)
    (h : ∀ v' w', TWU B w' v' v2 (l1 ++ [s]) l2 cs → Below B w w' → K (a.put o.dst v') w') :
    if Region.wanted o (yielded ops a.tmps) = true then Oper.wp Try.prog o a w K Q else E := by
  have hw : Region.wanted o (yielded ops a.tmps) = true := by simp [Region.wanted, hgd]
  rw [if_pos hw]
  obtain ⟨v', w', hr, h3, h4⟩ := twu_app1 hi h1 hq hB hl o.type
  unfold Oper.wp execOp
  simp only [ho, resolve, invoke, builtin, Sem.run_bind, Sem.run_pure, Result.andThen_ok, List.map_toArray, List.map_cons, List.map_nil, hs, hx, hr]
  exact h v' w' h3 h4
theorem step_twu2 (hgd : o.guard = none) (sx x : Operand) (ho : o.op = .call { callee := .builtin .append, args := #[sx, x], argTypes := #[24, 24] })
    {i0 : TypeInfo} (hi : UInfo 22 i0) {B q : Nat} {v1 v2 : Value} {l1 l2 : List Int} {s : Int} {cs : List ((Nat × Nat) × Value)} (hs : a.eval sx = v2) (hx : a.eval x = .slice (some ⟨q, 0, none⟩) 1 1)
    (h1 : TWU B w v1 v2 l1 l2 cs) (hq : ((q, 0), .int .u64 s) ∈ cs) (hB : B ≤ w.heap.size) (hl : l2.length ≤ 1000000)
    (h : ∀ v' w', TWU B w' v1 v' l1 (l2 ++ [s]) cs → Below B w w' → K (a.put o.dst v') w') :
    if Region.wanted o (yielded ops a.tmps) = true then Oper.wp Try.prog o a w K Q else E := by
  have hw : Region.wanted o (yielded ops a.tmps) = true := by simp [Region.wanted, hgd]
  rw [if_pos hw]
  obtain ⟨v', w', hr, h3, h4⟩ := twu_app2 hi h1 hq hB hl o.type
  unfold Oper.wp execOp
  simp only [ho, resolve, invoke, builtin, Sem.run_bind, Sem.run_pure, Result.andThen_ok, List.map_toArray, List.map_cons, List.map_nil, hs, hx, hr]
  exact h v' w' h3 h4
end
theorem TWU.cell {B : Nat} {w : World} {v1 v2 : Value} {l1 l2 : List Int} {cs : List ((Nat × Nat) × Value)} (h : TWU B w v1 v2 l1 l2 cs) {c : (Nat × Nat) × Value} (hc : c ∈ cs) : w.cell? ⟨c.1.1, c.1.2, none⟩ = some c.2 := by
  obtain ⟨_, _, _, _, _, _, _, h6⟩ := h
  exact (h6 c hc).2.1
/-- A pair in a new block. -/
theorem TWU.pair {B g : Nat} {w : World} {v1 v2 : Value} {l1 l2 : List Int} (h : TWU B w v1 v2 l1 l2 []) (hg : w.heap.size = g) (x y : Value) (t : TypeId) : TWU B (w.alloc (.cells #[x, y] t)) v1 v2 l1 l2 [((g, 0), x), ((g, 1), y)] := by
  subst hg
  obtain ⟨g1, g2, h1, h2, h3, h4, h5, _⟩ := h
  refine ⟨g1, g2, h1.kept ((Fr.refl [] w).alloc _) (by simp), h2.kept ((Fr.refl [] w).alloc _) (by simp), h3, h4, h5, fun c hc => ?_⟩
  have hn1 : l1 ≠ [] → w.heap.size ≠ g1 := fun hn => by have := h1.lt hn; omega
  have hn2 : l2 ≠ [] → w.heap.size ≠ g2 := fun hn => by have := h2.lt hn; omega
  simp only [List.mem_cons, List.not_mem_nil, or_false] at hc
  rcases hc with rfl | rfl
  · exact ⟨by simp, by rw [World.cell?_alloc_at _ _ _ _ rfl]; rfl, hn1, hn2⟩
  · exact ⟨by simp, by rw [World.cell?_alloc_at _ _ _ _ rfl]; rfl, hn1, hn2⟩
theorem TWU.nil (B : Nat) (w : World) : TWU B w (.slice none 0 0) (.slice none 0 0) [] [] [] := ⟨0, 0, .inl ⟨rfl, rfl⟩, .inl ⟨rfl, rfl⟩, by simp, by simp, by simp, by simp⟩
theorem TWU.less {B : Nat} {w : World} {v1 v2 : Value} {l1 l2 : List Int} {cs : List ((Nat × Nat) × Value)} (h : TWU B w v1 v2 l1 l2 cs) : TWU B w v1 v2 l1 l2 [] := by
  obtain ⟨g1, g2, h1, h2, h3, h4, h5, _⟩ := h
  exact ⟨g1, g2, h1, h2, h3, h4, h5, by simp⟩
theorem TWU.rows {B : Nat} {w : World} {v1 v2 : Value} {l1 l2 : List Int} {cs : List ((Nat × Nat) × Value)} (h : TWU B w v1 v2 l1 l2 cs) : NOwn 3 B w v1 l1 ∧ UOwn 22 B w v2 l2 := by
  obtain ⟨g1, g2, h1, h2, h3, h4, _, _⟩ := h
  exact ⟨h1.own h3, h2.own h4⟩
end Go.Proofs.Ytoaibabkkphlaaa

/-
  What the statements of layer 10 ask of a histogram: empty, numbers, alike, same, places, apart, within.
-/
namespace Go.Proofs.Ytoaibabkkphlaaa
open Go.RowKit Mem Spans
set_option linter.unusedSimpArgs false
set_option linter.unusedVariables false
set_option maxRecDepth 100000

theorem fewF_le {h : Fs} (k : FewF h) : h.P.length ≤ 1024 ∧ h.N.length ≤ 1024 := by obtain ⟨h1, h2, _⟩ := k; omega
set_option maxHeartbeats 2000000 in
theorem empty10_any (v : Value) (w : World) (hh : FSrc w v fzero) :
    Calls Try.prog 25 #[v] w fun e w' => e = .returned (.bool true) ∧ Fr [] w w' := by
  obtain ⟨e1, f1, e2, f2, e3, f3, e4, f4, rfl⟩ : ∃ e1 f1 e2 f2 e3 f3 e4 f4, v = .agg #[.int .i64 0, .int .u64 0, .int .u64 0, .int .u64 0, .int .u64 0, .slice e1 0 f1, .slice e2 0 f2, .slice e3 0 f3, .slice e4 0 f4] := by
    obtain ⟨a1, b1, a2, b2, a3, b3, a4, b4, e, _⟩ := hh.opens
    exact ⟨a1, b1, a2, b2, a3, b3, a4, b4, e⟩
  clear hh
  go_enter Try.func25, Try.ntmps25
  go_wp2
  go_ret
  exact ⟨rfl, (Fr.refl [] w).alloc _⟩

set_option maxHeartbeats 2000000 in
theorem numbers10_any (v u : Value) (a b : Fs) (w : World) (h1 : FSrc w v a) (h2 : FSrc w u b) (e : a.s = b.s ∧ a.z = b.z ∧ a.zc = b.zc ∧ a.c = b.c ∧ a.sm = b.sm) :
    Calls Try.prog 26 #[v, u] w fun e w' => e = .returned (.bool true) ∧ Fr [] w w' := by
  obtain ⟨po, pc, no, nc, qo, qc, ro, rc, rfl, _⟩ := h1.opens
  obtain ⟨po2, pc2, no2, nc2, qo2, qc2, ro2, rc2, rfl, _⟩ := h2.opens
  obtain ⟨s, z, zc, c, sm, P, N, pd, nd⟩ := a
  obtain ⟨s2, z2, zc2, c2', sm2, P2, N2, pd2, nd2⟩ := b
  simp only at e
  obtain ⟨rfl, rfl, rfl, rfl, rfl⟩ := e
  clear h1 h2
  go_enter Try.func26, Try.ntmps26
  go_wp2
  go_ret
  exact ⟨rfl, ((Fr.refl [] w).alloc _).alloc _⟩

set_option maxHeartbeats 2000000 in
theorem alike10_any (v u : Value) (l : List Sp) (w : World) (h1 : SSrc w v l) (h2 : SSrc w u l) :
    Calls Try.prog 36 #[v, u] w fun e w' => e = .returned (.bool true) ∧ Fr [] w w' := by
  obtain ⟨ao, cap, rfl, hcap, hmax, _, b, off, ha, hc⟩ := h1
  obtain ⟨ao2, cap2, rfl, hcap2, hmax2, _, b2, off2, ha2, hc2⟩ := h2
  have HC : Hid (∀ j s, l[j]? = some s → w.cell? ⟨b, off + j * 2, none⟩ = some (.int .i64 s.1) ∧ w.cell? ⟨b, off + j * 2 + 1, none⟩ = some (.int .i64 s.2)) := hc
  have HC2 : Hid (∀ j s, l[j]? = some s → w.cell? ⟨b2, off2 + j * 2, none⟩ = some (.int .i64 s.1) ∧ w.cell? ⟨b2, off2 + j * 2 + 1, none⟩ = some (.int .i64 s.2)) := hc2
  have HA : Hid (0 < l.length → ao = some ⟨b, off, none⟩) := ha
  have HA2 : Hid (0 < l.length → ao2 = some ⟨b2, off2, none⟩) := ha2
  have hml : l.length ≤ 9223372036854775807 := by unfold maxLen at hmax; omega
  clear hc ha hc2 ha2
  go_enter Try.func36, Try.ntmps36
  go_wp2
  go_loopw [13] (fun i wr => ∃ (k : Nat), k ≤ l.length ∧ i = .int .i64 (k : Int) ∧ Fr [] w wr) (fun i _ => l.length - (intOf i).toNat)
  case atStart => exact ⟨0, by omega, rfl, Fr.refl _ _⟩
  case round =>
    obtain ⟨k, hk, rfl, hf⟩ := hrel
    have HF : Hid (Fr [] w wr) := hf
    clear hf
    by_cases hlt : k < l.length
    · obtain rfl := HA.out (by omega)
      obtain rfl := HA2.out (by omega)
      obtain ⟨s, hs⟩ := at_lt hlt
      have c0 : wr.cell? ⟨b, off + k * 2, none⟩ = some (.int .i64 s.1) := HF.out.cell_some (HC.out k s hs).1 (by simp)
      have c1 : wr.cell? ⟨b, off + k * 2 + 1, none⟩ = some (.int .i64 s.2) := HF.out.cell_some (HC.out k s hs).2 (by simp)
      have c2 : wr.cell? ⟨b2, off2 + k * 2, none⟩ = some (.int .i64 s.1) := HF.out.cell_some (HC2.out k s hs).1 (by simp)
      have c3 : wr.cell? ⟨b2, off2 + k * 2 + 1, none⟩ = some (.int .i64 s.2) := HF.out.cell_some (HC2.out k s hs).2 (by simp)
      clear hs
      obtain ⟨o, n⟩ := s
      simp only at c0 c1 c2 c3
      go_wp2_with fail
      go_quiet (fail)
      go_wp2
      go_roundw
      case rel => exact ⟨k + 1, by omega, by go_num, HF.out.drewN _⟩
      case measure => simp [intOf]; omega
    · go_wp2
      go_ret
      exact ⟨rfl, HF.out⟩

set_option maxHeartbeats 2000000 in
theorem sameU10_any (v u : Value) (l : List Int) (w : World) (h1 : USrc w v l) (h2 : USrc w u l) :
    Calls Try.prog 21 #[v, u] w fun e w' => e = .returned (.bool true) ∧ Fr [] w w' := by
  obtain ⟨ao, cap, rfl, hcap, hmax, _, b, off, ha, hc⟩ := h1
  obtain ⟨ao2, cap2, rfl, hcap2, hmax2, _, b2, off2, ha2, hc2⟩ := h2
  have HC : Hid (∀ j s, l[j]? = some s → w.cell? ⟨b, off + j, none⟩ = some (.int .u64 s)) := hc
  have HC2 : Hid (∀ j s, l[j]? = some s → w.cell? ⟨b2, off2 + j, none⟩ = some (.int .u64 s)) := hc2
  have HA : Hid (0 < l.length → ao = some ⟨b, off, none⟩) := ha
  have HA2 : Hid (0 < l.length → ao2 = some ⟨b2, off2, none⟩) := ha2
  have hml : l.length ≤ 9223372036854775807 := by unfold maxLen at hmax; omega
  clear hc ha hc2 ha2
  go_enter Try.func21, Try.ntmps21
  go_wp2
  go_loopw [13] (fun i wr => ∃ (k : Nat), k ≤ l.length ∧ i = .int .i64 (k : Int) ∧ Fr [] w wr) (fun i _ => l.length - (intOf i).toNat)
  case atStart => exact ⟨0, by omega, rfl, Fr.refl _ _⟩
  case round =>
    obtain ⟨k, hk, rfl, hf⟩ := hrel
    have HF : Hid (Fr [] w wr) := hf
    clear hf
    by_cases hlt : k < l.length
    · obtain rfl := HA.out (by omega)
      obtain rfl := HA2.out (by omega)
      obtain ⟨s, hs⟩ := at_lt hlt
      have c0 : wr.cell? ⟨b, off + k, none⟩ = some (.int .u64 s) := HF.out.cell_some (HC.out k s hs) (by simp)
      have c1 : wr.cell? ⟨b2, off2 + k, none⟩ = some (.int .u64 s) := HF.out.cell_some (HC2.out k s hs) (by simp)
      clear hs
      go_wp2_with fail
      go_quiet (fail)
      go_wp2
      go_roundw
      case rel => exact ⟨k + 1, by omega, by go_num, HF.out.drewN _⟩
      case measure => simp [intOf]; omega
    · go_wp2
      go_ret
      exact ⟨rfl, HF.out⟩

open Classical in
set_option maxHeartbeats 8000000 in
theorem apart10_any (v : Value) (l : List Sp) (w : World) (h : PSrc w v l) (hl : l.length ≤ 300) :
    Calls Try.prog 23 #[v] w fun e w' => ∃ x y, e = .returned (.tuple #[x, y]) ∧ IOwn w.heap.size w' x (fsts l) ∧ UOwn 22 w.heap.size w' y (snds l) ∧ Fr [] w w' := by
  obtain ⟨ao, cap, rfl, hcap, hmax, h64, b, off, ha, hc⟩ := h
  have HC : Hid (∀ j s, l[j]? = some s → w.cell? ⟨b, off + j * 2, none⟩ = some (.int .i64 s.1) ∧ w.cell? ⟨b, off + j * 2 + 1, none⟩ = some (.int .u64 s.2)) := hc
  have HA : Hid (0 < l.length → ao = some ⟨b, off, none⟩) := ha
  have H64 : Hid (∀ s ∈ l, in64 s.1 ∧ inu s.2) := h64
  have HL : Hid (l.length ≤ 300) := hl
  obtain ⟨i0, hi⟩ := info_uint64
  have HI : Hid (UInfo 22 i0) := hi
  obtain ⟨i1, hi1⟩ := ninfo_int
  have HI1 : Hid (NInfo 3 i1) := hi1
  clear hc ha h64 hi hi1
  go_enter Try.func23, Try.ntmps23
  go_wp2
  go_loopw [4, 5, 10] (fun p q i wr => ∃ (k : Nat), k ≤ l.length ∧ i = .int .i64 (k : Int) ∧ TWU w.heap.size wr p q (fsts (l.take k)) (snds (l.take k)) [] ∧ Fr [] w wr) (fun _ _ i _ => l.length - (intOf i).toNat)
  case atStart => exact ⟨0, by omega, rfl, by simpa [fsts, snds] using TWU.nil w.heap.size w, Fr.refl _ _⟩
  case round =>
    obtain ⟨k, hk, rfl, htw, hf⟩ := hrel
    have HF : Hid (Fr [] w wr) := hf
    have HTW : Hid (TWU w.heap.size wr u4 u5 (fsts (l.take k)) (snds (l.take k)) []) := htw
    clear hf htw
    by_cases hlt : k < l.length
    · obtain rfl := HA.out (by omega)
      obtain ⟨s, hs⟩ := at_lt hlt
      have c0 : wr.cell? ⟨b, off + k * 2, none⟩ = some (.int .i64 s.1) := HF.out.cell_some (HC.out k s hs).1 (by simp)
      have c1 : wr.cell? ⟨b, off + k * 2 + 1, none⟩ = some (.int .u64 s.2) := HF.out.cell_some (HC.out k s hs).2 (by simp)
      have HTP : Hid (fsts (l.take (k + 1)) = fsts (l.take k) ++ [s.1] ∧ snds (l.take (k + 1)) = snds (l.take k) ++ [s.2]) := by rw [Hid, take_at hs]; simp [fsts, snds]
      have HLP : Hid ((fsts (l.take k)).length ≤ 1000000 ∧ (snds (l.take k)).length ≤ 1000000) := by
        rw [Hid, fsts_length, snds_length, List.length_take]; have := HL.out; omega
      clear hs
      obtain ⟨o, n⟩ := s
      simp only at c0 c1
      have HTW2 : Hid (TWU w.heap.size (wr.alloc (.cells #[.int .i64 o, .int .u64 n] 43)) u4 u5 (fsts (l.take k)) (snds (l.take k)) [((wr.heap.size, 0), .int .i64 o), ((wr.heap.size, 1), .int .u64 n)]) := HTW.out.pair rfl (.int .i64 o) (.int .u64 n) _
      have HF2 : Hid (Fr [] w (wr.alloc (.cells #[.int .i64 o, .int .u64 n] 43))) := HF.out.alloc _
      go_upto_region 6 with fail
      generalize hPP : fsts (l.take k) = PP at *
      generalize hQQ : snds (l.take k) = QQ at *
      clear hPP hQQ HTW HF c0 c1
      generalize wr.alloc (.cells _ _) = wP at HTW2 HF2 ⊢
      generalize wr.heap.size = G at HTW2 ⊢
      have HSZ : Hid (w.heap.size ≤ wP.heap.size) := HF2.out.size
      have T1 : Hid (TWU w.heap.size (World.drew (wP.alloc (.cells #[.int .i64 o] 3))) u4 u5 PP QQ [((wP.heap.size, 0), .int .i64 o), ((G, 0), .int .i64 o), ((G, 1), .int .u64 n)]) := (HTW2.out.lit rfl (.int .i64 o) 3).kept (Fr.refl _ _).drew
      have T2 : Hid (TWU w.heap.size (World.drew ((wP.alloc (.cells #[.int .i64 o] 3)).alloc (.cells #[.int .u64 n] 22))) u4 u5 PP QQ [((wP.heap.size + 1, 0), .int .u64 n), ((wP.heap.size, 0), .int .i64 o), ((G, 0), .int .i64 o), ((G, 1), .int .u64 n)]) := ((HTW2.out.lit rfl (.int .i64 o) 3).lit (World.size_alloc _ _) (.int .u64 n) 22).kept (Fr.refl _ _).drew
      have T3 : Hid (TWU w.heap.size (World.drew ((wP.alloc (.cells #[.int .u64 n] 22)).alloc (.cells #[.int .i64 o] 3))) u4 u5 PP QQ [((wP.heap.size + 1, 0), .int .i64 o), ((wP.heap.size, 0), .int .u64 n), ((G, 0), .int .i64 o), ((G, 1), .int .u64 n)]) := ((HTW2.out.lit rfl (.int .u64 n) 22).lit (World.size_alloc _ _) (.int .i64 o) 3).kept (Fr.refl _ _).drew
      have F1 : Hid (∀ (t : TypeId) (x : Value), Fr [] w (World.drew (wP.alloc (.cells #[x] t)))) := fun t x => (HF2.out.alloc _).drew
      have F2 : Hid (∀ (t : TypeId) (x : Value) (t2 : TypeId) (x2 : Value), Fr [] w (World.drew ((wP.alloc (.cells #[x] t)).alloc (.cells #[x2] t2)))) := fun t x t2 x2 => ((HF2.out.alloc _).alloc _).drew
      have d0 : wP.cell? ⟨G, 0, none⟩ = some (.int .i64 o) := HTW2.out.cell (c := ((G, 0), .int .i64 o)) (by simp)
      have d1 : wP.cell? ⟨G, 1, none⟩ = some (.int .u64 n) := HTW2.out.cell (c := ((G, 1), .int .u64 n)) (by simp)
      have dA0 : ∀ ob, (wP.alloc ob).cell? ⟨G, 0, none⟩ = some (.int .i64 o) := fun ob => ((Fr.refl [] wP).alloc ob).cell_some d0 List.not_mem_nil
      have dA1 : ∀ ob, (wP.alloc ob).cell? ⟨G, 1, none⟩ = some (.int .u64 n) := fun ob => ((Fr.refl [] wP).alloc ob).cell_some d1 List.not_mem_nil
      have hB1 : w.heap.size ≤ wP.heap.size + 1 := by have := HSZ.out; omega
      have hB2 : w.heap.size ≤ wP.heap.size + 1 + 1 := by omega
      go_region_law (first
          | (refine step_twu1 rfl _ _ rfl HI1.out (q := wP.heap.size) (s := o) rfl rfl T1.out (by simp) (by simpa using hB1) HLP.out.1 ?_
             intro va wa twa hba
             have TA : Hid (TWU w.heap.size wa va u5 (PP ++ [o]) QQ _) := twa
             have FA : Hid (Fr [] w wa) := Fr.ofBelow (((F1.out _ _).below (Nat.le_refl _) (by simp)).trans hba)
             have TB : Hid (TWU w.heap.size (wa.alloc (.cells #[.int .u64 n] 22)) va u5 (PP ++ [o]) QQ (((wa.heap.size, 0), .int .u64 n) :: _)) := twa.lit rfl (.int .u64 n) 22
             have hB3 : w.heap.size ≤ wa.heap.size + 1 := by have := FA.out.size; omega
             have z1 : wa.cell? ⟨G, 1, none⟩ = some (.int .u64 n) := twa.cell (c := ((G, 1), .int .u64 n)) (by simp)
             clear twa hba)
          | (refine step_twu1 rfl _ _ rfl HI1.out (q := wP.heap.size) (s := o) rfl rfl T2.out (by simp) (by simpa using hB2) HLP.out.1 ?_
             intro va wa twa hba
             have TA : Hid (TWU w.heap.size wa va u5 (PP ++ [o]) QQ _) := twa
             have FA : Hid (Fr [] w wa) := Fr.ofBelow (((F2.out _ _ _ _).below (Nat.le_refl _) (by simp)).trans hba)
             have z1 : wa.cell? ⟨G, 1, none⟩ = some (.int .u64 n) := twa.cell (c := ((G, 1), .int .u64 n)) (by simp)
             clear twa hba)
          | (refine step_twu1 rfl _ _ rfl HI1.out (q := wP.heap.size + 1) (s := o) rfl rfl T3.out (by simp) (by simpa using hB2) HLP.out.1 ?_
             intro va wa twa hba
             have TA : Hid (TWU w.heap.size wa va u5 (PP ++ [o]) QQ _) := twa
             have FA : Hid (Fr [] w wa) := Fr.ofBelow (((F2.out _ _ _ _).below (Nat.le_refl _) (by simp)).trans hba)
             have z1 : wa.cell? ⟨G, 1, none⟩ = some (.int .u64 n) := twa.cell (c := ((G, 1), .int .u64 n)) (by simp)
             clear twa hba)
          | (refine step_twu2 rfl _ _ rfl HI.out (q := wa.heap.size) (s := n) rfl rfl TB.out (by simp) (by simpa using hB3) HLP.out.2 ?_
             intro vb wb twb hbb
             have TC : Hid (TWU w.heap.size wb va vb (PP ++ [o]) (QQ ++ [n]) []) := twb.less
             have FC : Hid (Fr [] w wb) := Fr.ofBelow (((FA.out.alloc _).below (Nat.le_refl _) (by simp)).trans hbb)
             clear twb hbb)
          | (refine step_twu2 rfl _ _ rfl HI.out (q := wP.heap.size + 1) (s := n) rfl rfl TA.out (by simp) FA.out.size HLP.out.2 ?_
             intro vb wb twb hbb
             have TC : Hid (TWU w.heap.size wb va vb (PP ++ [o]) (QQ ++ [n]) []) := twb.less
             have FC : Hid (Fr [] w wb) := Fr.ofBelow ((FA.out.below (Nat.le_refl _) (by simp)).trans hbb)
             clear twb hbb)
          | (refine step_twu2 rfl _ _ rfl HI.out (q := wP.heap.size) (s := n) rfl rfl TA.out (by simp) FA.out.size HLP.out.2 ?_
             intro vb wb twb hbb
             have TC : Hid (TWU w.heap.size wb va vb (PP ++ [o]) (QQ ++ [n]) []) := twb.less
             have FC : Hid (Fr [] w wb) := Fr.ofBelow ((FA.out.below (Nat.le_refl _) (by simp)).trans hbb)
             clear twb hbb))
      all_goals have HTC : Hid (TWU w.heap.size wb va vb (fsts (l.take (k + 1))) (snds (l.take (k + 1))) []) := by rw [Hid, HTP.out.1, HTP.out.2]; exact TC.out
      all_goals clear TC
      all_goals go_wp2
      all_goals go_roundw
      all_goals first
        | exact ⟨k + 1, by omega, by go_num, HTC.out, FC.out⟩
        | (simp [intOf]; omega)
    · have HTC : Hid (TWU w.heap.size wr u4 u5 (fsts l) (snds l) []) := by
        have := HTW.out
        rw [List.take_of_length_le (by omega)] at this
        exact this
      go_wp2
      go_ret2
      exact ⟨_, _, rfl, HTC.out.rows.1, HTC.out.rows.2, HF.out⟩

set_option maxHeartbeats 2000000 in
theorem places10_any (v u : Value) (l : List Sp) (p : List Int) (w : World) (h1 : SSrc w v l) (h2 : ISrc w u p) (hl : l.length ≤ 1024) (hk : chk l = 0) (hp : pls l = p) :
    Calls Try.prog 20 #[v, u] w fun e w' => e = .returned (.bool true) ∧ Fr [] w w' := by
  have HS : Hid (∀ wx, Fr [] w wx → SSrc wx v l) := fun wx hx => h1.kept hx
  have HI : Hid (∀ wx, Fr [] w wx → ISrc wx u p) := fun wx hx => h2.kept hx
  have H64 : Hid (∀ s ∈ l, in64 s.1 ∧ in64 s.2) := by obtain ⟨_, _, _, _, _, h64, _⟩ := h1; exact h64
  have HK : Hid (chk l = 0 ∧ pls l = p ∧ l.length ≤ 1024) := ⟨hk, hp, hl⟩
  clear h1 h2 hl hk hp
  go_enter Try.func20, Try.ntmps20
  go_wp2_with fail
  refine (spans10_any _ l w (HS.out w (Fr.refl _ _)) HK.out.2.2).mono ?_
  rintro e w1 ⟨x, rfl, hx, hf1⟩
  have HF1 : Hid (Fr [] w w1) := hf1
  have HX : Hid (SSrc w1 x l) := hx.src H64.out
  clear hx hf1
  go_wp2_with fail
  refine (lcheck_any _ l w1 HX.out).mono ?_
  rintro e w2 ⟨rfl, hf2⟩
  have HF2 : Hid (Fr [] w w2) := HF1.out.trans hf2 (by simp)
  rw [HK.out.1]
  clear hf2 HX HF1
  go_wp2_with fail
  refine (spans10_any _ l w2 (HS.out w2 HF2.out) HK.out.2.2).mono ?_
  rintro e w3 ⟨y, rfl, hy, hf3⟩
  have HF3 : Hid (Fr [] w w3) := HF2.out.trans hf3 (by simp)
  have HY : Hid (SSrc w3 y l) := hy.src H64.out
  clear hy hf3
  go_wp2_with fail
  refine (lplaces_any _ l w3 HY.out HK.out.1).mono ?_
  rintro e w4 ⟨z, rfl, hz, hf4⟩
  have HF4 : Hid (Fr [] w w4) := HF3.out.trans hf4 (by simp)
  have HZ : Hid (ISrc w4 z (pls l)) := IOwn.src hz pls_in64
  clear hz hf4
  go_wp2_with fail
  refine (same_any _ _ (pls l) p w4 HZ.out (HI.out w4 HF4.out)).mono ?_
  rintro e w5 ⟨rfl, hf5⟩
  have HF5 : Hid (Fr [] w w5) := HF4.out.trans hf5 (by simp)
  rw [decide_eq_true HK.out.2.1]
  clear hf5
  go_wp2
  go_ret
  exact ⟨rfl, HF5.out⟩
end Go.Proofs.Ytoaibabkkphlaaa
