/-
  Two rows of numbers that grow side by side, in a region that draws.
-/
import Derived.Test.YtjkiiccdcjcfbaaPUnzip
import Derived.Test.YtjkiiccdcjcfbaaHPure2
import Derived.Test.YtjkiiccdcjcfbaaLaw9
import Derived.Deep.DeepCutAuto
import Derived.Deep.RegionHeld3
namespace Go.Proofs.Ytjkiiccdcjcfbaa
open Go.RowKit Mem Spans
set_option linter.unusedSimpArgs false
set_option linter.unusedVariables false
set_option maxRecDepth 100000

theorem run_append_at {e t : TypeId} {i0 : TypeInfo} (ht : Try.prog.underlying t = some (.slice e)) (hi : NInfo e i0)
    {w : World} {v : Value} {g gn : Nat} {l : List Int} {s : Int} (hn : w.cell? ⟨gn, 0, none⟩ = some (.int .i64 s)) (h1 : NAt e w v g l) (hl : l.length ≤ 1000000) (ty : TypeId) :
    ∃ v' g' w', (Builtin.append_ #[t, t] ty #[v, .slice (some ⟨gn, 0, none⟩) 1 1]).run Try.prog w = .ok v' w' ∧ NAt e w' v' g' (l ++ [s]) ∧ ((l ≠ [] ∧ g' = g) ∨ g' = w.heap.size) ∧ Fr (tch l g) w w' := by
  have hnew : ∀ (j : Nat) (u : Value), (inCells [s])[j]? = some u → w.cell? ((⟨gn, 0, none⟩ : Addr).add j) = some u := by
    intro j u hj
    have hj0 : j = 0 := by have := (List.getElem?_eq_some_iff.1 hj).1; simp [inCells] at this; omega
    subst hj0
    have e : (⟨gn, 0, none⟩ : Addr).add 0 = ⟨gn, 0, none⟩ := by unfold Addr.add; split <;> simp_all
    rw [e, hn]
    simpa [inCells] using hj
  have hc : inCells (l ++ [s]) = inCells l ++ inCells [s] := by simp [inCells]
  rcases h1 with ⟨rfl, rfl⟩ | ⟨h0, hrow⟩
  · obtain ⟨v', w', hr, h2, h3⟩ : ∃ v' w', (Builtin.append_ #[t, t] ty #[.slice none 0 0, .slice (some ⟨gn, 0, none⟩) 1 1]).run Try.prog w = .ok v' w' ∧ Row w' e 1 v' w.heap.size 1 (inCells [s]) ∧ Fr [] w w' := by
      obtain ⟨hi1, hz, hs, hb⟩ := hi
      have hr := run_append_nil (P := Try.prog) w t ty e i0 (.int .i64 0) ht hi1 hz ⟨gn, 0, none⟩ 1 1 (inCells [s]) (by rw [hs]; rfl) hnew (by omega) (by omega) (by rw [hb]; omega)
      have hge := grownCap_ge w 1 0 e
      refine ⟨_, _, hr, ⟨by simp [inCells], _, _, rfl, heap_alloc_new w.drew _, hge, grownCap_le_maxLen w 1 0 e (by unfold maxLen; omega), ?_, ?_⟩, ((Fr.refl _ _).drew).alloc _⟩
      · simp only [Array.size_append, List.size_toArray, size_zeroCells, inCells, List.length_map, List.length_cons, List.length_nil]
        rw [show (Value.int IntKind.i64 0).cells.size = 1 from rfl]
        omega
      · simp only [Array.toList_append]
        rw [show 1 * 1 = (inCells [s]).length from by simp [inCells]]
        exact List.take_left
    exact ⟨v', _, w', hr, .inr ⟨by simp, h2⟩, .inr rfl, h3⟩
  · obtain ⟨v', g', w', hr, h2, h3, h4⟩ := run_append_row (P := Try.prog) w t ty e i0 _ 1 8 ht hi.1 hi.2.1 hi.2.2.1 hi.2.2.2 rfl v g l.length (inCells l) hrow ⟨gn, 0, none⟩ 1 1 (inCells [s]) (by simp [inCells]) hnew (by simp [inCells, Value.oneCell']) (by unfold maxLen; omega) (by omega)
    have hne : l ≠ [] := by intro h; rw [h] at h0; simp at h0
    refine ⟨v', g', w', hr, .inr ⟨by simp, ?_⟩, ?_, ?_⟩
    · rw [hc, List.length_append]; exact h2
    · rcases h3 with h | h
      · exact .inl ⟨hne, h⟩
      · exact .inr h
    · cases l with
      | nil => exact absurd rfl hne
      | cons y r => exact h4

/-- Two rows side by side, and some cells beside them. -/
def TW (B : Nat) (w : World) (v1 v2 : Value) (l1 l2 : List Int) (cs : List ((Nat × Nat) × Int)) : Prop :=
  ∃ g1 g2, NAt 3 w v1 g1 l1 ∧ NAt 2 w v2 g2 l2 ∧ (l1 ≠ [] → B ≤ g1) ∧ (l2 ≠ [] → B ≤ g2) ∧ (l1 ≠ [] → l2 ≠ [] → g1 ≠ g2) ∧
    ∀ c ∈ cs, c.1.1 < w.heap.size ∧ w.cell? ⟨c.1.1, c.1.2, none⟩ = some (.int .i64 c.2) ∧ (l1 ≠ [] → c.1.1 ≠ g1) ∧ (l2 ≠ [] → c.1.1 ≠ g2)
theorem TW.kept {B : Nat} {w w' : World} {v1 v2 : Value} {l1 l2 : List Int} {cs : List ((Nat × Nat) × Int)} (h : TW B w v1 v2 l1 l2 cs) (f : Fr [] w w') : TW B w' v1 v2 l1 l2 cs := by
  obtain ⟨g1, g2, h1, h2, h3, h4, h5, h6⟩ := h
  refine ⟨g1, g2, h1.kept f (by simp), h2.kept f (by simp), h3, h4, h5, fun c hc => ?_⟩
  obtain ⟨k1, k2, k3, k4⟩ := h6 c hc
  exact ⟨Nat.lt_of_lt_of_le k1 f.size, f.cell_some k2 (by simp), k3, k4⟩
theorem TW.lit {B g : Nat} {w : World} {v1 v2 : Value} {l1 l2 : List Int} {cs : List ((Nat × Nat) × Int)} (h : TW B w v1 v2 l1 l2 cs) (hg : w.heap.size = g) (x : Int) (t : TypeId) : TW B (w.alloc (.cells #[.int .i64 x] t)) v1 v2 l1 l2 (((g, 0), x) :: cs) := by
  subst hg
  have hk := h.kept ((Fr.refl [] w).alloc (.cells #[.int .i64 x] t))
  obtain ⟨g1, g2, h1, h2, h3, h4, h5, _⟩ := h
  obtain ⟨k1, k2, k3, k4, k5, k6, k7, k8⟩ := hk
  refine ⟨g1, g2, h1.kept ((Fr.refl [] w).alloc _) (by simp), h2.kept ((Fr.refl [] w).alloc _) (by simp), h3, h4, h5, fun c hc => ?_⟩
  rcases List.mem_cons.1 hc with rfl | hc
  · refine ⟨by simp, by rw [World.cell?_alloc_at _ _ _ _ rfl]; rfl, fun hn => ?_, fun hn => ?_⟩
    · have := h1.lt hn; simp only; omega
    · have := h2.lt hn; simp only; omega
  · obtain ⟨m1, m2, _, _⟩ := k8 c hc
    refine ⟨m1, m2, fun hn => ?_, fun hn => ?_⟩
    · obtain ⟨_, _, z1, z2⟩ := k8 c hc
      have e : k1 = g1 := by
        rcases h1 with ⟨h, _⟩ | ⟨_, h⟩
        · exact absurd h hn
        · rcases k3 with ⟨h', _⟩ | ⟨_, h'⟩
          · exact absurd h' hn
          · obtain ⟨c1, e1⟩ := h.val
            obtain ⟨c2, e2⟩ := h'.val
            rw [e1] at e2
            simp only [Value.slice.injEq, Option.some.injEq, Addr.mk.injEq, and_true, true_and] at e2
            exact e2.1.symm
      rw [← e]; exact z1 hn
    · obtain ⟨_, _, z1, z2⟩ := k8 c hc
      have e : k2 = g2 := by
        rcases h2 with ⟨h, _⟩ | ⟨_, h⟩
        · exact absurd h hn
        · rcases k4 with ⟨h', _⟩ | ⟨_, h'⟩
          · exact absurd h' hn
          · obtain ⟨c1, e1⟩ := h.val
            obtain ⟨c2, e2⟩ := h'.val
            rw [e1] at e2
            simp only [Value.slice.injEq, Option.some.injEq, Addr.mk.injEq, and_true, true_and] at e2
            exact e2.1.symm
      rw [← e]; exact z2 hn
theorem tw_app1 {B q : Nat} {w : World} {v1 v2 : Value} {l1 l2 : List Int} {s : Int} {cs : List ((Nat × Nat) × Int)} {i0 : TypeInfo} (hi : NInfo 3 i0) (h : TW B w v1 v2 l1 l2 cs) (hq : ((q, 0), s) ∈ cs) (hB : B ≤ w.heap.size) (hl : l1.length ≤ 1000000) (ty : TypeId) :
    ∃ v' w', (Builtin.append_ #[42, 42] ty #[v1, .slice (some ⟨q, 0, none⟩) 1 1]).run Try.prog w = .ok v' w' ∧ TW B w' v' v2 (l1 ++ [s]) l2 cs ∧ Below B w w' := by
  obtain ⟨g1, g2, h1, h2, h3, h4, h5, h6⟩ := h
  obtain ⟨v', g', w', hr, k1, k2, k3⟩ := run_append_at Try.underlying42 hi (h6 _ hq).2.1 h1 hl ty
  have hg' : l1 ≠ [] ∧ g' = g1 ∨ g' = w.heap.size := k2
  refine ⟨v', w', hr, ⟨g', g2, k1, h2.kept k3 (fun hn hm => ?_), fun _ => ?_, h4, fun _ hn => ?_, fun c hc => ?_⟩, k3.below hB (fun x hx => ?_)⟩
  · have := tch_mem hm; exact h5 this.1 hn this.2.symm
  · rcases hg' with ⟨hn, rfl⟩ | rfl
    · exact h3 hn
    · exact hB
  · rcases hg' with ⟨hn1, rfl⟩ | rfl
    · exact h5 hn1 hn
    · have := h2.lt hn; omega
  · obtain ⟨m1, m2, m3, m4⟩ := h6 c hc
    refine ⟨Nat.lt_of_lt_of_le m1 k3.size, k3.cell_some m2 (fun hm => ?_), fun _ => ?_, m4⟩
    · have := tch_mem hm; exact m3 this.1 this.2
    · rcases hg' with ⟨hn1, rfl⟩ | rfl
      · exact m3 hn1
      · omega
  · have := tch_mem hx; rw [this.2]; exact h3 this.1
theorem tw_app2 {B q : Nat} {w : World} {v1 v2 : Value} {l1 l2 : List Int} {s : Int} {cs : List ((Nat × Nat) × Int)} {i0 : TypeInfo} (hi : NInfo 2 i0) (h : TW B w v1 v2 l1 l2 cs) (hq : ((q, 0), s) ∈ cs) (hB : B ≤ w.heap.size) (hl : l2.length ≤ 1000000) (ty : TypeId) :
    ∃ v' w', (Builtin.append_ #[24, 24] ty #[v2, .slice (some ⟨q, 0, none⟩) 1 1]).run Try.prog w = .ok v' w' ∧ TW B w' v1 v' l1 (l2 ++ [s]) cs ∧ Below B w w' := by
  obtain ⟨g1, g2, h1, h2, h3, h4, h5, h6⟩ := h
  obtain ⟨v', g', w', hr, k1, k2, k3⟩ := run_append_at Try.underlying24 hi (h6 _ hq).2.1 h2 hl ty
  have hg' : l2 ≠ [] ∧ g' = g2 ∨ g' = w.heap.size := k2
  refine ⟨v', w', hr, ⟨g1, g', h1.kept k3 (fun hn hm => ?_), k1, h3, fun _ => ?_, fun hn _ => ?_, fun c hc => ?_⟩, k3.below hB (fun x hx => ?_)⟩
  · have := tch_mem hm; exact h5 hn this.1 this.2
  · rcases hg' with ⟨hn, rfl⟩ | rfl
    · exact h4 hn
    · exact hB
  · rcases hg' with ⟨hn2, rfl⟩ | rfl
    · exact h5 hn hn2
    · have := h1.lt hn; omega
  · obtain ⟨m1, m2, m3, m4⟩ := h6 c hc
    refine ⟨Nat.lt_of_lt_of_le m1 k3.size, k3.cell_some m2 (fun hm => ?_), m3, fun _ => ?_⟩
    · have := tch_mem hm; exact m4 this.1 this.2
    · rcases hg' with ⟨hn2, rfl⟩ | rfl
      · exact m4 hn2
      · omega
  · have := tch_mem hx; rw [this.2]; exact h4 this.1
section
variable {ops : Array Oper} {o : Oper} {a : Act} {w : World} {K : Act → World → Prop} {Q : Exit → Act → World → Prop} {E : Prop}
theorem step_tw1 (hgd : o.guard = none) (sx x : Operand) (ho : o.op = .call { callee := .builtin .append, args := #[sx, x], argTypes := #[42, 42] })
    {i0 : TypeInfo} (hi : NInfo 3 i0) {B q : Nat} {v1 v2 : Value} {l1 l2 : List Int} {s : Int} {cs : List ((Nat × Nat) × Int)} (hs : a.eval sx = v1) (hx : a.eval x = .slice (some ⟨q, 0, none⟩) 1 1)
    (h1 : TW B w v1 v2 l1 l2 cs) (hq : ((q, 0), s) ∈ cs) (hB : B ≤ w.heap.size) (hl : l1.length ≤ 1000000)
    (h : ∀ v' w', TW B w' v' v2 (l1 ++ [s]) l2 cs → Below B w w' → K (a.put o.dst v') w') :
    if Region.wanted o (yielded ops a.tmps) = true then Oper.wp Try.prog o a w K Q else E := by
  have hw : Region.wanted o (yielded ops a.tmps) = true := by simp [Region.wanted, hgd]
  rw [if_pos hw]
  obtain ⟨v', w', hr, h3, h4⟩ := tw_app1 hi h1 hq hB hl o.type
  unfold Oper.wp execOp
  simp only [ho, resolve, invoke, builtin, Sem.run_bind, Sem.run_pure, Result.andThen_ok, List.map_toArray, List.map_cons, List.map_nil, hs, hx, hr]
  exact h v' w' h3 h4
theorem step_tw2 (hgd : o.guard = none) (sx x : Operand) (ho : o.op = .call { callee := .builtin .append, args := #[sx, x], argTypes := #[24, 24] })
    {i0 : TypeInfo} (hi : NInfo 2 i0) {B q : Nat} {v1 v2 : Value} {l1 l2 : List Int} {s : Int} {cs : List ((Nat × Nat) × Int)} (hs : a.eval sx = v2) (hx : a.eval x = .slice (some ⟨q, 0, none⟩) 1 1)
    (h1 : TW B w v1 v2 l1 l2 cs) (hq : ((q, 0), s) ∈ cs) (hB : B ≤ w.heap.size) (hl : l2.length ≤ 1000000)
    (h : ∀ v' w', TW B w' v1 v' l1 (l2 ++ [s]) cs → Below B w w' → K (a.put o.dst v') w') :
    if Region.wanted o (yielded ops a.tmps) = true then Oper.wp Try.prog o a w K Q else E := by
  have hw : Region.wanted o (yielded ops a.tmps) = true := by simp [Region.wanted, hgd]
  rw [if_pos hw]
  obtain ⟨v', w', hr, h3, h4⟩ := tw_app2 hi h1 hq hB hl o.type
  unfold Oper.wp execOp
  simp only [ho, resolve, invoke, builtin, Sem.run_bind, Sem.run_pure, Result.andThen_ok, List.map_toArray, List.map_cons, List.map_nil, hs, hx, hr]
  exact h v' w' h3 h4
end
theorem TW.cell {B : Nat} {w : World} {v1 v2 : Value} {l1 l2 : List Int} {cs : List ((Nat × Nat) × Int)} (h : TW B w v1 v2 l1 l2 cs) {c : (Nat × Nat) × Int} (hc : c ∈ cs) : w.cell? ⟨c.1.1, c.1.2, none⟩ = some (.int .i64 c.2) := by
  obtain ⟨_, _, _, _, _, _, _, h6⟩ := h
  exact (h6 c hc).2.1
/-- A pair in a new block. -/
theorem TW.pair {B g : Nat} {w : World} {v1 v2 : Value} {l1 l2 : List Int} (h : TW B w v1 v2 l1 l2 []) (hg : w.heap.size = g) (x y : Int) (t : TypeId) : TW B (w.alloc (.cells #[.int .i64 x, .int .i64 y] t)) v1 v2 l1 l2 [((g, 0), x), ((g, 1), y)] := by
  subst hg
  obtain ⟨g1, g2, h1, h2, h3, h4, h5, _⟩ := h
  refine ⟨g1, g2, h1.kept ((Fr.refl [] w).alloc _) (by simp), h2.kept ((Fr.refl [] w).alloc _) (by simp), h3, h4, h5, fun c hc => ?_⟩
  have hn1 : l1 ≠ [] → w.heap.size ≠ g1 := fun hn => by have := h1.lt hn; omega
  have hn2 : l2 ≠ [] → w.heap.size ≠ g2 := fun hn => by have := h2.lt hn; omega
  simp only [List.mem_cons, List.not_mem_nil, or_false] at hc
  rcases hc with rfl | rfl
  · exact ⟨by simp, by rw [World.cell?_alloc_at _ _ _ _ rfl]; rfl, hn1, hn2⟩
  · exact ⟨by simp, by rw [World.cell?_alloc_at _ _ _ _ rfl]; rfl, hn1, hn2⟩
theorem TW.nil (B : Nat) (w : World) : TW B w (.slice none 0 0) (.slice none 0 0) [] [] [] := ⟨0, 0, .inl ⟨rfl, rfl⟩, .inl ⟨rfl, rfl⟩, by simp, by simp, by simp, by simp⟩
theorem TW.less {B : Nat} {w : World} {v1 v2 : Value} {l1 l2 : List Int} {cs : List ((Nat × Nat) × Int)} (h : TW B w v1 v2 l1 l2 cs) : TW B w v1 v2 l1 l2 [] := by
  obtain ⟨g1, g2, h1, h2, h3, h4, h5, _⟩ := h
  exact ⟨g1, g2, h1, h2, h3, h4, h5, by simp⟩
theorem TW.rows {B : Nat} {w : World} {v1 v2 : Value} {l1 l2 : List Int} {cs : List ((Nat × Nat) × Int)} (h : TW B w v1 v2 l1 l2 cs) : NOwn 3 B w v1 l1 ∧ NOwn 2 B w v2 l2 := by
  obtain ⟨g1, g2, h1, h2, h3, h4, _, _⟩ := h
  exact ⟨h1.own h3, h2.own h4⟩
end Go.Proofs.Ytjkiiccdcjcfbaa
