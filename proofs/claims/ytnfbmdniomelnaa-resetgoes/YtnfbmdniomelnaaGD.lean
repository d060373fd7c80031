/-
  UMem, Floats, UEq, UUnzip, UZip, FMem, FSides, FMake, FCanon.
-/
import Derived.Test.YtnfbmdniomelnaaGC
import Derived.Test.YtnfbmdniomelnaaGB
import Derived.WalkKit
import Derived.Laws.FloatArith
import Derived.Deep.RegionHeld3
import Derived.Laws.ResultCell
import Derived.Deep.DeepCutAuto
/-
  Numbers of 64 bits without a sign, and pairs of a place and such a number: slices wherever they lie, rows of the call's own, append.
-/
namespace Go.Proofs.Ytnfbmdniomelnaa
open Go.RowKit Mem Spans
open Go.ChangeShapes Go.WideShapes Go.ChangeAt
set_option linter.unusedSimpArgs false
set_option linter.unusedVariables false
set_option maxRecDepth 100000

/-- A slice of numbers without a sign, wherever it lies. -/
def USrc (w : World) (v : Value) (zs : List Int) : Prop :=
  ∃ ao cap, v = .slice ao zs.length cap ∧ zs.length ≤ cap ∧ cap ≤ maxLen ∧ (∀ z ∈ zs, inu z) ∧
    ∃ b off, (0 < zs.length → ao = some ⟨b, off, none⟩) ∧ ∀ j x, zs[j]? = some x → w.cell? ⟨b, off + j, none⟩ = some (.int .u64 x)
/-- A slice of pairs, wherever it lies. -/
def PSrc (w : World) (v : Value) (l : List Sp) : Prop :=
  ∃ ao cap, v = .slice ao l.length cap ∧ l.length ≤ cap ∧ cap ≤ maxLen ∧ (∀ s ∈ l, in64 s.1 ∧ inu s.2) ∧
    ∃ b off, (0 < l.length → ao = some ⟨b, off, none⟩) ∧ ∀ j s, l[j]? = some s → w.cell? ⟨b, off + j * 2, none⟩ = some (.int .i64 s.1) ∧ w.cell? ⟨b, off + j * 2 + 1, none⟩ = some (.int .u64 s.2)
theorem USrc.kept {w w' : World} {v : Value} {zs : List Int} (h : USrc w v zs) (f : Fr [] w w') : USrc w' v zs := by
  obtain ⟨ao, cap, h1, h2, h3, h4, b, off, h5, h6⟩ := h
  exact ⟨ao, cap, h1, h2, h3, h4, b, off, h5, fun j x hj => f.cell_some (h6 j x hj) (by simp)⟩
theorem PSrc.kept {w w' : World} {v : Value} {l : List Sp} (h : PSrc w v l) (f : Fr [] w w') : PSrc w' v l := by
  obtain ⟨ao, cap, h1, h2, h3, h4, b, off, h5, h6⟩ := h
  exact ⟨ao, cap, h1, h2, h3, h4, b, off, h5, fun j x hj => ⟨f.cell_some (h6 j x hj).1 (by simp), f.cell_some (h6 j x hj).2 (by simp)⟩⟩
theorem USrc.nil (w : World) : USrc w (.slice none 0 0) [] := ⟨none, 0, rfl, Nat.le_refl _, Nat.zero_le _, by simp, 0, 0, fun h => by simp at h, fun j x hj => by simp at hj⟩
theorem PSrc.nil (w : World) : PSrc w (.slice none 0 0) [] := ⟨none, 0, rfl, Nat.le_refl _, Nat.zero_le _, by simp, 0, 0, fun h => by simp at h, fun j x hj => by simp at hj⟩
/-- The cells of such numbers, of pairs. -/
def unCells (zs : List Int) : List Value := zs.map (Value.int .u64)
def puCells (l : List Sp) : List Value := l.flatMap fun s => [.int .i64 s.1, .int .u64 s.2]
theorem puCells_length (l : List Sp) : (puCells l).length = l.length * 2 := by
  induction l with
  | nil => rfl
  | cons x y ih => rw [puCells, List.flatMap_cons, List.length_append, ← puCells, ih]; simp; omega
theorem puCells_append (l m : List Sp) : puCells (l ++ m) = puCells l ++ puCells m := by simp [puCells]
theorem puCells_at (l : List Sp) (j : Nat) (s : Sp) (h : l[j]? = some s) : (puCells l)[j * 2]? = some (.int .i64 s.1) ∧ (puCells l)[j * 2 + 1]? = some (.int .u64 s.2) := by
  induction l generalizing j with
  | nil => simp at h
  | cons x y ih =>
    have e : puCells (x :: y) = .int .i64 x.1 :: .int .u64 x.2 :: puCells y := by simp [puCells]
    rw [e]
    rcases j with _ | j
    · have : x = s := by simpa using h
      subst this
      simp
    · have := ih j (by simpa using h)
      rw [show (j + 1) * 2 = j * 2 + 1 + 1 from by omega]
      simpa using this
/-- A slice of pairs that the call made itself. -/
def POwn (e : TypeId) (B : Nat) (w : World) (v : Value) (l : List Sp) : Prop :=
  (l = [] ∧ v = .slice none 0 0) ∨ ∃ g, B ≤ g ∧ 0 < l.length ∧ Row w e 2 v g l.length (puCells l)
theorem POwn.kept {e : TypeId} {B : Nat} {w w' : World} {v : Value} {l : List Sp} (h : POwn e B w v l) (f : Fr [] w w') : POwn e B w' v l := by
  rcases h with h | ⟨g, h1, h2, h3⟩
  · exact .inl h
  · exact .inr ⟨g, h1, h2, h3.kept f (by simp)⟩
theorem POwn.src {e : TypeId} {B : Nat} {w : World} {v : Value} {l : List Sp} (h : POwn e B w v l) (hz : ∀ s ∈ l, in64 s.1 ∧ inu s.2) : PSrc w v l := by
  rcases h with ⟨rfl, rfl⟩ | ⟨g, h1, h2, h3⟩
  · exact PSrc.nil w
  · have hr := h3
    obtain ⟨_, cap, cur, hv, _, hn, hm, _⟩ := h3
    refine ⟨_, cap, hv, hn, hm, hz, g, 0, fun _ => rfl, fun j x hj => ?_⟩
    have hjl := (List.getElem?_eq_some_iff.1 hj).1
    have c0 := hr.cell (j * 2) (by omega)
    have c1 := hr.cell (j * 2 + 1) (by omega)
    have := puCells_at l j x hj
    rw [show 0 + j * 2 = j * 2 from by omega, c0, c1]
    exact this

/-- A slice of numbers (of whatever such type) that the call made itself. -/
def UOwn (e : TypeId) (B : Nat) (w : World) (v : Value) (zs : List Int) : Prop :=
  (zs = [] ∧ v = .slice none 0 0) ∨ ∃ g, B ≤ g ∧ 0 < zs.length ∧ Row w e 1 v g zs.length (unCells zs)
theorem UOwn.kept {e : TypeId} {B : Nat} {w w' : World} {v : Value} {zs : List Int} (h : UOwn e B w v zs) (f : Fr [] w w') : UOwn e B w' v zs := by
  rcases h with h | ⟨g, h1, h2, h3⟩
  · exact .inl h
  · exact .inr ⟨g, h1, h2, h3.kept f (by simp)⟩
theorem UOwn.mono {e : TypeId} {B C : Nat} {w : World} {v : Value} {zs : List Int} (h : UOwn e B w v zs) (hc : C ≤ B) : UOwn e C w v zs := by
  rcases h with h | ⟨g, h1, h2, h3⟩
  · exact .inl h
  · exact .inr ⟨g, by omega, h2, h3⟩
theorem UOwn.src {e : TypeId} {B : Nat} {w : World} {v : Value} {zs : List Int} (h : UOwn e B w v zs) (hz : ∀ z ∈ zs, inu z) : USrc w v zs := by
  rcases h with ⟨rfl, rfl⟩ | ⟨g, h1, h2, h3⟩
  · exact USrc.nil w
  · have hr := h3
    obtain ⟨_, cap, cur, hv, _, hn, hm, _⟩ := h3
    refine ⟨_, cap, hv, hn, hm, hz, g, 0, fun _ => rfl, fun j x hj => ?_⟩
    have hjl := (List.getElem?_eq_some_iff.1 hj).1
    have := hr.cell j (by omega)
    rw [show 0 + j = j from by omega, this, unCells, List.getElem?_map, hj]
    rfl
theorem UOwn.owns {e : TypeId} {B : Nat} {w : World} {v : Value} {zs : List Int} (h : UOwn e B w v zs) : w.ownsRow B e 1 v zs.length (unCells zs) := by
  rcases h with ⟨rfl, rfl⟩ | ⟨g, h1, h2, h3, cap, cur, hv, r⟩
  · exact World.ownsRow_nil _ _ _ _
  · exact ⟨h3, .inr ⟨g, cap, cur, hv, h1, r⟩⟩
theorem UOwn.block {e : TypeId} {B : Nat} {w : World} {v : Value} {zs : List Int} (h : UOwn e B w v zs) : ∀ k, v.ownBlock = some k → B ≤ k := by
  rcases h with ⟨rfl, rfl⟩ | ⟨g, h1, h2, h3⟩
  · intro k hk; simp [Value.ownBlock] at hk
  · obtain ⟨c, rfl⟩ := h3.val
    intro k hk
    have : g = k := by simpa [Value.ownBlock] using hk
    omega
theorem UOwn.of_owns {e : TypeId} {B : Nat} {w : World} {v : Value} {zs : List Int} (h : w.ownsRow B e 1 v zs.length (unCells zs)) (hn : v = .slice none 0 0 ↔ zs = []) : UOwn e B w v zs := by
  rcases h.2 with ⟨h1, h2⟩ | ⟨g, cap, cur, hv, hg, r⟩
  · exact .inl ⟨hn.1 h1, h1⟩
  · refine .inr ⟨g, hg, ?_, h.1, cap, cur, hv, r⟩
    cases zs with
    | nil => have := hn.2 rfl; rw [hv] at this; simp at this
    | cons x r => simp
theorem UOwn.val {e : TypeId} {B : Nat} {w : World} {v : Value} {zs : List Int} (h : UOwn e B w v zs) : ∃ ao cap, v = .slice ao zs.length cap := by
  rcases h with ⟨rfl, rfl⟩ | ⟨g, _, _, hr⟩
  · exact ⟨none, 0, rfl⟩
  · obtain ⟨c, h⟩ := hr.val; exact ⟨_, c, h⟩
theorem UOwn.nil {e : TypeId} {B : Nat} {w : World} {v : Value} (h : UOwn e B w v []) : v = .slice none 0 0 := by
  rcases h with ⟨_, h⟩ | ⟨g, _, h, _⟩
  · exact h
  · simp at h
theorem POwn.nil {e : TypeId} {B : Nat} {w : World} {v : Value} (h : POwn e B w v []) : v = .slice none 0 0 := by
  rcases h with ⟨_, h⟩ | ⟨g, _, h, _⟩
  · exact h
  · simp at h
/-- A slice of numbers, as it is built. -/
theorem lit_u {B g : Nat} (e : TypeId) (w : World) (l : List Int) (hg : w.heap.size = g) (h : B ≤ g) (h0 : 0 < l.length) (hm : l.length ≤ maxLen) : UOwn e B (w.alloc (.cells (unCells l).toArray e)) (.slice (some ⟨g, 0, none⟩) l.length l.length) l := by
  subst hg
  exact .inr ⟨w.heap.size, h, h0, Row.made (heap_alloc_new _ _) hm (by simp [unCells])⟩

theorem run_append_u {e t : TypeId} {i0 : TypeInfo} (ht : Try.prog.underlying t = some (.slice e)) (hi : Try.prog.info? e = some i0) (hz : i0.zero = some (.int .u64 0)) (hs : i0.size = 1) (hb : i0.bytes = 8)
    {B : Nat} {w : World} {v u : Value} {l : List Int} {s : Int} (hB : B ≤ w.heap.size) (h : UOwn e B w v l) (h2 : UOwn e B w u [s]) (hl : l.length ≤ 1000000) (ty : TypeId) :
    ∃ v' w', (Builtin.append_ #[t, t] ty #[v, u]).run Try.prog w = .ok v' w' ∧ UOwn e B w' v' (l ++ [s]) ∧ Below B w w' := by
  rcases h2 with ⟨h0, _⟩ | ⟨g, hg, hy, hrow⟩
  · simp at h0
  · have hr := hrow
    obtain ⟨c, rfl⟩ := hrow.val
    obtain ⟨v', w', e1, e2, e3, e4⟩ := run_append_own w B t ty e i0 _ 1 8 ht hi hz hs hb rfl (by decide) v l.length (unCells l) h.owns ⟨g, 0, none⟩ 1 c (unCells [s]) rfl
      (fun j x hj => by
        have hjl : j < (unCells [s]).length := (List.getElem?_eq_some_iff.1 hj).1
        have e : (⟨g, 0, none⟩ : Addr).add j = ⟨g, j, none⟩ := by unfold Addr.add; split <;> simp_all
        rw [e, hr.cell j (by simpa [unCells] using hjl), hj])
      (fun x hx => by
        simp [unCells] at hx
        subst hx; rfl) (by unfold maxLen; omega) (by omega) hB
    refine ⟨v', w', e1, UOwn.of_owns ?_ ?_, (Below.refl B w).grown e3 hB h.block⟩
    · have : unCells (l ++ [s]) = unCells l ++ unCells [s] := by simp [unCells]
      rw [this, List.length_append]; exact e2
    · rw [e4]
      constructor
      · rintro ⟨_, h0⟩; omega
      · intro h0; simp at h0

section
variable (w : World)
theorem wpList_append_u {ops : Array Oper} {rest : List Oper} {o : Oper} {a : Act} {Q : Exit → Act → World → Prop} (hgd : o.guard = none) (sx x : Operand) (t : TypeId)
    (ho : o.op = .call { callee := .builtin .append, args := #[sx, x], argTypes := #[t, t] })
    {e : TypeId} {i0 : TypeInfo} (ht : Try.prog.underlying t = some (.slice e)) (hi : Try.prog.info? e = some i0) (hz : i0.zero = some (.int .u64 0)) (hsz : i0.size = 1) (hb : i0.bytes = 8)
    {B : Nat} {v u : Value} {l : List Int} {s : Int} (hB : B ≤ w.heap.size) (hs : a.eval sx = v) (hx : a.eval x = u) (h1 : UOwn e B w v l) (h2 : UOwn e B w u [s]) (hl : l.length ≤ 1000000)
    (h : ∀ v' w', UOwn e B w' v' (l ++ [s]) → Below B w w' → wpList Try.prog ops Q rest (a.put o.dst v') w') : wpList Try.prog ops Q (o :: rest) a w := by
  refine wpList_plain hgd fun _ hK => ?_
  obtain ⟨v', w', hr, h3, h4⟩ := run_append_u ht hi hz hsz hb hB h1 h2 hl o.type
  unfold Oper.wp execOp
  simp only [ho, resolve, invoke, builtin, Sem.run_bind, Sem.run_pure, Result.andThen_ok, List.map_toArray, List.map_cons, List.map_nil, hs, hx, hr]
  exact hK _ _ (h v' w' h3 h4)
end

/-- A slice of spans, as it is built. -/
theorem lit_pu {B : Nat} (e : TypeId) (w : World) (l : List Sp) (h : B ≤ w.heap.size) (h0 : 0 < l.length) (hm : l.length ≤ maxLen) : POwn e B (w.alloc (.cells (puCells l).toArray e)) (.slice (some ⟨w.heap.size, 0, none⟩) l.length l.length) l :=
  .inr ⟨w.heap.size, h, h0, Row.made (heap_alloc_new _ _) hm (puCells_length l)⟩
theorem lit_pu' {B g : Nat} (e : TypeId) (w : World) (l : List Sp) (hg : w.heap.size = g) (h : B ≤ g) (h0 : 0 < l.length) (hm : l.length ≤ maxLen) : POwn e B (w.alloc (.cells (puCells l).toArray e)) (.slice (some ⟨g, 0, none⟩) l.length l.length) l := by
  subst hg; exact lit_pu e w l h h0 hm
theorem POwn.owns {e : TypeId} {B : Nat} {w : World} {v : Value} {l : List Sp} (h : POwn e B w v l) : w.ownsRow B e 2 v l.length (puCells l) := by
  rcases h with ⟨rfl, rfl⟩ | ⟨g, h1, h2, h3, cap, cur, hv, r⟩
  · exact World.ownsRow_nil _ _ _ _
  · exact ⟨h3, .inr ⟨g, cap, cur, hv, h1, r⟩⟩
theorem POwn.block {e : TypeId} {B : Nat} {w : World} {v : Value} {l : List Sp} (h : POwn e B w v l) : ∀ k, v.ownBlock = some k → B ≤ k := by
  rcases h with ⟨rfl, rfl⟩ | ⟨g, h1, h2, h3⟩
  · intro k hk; simp [Value.ownBlock] at hk
  · obtain ⟨c, rfl⟩ := h3.val
    intro k hk
    have : g = k := by simpa [Value.ownBlock] using hk
    omega
theorem POwn.of_owns {e : TypeId} {B : Nat} {w : World} {v : Value} {l : List Sp} (h : w.ownsRow B e 2 v l.length (puCells l)) (hn : v = .slice none 0 0 ↔ l = []) : POwn e B w v l := by
  rcases h.2 with ⟨h1, h2⟩ | ⟨g, cap, cur, hv, hg, r⟩
  · exact .inl ⟨hn.1 h1, h1⟩
  · refine .inr ⟨g, hg, ?_, h.1, cap, cur, hv, r⟩
    cases l with
    | nil => have := hn.2 rfl; rw [hv] at this; simp at this
    | cons x r => simp
theorem POwn.mono {e : TypeId} {B C : Nat} {w : World} {v : Value} {l : List Sp} (h : POwn e B w v l) (hc : C ≤ B) : POwn e C w v l := by
  rcases h with h | ⟨g, h1, h2, h3⟩
  · exact .inl h
  · exact .inr ⟨g, by omega, h2, h3⟩

theorem run_append_pu {e t : TypeId} {i0 : TypeInfo} (ht : Try.prog.underlying t = some (.slice e)) (hi : Try.prog.info? e = some i0) (hz : i0.zero = some (.agg #[.int .i64 0, .int .u64 0])) (hs : i0.size = 2) (hb : i0.bytes = 16)
    {B : Nat} {w : World} {v u : Value} {l : List Sp} {s : Sp} (hB : B ≤ w.heap.size) (h : POwn e B w v l) (h2 : POwn e B w u [s]) (hl : l.length ≤ 1000000) (ty : TypeId) :
    ∃ v' w', (Builtin.append_ #[t, t] ty #[v, u]).run Try.prog w = .ok v' w' ∧ POwn e B w' v' (l ++ [s]) ∧ Below B w w' := by
  rcases h2 with ⟨h0, _⟩ | ⟨g, hg, hy, hrow⟩
  · simp at h0
  · have hr := hrow
    obtain ⟨c, rfl⟩ := hrow.val
    obtain ⟨v', w', e1, e2, e3, e4⟩ := run_append_own w B t ty e i0 _ 2 16 ht hi hz hs hb rfl (by decide) v l.length (puCells l) h.owns ⟨g, 0, none⟩ 1 c (puCells [s]) rfl
      (fun j x hj => by
        have hjl : j < (puCells [s]).length := (List.getElem?_eq_some_iff.1 hj).1
        rw [puCells_length] at hjl
        have e : (⟨g, 0, none⟩ : Addr).add j = ⟨g, j, none⟩ := by unfold Addr.add; split <;> simp_all
        rw [e, hr.cell j (by simpa using hjl), hj])
      (fun x hx => by
        simp [puCells] at hx
        rcases hx with rfl | rfl <;> rfl) (by unfold maxLen; omega) (by omega) hB
    refine ⟨v', w', e1, POwn.of_owns ?_ ?_, (Below.refl B w).grown e3 hB h.block⟩
    · rw [puCells_append, List.length_append]; exact e2
    · rw [e4]
      constructor
      · rintro ⟨_, h0⟩; omega
      · intro h0; simp at h0

section
variable (w : World)
theorem wpList_append_pu {ops : Array Oper} {rest : List Oper} {o : Oper} {a : Act} {Q : Exit → Act → World → Prop} (hgd : o.guard = none) (sx x : Operand) (t : TypeId)
    (ho : o.op = .call { callee := .builtin .append, args := #[sx, x], argTypes := #[t, t] })
    {e : TypeId} {i0 : TypeInfo} (ht : Try.prog.underlying t = some (.slice e)) (hi : Try.prog.info? e = some i0) (hz : i0.zero = some (.agg #[.int .i64 0, .int .u64 0])) (hsz : i0.size = 2) (hb : i0.bytes = 16)
    {B : Nat} {v u : Value} {l : List Sp} {s : Sp} (hB : B ≤ w.heap.size) (hs : a.eval sx = v) (hx : a.eval x = u) (h1 : POwn e B w v l) (h2 : POwn e B w u [s]) (hl : l.length ≤ 1000000)
    (h : ∀ v' w', POwn e B w' v' (l ++ [s]) → Below B w w' → wpList Try.prog ops Q rest (a.put o.dst v') w') : wpList Try.prog ops Q (o :: rest) a w := by
  refine wpList_plain hgd fun _ hK => ?_
  obtain ⟨v', w', hr, h3, h4⟩ := run_append_pu ht hi hz hsz hb hB h1 h2 hl o.type
  unfold Oper.wp execOp
  simp only [ho, resolve, invoke, builtin, Sem.run_bind, Sem.run_pure, Result.andThen_ok, List.map_toArray, List.map_cons, List.map_nil, hs, hx, hr]
  exact hK _ _ (h v' w' h3 h4)
end

/-- What the kit knows of a type whose values are such numbers; of pairs. -/
def UInfo (e : TypeId) (i : TypeInfo) : Prop := Try.prog.info? e = some i ∧ i.zero = some (.int .u64 0) ∧ i.size = 1 ∧ i.bytes = 8
def PUInfo (e : TypeId) (i : TypeInfo) : Prop := Try.prog.info? e = some i ∧ i.zero = some (.agg #[.int .i64 0, .int .u64 0]) ∧ i.size = 2 ∧ i.bytes = 16
theorem Try.infoU64 : (Try.prog.info? 22).map (fun i => (i.zero, i.size, i.bytes)) = some (some (.int .u64 0), 1, 8) := by kernel_rfl
theorem info_uint64 : ∃ i, UInfo 22 i := by
  obtain ⟨i, hi, h⟩ := Option.map_eq_some_iff.1 Try.infoU64
  simp only [Prod.mk.injEq] at h
  exact ⟨i, hi, h.1, h.2.1, h.2.2⟩
theorem Try.infoPU : (Try.prog.info? 122).map (fun i => (i.zero, i.size, i.bytes)) = some (some (.agg #[.int .i64 0, .int .u64 0]), 2, 16) := by kernel_rfl
theorem info_pu : ∃ i, PUInfo 122 i := by
  obtain ⟨i, hi, h⟩ := Option.map_eq_some_iff.1 Try.infoPU
  simp only [Prod.mk.injEq] at h
  exact ⟨i, hi, h.1, h.2.1, h.2.2⟩
theorem POwn.cells2 {e : TypeId} {B : Nat} {w : World} {v : Value} {l : List Sp} (h : POwn e B w v l) (h0 : 0 < l.length) : ∃ g cap, v = .slice (some ⟨g, 0, none⟩) l.length cap ∧ l.length ≤ cap ∧ ∀ j s, l[j]? = some s → w.cell? ⟨g, j * 2, none⟩ = some (.int .i64 s.1) ∧ w.cell? ⟨g, j * 2 + 1, none⟩ = some (.int .u64 s.2) := by
  rcases h with ⟨h, _⟩ | ⟨g, _, _, hr⟩
  · rw [h] at h0; simp at h0
  · have hr' := hr
    obtain ⟨_, cap, cur, hv, _, hn, hm, _⟩ := hr
    refine ⟨g, cap, hv, hn, fun j s hj => ?_⟩
    have hjl := (List.getElem?_eq_some_iff.1 hj).1
    have c0 := hr'.cell (j * 2) (by omega)
    have c1 := hr'.cell (j * 2 + 1) (by omega)
    rw [c0, c1]
    exact puCells_at l j s hj
theorem UOwn.cells1 {e : TypeId} {B : Nat} {w : World} {v : Value} {l : List Int} (h : UOwn e B w v l) (h0 : 0 < l.length) : ∃ g cap, v = .slice (some ⟨g, 0, none⟩) l.length cap ∧ l.length ≤ cap ∧ ∀ j x, l[j]? = some x → w.cell? ⟨g, j, none⟩ = some (.int .u64 x) := by
  rcases h with ⟨h, _⟩ | ⟨g, _, _, hr⟩
  · rw [h] at h0; simp at h0
  · have hr' := hr
    obtain ⟨_, cap, cur, hv, _, hn, hm, _⟩ := hr
    refine ⟨g, cap, hv, hn, fun j x hj => ?_⟩
    have hjl := (List.getElem?_eq_some_iff.1 hj).1
    rw [hr'.cell j (by omega), unCells, List.getElem?_map, hj]
    rfl

theorem IsRow.usrc {w : World} {a : Option Addr} {len cap : Nat} {zs : List Int} (h : IsRow .u64 w a len cap zs) : ∃ l : List Int, l.length = len ∧ USrc w (.slice a len cap) l := by
  rcases h with ⟨rfl, rfl, rfl, rfl⟩ | ⟨x, rfl, hl, hm, hz, hc, hw⟩
  · exact ⟨[], rfl, USrc.nil w⟩
  · have hlen : (zs.take len).length = len := by simp; omega
    refine ⟨zs.take len, hlen, some x, cap, by rw [hlen], by omega, hm, ?_, ?_⟩
    · intro z hz'
      have := hw z (List.mem_of_mem_take hz')
      simp [Lit.wf, IntKind.min, IntKind.max, IntKind.bits, IntKind.signed] at this
      unfold inu
      omega
    · by_cases h0 : 0 < len
      · obtain ⟨b, off, spot⟩ := x
        have hc0 := hc 0 (by omega)
        have hspot : spot = none := by simpa [Addr.add] using World.cell?_spot hc0
        subst hspot
        refine ⟨b, off, fun _ => rfl, fun j y hj => ?_⟩
        have e1 : (⟨b, off, none⟩ : Addr).add j = ⟨b, off + j, none⟩ := by unfold Addr.add; split <;> simp_all
        rw [List.getElem?_take] at hj
        split at hj
        · have hjl := (List.getElem?_eq_some_iff.1 hj).1
          rw [← e1, hc j hjl, List.getD_eq_getElem?_getD, hj]
          rfl
        · cases hj
      · refine ⟨0, 0, fun h => by omega, fun j y hj => ?_⟩
        have : len = 0 := by omega
        subst this
        simp at hj

theorem Try.cells122 : Try.prog.cellsOf 122 = 2 := by kernel_rfl
theorem Try.cells22 : Try.prog.cellsOf 22 = 1 := by kernel_rfl

/-- A slice of such pairs that came in. -/
def IsPU (w : World) (a : Option Addr) (len cap : Nat) (l : List Sp) : Prop := l.length = len ∧ PSrc w (.slice a len cap) l
theorem pus_of {H : Type} {enc : TypeId × Value → H} {W : World} {base : Nat} {a : Option Addr} {len cap : Nat} {d : DataW H} {p : List MemPlace}
    (h : DataW.Trod enc Try.prog W base (fun _ => true) true 78 (.slice a len cap) d p) : ∃ l, IsPU W a len cap l := by
  obtain ⟨fuel, hf⟩ := h
  rcases Go.Deep.open_slice Try.underlying78 hf with ⟨hcs, _⟩ | ⟨x, l, c, m, n, D, Pl, hcs, _, hl, hm, hmm, _, hx⟩
  · simp [Value.cells] at hcs
    obtain ⟨rfl, rfl, rfl⟩ := hcs
    exact ⟨[], rfl, PSrc.nil W⟩
  · simp [Value.cells] at hcs
    obtain ⟨rfl, rfl, rfl⟩ := hcs
    have hlm : len ≤ m := by rw [hmm]; split <;> omega
    have each : ∀ i, i < len → ∃ y : Sp, (W.cell? (x.add (i * 2)) = some (.int .i64 y.1) ∧ W.cell? (x.add (i * 2 + 1)) = some (.int .u64 y.2)) ∧ in64 y.1 ∧ inu y.2 := by
      intro i hi
      obtain ⟨cs, hc, ht⟩ := hx i (by omega)
      rw [Try.cells122] at hc
      obtain ⟨_, hlen, hcell⟩ := World.cells?_some hc
      obtain ⟨y0, y1, k, _, _, t0, t1⟩ := trod_struct2 Try.underlying122 ht
      match cs, hlen with
      | [c0, c1], _ =>
        simp only [Try.cells3, Try.cells22, List.drop_zero, List.drop_succ_cons, List.take_succ_cons, List.take_zero] at t0 t1
        obtain ⟨n0, e0, _, w0⟩ := DataW.trod_int Try.underlying3 t0
        obtain ⟨n1, e1, _, w1⟩ := DataW.trod_int Try.underlying22 t1
        simp at e0 e1
        subst e0 e1
        simp [Lit.wf, IntKind.min, IntKind.max, IntKind.bits, IntKind.signed] at w0 w1
        have h0 := hcell 0 (by omega)
        have h1 := hcell 1 (by omega)
        rw [Go.Deep.add_add] at h0 h1
        exact ⟨(n0, n1), ⟨by simpa using h0, by simpa using h1⟩, ⟨by omega, by omega⟩, ⟨by omega, by omega⟩⟩
    have : Inhabited Sp := ⟨(0, 0)⟩
    obtain ⟨z, hz⟩ := Go.Deep.choose_lt each
    refine ⟨(List.range len).map z, by simp, some x, cap, by simp, by simp; omega, by omega, ?_, ?_⟩
    · intro s hs
      obtain ⟨j, hj, rfl⟩ := List.mem_map.1 hs
      exact (hz j (by simpa using hj)).2
    · by_cases h0 : 0 < len
      · obtain ⟨b, off, spot⟩ := x
        have hc0 := (hz 0 h0).1.1
        have hspot : spot = none := by simpa [Addr.add] using World.cell?_spot hc0
        subst hspot
        have e1 : ∀ j, (⟨b, off, none⟩ : Addr).add j = ⟨b, off + j, none⟩ := by intro j; unfold Addr.add; split <;> simp_all
        refine ⟨b, off, fun _ => rfl, fun j s hj => ?_⟩
        rw [List.getElem?_map] at hj
        obtain ⟨j', hj', rfl⟩ := Option.map_eq_some_iff.1 hj
        have hjl : j < len := by have := (List.getElem?_eq_some_iff.1 hj').1; simpa using this
        have : j' = j := by
          rw [List.getElem?_range hjl] at hj'
          simpa using hj'.symm
        subst this
        have := (hz j' hjl).1
        rw [e1, e1] at this
        rw [Nat.add_assoc]
        exact this
      · refine ⟨0, 0, fun h => by simp at h; omega, fun j y hj => ?_⟩
        have : len = 0 := by omega
        subst this
        simp at hj
theorem POwn.val {e : TypeId} {B : Nat} {w : World} {v : Value} {l : List Sp} (h : POwn e B w v l) : ∃ ao cap, v = .slice ao l.length cap := by
  rcases h with ⟨rfl, rfl⟩ | ⟨g, _, _, hr⟩
  · exact ⟨none, 0, rfl⟩
  · obtain ⟨c, h⟩ := hr.val; exact ⟨_, c, h⟩
theorem UOwn.val' {e : TypeId} {B : Nat} {w : World} {v : Value} {zs : List Int} (h : UOwn e B w v zs) : ∃ ao cap, v = .slice ao zs.length cap ∧ zs.length ≤ cap ∧ cap ≤ maxLen := by
  rcases h with ⟨rfl, rfl⟩ | ⟨g, _, _, _, cap, cur, hv, _, hn, hm, _⟩
  · exact ⟨none, 0, rfl, Nat.le_refl _, Nat.zero_le _⟩
  · exact ⟨_, cap, hv, hn, hm⟩
end Go.Proofs.Ytnfbmdniomelnaa

/-
  The float of a whole number and the whole number of a float, without any program: bits as numbers.
-/
namespace Go.Proofs.Ytnfbmdniomelnaa.Floats
set_option linter.unusedSimpArgs false
set_option linter.unusedVariables false

/-- A number's quotient by 2^d, to the nearest; of two the even one. -/
def rnd (n d : Nat) : Nat := n / 2 ^ d + (if 2 ^ d < 2 * (n % 2 ^ d) ∨ (2 ^ d = 2 * (n % 2 ^ d) ∧ n / 2 ^ d % 2 = 1) then 1 else 0)
/-- The digits that are kept. -/
def kpt (n : Nat) : Nat := if n.log2 ≤ 52 then n * 2 ^ (52 - n.log2) else rnd n (n.log2 - 52)
/-- The bits of a whole number's float. -/
def flt (n : Nat) : Nat := if n = 0 then 0 else (1022 + n.log2) * 4503599627370496 + kpt n
/-- The whole number of a float, cut. -/
def trn (v : Nat) : Nat :=
  if v < 4503599627370496 then 0
  else if v / 4503599627370496 ≤ 1075 then (4503599627370496 + v % 4503599627370496) / 2 ^ (1075 - v / 4503599627370496)
  else (4503599627370496 + v % 4503599627370496) * 2 ^ (v / 4503599627370496 - 1075)
/-- The whole number that a float is, if it is one. -/
def whl (v : Nat) : Option Nat :=
  if v < 4895412794951729152 then (if flt (trn v) = v then some (trn v) else none) else none

theorem log2_eq {n k : Nat} (h1 : 2 ^ k ≤ n) (h2 : n < 2 ^ (k + 1)) : n.log2 = k := by
  have h0 : n ≠ 0 := by have := Nat.two_pow_pos k; omega
  have a := (Nat.le_log2 h0).2 h1
  have b := (Nat.log2_lt h0).2 h2
  omega
theorem log2_le {n : Nat} (h0 : n ≠ 0) : 2 ^ n.log2 ≤ n := Nat.log2_self_le h0
theorem log2_gt (n : Nat) : n < 2 ^ (n.log2 + 1) := Nat.lt_log2_self

theorem kpt_bounds {n : Nat} (h0 : n ≠ 0) : 4503599627370496 ≤ kpt n ∧ kpt n ≤ 9007199254740992 := by
  have a := log2_le h0
  have b := log2_gt n
  have e52 : (4503599627370496 : Nat) = 2 ^ 52 := by decide
  have e53 : (9007199254740992 : Nat) = 2 ^ 53 := by decide
  unfold kpt
  split
  · rename_i h
    have e1 : (2 : Nat) ^ 52 = 2 ^ n.log2 * 2 ^ (52 - n.log2) := by rw [← Nat.pow_add]; congr 1; omega
    have e2 : (2 : Nat) ^ 53 = 2 ^ (n.log2 + 1) * 2 ^ (52 - n.log2) := by rw [← Nat.pow_add]; congr 1; omega
    rw [e52, e53, e1, e2]
    exact ⟨Nat.mul_le_mul_right _ a, Nat.mul_le_mul_right _ (by omega)⟩
  · rename_i h
    have e1 : 2 ^ n.log2 = 2 ^ 52 * 2 ^ (n.log2 - 52) := by rw [← Nat.pow_add]; congr 1; omega
    have e2 : 2 ^ (n.log2 + 1) = 2 ^ 53 * 2 ^ (n.log2 - 52) := by rw [← Nat.pow_add]; congr 1; omega
    have hp := Nat.two_pow_pos (n.log2 - 52)
    have c1 : 2 ^ 52 ≤ n / 2 ^ (n.log2 - 52) := (Nat.le_div_iff_mul_le hp).2 (by rw [← e1]; exact a)
    have c2 : n / 2 ^ (n.log2 - 52) < 2 ^ 53 := (Nat.div_lt_iff_lt_mul hp).2 (by rw [← e2]; exact b)
    unfold rnd
    rw [e52, e53]
    split <;> omega
theorem rnd_mono {a b d : Nat} (h : a ≤ b) : rnd a d ≤ rnd b d := by
  have hq : a / 2 ^ d ≤ b / 2 ^ d := Nat.div_le_div_right h
  have ha := Nat.div_add_mod a (2 ^ d)
  have hb := Nat.div_add_mod b (2 ^ d)
  unfold rnd
  by_cases e : a / 2 ^ d = b / 2 ^ d
  · rw [e] at ha
    have hr : a % 2 ^ d ≤ b % 2 ^ d := by omega
    rw [e]
    split
    · rename_i h1
      rw [if_pos (by omega)]
      exact Nat.le_refl _
    · omega
  · split <;> split <;> omega
theorem flt_mono {a b : Nat} (h : a ≤ b) : flt a ≤ flt b := by
  unfold flt
  by_cases ha : a = 0
  · rw [if_pos ha]; omega
  · have hb : b ≠ 0 := by omega
    rw [if_neg ha, if_neg hb]
    have h1 := kpt_bounds ha
    have h2 := kpt_bounds hb
    have hl : a.log2 ≤ b.log2 := (Nat.le_log2 hb).2 (Nat.le_trans (log2_le ha) h)
    by_cases e : a.log2 = b.log2
    · have : kpt a ≤ kpt b := by
        unfold kpt
        rw [e]
        split
        · exact Nat.mul_le_mul_right _ h
        · exact rnd_mono h
      rw [e]; omega
    · omega
theorem flt_lt {n : Nat} (h : n < 18446744073709551616) : flt n ≤ 4895412794951729152 := by
  unfold flt
  split
  · omega
  · rename_i h0
    have h1 := kpt_bounds h0
    have h64 : (18446744073709551616 : Nat) = 2 ^ 64 := by decide
    have : n.log2 < 64 := (Nat.log2_lt h0).2 (by omega)
    omega

/-- The language's own float. -/
theorem nearest_flt {n : Nat} (h : n < 18446744073709551616) : floatOfInt .f64 (n : Int) = flt n := by
  have h64 : (18446744073709551616 : Nat) = 2 ^ 64 := by decide
  unfold floatOfInt FloatKind.nearest FloatKind.encode FloatKind.format Ieee.Format.write
  simp only
  have hd : decide ((n : Int) < 0) = false := by simp
  rw [hd, Int.natAbs_natCast]
  unfold Ieee.Format.nearest flt
  by_cases h0 : n = 0
  · rw [if_pos h0, if_pos h0]; rfl
  · rw [if_neg h0, if_neg h0]
    have hk : n.log2 < 64 := (Nat.log2_lt h0).2 (by omega)
    have hf : Ieee.double.fractionBits = 52 := rfl
    have hp : Ieee.double.leastPlace = -1074 := by decide
    have hb : Ieee.double.binade = 4503599627370496 := by decide
    have hi : Ieee.double.infRung = 9218868437227405312 := by decide
    simp only [hf, hp, hb, hi]
    have hm : max (0 + (n.log2 : Int) - ((52 : Nat) : Int)) (-1074) = (n.log2 : Int) - 52 := by omega
    rw [hm]
    have hkp : Ieee.Toward.even.cut false (n <<< (0 - ((n.log2 : Int) - 52)).toNat) ((n.log2 : Int) - 52 - 0).toNat = kpt n := by
      unfold kpt
      split
      · rename_i hle
        have e1 : (0 - ((n.log2 : Int) - 52)).toNat = 52 - n.log2 := by omega
        have e2 : ((n.log2 : Int) - 52 - 0).toNat = 0 := by omega
        rw [e1, e2]
        unfold Ieee.Toward.cut
        simp only [Nat.zero_min, Nat.shiftLeft_eq, Nat.pow_zero, Nat.mul_one, Nat.div_one, Nat.mod_one]
        simp
      · rename_i hle
        have e1 : (0 - ((n.log2 : Int) - 52)).toNat = 0 := by omega
        have e2 : ((n.log2 : Int) - 52 - 0).toNat = n.log2 - 52 := by omega
        rw [e1, e2]
        unfold Ieee.Toward.cut rnd
        simp only [Nat.shiftLeft_eq, Nat.pow_zero, Nat.mul_one, Nat.one_mul]
        rw [Nat.min_eq_left (by omega)]
        congr 1
        by_cases c1 : 2 ^ (n.log2 - 52) < 2 * (n % 2 ^ (n.log2 - 52))
        · simp [c1]
        · by_cases c2 : 2 ^ (n.log2 - 52) = 2 * (n % 2 ^ (n.log2 - 52))
          · by_cases c3 : n / 2 ^ (n.log2 - 52) % 2 = 1
            · simp [c1, c2.symm, c3]
            · simp [c1, c2.symm, c3]
          · simp [c1, c2]
    rw [hkp]
    have h1 := kpt_bounds h0
    have e3 : ((n.log2 : Int) - 52 - -1074).toNat = n.log2 + 1022 := by omega
    rw [e3]
    unfold Ieee.Format.word
    rw [if_neg (by simp), Nat.min_eq_left (by omega)]
    omega

/-- How the language reads a float that isn't below 0. -/
theorem read_low {v : Nat} (h : v < 4503599627370496) : FloatKind.f64.decode v = .number false v (-1074) := by
  unfold FloatKind.decode FloatKind.format Ieee.Format.read
  have hw : Ieee.double.signWeight = 9223372036854775808 := by decide
  have hp : Ieee.double.leastPlace = -1074 := by decide
  have hb : Ieee.double.binade = 4503599627370496 := by decide
  simp only [hw, hp, hb]
  rw [Nat.div_eq_of_lt (by omega), Nat.mod_eq_of_lt (by omega), if_pos h]
  rfl
theorem read_high {v : Nat} (h : 4503599627370496 ≤ v) (h2 : v < 9218868437227405312) : FloatKind.f64.decode v = .number false (4503599627370496 + v % 4503599627370496) ((v / 4503599627370496 : Nat) - 1075 : Int) := by
  unfold FloatKind.decode FloatKind.format Ieee.Format.read
  have hw : Ieee.double.signWeight = 9223372036854775808 := by decide
  have hp : Ieee.double.leastPlace = -1074 := by decide
  have hb : Ieee.double.binade = 4503599627370496 := by decide
  have hi : Ieee.double.infRung = 9218868437227405312 := by decide
  simp only [hw, hp, hb, hi]
  rw [Nat.div_eq_of_lt (by omega), Nat.mod_eq_of_lt (by omega), if_neg (by omega), if_pos h2]
  have : (-1074 : Int) + ((v / 4503599627370496 - 1 : Nat) : Int) = ((v / 4503599627370496 : Nat) : Int) - 1075 := by omega
  rw [this]
  rfl

theorem pow_ge {a b : Nat} (h : a ≤ b) : 2 ^ a ≤ 2 ^ b := Nat.pow_le_pow_right (by omega) h
theorem trn_lt {v : Nat} (h : v < 4895412794951729152) : trn v < 18446744073709551616 := by
  unfold trn
  split
  · omega
  · split
    · have : (4503599627370496 + v % 4503599627370496) / 2 ^ (1075 - v / 4503599627370496) ≤ 4503599627370496 + v % 4503599627370496 := Nat.div_le_self _ _
      omega
    · have h1 : v / 4503599627370496 - 1075 ≤ 11 := by omega
      have h2 := pow_ge h1
      have h3 : (4503599627370496 + v % 4503599627370496) * 2 ^ (v / 4503599627370496 - 1075) ≤ (4503599627370496 + v % 4503599627370496) * 2 ^ 11 := Nat.mul_le_mul_left _ h2
      omega

theorem cut_shift (m d : Nat) (h : m < 2 ^ (m.log2 + 2)) : Ieee.Toward.zero.cut false m d = m / 2 ^ d := by
  unfold Ieee.Toward.cut
  simp only [Nat.shiftLeft_eq, Nat.one_mul, Bool.toNat_false, Nat.add_zero]
  by_cases hd : d ≤ m.log2 + 2
  · rw [Nat.min_eq_left hd]
  · rw [Nat.min_eq_right (by omega)]
    rw [Nat.div_eq_of_lt h, Nat.div_eq_of_lt (Nat.lt_of_lt_of_le h (pow_ge (by omega)))]
theorem lt_log2_two (m : Nat) : m < 2 ^ (m.log2 + 2) := Nat.lt_of_lt_of_le (log2_gt m) (pow_ge (by omega))

theorem toInt_trn {v : Nat} (h : v < 4895412794951729152) : floatToIntVal .f64 v .u64 = some (trn v : Int) := by
  have ht := trn_lt h
  unfold floatToIntVal
  have e : (FloatKind.f64.decode v).toInt .zero = some (trn v : Int) := by
    unfold trn
    by_cases h1 : v < 4503599627370496
    · rw [read_low h1, if_pos h1]
      unfold Ieee.Datum.toInt Ieee.Datum.integral
      simp only [Ieee.signed]
      rw [cut_shift _ _ (lt_log2_two _)]
      have e1 : (-1074 : Int).toNat = 0 := by decide
      obtain ⟨E, hE⟩ : ∃ E, E = (- (-1074 : Int)).toNat := ⟨_, rfl⟩
      have hE2 : 52 ≤ E := by omega
      have e3 : v < 2 ^ E := Nat.lt_of_lt_of_le (by omega : v < 2 ^ 52) (pow_ge hE2)
      rw [e1, ← hE]
      simp [Nat.shiftLeft_eq, Nat.div_eq_of_lt e3]
    · rw [read_high (by omega) (by omega), if_neg h1]
      unfold Ieee.Datum.toInt Ieee.Datum.integral
      simp only [Ieee.signed]
      rw [cut_shift _ _ (lt_log2_two _)]
      rw [if_neg (by simp)]
      split
      · rename_i h2
        have e1 : ((v / 4503599627370496 : Nat) - 1075 : Int).toNat = 0 := by omega
        have e2 : (- ((v / 4503599627370496 : Nat) - 1075 : Int)).toNat = 1075 - v / 4503599627370496 := by omega
        rw [e1, e2]
        simp [Nat.shiftLeft_eq]
      · rename_i h2
        have e1 : ((v / 4503599627370496 : Nat) - 1075 : Int).toNat = v / 4503599627370496 - 1075 := by omega
        have e2 : (- ((v / 4503599627370496 : Nat) - 1075 : Int)).toNat = 0 := by omega
        rw [e1, e2]
        simp [Nat.shiftLeft_eq]
  rw [e]
  simp only
  have hmin : IntKind.u64.min = 0 := by decide
  have hmax : IntKind.u64.max = 18446744073709551615 := by decide
  rw [if_pos ⟨by omega, by omega⟩]

/-- How the language holds a float against 2^64. -/
theorem order_two {v : Nat} (h : v < 9218868437227405312) : (FloatKind.f64.format.order v 4895412794951729152 == some .gt || FloatKind.f64.format.order v 4895412794951729152 == some .eq) = decide (4895412794951729152 ≤ v) := by
  have hr : FloatKind.f64.format.read 4895412794951729152 = .number false 4503599627370496 12 := by
    have := read_high (v := 4895412794951729152) (by omega) (by omega)
    unfold FloatKind.decode at this
    rw [this]; decide
  unfold Ieee.Format.order
  rw [hr]
  by_cases h1 : v < 4503599627370496
  · have h2 : FloatKind.f64.format.read v = _ := read_low h1
    rw [h2]
    have e1 : min (-1074 : Int) 12 = -1074 := by decide
    have e2 : (-1074 - -1074 : Int).toNat = 0 := by decide
    obtain ⟨E, hE⟩ : ∃ E, (12 - -1074 : Int).toNat = E := ⟨_, rfl⟩
    simp only [Ieee.Datum.order, Ieee.signed, e1, e2, hE, Nat.shiftLeft_eq]
    have hl : compare ((v * 2 ^ 0 : Nat) : Int) ((4503599627370496 * 2 ^ E : Nat) : Int) = .lt := by
      rw [Int.compare_eq_lt]
      have := Nat.two_pow_pos E
      generalize (2 ^ E : Nat) = Q at *
      have h3 : 4503599627370496 * 1 ≤ 4503599627370496 * Q := Nat.mul_le_mul_left _ this
      omega
    simp only [Bool.false_eq_true, if_false, hl]
    rw [decide_eq_false (by omega)]
    rfl
  · have h2 : FloatKind.f64.format.read v = _ := read_high (by omega) h
    rw [h2]
    by_cases h3 : 4895412794951729152 ≤ v
    · have e1 : min ((v / 4503599627370496 : Nat) - 1075 : Int) 12 = 12 := by omega
      have e2 : (12 - 12 : Int).toNat = 0 := by decide
      simp only [Ieee.Datum.order, Ieee.signed, e1, e2, Nat.shiftLeft_eq, Bool.false_eq_true, if_false]
      have hp := Nat.two_pow_pos (((v / 4503599627370496 : Nat) - 1075 : Int) - 12).toNat
      generalize (2 ^ (((v / 4503599627370496 : Nat) - 1075 : Int) - 12).toNat : Nat) = Q at *
      have hge : 4503599627370496 * 2 ^ 0 ≤ (4503599627370496 + v % 4503599627370496) * Q := by
        have : (4503599627370496 + v % 4503599627370496) * 1 ≤ (4503599627370496 + v % 4503599627370496) * Q := Nat.mul_le_mul_left _ hp
        omega
      generalize (4503599627370496 + v % 4503599627370496) * Q = R at *
      rw [decide_eq_true h3]
      rcases Nat.lt_or_eq_of_le hge with h4 | h4
      · have : compare ((R : Nat) : Int) ((4503599627370496 * 2 ^ 0 : Nat) : Int) = .gt := by rw [Int.compare_eq_gt]; omega
        rw [this]; rfl
      · have : compare ((R : Nat) : Int) ((4503599627370496 * 2 ^ 0 : Nat) : Int) = .eq := by rw [Int.compare_eq_eq]; omega
        rw [this]; rfl
    · have e1 : min ((v / 4503599627370496 : Nat) - 1075 : Int) 12 = ((v / 4503599627370496 : Nat) - 1075 : Int) := by omega
      have e2 : (((v / 4503599627370496 : Nat) - 1075 : Int) - ((v / 4503599627370496 : Nat) - 1075 : Int)).toNat = 0 := by omega
      simp only [Ieee.Datum.order, Ieee.signed, e1, e2, Nat.shiftLeft_eq, Bool.false_eq_true, if_false]
      have hs : 1 ≤ (12 - ((v / 4503599627370496 : Nat) - 1075 : Int)).toNat := by omega
      have hp := pow_ge hs
      generalize (2 ^ (12 - ((v / 4503599627370496 : Nat) - 1075 : Int)).toNat : Nat) = Q at *
      have hlt : (4503599627370496 + v % 4503599627370496) * 2 ^ 0 < 4503599627370496 * Q := by
        have : 4503599627370496 * 2 ^ 1 ≤ 4503599627370496 * Q := Nat.mul_le_mul_left _ hp
        omega
      have : compare (((4503599627370496 + v % 4503599627370496) * 2 ^ 0 : Nat) : Int) ((4503599627370496 * Q : Nat) : Int) = .lt := by rw [Int.compare_eq_lt]; omega
      rw [this, decide_eq_false h3]
      rfl
end Go.Proofs.Ytnfbmdniomelnaa.Floats

/-
  Package pairs, over numbers without a sign: same, Equal, Without.
-/
namespace Go.Proofs.Ytnfbmdniomelnaa
open Go.RowKit Mem Spans
set_option linter.unusedSimpArgs false
set_option linter.unusedVariables false
set_option maxRecDepth 100000




end Go.Proofs.Ytnfbmdniomelnaa

/-
  Package pairs, over numbers without a sign: Unzip.
-/
namespace Go.Proofs.Ytnfbmdniomelnaa
open Go.RowKit Mem Spans
set_option linter.unusedSimpArgs false
set_option linter.unusedVariables false
set_option maxRecDepth 100000

/-- A row of numbers that lies in block g, or none at all. -/
def UAt (e : TypeId) (w : World) (v : Value) (g : Nat) (zs : List Int) : Prop :=
  (zs = [] ∧ v = .slice none 0 0) ∨ (0 < zs.length ∧ Row w e 1 v g zs.length (unCells zs))
theorem UAt.kept {e : TypeId} {w w' : World} {v : Value} {g : Nat} {zs : List Int} {S : List Nat} (h : UAt e w v g zs) (f : Fr S w w') (hn : zs ≠ [] → g ∉ S) : UAt e w' v g zs := by
  rcases h with h | ⟨h1, h2⟩
  · exact .inl h
  · exact .inr ⟨h1, h2.kept f (hn (by intro h; rw [h] at h1; simp at h1))⟩
theorem UAt.lt {e : TypeId} {w : World} {v : Value} {g : Nat} {zs : List Int} (h : UAt e w v g zs) (hn : zs ≠ []) : g < w.heap.size := by
  rcases h with ⟨h, _⟩ | ⟨h1, h2⟩
  · exact absurd h hn
  · exact h2.lt
theorem UAt.own {e : TypeId} {B : Nat} {w : World} {v : Value} {g : Nat} {zs : List Int} (h : UAt e w v g zs) (hB : zs ≠ [] → B ≤ g) : UOwn e B w v zs := by
  rcases h with h | ⟨h1, h2⟩
  · exact .inl h
  · exact .inr ⟨g, hB (by intro h; rw [h] at h1; simp at h1), h1, h2⟩
section
variable (w : World)
theorem wpList_append_uat {ops : Array Oper} {rest : List Oper} {o : Oper} {a : Act} {Q : Exit → Act → World → Prop} (hgd : o.guard = none) (sx x : Operand) (t : TypeId)
    (ho : o.op = .call { callee := .builtin .append, args := #[sx, x], argTypes := #[t, t] })
    {e : TypeId} {i0 : TypeInfo} (ht : Try.prog.underlying t = some (.slice e)) (hi : UInfo e i0)
    {v : Value} {g gn : Nat} {l : List Int} {s : Int} (hs : a.eval sx = v) (hx : a.eval x = .slice (some ⟨gn, 0, none⟩) 1 1) (hn : w.cell? ⟨gn, 0, none⟩ = some (.int .u64 s)) (h1 : UAt e w v g l) (hl : l.length ≤ 1000000)
    (h : ∀ v' g' w', UAt e w' v' g' (l ++ [s]) → Hid ((l ≠ [] ∧ g' = g) ∨ g' = w.heap.size) → Hid (Fr (tch l g) w w') → wpList Try.prog ops Q rest (a.put o.dst v') w') : wpList Try.prog ops Q (o :: rest) a w := by
  have hnew : ∀ (j : Nat) (u : Value), (unCells [s])[j]? = some u → w.cell? ((⟨gn, 0, none⟩ : Addr).add j) = some u := by
    intro j u hj
    have hj0 : j = 0 := by have := (List.getElem?_eq_some_iff.1 hj).1; simp [unCells] at this; omega
    subst hj0
    have e : (⟨gn, 0, none⟩ : Addr).add 0 = ⟨gn, 0, none⟩ := by unfold Addr.add; split <;> simp_all
    rw [e, hn]
    simpa [unCells] using hj
  have hc : unCells (l ++ [s]) = unCells l ++ unCells [s] := by simp [unCells]
  rcases h1 with ⟨rfl, rfl⟩ | ⟨h0, hrow⟩
  · refine wpList_append_new w hgd sx x t ho e i0 _ 1 8 ht hi.1 hi.2.1 hi.2.2.1 hi.2.2.2 rfl hs ⟨gn, 0, none⟩ 1 1 (unCells [s]) hx rfl hnew (by omega) (by unfold maxLen; omega) (by omega) ?_
    intro v' w' hr hf
    exact h v' _ w' (.inr ⟨by simp, hr⟩) (.inr rfl) hf
  · refine wpList_append_row w hgd sx x t ho e i0 _ 1 8 ht hi.1 hi.2.1 hi.2.2.1 hi.2.2.2 rfl v g l.length (unCells l) hs hrow ⟨gn, 0, none⟩ 1 1 (unCells [s]) hx rfl hnew (by simp [unCells, Value.oneCell']) (by unfold maxLen; omega) (by omega) ?_
    intro v' g' w' hr hg hf
    have hne : l ≠ [] := by intro h; rw [h] at h0; simp at h0
    refine h v' g' w' (.inr ⟨by simp, ?_⟩) ?_ ?_
    · rw [hc, List.length_append]; exact hr
    · rcases hg.out with h2 | h2
      · exact .inl ⟨hne, h2⟩
      · exact .inr h2
    · cases l with
      | nil => exact absurd rfl hne
      | cons y r => exact hf
end

end Go.Proofs.Ytnfbmdniomelnaa

/-
  Package pairs, over numbers without a sign: Zip.
-/
namespace Go.Proofs.Ytnfbmdniomelnaa
open Go.RowKit Go.Shelf Mem Spans
set_option linter.unusedSimpArgs false
set_option linter.unusedVariables false
set_option maxRecDepth 100000
attribute [local go_sem] Oper.semAt_some

section
variable {n : Nat} {ops : Array Oper} {o : Oper} {a : Act} {w : World} {K : Act → World → Prop} {Q : Exit → Act → World → Prop} {E : Prop}
/-- append of a pair to a row of the call's own, as one step of such a region. -/
theorem stepIn_append_pu (hgd : o.guard = none) (sx x : Operand) (t : TypeId)
    (ho : o.op = .call { callee := .builtin .append, args := #[sx, x], argTypes := #[t, t] })
    {e : TypeId} {i0 : TypeInfo} (ht : Try.prog.underlying t = some (.slice e)) (hi : Try.prog.info? e = some i0) (hz : i0.zero = some (.agg #[.int .i64 0, .int .u64 0])) (hsz : i0.size = 2) (hb : i0.bytes = 16)
    {B : Nat} {v u : Value} {l : List Sp} {s : Sp} (hs : a.eval sx = v) (hx : a.eval x = u) (hB : B ≤ w.heap.size) (h1 : w.ownsRow B e 2 v l.length (puCells l)) (h2 : POwn e B w u [s]) (hl : l.length ≤ 1000000)
    (h : ∀ v' w', w'.ownsRow B e 2 v' (l.length + 1) (puCells (l ++ [s])) → w.grownBy w' v.ownBlock → K (a.put o.dst v') w') :
    if Region.wanted o (yielded ops a.tmps) = true then Oper.wpIn Fence.wide n Try.prog o a w K Q else E := by
  have hw : Region.wanted o (yielded ops a.tmps) = true := by simp [Region.wanted, hgd]
  rw [if_pos hw]
  refine ⟨fun _ _ => trivial, ?_⟩
  rw [show o.semAt Fence.wide.round a.eval = execOp a.eval o from rfl]
  rcases h2 with ⟨h0, _⟩ | ⟨g, hg, hy, hrow⟩
  · simp at h0
  · have hr := hrow
    obtain ⟨c, rfl⟩ := hrow.val
    obtain ⟨v', w', e1, e2, e3, e4⟩ := run_append_own w B t o.type e i0 _ 2 16 ht hi hz hsz hb rfl (by decide) v l.length (puCells l) h1 ⟨g, 0, none⟩ 1 c (puCells [s]) rfl
      (fun j x hj => by
        have hjl : j < (puCells [s]).length := (List.getElem?_eq_some_iff.1 hj).1
        rw [puCells_length] at hjl
        have e : (⟨g, 0, none⟩ : Addr).add j = ⟨g, j, none⟩ := by unfold Addr.add; split <;> simp_all
        rw [e, hr.cell j (by simpa using hjl), hj])
      (fun x hx => by
        simp [puCells] at hx
        rcases hx with rfl | rfl <;> rfl) (by unfold maxLen; omega) (by omega) hB
    unfold execOp
    simp only [ho, resolve, invoke, builtin, Sem.run_bind, Sem.run_pure, Result.andThen_ok, List.map_toArray, List.map_cons, List.map_nil, hs, hx, List.length_singleton, e1]
    rw [← puCells_append] at e2
    exact h v' w' e2 e3
end
theorem USrc.below {n0 : Nat} {w w' : World} {v : Value} {zs : List Int} (h : USrc w v zs) (hb : Below n0 w w') (hn : w.heap.size ≤ n0) : USrc w' v zs := by
  obtain ⟨ao, cap, h1, h2, h3, h4, b, off, h5, h6⟩ := h
  refine ⟨ao, cap, h1, h2, h3, h4, b, off, h5, fun j x hj => ?_⟩
  have c0 := h6 j x hj
  have b0 : b < n0 := by have := World.block_lt_of_cell? w _ c0; simp at this; omega
  exact (hb.cell (p := ⟨b, off + j, none⟩) b0).trans c0

set_option maxHeartbeats 4000000 in
theorem zipU_any (v u : Value) (l : List Sp) (vs : List Int) (w : World) (h : SSrc w v l) (h2 : USrc w u vs) :
    Calls Try.prog 73 #[v, u] w fun e w' => ∃ x, e = .returned (.tuple #[x, .int .i64 (zpe l vs)]) ∧ POwn 122 w.heap.size w' x (zpl l vs) ∧ Fr [] w w' := by
  have HSR : Hid (SSrc w v l) := h
  have HIR : Hid (USrc w u vs) := h2
  obtain ⟨ao, cap, rfl, hcap, hmax, _⟩ := h
  obtain ⟨bo, bcap, rfl, hbcap, hbmax, _⟩ := h2
  obtain ⟨i0, hi⟩ := info_pu
  have HI : Hid (PUInfo 122 i0) := hi
  clear hi
  have HPL : Hid ((tot l).length ≤ 4096) := by rw [Hid, tot, prs_length]; exact pls_le l
  refine (callsIn_wide (n := 3)).1 ?_
  refine callsIn_of_wp_marks Try.func73 rfl trivial ?_ rfl
  simp only [Try.ntmps73, List.size_toArray, List.length_cons, List.length_nil, Nat.reduceAdd, Nat.reduceSub, Array.replicate_succ, Array.replicate_zero, List.push_toArray, List.append_toArray, List.nil_append, List.cons_append]
  have bV := Boxed.new w 42 (.slice bo vs.length bcap)
  have F0 : Fr [] w (w.alloc (.cells #[.slice bo vs.length bcap] 42)) := (Fr.refl _ _).alloc _
  gi_wp2_with fail
  refine ⟨trivial, (callsIn_wide.2 (check_any _ l _ (HSR.out.kept F0))).mono ?_⟩
  rintro e w1 ⟨rfl, hf1⟩
  have HF1 : Hid (Fr [] w w1) := F0.trans hf1 (by simp)
  have HBV : Hid (Boxed w1 w.heap.size 42 (.slice bo vs.length bcap)) := bV.kept (Fr.grownBy hf1) (by simp)
  clear hf1 F0 bV
  by_cases hk0 : chk l = 0
  · have HSR1 : Hid (∀ wx : World, Fr [] w wx → SSrc wx (.slice ao l.length cap) l) := fun wx hf => HSR.out.kept hf
    have hcb := HBV.out.cell
    by_cases hle : vs.length = (pls l).length
    · have HCT : Hid (∀ wx, Fr [] w wx → Calls Try.prog 66 #[.slice ao l.length cap] wx fun e w' => e = .returned (.int .i64 (vs.length : Int)) ∧ Fr [] wx w') := by
        intro wx hf
        rw [hle, ← ctn_pls l hk0]
        exact count_any _ l wx (HSR1.out wx hf)
      have HT : Hid (zpe l vs = 0 ∧ zpl l vs = zpp vs (tot l)) := by
        have e : zpe l vs = 0 := by unfold zpe; rw [if_pos hk0, if_pos hle]
        unfold Hid zpl
        rw [if_pos e, tot, zpp_prs vs _ hle.symm]
        exact ⟨e, rfl⟩
      have HLN : Hid ((tot l).length = vs.length) := by rw [Hid, tot, prs_length, hle]
      clear hle
      gi_wp2_with fail
      refine wpIn_wide.2 ?_
      go_region_held3 (fun w' => w'.cell? ⟨w.heap.size, 0, none⟩ = some (.slice bo vs.length bcap)) (go_keep) (first | (go_at_call 66; refine (HCT.out _ (HF1.out.drew)).mono ?_; rintro e w2 ⟨rfl, hf2⟩; have k0 := hf2.cell_some (p := ⟨w.heap.size, 0, none⟩) (v := .slice bo vs.length bcap) hcb (by simp)))
      have HF2 : Hid (Fr [] w w2) := HF1.out.drew.trans hf2 (by simp)
      have HBV2 : Hid (Boxed w2 w.heap.size 42 (.slice bo vs.length bcap)) := Boxed.kept (W := w1.drew) HBV.out (Fr.grownBy hf2) (by simp)
      clear hf2 k0 hcb HBV HF1
      gi_wp2_with fail
      refine ⟨trivial, (all_in _ _ _ _ _).mono ?_⟩
      rintro e w3 ⟨rfl, rfl⟩
      gi_wp2_with fail
      have bO := Boxed.new w2 78 (.slice none 0 0)
      have bN := Boxed.new (w2.alloc (.cells #[.slice none 0 0] 78)) 23 (.slice ao l.length cap)
      rw [World.size_alloc] at bN
      have hz1' := HF2.out.size
      have hvb := HBV2.out.lt
      have hB0 : Below w.heap.size w ((w2.alloc (.cells #[.slice none 0 0] 78)).alloc (.cells #[.slice ao l.length cap] 23)) := ((HF2.out.below (Nat.le_refl _) (by simp)).alloc (by omega) _).alloc (by simp; omega) _
      refine wpIn_rangeFunc_ownG rfl (by decide) (gf := 79) (lb := #[.pointer (some ⟨w2.heap.size + 1, 0, none⟩)]) rfl trivial (enters_of Try.func79 (by kernel_rfl) rfl)
        (all_stopsB (3 - 1) (by decide) (w2.heap.size + 1) _ l w _ HSR.out hB0 (by simp) bN.cell) belowK_t (belowK_b (by simp; omega)) (Below.refl _ _) (fun _ => rfl)
        (fun pre W => ((∃ v, Boxed W w2.heap.size 78 v ∧ W.ownsRow w.heap.size 122 2 v (zpp vs (raw pre)).length (puCells (zpp vs (raw pre))) ∧ (v = .slice none 0 0 ↔ zpp vs (raw pre) = [])) ∧ Below w.heap.size w W) ∧ Boxed W w.heap.size 42 (.slice bo vs.length bcap))
        (fun _ _ _ => False)
        (OwnFrom.and (OwnFrom.and (Own.from (holdsRow_own w.heap.size w2.heap.size 78 122 2 (fun pre => (zpp vs (raw pre)).length) (fun pre => puCells (zpp vs (raw pre))) (fun pre v => v = .slice none 0 0 ↔ zpp vs (raw pre) = [])) _) (ownFrom_below (Nat.le_refl _) (by simp; omega))) (Own.from (boxed_own _ _ _) _))
        (fun _ _ _ _ _ hs _ _ => hs)
        ⟨⟨⟨_, bO.alloc _, World.ownsRow_nil _ _ _ _, by simp [zpp, raw]⟩, hB0⟩, (HBV2.out.alloc _).alloc _⟩
        (fun x => { tmps := #[.slice ao l.length cap, .slice bo vs.length bcap, undef, .pointer (some ⟨w.heap.size, 0, none⟩), .slice none 0 0, .int .i64 0, .int .i64 0, .pointer (some ⟨w2.heap.size, 0, none⟩), .int .i64 x.1.1, .int .i64 x.1.2, .slice ao l.length cap, .int .i64 0, .int .i64 0, .bool false, undef, .slice bo vs.length bcap, .int .i64 (vs.length : Int), .slice ao l.length cap, .int .i64 (vs.length : Int), .bool false, .slice ao l.length cap, .func (.func 79) #[] #[.pointer (some ⟨w2.heap.size + 1, 0, none⟩)], .int .i64 x.1.1, .int .i64 x.1.2, undef, undef, undef, undef, undef, undef, undef, undef, undef, undef], defers := [] }) ?assign ?body ?done ?stop
      case assign =>
        intro lp x W K hK
        gi_wp2
        exact hK
      case body =>
        rintro lp pre x W ⟨⟨⟨v, hv, hrow, hnil⟩, hB⟩, hbv⟩ hlt
        obtain ⟨k, hk, hx⟩ := x.2
        obtain ⟨xp, hxp⟩ : ∃ xp, x.1.2 = xp := ⟨_, rfl⟩
        rw [hx, hxp]
        rw [HLN.out] at hk
        obtain ⟨z, hz⟩ := at_lt hk
        have HZ : Hid (zpp vs (raw (pre ++ [x])) = zpp vs (raw pre) ++ [(xp, z)]) := by
          rw [Hid, raw_snoc, zpp_snoc, hx, hxp]
          simp [List.getD_eq_getElem?_getD, hz]
        clear hx hxp
        obtain ⟨_, _, hv', _, _, _, b, off, ha, hc⟩ := HIR.out.below hB (Nat.le_refl _)
        have ha0 := ha (by omega)
        simp only [Value.slice.injEq] at hv'
        obtain ⟨rfl, _⟩ := hv'
        subst ha0
        have hcz := hc k z hz
        have HPL2 : Hid ((zpp vs (raw pre)).length ≤ 1000000) := by
          have h1 : (raw pre).length = pre.length := List.length_map ..
          rw [Hid, zpp_length, h1]; have := HPL.out; omega
        have HB : Hid (Below w.heap.size w W) := hB
        have hcv := hbv.cell
        have hc0 := hv.cell
        have HV : Hid (Boxed W w2.heap.size 78 v) := hv
        have HBX : Hid (Boxed W w.heap.size 42 (.slice (some ⟨b, off, none⟩) vs.length bcap)) := hbv
        have HROW : Hid (W.ownsRow w.heap.size 122 2 v (zpp vs (raw pre)).length (puCells (zpp vs (raw pre)))) := hrow
        have hmx : Try.prog.follows .mixedOrders = true := by kernel_rfl
        have hcA : (W.alloc (.cells #[.int .i64 xp, .int .u64 z] 122)).cell? ⟨w2.heap.size, 0, none⟩ = some v := (hv.alloc _).cell
        have hkI : (k : Int) < (vs.length : Int) := by omega
        clear hc ha hz hB hv hbv hrow hnil hlt
        gi_wp2_with fail
        refine region_round hmx (by kernel_rfl) ?_
        refine wpAnyIn_take (i := 1) (v := .int .i64 xp) rfl rfl (by kernel_rfl) (by kernel_rfl) (by kernel_rfl) (fun _ _ _ h => h) ⟨Or.inl ⟨by rfl, ?_⟩, fun _ => rfl⟩ ?_
        · intro w; go_simp
        refine wpAnyIn_take (i := 3) (v := .int .i64 (k : Int)) rfl rfl (by kernel_rfl) (by kernel_rfl) (by kernel_rfl) (fun _ _ _ h => h) ⟨Or.inl ⟨by rfl, ?_⟩, fun _ => rfl⟩ ?_
        · intro w; go_simp
        refine wpAnyIn_ready (rs := [0, 2]) (by kernel_rfl) (by simp) ?_
        refine AllReadyIn.cons rfl (fun K hK => ?_) (AllReadyIn.cons rfl (fun K hK => ?_) AllReadyIn.nil)
        · (go_simp; refine hK _ _ ?_; clear hK K)
          (refine wpAnyIn_ready (rs := [2]) (by kernel_rfl) (by simp) ?_; refine AllReadyIn.cons rfl (fun K hK => ?_) AllReadyIn.nil; go_simp; refine hK _ _ ?_; clear hK K)
          refine wpAnyIn_take (i := 4) (v := .pointer (some ⟨b, off + k, none⟩)) rfl rfl (by kernel_rfl) (by kernel_rfl) (by kernel_rfl) (fun _ _ _ h => h) ⟨Or.inl ⟨by rfl, ?_⟩, fun _ => rfl⟩ ?_
          · intro w; go_simp
          (refine wpAnyIn_ready (rs := [5]) (by kernel_rfl) (by simp) ?_; refine AllReadyIn.cons rfl (fun K hK => ?_) AllReadyIn.nil; go_simp; refine hK _ _ ?_; clear hK K)
          refine wpAnyIn_take (i := 6) (v := .agg #[.int .i64 xp, .int .u64 z]) rfl rfl (by kernel_rfl) (by kernel_rfl) (by kernel_rfl) (fun _ _ _ h => h) ⟨Or.inl ⟨by rfl, ?_⟩, fun _ => rfl⟩ ?_
          · intro w; go_simp
          (refine wpAnyIn_ready (rs := [7]) (by kernel_rfl) (by simp) ?_; refine AllReadyIn.cons rfl (fun K hK => ?_) AllReadyIn.nil; go_simp; refine hK _ _ ?_; clear hK K)
          refine wpAnyIn_ready (rs := [8]) (by kernel_rfl) (by simp) ?_
          refine AllReadyIn.cons rfl (fun K hK => ?_) AllReadyIn.nil
          refine stepIn_append_pu rfl _ _ 78 rfl Try.underlying78 HI.out.1 HI.out.2.1 HI.out.2.2.1 HI.out.2.2.2 (B := w.heap.size) (v := v) (l := zpp vs (raw pre)) (s := (xp, z)) rfl rfl (by have := HB.out.size; simp; omega) (HROW.out.alloc _) (lit_pu 122 W [(xp, z)] HB.out.size (by simp) (by unfold maxLen; simp)) HPL2.out ?_
          intro v' w3 hown hgrow0
          have hgrow : (W.alloc (.cells #[.int .i64 xp, .int .u64 z] 122)).grownBy w3 v.ownBlock := ⟨hgrow0.os, hgrow0.tape, hgrow0.output, hgrow0.size, hgrow0.block⟩
          clear hgrow0
          refine hK _ _ ?_
          clear hK K
          obtain ⟨hv1, hv2, hr2, hk2, hb2⟩ := HV.out.appended (tmp := .cells #[.int .i64 xp, .int .u64 z] 122) (by decide) HROW.out HB.out.size (by have := HF2.out.size; omega) hown hgrow
          have HBX3 : Hid (Boxed w3 w.heap.size 42 (.slice (some ⟨b, off, none⟩) vs.length bcap)) := (HBX.out.alloc _).kept hgrow (HBX.out.not_row (by decide) HROW.out)
          obtain ⟨g', cap', rfl⟩ := ownsRow_succ hown
          have hc1 := hv1.cell
          have hf1 := hv1.frozen
          have HNE : Hid (w.heap.size ≠ w2.heap.size) := by have := HBV2.out.lt; rw [Hid]; omega
          have HO : Hid (KeepsOthers W (w3.setCell ⟨w2.heap.size, 0, none⟩ _) ∧ Below w.heap.size W (w3.setCell ⟨w2.heap.size, 0, none⟩ _) ∧ Boxed (w3.setCell ⟨w2.heap.size, 0, none⟩ _) w2.heap.size 78 _ ∧ World.ownsRow (w3.setCell ⟨w2.heap.size, 0, none⟩ _) w.heap.size 122 2 _ _ _) := ⟨hk2, hb2, hv2, hr2⟩
          clear hown hgrow hv1 hv2 hr2 hk2 hb2
          (refine wpAnyIn_ready (rs := [9]) (by kernel_rfl) (by simp) ?_; refine AllReadyIn.cons rfl (fun K hK => ?_) AllReadyIn.nil; go_simp; refine hK _ _ ?_; clear hK K)
          refine wpAnyIn_done (by kernel_rfl) ?_ _
          gi_wp2
          refine ⟨HO.out.1.from _, HO.out.2.1, ⟨⟨_, HO.out.2.2.1, by rw [HZ.out, List.length_append]; exact HO.out.2.2.2, by rw [HZ.out]; simp⟩, HB.out.trans HO.out.2.1⟩, HBX3.out.kept (grownBy_setCell' _ _ _) (fun e => HNE.out (Option.some.inj e))⟩
        · (go_simp; refine hK _ _ ?_; clear hK K)
          refine wpAnyIn_take (i := 4) (v := .pointer (some ⟨b, off + k, none⟩)) rfl rfl (by kernel_rfl) (by kernel_rfl) (by kernel_rfl) (fun _ _ _ h => h) ⟨Or.inl ⟨by rfl, ?_⟩, fun _ => rfl⟩ ?_
          · intro w; go_simp
          refine wpAnyIn_ready (rs := [0, 5]) (by kernel_rfl) (by simp) ?_
          refine AllReadyIn.cons rfl (fun K hK => ?_) (AllReadyIn.cons rfl (fun K hK => ?_) AllReadyIn.nil)
          · (go_simp; refine hK _ _ ?_; clear hK K)
            (refine wpAnyIn_ready (rs := [5]) (by kernel_rfl) (by simp) ?_; refine AllReadyIn.cons rfl (fun K hK => ?_) AllReadyIn.nil; go_simp; refine hK _ _ ?_; clear hK K)
            refine wpAnyIn_take (i := 6) (v := .agg #[.int .i64 xp, .int .u64 z]) rfl rfl (by kernel_rfl) (by kernel_rfl) (by kernel_rfl) (fun _ _ _ h => h) ⟨Or.inl ⟨by rfl, ?_⟩, fun _ => rfl⟩ ?_
            · intro w; go_simp
            (refine wpAnyIn_ready (rs := [7]) (by kernel_rfl) (by simp) ?_; refine AllReadyIn.cons rfl (fun K hK => ?_) AllReadyIn.nil; go_simp; refine hK _ _ ?_; clear hK K)
            refine wpAnyIn_ready (rs := [8]) (by kernel_rfl) (by simp) ?_
            refine AllReadyIn.cons rfl (fun K hK => ?_) AllReadyIn.nil
            refine stepIn_append_pu rfl _ _ 78 rfl Try.underlying78 HI.out.1 HI.out.2.1 HI.out.2.2.1 HI.out.2.2.2 (B := w.heap.size) (v := v) (l := zpp vs (raw pre)) (s := (xp, z)) rfl rfl (by have := HB.out.size; simp; omega) (HROW.out.alloc _) (lit_pu 122 W [(xp, z)] HB.out.size (by simp) (by unfold maxLen; simp)) HPL2.out ?_
            intro v' w3 hown hgrow0
            have hgrow : (W.alloc (.cells #[.int .i64 xp, .int .u64 z] 122)).grownBy w3 v.ownBlock := ⟨hgrow0.os, hgrow0.tape, hgrow0.output, hgrow0.size, hgrow0.block⟩
            clear hgrow0
            refine hK _ _ ?_
            clear hK K
            obtain ⟨hv1, hv2, hr2, hk2, hb2⟩ := HV.out.appended (tmp := .cells #[.int .i64 xp, .int .u64 z] 122) (by decide) HROW.out HB.out.size (by have := HF2.out.size; omega) hown hgrow
            have HBX3 : Hid (Boxed w3 w.heap.size 42 (.slice (some ⟨b, off, none⟩) vs.length bcap)) := (HBX.out.alloc _).kept hgrow (HBX.out.not_row (by decide) HROW.out)
            obtain ⟨g', cap', rfl⟩ := ownsRow_succ hown
            have hc1 := hv1.cell
            have hf1 := hv1.frozen
            have HNE : Hid (w.heap.size ≠ w2.heap.size) := by have := HBV2.out.lt; rw [Hid]; omega
            have HO : Hid (KeepsOthers W (w3.setCell ⟨w2.heap.size, 0, none⟩ _) ∧ Below w.heap.size W (w3.setCell ⟨w2.heap.size, 0, none⟩ _) ∧ Boxed (w3.setCell ⟨w2.heap.size, 0, none⟩ _) w2.heap.size 78 _ ∧ World.ownsRow (w3.setCell ⟨w2.heap.size, 0, none⟩ _) w.heap.size 122 2 _ _ _) := ⟨hk2, hb2, hv2, hr2⟩
            clear hown hgrow hv1 hv2 hr2 hk2 hb2
            (refine wpAnyIn_ready (rs := [9]) (by kernel_rfl) (by simp) ?_; refine AllReadyIn.cons rfl (fun K hK => ?_) AllReadyIn.nil; go_simp; refine hK _ _ ?_; clear hK K)
            refine wpAnyIn_done (by kernel_rfl) ?_ _
            gi_wp2
            refine ⟨HO.out.1.from _, HO.out.2.1, ⟨⟨_, HO.out.2.2.1, by rw [HZ.out, List.length_append]; exact HO.out.2.2.2, by rw [HZ.out]; simp⟩, HB.out.trans HO.out.2.1⟩, HBX3.out.kept (grownBy_setCell' _ _ _) (fun e => HNE.out (Option.some.inj e))⟩
          · (go_simp; refine hK _ _ ?_; clear hK K)
            refine wpAnyIn_take (i := 6) (v := .agg #[.int .i64 xp, .int .u64 z]) rfl rfl (by kernel_rfl) (by kernel_rfl) (by kernel_rfl) (fun _ _ _ h => h) ⟨Or.inl ⟨by rfl, ?_⟩, fun _ => rfl⟩ ?_
            · intro w; go_simp
            refine wpAnyIn_ready (rs := [0, 7]) (by kernel_rfl) (by simp) ?_
            refine AllReadyIn.cons rfl (fun K hK => ?_) (AllReadyIn.cons rfl (fun K hK => ?_) AllReadyIn.nil)
            · (go_simp; refine hK _ _ ?_; clear hK K)
              (refine wpAnyIn_ready (rs := [7]) (by kernel_rfl) (by simp) ?_; refine AllReadyIn.cons rfl (fun K hK => ?_) AllReadyIn.nil; go_simp; refine hK _ _ ?_; clear hK K)
              refine wpAnyIn_ready (rs := [8]) (by kernel_rfl) (by simp) ?_
              refine AllReadyIn.cons rfl (fun K hK => ?_) AllReadyIn.nil
              refine stepIn_append_pu rfl _ _ 78 rfl Try.underlying78 HI.out.1 HI.out.2.1 HI.out.2.2.1 HI.out.2.2.2 (B := w.heap.size) (v := v) (l := zpp vs (raw pre)) (s := (xp, z)) rfl rfl (by have := HB.out.size; simp; omega) (HROW.out.alloc _) (lit_pu 122 W [(xp, z)] HB.out.size (by simp) (by unfold maxLen; simp)) HPL2.out ?_
              intro v' w3 hown hgrow0
              have hgrow : (W.alloc (.cells #[.int .i64 xp, .int .u64 z] 122)).grownBy w3 v.ownBlock := ⟨hgrow0.os, hgrow0.tape, hgrow0.output, hgrow0.size, hgrow0.block⟩
              clear hgrow0
              refine hK _ _ ?_
              clear hK K
              obtain ⟨hv1, hv2, hr2, hk2, hb2⟩ := HV.out.appended (tmp := .cells #[.int .i64 xp, .int .u64 z] 122) (by decide) HROW.out HB.out.size (by have := HF2.out.size; omega) hown hgrow
              have HBX3 : Hid (Boxed w3 w.heap.size 42 (.slice (some ⟨b, off, none⟩) vs.length bcap)) := (HBX.out.alloc _).kept hgrow (HBX.out.not_row (by decide) HROW.out)
              obtain ⟨g', cap', rfl⟩ := ownsRow_succ hown
              have hc1 := hv1.cell
              have hf1 := hv1.frozen
              have HNE : Hid (w.heap.size ≠ w2.heap.size) := by have := HBV2.out.lt; rw [Hid]; omega
              have HO : Hid (KeepsOthers W (w3.setCell ⟨w2.heap.size, 0, none⟩ _) ∧ Below w.heap.size W (w3.setCell ⟨w2.heap.size, 0, none⟩ _) ∧ Boxed (w3.setCell ⟨w2.heap.size, 0, none⟩ _) w2.heap.size 78 _ ∧ World.ownsRow (w3.setCell ⟨w2.heap.size, 0, none⟩ _) w.heap.size 122 2 _ _ _) := ⟨hk2, hb2, hv2, hr2⟩
              clear hown hgrow hv1 hv2 hr2 hk2 hb2
              (refine wpAnyIn_ready (rs := [9]) (by kernel_rfl) (by simp) ?_; refine AllReadyIn.cons rfl (fun K hK => ?_) AllReadyIn.nil; go_simp; refine hK _ _ ?_; clear hK K)
              refine wpAnyIn_done (by kernel_rfl) ?_ _
              gi_wp2
              refine ⟨HO.out.1.from _, HO.out.2.1, ⟨⟨_, HO.out.2.2.1, by rw [HZ.out, List.length_append]; exact HO.out.2.2.2, by rw [HZ.out]; simp⟩, HB.out.trans HO.out.2.1⟩, HBX3.out.kept (grownBy_setCell' _ _ _) (fun e => HNE.out (Option.some.inj e))⟩
            · (go_simp; refine hK _ _ ?_; clear hK K)
              (refine wpAnyIn_ready (rs := [0]) (by kernel_rfl) (by simp) ?_; refine AllReadyIn.cons rfl (fun K hK => ?_) AllReadyIn.nil; go_simp; refine hK _ _ ?_; clear hK K)
              refine wpAnyIn_ready (rs := [8]) (by kernel_rfl) (by simp) ?_
              refine AllReadyIn.cons rfl (fun K hK => ?_) AllReadyIn.nil
              refine stepIn_append_pu rfl _ _ 78 rfl Try.underlying78 HI.out.1 HI.out.2.1 HI.out.2.2.1 HI.out.2.2.2 (B := w.heap.size) (v := v) (l := zpp vs (raw pre)) (s := (xp, z)) rfl rfl (by have := HB.out.size; simp; omega) (HROW.out.alloc _) (lit_pu 122 W [(xp, z)] HB.out.size (by simp) (by unfold maxLen; simp)) HPL2.out ?_
              intro v' w3 hown hgrow0
              have hgrow : (W.alloc (.cells #[.int .i64 xp, .int .u64 z] 122)).grownBy w3 v.ownBlock := ⟨hgrow0.os, hgrow0.tape, hgrow0.output, hgrow0.size, hgrow0.block⟩
              clear hgrow0
              refine hK _ _ ?_
              clear hK K
              obtain ⟨hv1, hv2, hr2, hk2, hb2⟩ := HV.out.appended (tmp := .cells #[.int .i64 xp, .int .u64 z] 122) (by decide) HROW.out HB.out.size (by have := HF2.out.size; omega) hown hgrow
              have HBX3 : Hid (Boxed w3 w.heap.size 42 (.slice (some ⟨b, off, none⟩) vs.length bcap)) := (HBX.out.alloc _).kept hgrow (HBX.out.not_row (by decide) HROW.out)
              obtain ⟨g', cap', rfl⟩ := ownsRow_succ hown
              have hc1 := hv1.cell
              have hf1 := hv1.frozen
              have HNE : Hid (w.heap.size ≠ w2.heap.size) := by have := HBV2.out.lt; rw [Hid]; omega
              have HO : Hid (KeepsOthers W (w3.setCell ⟨w2.heap.size, 0, none⟩ _) ∧ Below w.heap.size W (w3.setCell ⟨w2.heap.size, 0, none⟩ _) ∧ Boxed (w3.setCell ⟨w2.heap.size, 0, none⟩ _) w2.heap.size 78 _ ∧ World.ownsRow (w3.setCell ⟨w2.heap.size, 0, none⟩ _) w.heap.size 122 2 _ _ _) := ⟨hk2, hb2, hv2, hr2⟩
              clear hown hgrow hv1 hv2 hr2 hk2 hb2
              (refine wpAnyIn_ready (rs := [9]) (by kernel_rfl) (by simp) ?_; refine AllReadyIn.cons rfl (fun K hK => ?_) AllReadyIn.nil; go_simp; refine hK _ _ ?_; clear hK K)
              refine wpAnyIn_done (by kernel_rfl) ?_ _
              gi_wp2
              refine ⟨HO.out.1.from _, HO.out.2.1, ⟨⟨_, HO.out.2.2.1, by rw [HZ.out, List.length_append]; exact HO.out.2.2.2, by rw [HZ.out]; simp⟩, HB.out.trans HO.out.2.1⟩, HBX3.out.kept (grownBy_setCell' _ _ _) (fun e => HNE.out (Option.some.inj e))⟩
      case done =>
        rintro D ys W hD hys ⟨⟨⟨v, hv, hrow, hnil⟩, hB⟩, _⟩ hK
        have hc := hv.cell
        gi_wp2
        refine ⟨by simp, .inl ⟨_, _, rfl, run_takeDeferred hK, ?_⟩⟩
        have e : zpp vs (raw ys) = zpl l vs := by rw [HT.out.2]; exact congrArg (zpp vs) hys
        rw [e] at hrow hnil
        have hbb : Below w.heap.size w (W.putObj D (.deferred none)) := hB.trans (belowK_b (w := w) (Nat.le_refl _) W D _ _ (by simp at hD; omega) hK rfl rfl)
        exact ⟨_, results_tmp2 rfl _ _ _, v, by rw [HT.out.1]; rfl, POwn.of_owns (ownsRow_putObj hrow _ hK rfl) hnil, Fr.ofBelow hbb⟩
      case stop =>
        rintro D c pre W _ _ h _
        exact h.elim
    · have hne : ¬ (vs.length : Int) = ((pls l).length : Int) := by omega
      have HCT : Hid (∀ wx, Fr [] w wx → Calls Try.prog 66 #[.slice ao l.length cap] wx fun e w' => e = .returned (.int .i64 ((pls l).length : Int)) ∧ Fr [] wx w') := by
        intro wx hf
        rw [← ctn_pls l hk0]
        exact count_any _ l wx (HSR1.out wx hf)
      have HT : Hid (zpe l vs = 10 ∧ zpl l vs = []) := by
        have e : zpe l vs = 10 := by unfold zpe; rw [if_pos hk0, if_neg hle]
        unfold Hid zpl
        rw [e]
        exact ⟨rfl, rfl⟩
      clear hle
      gi_wp2_with fail
      refine wpIn_wide.2 ?_
      go_region_held3 (fun w' => w'.cell? ⟨w.heap.size, 0, none⟩ = some (.slice bo vs.length bcap)) (go_keep) (first | (go_at_call 66; refine (HCT.out _ (HF1.out.drew)).mono ?_; rintro e w2 ⟨rfl, hf2⟩; have k0 := hf2.cell_some (p := ⟨w.heap.size, 0, none⟩) (v := .slice bo vs.length bcap) hcb (by simp)))
      have HF2 : Hid (Fr [] w w2) := HF1.out.drew.trans hf2 (by simp)
      clear hf2 k0 hcb HBV HF1
      gi_wp2
      exact ⟨_, results_tmp2 rfl _ _ _, _, by rw [HT.out.1]; rfl, .inl ⟨HT.out.2, rfl⟩, HF2.out⟩
  · have HT : Hid (zpe l vs = chk l ∧ zpl l vs = []) := by unfold Hid zpl zpe; rw [if_neg hk0, if_neg hk0]; exact ⟨rfl, rfl⟩
    gi_wp2
    exact ⟨_, results_tmp2 rfl _ _ _, _, by rw [HT.out.1]; rfl, .inl ⟨HT.out.2, rfl⟩, HF1.out⟩
end Go.Proofs.Ytnfbmdniomelnaa

/-
  Histograms whose counts are floats: what is right, reckoned; how they lie in memory. Package fhist: Right, allRight, checkSide, Check.
-/
namespace Go.Proofs.Ytnfbmdniomelnaa
open Go.RowKit Mem Spans
set_option linter.unusedSimpArgs false
set_option linter.unusedVariables false
set_option maxRecDepth 100000

/-- A histogram: its five numbers, both sides' spans and counts. -/
structure Fs where
  s : Int
  z : Int
  zc : Int
  c : Int
  sm : Int
  P : List Sp
  N : List Sp
  pd : List Int
  nd : List Int
/-- A histogram as a value. -/
def FSrc (w : World) (v : Value) (h : Fs) : Prop :=
  ∃ vp vn up un, v = .agg #[.int .i64 h.s, .int .u64 h.z, .int .u64 h.zc, .int .u64 h.c, .int .u64 h.sm, vp, vn, up, un] ∧ in64 h.s ∧ (inu h.z ∧ inu h.zc ∧ inu h.c ∧ inu h.sm) ∧
    SSrc w vp h.P ∧ SSrc w vn h.N ∧ USrc w up h.pd ∧ USrc w un h.nd
theorem FSrc.kept {w w' : World} {v : Value} {h : Fs} (k : FSrc w v h) (f : Fr [] w w') : FSrc w' v h := by
  obtain ⟨a, b, c, d, h1, h2, h3, h4, h5, h6, h7⟩ := k
  exact ⟨a, b, c, d, h1, h2, h3, h4.kept f, h5.kept f, h6.kept f, h7.kept f⟩

theorem FSrc.opens {w : World} {v : Value} {h : Fs} (k : FSrc w v h) : ∃ po pc no nc qo qc ro rc, v = .agg #[.int .i64 h.s, .int .u64 h.z, .int .u64 h.zc, .int .u64 h.c, .int .u64 h.sm, .slice po h.P.length pc, .slice no h.N.length nc, .slice qo h.pd.length qc, .slice ro h.nd.length rc] ∧
    (in64 h.s ∧ inu h.z ∧ inu h.zc ∧ inu h.c ∧ inu h.sm) ∧ (SSrc w (.slice po h.P.length pc) h.P ∧ SSrc w (.slice no h.N.length nc) h.N ∧ USrc w (.slice qo h.pd.length qc) h.pd ∧ USrc w (.slice ro h.nd.length rc) h.nd) ∧ (h.P.length ≤ pc ∧ pc ≤ maxLen) ∧ (h.N.length ≤ nc ∧ nc ≤ maxLen) ∧ (h.pd.length ≤ qc ∧ qc ≤ maxLen) ∧ (h.nd.length ≤ rc ∧ rc ≤ maxLen) := by
  obtain ⟨a, b, c, d, rfl, h2, h3, h4, h5, h6, h7⟩ := k
  have k4 := h4
  have k5 := h5
  have k6 := h6
  have k7 := h7
  obtain ⟨po, pc, rfl, x1, y1, _⟩ := h4
  obtain ⟨no, nc, rfl, x2, y2, _⟩ := h5
  obtain ⟨qo, qc, rfl, x3, y3, _⟩ := h6
  obtain ⟨ro, rc, rfl, x4, y4, _⟩ := h7
  exact ⟨po, pc, no, nc, qo, qc, ro, rc, rfl, ⟨h2, h3⟩, ⟨k4, k5, k6, k7⟩, ⟨x1, y1⟩, ⟨x2, y2⟩, ⟨x3, y3⟩, ⟨x4, y4⟩⟩
/-- Is a count right? Are all? -/
def rgt (v : Int) : Bool := decide (v < 9218868437227405312)
def rgts (l : List Int) : Bool := l.all rgt
/-- A side's error; its places with their counts. -/
def fsd (l : List Sp) (d : List Int) : Int :=
  if chk l = 0 then (if d.length = (pls l).length then (if rgts d = true then 0 else 22) else 23) else chk l
def fsl (l : List Sp) (d : List Int) : List Sp := if fsd l d = 0 then (pls l).zip d else []
/-- Schema, threshold and the two counts that stand alone. -/
def fde (s z zc c : Int) : Int := if hde s z = 0 then (if rgts [zc, c] = true then 0 else 22) else hde s z
/-- Check's error. -/
def fce (h : Fs) : Int :=
  if fde h.s h.z h.zc h.c = 0 then (if fsd h.P h.pd = 0 then fsd h.N h.nd else fsd h.P h.pd) else fde h.s h.z h.zc h.c
def fdp (h : Fs) : List Sp := if fce h = 0 then fsl h.P h.pd else []
def fdn (h : Fs) : List Sp := if fce h = 0 then fsl h.N h.nd else []

theorem fsd_zero {l : List Sp} {d : List Int} : fsd l d = 0 ↔ chk l = 0 ∧ d.length = (pls l).length ∧ rgts d = true := by
  unfold fsd
  constructor
  · intro h
    split at h
    · rename_i h1
      split at h
      · rename_i h2
        split at h
        · rename_i h3; exact ⟨h1, h2, h3⟩
        · cases h
      · cases h
    · rename_i h1; exact absurd h h1
  · rintro ⟨h1, h2, h3⟩
    rw [if_pos h1, if_pos h2, if_pos h3]
theorem fsl_zip {l : List Sp} {d : List Int} (h : fsd l d = 0) : fsl l d = (pls l).zip d ∧ fsts (fsl l d) = pls l ∧ snds (fsl l d) = d := by
  have hz := fsd_zero.1 h
  have e : fsl l d = (pls l).zip d := by unfold fsl; rw [if_pos h]
  refine ⟨e, ?_, ?_⟩
  · rw [e]; unfold fsts; exact List.map_fst_zip (by omega)
  · rw [e]; unfold snds; exact List.map_snd_zip (by omega)
theorem fsl_in (l : List Sp) (d : List Int) (hd : ∀ z ∈ d, inu z) : ∀ x ∈ fsl l d, in64 x.1 ∧ inu x.2 := by
  intro x hx
  by_cases h : fsd l d = 0
  · obtain ⟨h1, h2, h3⟩ := fsl_zip h
    refine ⟨pls_in64 (l := l) x.1 (by rw [← h2]; exact List.mem_map.2 ⟨x, hx, rfl⟩), hd x.2 (by rw [← h3]; exact List.mem_map.2 ⟨x, hx, rfl⟩)⟩
  · unfold fsl at hx; rw [if_neg h] at hx; simp at hx
theorem fsl_le (l : List Sp) (d : List Int) : (fsl l d).length ≤ 4096 := by
  by_cases h : fsd l d = 0
  · have h2 := congrArg List.length (fsl_zip h).2.1
    rw [fsts_length] at h2
    rw [h2]; exact pls_le l
  · unfold fsl; rw [if_neg h]; simp
theorem fce_zero {h : Fs} : fce h = 0 ↔ fde h.s h.z h.zc h.c = 0 ∧ fsd h.P h.pd = 0 ∧ fsd h.N h.nd = 0 := by
  unfold fce
  constructor
  · intro k
    split at k
    · rename_i h1
      split at k
      · rename_i h2; exact ⟨h1, h2, k⟩
      · rename_i h2; exact absurd k h2
    · rename_i h1; exact absurd k h1
  · rintro ⟨h1, h2, h3⟩
    rw [if_pos h1, if_pos h2]; exact h3
/-- All that a histogram has fits. -/
def fin9 (h : Fs) : Prop := (∀ s ∈ h.P, in64 s.1 ∧ in64 s.2) ∧ (∀ s ∈ h.N, in64 s.1 ∧ in64 s.2) ∧ (∀ z ∈ h.pd, inu z) ∧ (∀ z ∈ h.nd, inu z)
theorem FSrc.fin {w : World} {v : Value} {h : Fs} (k : FSrc w v h) : fin9 h := by
  obtain ⟨_, _, _, _, _, _, _, h4, h5, h6, h7⟩ := k
  obtain ⟨_, _, _, _, _, a, _⟩ := h4
  obtain ⟨_, _, _, _, _, b, _⟩ := h5
  obtain ⟨_, _, _, _, _, c, _⟩ := h6
  obtain ⟨_, _, _, _, _, d, _⟩ := h7
  exact ⟨a, b, c, d⟩
theorem fdp_in (h : Fs) (k : fin9 h) : ∀ x ∈ fdp h, in64 x.1 ∧ inu x.2 := by
  intro x hx; unfold fdp at hx; split at hx
  · exact fsl_in _ _ k.2.2.1 x hx
  · simp at hx
theorem fdn_in (h : Fs) (k : fin9 h) : ∀ x ∈ fdn h, in64 x.1 ∧ inu x.2 := by
  intro x hx; unfold fdn at hx; split at hx
  · exact fsl_in _ _ k.2.2.2 x hx
  · simp at hx
theorem fdp_le (h : Fs) : (fdp h).length ≤ 4096 := by unfold fdp; split; exact fsl_le _ _; simp
theorem fdn_le (h : Fs) : (fdn h).length ≤ 4096 := by unfold fdn; split; exact fsl_le _ _; simp
theorem fd_nil {h : Fs} (k : fce h ≠ 0) : fdp h = [] ∧ fdn h = [] := by unfold fdp fdn; rw [if_neg k, if_neg k]; exact ⟨rfl, rfl⟩
theorem zpl_fsl {l : List Sp} {d : List Int} (h : fsd l d = 0) : zpe l d = 0 ∧ zpl l d = fsl l d := by
  have hz := fsd_zero.1 h
  have e : zpe l d = 0 := by unfold zpe; rw [if_pos hz.1, if_pos hz.2.1]
  refine ⟨e, ?_⟩
  unfold zpl fsl
  rw [if_pos e, if_pos h]

/-- A histogram's block. -/
def NineF (w : World) (b : Nat) (cs : Array Value) : Prop := w.heap[b]? = some (.cells cs 44 (0, 0))
theorem NineF.kept {w w' : World} {b : Nat} {cs : Array Value} {S : List Nat} (h : NineF w b cs) (f : Fr S w w') (hb : b ∉ S) : NineF w' b cs := f.heap h hb
theorem NineF.new (w : World) (cs : Array Value) : NineF (w.alloc (.cells cs 44)) w.heap.size cs := heap_alloc_new _ _
theorem NineF.cell {w : World} {b : Nat} {cs : Array Value} (h : NineF w b cs) (i : Nat) {v : Value} (hv : cs[i]? = some v) : w.cell? ⟨b, i, none⟩ = some v := by rw [cell_at h]; exact hv
theorem NineF.lt {w : World} {b : Nat} {cs : Array Value} (h : NineF w b cs) : b < w.heap.size := lt_of_heap h

theorem set9_nineF {w : World} {g : Nat} {a0 a1 a2 a3 a4 a5 a6 a7 a8 : Value} (h : NineF w g #[a0, a1, a2, a3, a4, a5, a6, a7, a8]) (u0 u1 u2 u3 u4 u5 u6 u7 u8 : Value) : NineF (set9 w g u0 u1 u2 u3 u4 u5 u6 u7 u8) g #[u0, u1, u2, u3, u4, u5, u6, u7, u8] := by
  unfold NineF at h ⊢
  simp [set9, World.setCell, Array.getElem?_modify, h]
theorem NineF.set57 {w : World} {g : Nat} {a0 a1 a2 a3 a4 a5 a6 a7 a8 : Value} (h : NineF w g #[a0, a1, a2, a3, a4, a5, a6, a7, a8]) (u x : Value) : NineF ((w.setCell ⟨g, 5, none⟩ u).setCell ⟨g, 7, none⟩ x) g #[a0, a1, a2, a3, a4, u, a6, x, a8] := by
  unfold NineF at h ⊢
  simp [World.setCell, Array.getElem?_modify, h]
theorem NineF.set68 {w : World} {g : Nat} {a0 a1 a2 a3 a4 a5 a6 a7 a8 : Value} (h : NineF w g #[a0, a1, a2, a3, a4, a5, a6, a7, a8]) (u x : Value) : NineF ((w.setCell ⟨g, 6, none⟩ u).setCell ⟨g, 8, none⟩ x) g #[a0, a1, a2, a3, a4, a5, u, a7, x] := by
  unfold NineF at h ⊢
  simp [World.setCell, Array.getElem?_modify, h]
theorem NineF.other {w : World} {b : Nat} {cs : Array Value} (h : NineF w b cs) {g i : Nat} {v : Value} (hn : b ≠ g) : NineF (w.setCell ⟨g, i, none⟩ v) b cs := by
  unfold NineF at h ⊢
  simp [World.setCell, Array.getElem?_modify, h, Ne.symm hn]
theorem NineF.frozen {w : World} {b : Nat} {cs : Array Value} (h : NineF w b cs) (i : Nat) : w.frozen? ⟨b, i, none⟩ = false := frozen_at h i
theorem nineF_mid (w : World) (cs : Array Value) (o : Obj) : NineF ((w.alloc (.cells cs 44)).alloc o) w.heap.size cs := (NineF.new w cs).kept ((Fr.refl [] _).alloc _) (by simp)
theorem nineF_top (w : World) (o : Obj) (cs : Array Value) : NineF ((w.alloc o).alloc (.cells cs 44)) (w.heap.size + 1) cs := by
  have := NineF.new (w.alloc o) cs
  rwa [World.size_alloc] at this

theorem UOwn.keptS {e : TypeId} {B : Nat} {w w' : World} {v : Value} {l : List Int} {S : List Nat} (h : UOwn e B w v l) (f : Fr S w w') (hs : ∀ y ∈ S, y < B) : UOwn e B w' v l := by
  rcases h with h | ⟨g, h1, h2, h3⟩
  · exact .inl h
  · exact .inr ⟨g, h1, h2, h3.kept f (fun hg => by have := hs g hg; omega)⟩

theorem right_any (v : Int) (w : World) :
    Calls Try.prog 82 #[.int .u64 v] w fun e w' => e = .returned (.bool (rgt v)) ∧ w = w' := by
  go_enter Try.func82, Try.ntmps82
  go_wp2
  go_ret
  exact ⟨rfl, rfl⟩

set_option maxHeartbeats 1000000 in
theorem allRight_any (u : Value) (d : List Int) (w : World) (h2 : USrc w u d) :
    Calls Try.prog 77 #[u] w fun e w' => e = .returned (.bool (rgts d)) ∧ w = w' := by
  obtain ⟨ao, cap, rfl, hcap, hmax, _, b, off, ha, hc⟩ := h2
  have HC : Hid (∀ j s, d[j]? = some s → w.cell? ⟨b, off + j, none⟩ = some (.int .u64 s)) := hc
  have HA : Hid (0 < d.length → ao = some ⟨b, off, none⟩) := ha
  clear ha hc
  have hml : d.length ≤ 9223372036854775807 := by unfold maxLen at hmax; omega
  go_enter Try.func77, Try.ntmps77
  go_wp2
  go_loopw [7] (fun i wr => ∃ (k : Nat), k ≤ d.length ∧ i = .int .i64 (k : Int) ∧ rgts (d.take k) = true ∧ wr = w) (fun i _ => d.length - (intOf i).toNat)
  case atStart => exact ⟨0, by omega, rfl, by simp [rgts], rfl⟩
  case round =>
    obtain ⟨k, hk, rfl, hn, rfl⟩ := hrel
    have HN : Hid (rgts (d.take k) = true) := hn
    clear hn
    by_cases hlt : k < d.length
    · obtain rfl := HA.out (by omega)
      obtain ⟨s, hs⟩ := at_lt (l := d) (k := k) hlt
      have c0 := HC.out k s hs
      have HS : Hid (d[k]? = some s) := hs
      clear hs
      go_wp2_with fail
      refine (right_any s _).mono ?_
      rintro e w1 ⟨rfl, rfl⟩
      by_cases h0 : rgt s = true
      · have HN2 : Hid (rgts (d.take (k + 1)) = true) := by
          rw [Hid, take_at HS.out]
          have := HN.out
          simp only [rgts, List.all_append, List.all_cons, List.all_nil, Bool.and_eq_true, Bool.and_true] at this ⊢
          exact ⟨this, h0⟩
        rw [h0]
        go_wp2
        go_roundw
        case rel => exact ⟨k + 1, by omega, by go_num, HN2.out, trivial⟩
        case measure => simp [intOf]; omega
      · have h1 : rgt s = false := by simpa using h0
        have HE : Hid (rgts d = false) := by
          rw [Hid, Bool.eq_false_iff]
          intro h
          have := List.all_eq_true.1 h s (List.mem_of_getElem? HS.out)
          exact h0 this
        rw [h1]
        go_wp2
        go_ret
        exact ⟨by rw [HE.out]; rfl, by trivial⟩
    · have HN2 : Hid (rgts d = true) := by
        have := HN.out
        rw [List.take_of_length_le (by omega)] at this
        exact this
      go_wp2
      go_ret
      exact ⟨by rw [HN2.out]; rfl, by trivial⟩

set_option maxHeartbeats 1000000 in
theorem checkSide_any (v u : Value) (l : List Sp) (d : List Int) (w : World) (h : SSrc w v l) (h2 : USrc w u d) :
    Calls Try.prog 78 #[v, u] w fun e w' => e = .returned (.int .i64 (fsd l d)) ∧ Fr [] w w' := by
  have HSR : Hid (SSrc w v l) := h
  have HIR : Hid (USrc w u d) := h2
  obtain ⟨ao, cap, rfl, hcap, hmax, _⟩ := h
  obtain ⟨bo, bcap, rfl, hbcap, hbmax, _⟩ := h2
  go_enter Try.func78, Try.ntmps78
  go_wp2_with fail
  refine (check_any _ l _ HSR.out).mono ?_
  rintro e w1 ⟨rfl, hf1⟩
  have HF1 : Hid (Fr [] w w1) := hf1
  clear hf1
  by_cases hk : chk l = 0
  · rw [hk]
    go_wp2_with fail
    refine (count_any _ l _ (HSR.out.kept HF1.out)).mono ?_
    rintro e w2 ⟨rfl, hf2⟩
    have HF2 : Hid (Fr [] w w2) := HF1.out.trans hf2 (by simp)
    rw [ctn_pls l hk]
    clear hf2 HF1
    by_cases hd : d.length = (pls l).length
    · have hdl : (d.length : Int) = ((pls l).length : Int) := by omega
      have HE : Hid (fsd l d = if rgts d = true then 0 else 22) := by unfold Hid fsd; rw [if_pos hk, if_pos hd]
      rw [← hdl]
      clear hd hdl hk
      go_wp2_with fail
      refine (allRight_any _ d _ (HIR.out.kept HF2.out)).mono ?_
      rintro e w3 ⟨rfl, rfl⟩
      by_cases h0 : rgts d = true
      · have HE2 : Hid (fsd l d = 0) := by rw [Hid, HE.out, if_pos h0]
        rw [h0]
        go_wp2
        go_ret
        exact ⟨by rw [HE2.out]; rfl, HF2.out⟩
      · have h1 : rgts d = false := by simpa using h0
        have HE2 : Hid (fsd l d = 22) := by rw [Hid, HE.out, if_neg h0]
        rw [h1]
        go_wp2
        go_ret
        exact ⟨by rw [HE2.out]; rfl, HF2.out⟩
    · have HE : Hid (fsd l d = 23) := by unfold Hid fsd; rw [if_pos hk, if_neg hd]
      have hdn : ¬ (d.length : Int) = ((pls l).length : Int) := by omega
      clear hd hk
      go_wp2
      go_ret
      exact ⟨by rw [HE.out]; rfl, HF2.out⟩
  · have HE : Hid (fsd l d = chk l) := by unfold Hid fsd; rw [if_neg hk]
    go_wp2
    go_ret
    exact ⟨by rw [HE.out]; rfl, HF1.out⟩
end Go.Proofs.Ytnfbmdniomelnaa

/-
  Package fhist: Check, sides, Pairs.
-/
namespace Go.Proofs.Ytnfbmdniomelnaa
open Go.RowKit Mem Spans
set_option linter.unusedSimpArgs false
set_option linter.unusedVariables false
set_option maxRecDepth 100000

theorem fde_bad {s z zc c e : Int} (h : hde s z = e) (ne : e ≠ 0) : fde s z zc c = e := by unfold fde; rw [if_neg (by rw [h]; exact ne)]; exact h
theorem fce_head {h : Fs} (k : fde h.s h.z h.zc h.c ≠ 0) : fce h = fde h.s h.z h.zc h.c := by unfold fce; rw [if_neg k]
theorem fce_pos {h : Fs} (k : fde h.s h.z h.zc h.c = 0) (k2 : fsd h.P h.pd ≠ 0) : fce h = fsd h.P h.pd := by unfold fce; rw [if_pos k, if_neg k2]
theorem fce_neg {h : Fs} (k : fde h.s h.z h.zc h.c = 0) (k2 : fsd h.P h.pd = 0) : fce h = fsd h.N h.nd := by unfold fce; rw [if_pos k, if_pos k2]

set_option maxHeartbeats 4000000 in
theorem fcheck_any (v : Value) (h : Fs) (w : World) (hh : FSrc w v h) :
    Calls Try.prog 72 #[v] w fun e w' => e = .returned (.int .i64 (fce h)) ∧ Fr [] w w' := by
  obtain ⟨po, pc, no, nc, qo, qc, ro, rc, rfl, hin, hsr, _, _, _, _⟩ := hh.opens
  have HIN : Hid (in64 h.s ∧ inu h.z ∧ inu h.zc ∧ inu h.c ∧ inu h.sm) := hin
  have HSR : Hid (SSrc w (.slice po h.P.length pc) h.P ∧ SSrc w (.slice no h.N.length nc) h.N ∧ USrc w (.slice qo h.pd.length qc) h.pd ∧ USrc w (.slice ro h.nd.length rc) h.nd) := hsr
  clear hh hin hsr
  obtain ⟨s, z, zc, c, sm, P, N, pd, nd⟩ := h
  simp only at HIN HSR ⊢
  go_enter Try.func72, Try.ntmps72
  have HN0 : Hid (NineF (w.alloc (.cells #[.int .i64 s, .int .u64 z, .int .u64 zc, .int .u64 c, .int .u64 sm, .slice po P.length pc, .slice no N.length nc, .slice qo pd.length qc, .slice ro nd.length rc] 44)) w.heap.size #[.int .i64 s, .int .u64 z, .int .u64 zc, .int .u64 c, .int .u64 sm, .slice po P.length pc, .slice no N.length nc, .slice qo pd.length qc, .slice ro nd.length rc]) := NineF.new _ _
  have HF0 : Hid (Fr [] w (w.alloc (.cells #[.int .i64 s, .int .u64 z, .int .u64 zc, .int .u64 c, .int .u64 sm, .slice po P.length pc, .slice no N.length nc, .slice qo pd.length qc, .slice ro nd.length rc] 44))) := (Fr.refl [] w).alloc _
  by_cases h1 : s < -4
  · have HE : Hid (fde s z zc c = 21) := fde_bad (by unfold hde; rw [if_pos (.inl h1)]) (by decide)
    have HC : Hid (fce ⟨s, z, zc, c, sm, P, N, pd, nd⟩ = 21) := by rw [Hid, fce_head (by simp only [HE.out]; decide)]; exact HE.out
    go_wp2
    go_ret
    exact ⟨by rw [HC.out]; rfl, HF0.out⟩
  by_cases h2 : 8 < s
  · have HE : Hid (fde s z zc c = 21) := fde_bad (by unfold hde; rw [if_pos (.inr h2)]) (by decide)
    have HC : Hid (fce ⟨s, z, zc, c, sm, P, N, pd, nd⟩ = 21) := by rw [Hid, fce_head (by simp only [HE.out]; decide)]; exact HE.out
    go_wp2
    go_ret
    exact ⟨by rw [HC.out]; rfl, HF0.out⟩
  go_wp2_with fail
  refine (threshold_any z _).mono ?_
  rintro e w1 ⟨rfl, rfl⟩
  by_cases hz : z < 9218868437227405312
  · have HD : Hid (hde s z = 0) := by unfold Hid hde; rw [if_neg (by omega), if_pos hz]
    rw [decide_eq_true hz]
    clear hz h1 h2
    generalize w.alloc (.cells #[.int .i64 s, .int .u64 z, .int .u64 zc, .int .u64 c, .int .u64 sm, .slice po P.length pc, .slice no N.length nc, .slice qo pd.length qc, .slice ro nd.length rc] 44) = w0 at HN0 HF0 ⊢
    have c2 := HN0.out.cell 2 rfl
    have c3 := HN0.out.cell 3 rfl
    have HU : Hid (USrc (w0.alloc (.cells #[.int .u64 zc, .int .u64 c] 22)) (.slice (some ⟨w0.heap.size, 0, none⟩) 2 2) [zc, c]) := (lit_u 22 w0 [zc, c] rfl (Nat.le_refl _) (by simp) (by unfold maxLen; simp)).src (by
      intro x hx
      simp only [List.mem_cons, List.not_mem_nil, or_false] at hx
      rcases hx with rfl | rfl
      · exact HIN.out.2.2.1
      · exact HIN.out.2.2.2.1)
    have HF1 : Hid (Fr [] w (w0.alloc (.cells #[.int .u64 zc, .int .u64 c] 22))) := HF0.out.alloc _
    have HN1 : Hid (NineF (w0.alloc (.cells #[.int .u64 zc, .int .u64 c] 22)) w.heap.size #[.int .i64 s, .int .u64 z, .int .u64 zc, .int .u64 c, .int .u64 sm, .slice po P.length pc, .slice no N.length nc, .slice qo pd.length qc, .slice ro nd.length rc]) := HN0.out.kept ((Fr.refl [] _).alloc _) (by simp)
    go_wp2_with fail
    refine (allRight_any _ [zc, c] _ HU.out).mono ?_
    rintro e w1 ⟨rfl, rfl⟩
    clear HU c2 c3 HN0 HF0
    generalize w0.alloc (.cells #[.int .u64 zc, .int .u64 c] 22) = w1 at HN1 HF1 ⊢
    by_cases hr : rgts [zc, c] = true
    · have HE : Hid (fde s z zc c = 0) := by unfold Hid fde; rw [if_pos HD.out, if_pos hr]
      rw [hr]
      clear hr
      have c5 := HN1.out.cell 5 rfl
      have c7 := HN1.out.cell 7 rfl
      go_wp2_with fail
      refine (checkSide_any _ _ P pd _ (HSR.out.1.kept HF1.out) (HSR.out.2.2.1.kept HF1.out)).mono ?_
      rintro e w2 ⟨rfl, hf2⟩
      have HF2 : Hid (Fr [] w w2) := HF1.out.trans hf2 (by simp)
      have HN2 := HN1.out.kept hf2 (by simp)
      clear c5 c7 hf2 HN1 HF1
      have c6 := HN2.cell 6 rfl
      have c8 := HN2.cell 8 rfl
      clear HN2
      by_cases hp : fsd P pd = 0
      · have HC : Hid (fce ⟨s, z, zc, c, sm, P, N, pd, nd⟩ = fsd N nd) := fce_neg HE.out hp
        rw [hp]
        clear hp
        go_wp2_with fail
        refine (checkSide_any _ _ N nd _ (HSR.out.2.1.kept HF2.out) (HSR.out.2.2.2.kept HF2.out)).mono ?_
        rintro e w3 ⟨rfl, hf3⟩
        have HF3 : Hid (Fr [] w w3) := HF2.out.trans hf3 (by simp)
        clear c6 c8 hf3
        go_wp2
        go_ret
        exact ⟨by rw [HC.out]; rfl, HF3.out⟩
      · have HC : Hid (fce ⟨s, z, zc, c, sm, P, N, pd, nd⟩ = fsd P pd) := fce_pos HE.out hp
        go_wp2
        go_ret
        exact ⟨by rw [HC.out]; rfl, HF2.out⟩
    · have hr2 : rgts [zc, c] = false := by simpa using hr
      have HE : Hid (fde s z zc c = 22) := by unfold Hid fde; rw [if_pos HD.out, if_neg hr]
      have HC : Hid (fce ⟨s, z, zc, c, sm, P, N, pd, nd⟩ = 22) := by rw [Hid, fce_head (by simp only [HE.out]; decide)]; exact HE.out
      rw [hr2]
      go_wp2
      go_ret
      exact ⟨by rw [HC.out]; rfl, HF1.out⟩
  · have HE : Hid (fde s z zc c = 11) := fde_bad (by unfold hde; rw [if_neg (by omega), if_neg hz]) (by decide)
    have HC : Hid (fce ⟨s, z, zc, c, sm, P, N, pd, nd⟩ = 11) := by rw [Hid, fce_head (by simp only [HE.out]; decide)]; exact HE.out
    rw [decide_eq_false hz]
    go_wp2
    go_ret
    exact ⟨by rw [HC.out]; rfl, HF0.out⟩

set_option maxHeartbeats 2000000 in
theorem fsides_any (v : Value) (h : Fs) (w : World) (hh : FSrc w v h) :
    Calls Try.prog 64 #[v] w fun e w' => ∃ x y, e = .returned (.tuple #[x, y, .int .i64 (fce h)]) ∧ POwn 122 w.heap.size w' x (fdp h) ∧ POwn 122 w.heap.size w' y (fdn h) ∧ Fr [] w w' := by
  have HH : Hid (∀ wx, Fr [] w wx → FSrc wx v h) := fun wx hx => hh.kept hx
  obtain ⟨po, pc, no, nc, qo, qc, ro, rc, rfl, hin, hsr, _, _, _, _⟩ := hh.opens
  have HSR : Hid (SSrc w (.slice po h.P.length pc) h.P ∧ SSrc w (.slice no h.N.length nc) h.N ∧ USrc w (.slice qo h.pd.length qc) h.pd ∧ USrc w (.slice ro h.nd.length rc) h.nd) := hsr
  clear hh hin hsr
  obtain ⟨s, z, zc, c, sm, P, N, pd, nd⟩ := h
  simp only at HSR ⊢
  go_enter Try.func64, Try.ntmps64
  have HN0 : Hid (NineF (w.alloc (.cells #[.int .i64 s, .int .u64 z, .int .u64 zc, .int .u64 c, .int .u64 sm, .slice po P.length pc, .slice no N.length nc, .slice qo pd.length qc, .slice ro nd.length rc] 44)) w.heap.size #[.int .i64 s, .int .u64 z, .int .u64 zc, .int .u64 c, .int .u64 sm, .slice po P.length pc, .slice no N.length nc, .slice qo pd.length qc, .slice ro nd.length rc]) := NineF.new _ _
  have HF0 : Hid (Fr [] w (w.alloc (.cells #[.int .i64 s, .int .u64 z, .int .u64 zc, .int .u64 c, .int .u64 sm, .slice po P.length pc, .slice no N.length nc, .slice qo pd.length qc, .slice ro nd.length rc] 44))) := (Fr.refl [] w).alloc _
  go_wp2_with fail
  refine (fcheck_any _ ⟨s, z, zc, c, sm, P, N, pd, nd⟩ _ (HH.out _ HF0.out)).mono ?_
  rintro e w1 ⟨rfl, hf1⟩
  have HF1 : Hid (Fr [] w w1) := HF0.out.trans hf1 (by simp)
  have HN1 := HN0.out.kept hf1 (by simp)
  clear hf1 HN0 HF0
  by_cases h0 : fce ⟨s, z, zc, c, sm, P, N, pd, nd⟩ = 0
  · have HC : Hid (fce ⟨s, z, zc, c, sm, P, N, pd, nd⟩ = 0) := h0
    have HP : Hid (fsd P pd = 0 ∧ fsd N nd = 0) := (fce_zero.1 h0).2
    have HD : Hid (fdp ⟨s, z, zc, c, sm, P, N, pd, nd⟩ = fsl P pd ∧ fdn ⟨s, z, zc, c, sm, P, N, pd, nd⟩ = fsl N nd) := by unfold Hid fdp fdn; rw [if_pos h0, if_pos h0]; exact ⟨rfl, rfl⟩
    rw [h0]
    clear h0
    have c5 := HN1.cell 5 rfl
    have c7 := HN1.cell 7 rfl
    have HN1h : Hid (NineF w1 w.heap.size _) := HN1
    clear HN1
    go_wp2_with fail
    refine (zipU_any _ _ P pd _ (HSR.out.1.kept HF1.out) (HSR.out.2.2.1.kept HF1.out)).mono ?_
    rintro e w2 ⟨x, rfl, hx, hf2⟩
    have HF2 : Hid (Fr [] w w2) := HF1.out.trans hf2 (by simp)
    have HX : Hid (POwn 122 w.heap.size w2 x (fsl P pd)) := by rw [← (zpl_fsl HP.out.1).2]; exact hx.mono HF1.out.size
    have HN2 := HN1h.out.kept hf2 (by simp)
    clear c5 c7 hx hf2 HN1h HF1
    have c6 := HN2.cell 6 rfl
    have c8 := HN2.cell 8 rfl
    clear HN2
    rw [(zpl_fsl HP.out.1).1]
    go_wp2_with fail
    refine (zipU_any _ _ N nd _ (HSR.out.2.1.kept HF2.out) (HSR.out.2.2.2.kept HF2.out)).mono ?_
    rintro e w3 ⟨y, rfl, hy, hf3⟩
    have HF3 : Hid (Fr [] w w3) := HF2.out.trans hf3 (by simp)
    have HX3 : Hid (POwn 122 w.heap.size w3 x (fsl P pd)) := HX.out.kept hf3
    have HY3 : Hid (POwn 122 w.heap.size w3 y (fsl N nd)) := by rw [← (zpl_fsl HP.out.2).2]; exact hy.mono HF2.out.size
    clear c6 c8 hy hf3 HX HF2
    rw [(zpl_fsl HP.out.2).1]
    go_wp2
    go_ret3
    exact ⟨_, _, by rw [HC.out]; rfl, by rw [HD.out.1]; exact HX3.out, by rw [HD.out.2]; exact HY3.out, HF3.out⟩
  · have HC : Hid (fdp ⟨s, z, zc, c, sm, P, N, pd, nd⟩ = [] ∧ fdn ⟨s, z, zc, c, sm, P, N, pd, nd⟩ = []) := fd_nil h0
    clear HN1
    go_wp2
    go_ret3
    exact ⟨_, _, rfl, .inl ⟨HC.out.1, rfl⟩, .inl ⟨HC.out.2, rfl⟩, HF1.out⟩

/-- Pairs' answers. -/
def fpre (h : Fs) (d : Int) : Int := if d = 0 ∨ d = 1 then fce h else 11
def fprl (h : Fs) (d : Int) : List Sp := if d = 0 then fdp h else if d = 1 then fdn h else []
set_option maxHeartbeats 1000000 in
theorem fpairs_any (v : Value) (h : Fs) (d : Int) (w : World) (hh : FSrc w v h) :
    Calls Try.prog 53 #[v, .int .i64 d] w fun e w' => ∃ x, e = .returned (.tuple #[x, .int .i64 (fpre h d)]) ∧ POwn 122 w.heap.size w' x (fprl h d) ∧ Fr [] w w' := by
  have HH : Hid (∀ wx, Fr [] w wx → FSrc wx v h) := fun wx hx => hh.kept hx
  obtain ⟨po, pc, no, nc, qo, qc, ro, rc, rfl, _⟩ := hh.opens
  clear hh
  go_enter Try.func53, Try.ntmps53
  by_cases h0 : d = 0
  · have HP : Hid (fpre h d = fce h ∧ fprl h d = fdp h) := by unfold Hid fpre fprl; rw [if_pos (.inl h0), if_pos h0]; exact ⟨rfl, rfl⟩
    subst h0
    go_wp2_with fail
    refine (fsides_any _ h _ (HH.out _ ((Fr.refl [] w).alloc _))).mono ?_
    rintro e w1 ⟨x, y, rfl, hx, hy, hf1⟩
    have HF1 : Hid (Fr [] w w1) := ((Fr.refl [] w).alloc _).trans hf1 (by simp)
    have HX : Hid (POwn 122 w.heap.size w1 x (fdp h)) := hx.mono (by simp)
    clear hf1 hx hy
    go_wp2
    go_ret2
    exact ⟨_, by rw [HP.out.1]; rfl, by rw [HP.out.2]; exact HX.out, HF1.out⟩
  by_cases h1 : d = 1
  · have HP : Hid (fpre h d = fce h ∧ fprl h d = fdn h) := by unfold Hid fpre fprl; rw [if_pos (.inr h1), if_neg h0, if_pos h1]; exact ⟨rfl, rfl⟩
    subst h1
    go_wp2_with fail
    refine (fsides_any _ h _ (HH.out _ ((Fr.refl [] w).alloc _))).mono ?_
    rintro e w1 ⟨x, y, rfl, hx, hy, hf1⟩
    have HF1 : Hid (Fr [] w w1) := ((Fr.refl [] w).alloc _).trans hf1 (by simp)
    have HY : Hid (POwn 122 w.heap.size w1 y (fdn h)) := hy.mono (by simp)
    clear hf1 hx hy
    go_wp2
    go_ret2
    exact ⟨_, by rw [HP.out.1]; rfl, by rw [HP.out.2]; exact HY.out, HF1.out⟩
  · have HP : Hid (fpre h d = 11 ∧ fprl h d = []) := by unfold Hid fpre fprl; rw [if_neg (by omega), if_neg h0, if_neg h1]; exact ⟨rfl, rfl⟩
    have d0 : (d != 0) = true := by simpa using h0
    have d1 : (d != 1) = true := by simpa using h1
    go_wp2
    go_ret2
    exact ⟨_, by rw [HP.out.1]; rfl, .inl ⟨HP.out.2, rfl⟩, (Fr.refl [] w).alloc _⟩
end Go.Proofs.Ytnfbmdniomelnaa

/-
  Package fhist: Make.
-/
namespace Go.Proofs.Ytnfbmdniomelnaa
open Go.RowKit Mem Spans
set_option linter.unusedSimpArgs false
set_option linter.unusedVariables false
set_option maxRecDepth 100000

/-- A side's own spans and counts: their error, they. -/
def fpe (l : List Sp) : Int := frm (fsts l)
def fps (l : List Sp) : List Sp := frl (fsts l)
def fpc (l : List Sp) : List Int := uzv l
theorem PSrc.ins {w : World} {v : Value} {l : List Sp} (h : PSrc w v l) : ∀ s ∈ l, in64 s.1 ∧ inu s.2 := by
  obtain ⟨_, _, _, _, _, h, _⟩ := h
  exact h
theorem fps_in (l : List Sp) : ∀ s ∈ fps l, in64 s.1 ∧ in64 s.2 := frl_in (fsts l)
theorem fpc_in (l : List Sp) (h : ∀ s ∈ l, in64 s.1 ∧ inu s.2) : ∀ z ∈ fpc l, inu z := by
  intro z hz
  unfold fpc uzv at hz
  split at hz
  · obtain ⟨s, hs, rfl⟩ := List.mem_map.1 hz
    exact (h s hs).2
  · simp at hz
/-- Make's error; what it makes. -/
def mkf (h : Fs) (p n : List Sp) : Fs := ⟨h.s, h.z, h.zc, h.c, h.sm, fps p, fps n, fpc p, fpc n⟩
def mfe (h : Fs) (p n : List Sp) : Int := if fpe p = 0 then (if fpe n = 0 then fce (mkf h p n) else fpe n) else fpe p
def fzero : Fs := ⟨0, 0, 0, 0, 0, [], [], [], []⟩
def mfh (h : Fs) (p n : List Sp) : Fs := if mfe h p n = 0 then mkf h p n else fzero
/-- A histogram of the call's own. -/
def FOwn (B : Nat) (w : World) (v : Value) (h : Fs) : Prop :=
  ∃ vp vn up un, v = .agg #[.int .i64 h.s, .int .u64 h.z, .int .u64 h.zc, .int .u64 h.c, .int .u64 h.sm, vp, vn, up, un] ∧ in64 h.s ∧ (inu h.z ∧ inu h.zc ∧ inu h.c ∧ inu h.sm) ∧
    SOwn 63 B w vp h.P ∧ SOwn 63 B w vn h.N ∧ UOwn 22 B w up h.pd ∧ UOwn 22 B w un h.nd
theorem FOwn.kept {B : Nat} {w w' : World} {v : Value} {h : Fs} (k : FOwn B w v h) (f : Fr [] w w') : FOwn B w' v h := by
  obtain ⟨a, b, c, d, h1, h2, h3, h4, h5, h6, h7⟩ := k
  exact ⟨a, b, c, d, h1, h2, h3, h4.kept f, h5.kept f, h6.kept f, h7.kept f⟩
theorem FOwn.mono {B C : Nat} {w : World} {v : Value} {h : Fs} (k : FOwn B w v h) (hc : C ≤ B) : FOwn C w v h := by
  obtain ⟨a, b, c, d, h1, h2, h3, h4, h5, h6, h7⟩ := k
  exact ⟨a, b, c, d, h1, h2, h3, h4.mono hc, h5.mono hc, h6.mono hc, h7.mono hc⟩
theorem FOwn.src {B : Nat} {w : World} {v : Value} {h : Fs} (k : FOwn B w v h) (i : fin9 h) : FSrc w v h := by
  obtain ⟨a, b, c, d, h1, h2, h3, h4, h5, h6, h7⟩ := k
  exact ⟨a, b, c, d, h1, h2, h3, h4.src i.1, h5.src i.2.1, h6.src i.2.2.1, h7.src i.2.2.2⟩
theorem mkf_in (h : Fs) (p n : List Sp) (hp : ∀ s ∈ p, in64 s.1 ∧ inu s.2) (hn : ∀ s ∈ n, in64 s.1 ∧ inu s.2) : fin9 (mkf h p n) := ⟨fps_in p, fps_in n, fpc_in p hp, fpc_in n hn⟩
theorem mfh_in (h : Fs) (p n : List Sp) (hp : ∀ s ∈ p, in64 s.1 ∧ inu s.2) (hn : ∀ s ∈ n, in64 s.1 ∧ inu s.2) : fin9 (mfh h p n) := by
  unfold mfh; split
  · exact mkf_in h p n hp hn
  · unfold fin9 fzero; simp
theorem fzero_own (B : Nat) (w : World) : FOwn B w (.agg #[.int .i64 0, .int .u64 0, .int .u64 0, .int .u64 0, .int .u64 0, .slice none 0 0, .slice none 0 0, .slice none 0 0, .slice none 0 0]) fzero :=
  ⟨_, _, _, _, rfl, by unfold in64 fzero; decide, by unfold inu fzero; decide, .inl ⟨rfl, rfl⟩, .inl ⟨rfl, rfl⟩, .inl ⟨rfl, rfl⟩, .inl ⟨rfl, rfl⟩⟩

theorem Try.sizeOf44 : (Try.prog.info? 44).map (·.size) = some 9 := by kernel_rfl
theorem fhist_res {fn : Func} {p u : Tmp} (h : fn.results = #[.cell p 44, .tmp u]) (tmps : Array Value) (w : World) (g : Nat) (a0 a1 a2 a3 a4 a5 a6 a7 a8 : Value)
    (hp : tmps.getD p undef = .pointer (some ⟨g, 0, none⟩)) (hg : NineF w g #[a0, a1, a2, a3, a4, a5, a6, a7, a8]) : (results fn tmps).run Try.prog w = .ok (.tuple #[.agg #[a0, a1, a2, a3, a4, a5, a6, a7, a8], tmps.getD u undef]) w := by
  rw [results_cell_tmp h tmps, hp]
  have := run_loadVar_row (P := Try.prog) w g 44 44 #[a0, a1, a2, a3, a4, a5, a6, a7, a8] (0, 0) _ hg Try.underlying44 rfl Try.sizeOf44
  simp [asAddr, this]
theorem FOwn.keptS {B : Nat} {w w' : World} {v : Value} {h : Fs} {S : List Nat} (k : FOwn B w v h) (f : Fr S w w') (hs : ∀ y ∈ S, y < B) : FOwn B w' v h := by
  obtain ⟨a, b, c, d, h1, h2, h3, h4, h5, h6, h7⟩ := k
  exact ⟨a, b, c, d, h1, h2, h3, h4.keptS f hs, h5.keptS f hs, h6.keptS f hs, h7.keptS f hs⟩

end Go.Proofs.Ytnfbmdniomelnaa

/-
  Package fhist: Canon.
-/
namespace Go.Proofs.Ytnfbmdniomelnaa
open Go.RowKit Mem Spans
set_option linter.unusedSimpArgs false
set_option linter.unusedVariables false
set_option maxRecDepth 100000

theorem wioU_in {l : List Sp} {z : Int} (h : ∀ s ∈ l, in64 s.1 ∧ inu s.2) : ∀ s ∈ wio l z, in64 s.1 ∧ inu s.2 := fun s hs => h s (wio_mem.1 hs).1
theorem FOwn.form {B : Nat} {w : World} {v : Value} {h : Fs} (k : FOwn B w v h) : ∃ a1 c1 a2 c2 a3 c3 a4 c4, v = .agg #[.int .i64 h.s, .int .u64 h.z, .int .u64 h.zc, .int .u64 h.c, .int .u64 h.sm, .slice a1 h.P.length c1, .slice a2 h.N.length c2, .slice a3 h.pd.length c3, .slice a4 h.nd.length c4] := by
  obtain ⟨a, b, c, d, rfl, h2, h3, h4, h5, h6, h7⟩ := k
  obtain ⟨_, _, rfl⟩ := h4.val
  obtain ⟨_, _, rfl⟩ := h5.val
  obtain ⟨_, _, rfl⟩ := h6.val
  obtain ⟨_, _, rfl⟩ := h7.val
  exact ⟨_, _, _, _, _, _, _, _, rfl⟩
/-- Canon's error; what it tells. -/
def fae (h : Fs) : Int := if fce h = 0 then mfe h (wio (fdp h) 0) (wio (fdn h) 0) else fce h
def fah (h : Fs) : Fs := if fce h = 0 then mfh h (wio (fdp h) 0) (wio (fdn h) 0) else fzero

/-- Do both count the same? -/
def feq (a b : Fs) : Bool := decide (fce a = 0 ∧ fce b = 0 ∧ a.s = b.s ∧ a.z = b.z ∧ a.zc = b.zc ∧ a.c = b.c ∧ a.sm = b.sm ∧ wio (fdp a) 0 = wio (fdp b) 0 ∧ wio (fdn a) 0 = wio (fdn b) 0)

end Go.Proofs.Ytnfbmdniomelnaa
