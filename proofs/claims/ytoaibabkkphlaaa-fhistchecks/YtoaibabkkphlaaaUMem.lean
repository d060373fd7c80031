/-
  Numbers of 64 bits without a sign, and pairs of a place and such a number: slices wherever they lie, rows of the call's own, append.
-/
import Derived.Test.YtoaibabkkphlaaaHists
import Derived.Test.YtoaibabkkphlaaaArgsP
namespace Go.Proofs.Ytoaibabkkphlaaa
open Go.RowKit Mem Spans
open Go.ChangeShapes Go.WideShapes Go.ChangeAt
set_option linter.unusedSimpArgs false
set_option linter.unusedVariables false
set_option maxRecDepth 100000

/-- A slice of numbers without a sign, wherever it lies. -/
def USrc (w : World) (v : Value) (zs : List Int) : Prop :=
  ∃ ao cap, v = .slice ao zs.length cap ∧ zs.length ≤ cap ∧ cap ≤ maxLen ∧ (∀ z ∈ zs, inu z) ∧
    ∃ b off, (0 < zs.length → ao = some ⟨b, off, none⟩) ∧ ∀ j x, zs[j]? = some x → w.cell? ⟨b, off + j, none⟩ = some (.int .u64 x)
/-- A slice of pairs, wherever it lies. -/
def PSrc (w : World) (v : Value) (l : List Sp) : Prop :=
  ∃ ao cap, v = .slice ao l.length cap ∧ l.length ≤ cap ∧ cap ≤ maxLen ∧ (∀ s ∈ l, in64 s.1 ∧ inu s.2) ∧
    ∃ b off, (0 < l.length → ao = some ⟨b, off, none⟩) ∧ ∀ j s, l[j]? = some s → w.cell? ⟨b, off + j * 2, none⟩ = some (.int .i64 s.1) ∧ w.cell? ⟨b, off + j * 2 + 1, none⟩ = some (.int .u64 s.2)
theorem USrc.kept {w w' : World} {v : Value} {zs : List Int} (h : USrc w v zs) (f : Fr [] w w') : USrc w' v zs := by
  obtain ⟨ao, cap, h1, h2, h3, h4, b, off, h5, h6⟩ := h
  exact ⟨ao, cap, h1, h2, h3, h4, b, off, h5, fun j x hj => f.cell_some (h6 j x hj) (by simp)⟩
theorem PSrc.kept {w w' : World} {v : Value} {l : List Sp} (h : PSrc w v l) (f : Fr [] w w') : PSrc w' v l := by
  obtain ⟨ao, cap, h1, h2, h3, h4, b, off, h5, h6⟩ := h
  exact ⟨ao, cap, h1, h2, h3, h4, b, off, h5, fun j x hj => ⟨f.cell_some (h6 j x hj).1 (by simp), f.cell_some (h6 j x hj).2 (by simp)⟩⟩
theorem USrc.nil (w : World) : USrc w (.slice none 0 0) [] := ⟨none, 0, rfl, Nat.le_refl _, Nat.zero_le _, by simp, 0, 0, fun h => by simp at h, fun j x hj => by simp at hj⟩
theorem PSrc.nil (w : World) : PSrc w (.slice none 0 0) [] := ⟨none, 0, rfl, Nat.le_refl _, Nat.zero_le _, by simp, 0, 0, fun h => by simp at h, fun j x hj => by simp at hj⟩
/-- The cells of such numbers, of pairs. -/
def unCells (zs : List Int) : List Value := zs.map (Value.int .u64)
def puCells (l : List Sp) : List Value := l.flatMap fun s => [.int .i64 s.1, .int .u64 s.2]
theorem puCells_length (l : List Sp) : (puCells l).length = l.length * 2 := by
  induction l with
  | nil => rfl
  | cons x y ih => rw [puCells, List.flatMap_cons, List.length_append, ← puCells, ih]; simp; omega
theorem puCells_append (l m : List Sp) : puCells (l ++ m) = puCells l ++ puCells m := by simp [puCells]
theorem puCells_at (l : List Sp) (j : Nat) (s : Sp) (h : l[j]? = some s) : (puCells l)[j * 2]? = some (.int .i64 s.1) ∧ (puCells l)[j * 2 + 1]? = some (.int .u64 s.2) := by
  induction l generalizing j with
  | nil => simp at h
  | cons x y ih =>
    have e : puCells (x :: y) = .int .i64 x.1 :: .int .u64 x.2 :: puCells y := by simp [puCells]
    rw [e]
    rcases j with _ | j
    · have : x = s := by simpa using h
      subst this
      simp
    · have := ih j (by simpa using h)
      rw [show (j + 1) * 2 = j * 2 + 1 + 1 from by omega]
      simpa using this
/-- A slice of pairs that the call made itself. -/
def POwn (e : TypeId) (B : Nat) (w : World) (v : Value) (l : List Sp) : Prop :=
  (l = [] ∧ v = .slice none 0 0) ∨ ∃ g, B ≤ g ∧ 0 < l.length ∧ Row w e 2 v g l.length (puCells l)
theorem POwn.kept {e : TypeId} {B : Nat} {w w' : World} {v : Value} {l : List Sp} (h : POwn e B w v l) (f : Fr [] w w') : POwn e B w' v l := by
  rcases h with h | ⟨g, h1, h2, h3⟩
  · exact .inl h
  · exact .inr ⟨g, h1, h2, h3.kept f (by simp)⟩
theorem POwn.src {e : TypeId} {B : Nat} {w : World} {v : Value} {l : List Sp} (h : POwn e B w v l) (hz : ∀ s ∈ l, in64 s.1 ∧ inu s.2) : PSrc w v l := by
  rcases h with ⟨rfl, rfl⟩ | ⟨g, h1, h2, h3⟩
  · exact PSrc.nil w
  · have hr := h3
    obtain ⟨_, cap, cur, hv, _, hn, hm, _⟩ := h3
    refine ⟨_, cap, hv, hn, hm, hz, g, 0, fun _ => rfl, fun j x hj => ?_⟩
    have hjl := (List.getElem?_eq_some_iff.1 hj).1
    have c0 := hr.cell (j * 2) (by omega)
    have c1 := hr.cell (j * 2 + 1) (by omega)
    have := puCells_at l j x hj
    rw [show 0 + j * 2 = j * 2 from by omega, c0, c1]
    exact this

/-- A slice of numbers (of whatever such type) that the call made itself. -/
def UOwn (e : TypeId) (B : Nat) (w : World) (v : Value) (zs : List Int) : Prop :=
  (zs = [] ∧ v = .slice none 0 0) ∨ ∃ g, B ≤ g ∧ 0 < zs.length ∧ Row w e 1 v g zs.length (unCells zs)
theorem UOwn.kept {e : TypeId} {B : Nat} {w w' : World} {v : Value} {zs : List Int} (h : UOwn e B w v zs) (f : Fr [] w w') : UOwn e B w' v zs := by
  rcases h with h | ⟨g, h1, h2, h3⟩
  · exact .inl h
  · exact .inr ⟨g, h1, h2, h3.kept f (by simp)⟩
theorem UOwn.mono {e : TypeId} {B C : Nat} {w : World} {v : Value} {zs : List Int} (h : UOwn e B w v zs) (hc : C ≤ B) : UOwn e C w v zs := by
  rcases h with h | ⟨g, h1, h2, h3⟩
  · exact .inl h
  · exact .inr ⟨g, by omega, h2, h3⟩
theorem UOwn.src {e : TypeId} {B : Nat} {w : World} {v : Value} {zs : List Int} (h : UOwn e B w v zs) (hz : ∀ z ∈ zs, inu z) : USrc w v zs := by
  rcases h with ⟨rfl, rfl⟩ | ⟨g, h1, h2, h3⟩
  · exact USrc.nil w
  · have hr := h3
    obtain ⟨_, cap, cur, hv, _, hn, hm, _⟩ := h3
    refine ⟨_, cap, hv, hn, hm, hz, g, 0, fun _ => rfl, fun j x hj => ?_⟩
    have hjl := (List.getElem?_eq_some_iff.1 hj).1
    have := hr.cell j (by omega)
    rw [show 0 + j = j from by omega, this, unCells, List.getElem?_map, hj]
    rfl
theorem UOwn.owns {e : TypeId} {B : Nat} {w : World} {v : Value} {zs : List Int} (h : UOwn e B w v zs) : w.ownsRow B e 1 v zs.length (unCells zs) := by
  rcases h with ⟨rfl, rfl⟩ | ⟨g, h1, h2, h3, cap, cur, hv, r⟩
  · exact World.ownsRow_nil _ _ _ _
  · exact ⟨h3, .inr ⟨g, cap, cur, hv, h1, r⟩⟩
theorem UOwn.block {e : TypeId} {B : Nat} {w : World} {v : Value} {zs : List Int} (h : UOwn e B w v zs) : ∀ k, v.ownBlock = some k → B ≤ k := by
  rcases h with ⟨rfl, rfl⟩ | ⟨g, h1, h2, h3⟩
  · intro k hk; simp [Value.ownBlock] at hk
  · obtain ⟨c, rfl⟩ := h3.val
    intro k hk
    have : g = k := by simpa [Value.ownBlock] using hk
    omega
theorem UOwn.of_owns {e : TypeId} {B : Nat} {w : World} {v : Value} {zs : List Int} (h : w.ownsRow B e 1 v zs.length (unCells zs)) (hn : v = .slice none 0 0 ↔ zs = []) : UOwn e B w v zs := by
  rcases h.2 with ⟨h1, h2⟩ | ⟨g, cap, cur, hv, hg, r⟩
  · exact .inl ⟨hn.1 h1, h1⟩
  · refine .inr ⟨g, hg, ?_, h.1, cap, cur, hv, r⟩
    cases zs with
    | nil => have := hn.2 rfl; rw [hv] at this; simp at this
    | cons x r => simp
theorem UOwn.val {e : TypeId} {B : Nat} {w : World} {v : Value} {zs : List Int} (h : UOwn e B w v zs) : ∃ ao cap, v = .slice ao zs.length cap := by
  rcases h with ⟨rfl, rfl⟩ | ⟨g, _, _, hr⟩
  · exact ⟨none, 0, rfl⟩
  · obtain ⟨c, h⟩ := hr.val; exact ⟨_, c, h⟩
theorem UOwn.nil {e : TypeId} {B : Nat} {w : World} {v : Value} (h : UOwn e B w v []) : v = .slice none 0 0 := by
  rcases h with ⟨_, h⟩ | ⟨g, _, h, _⟩
  · exact h
  · simp at h
theorem POwn.nil {e : TypeId} {B : Nat} {w : World} {v : Value} (h : POwn e B w v []) : v = .slice none 0 0 := by
  rcases h with ⟨_, h⟩ | ⟨g, _, h, _⟩
  · exact h
  · simp at h
/-- A slice of numbers, as it is built. -/
theorem lit_u {B g : Nat} (e : TypeId) (w : World) (l : List Int) (hg : w.heap.size = g) (h : B ≤ g) (h0 : 0 < l.length) (hm : l.length ≤ maxLen) : UOwn e B (w.alloc (.cells (unCells l).toArray e)) (.slice (some ⟨g, 0, none⟩) l.length l.length) l := by
  subst hg
  exact .inr ⟨w.heap.size, h, h0, Row.made (heap_alloc_new _ _) hm (by simp [unCells])⟩

theorem run_append_u {e t : TypeId} {i0 : TypeInfo} (ht : Try.prog.underlying t = some (.slice e)) (hi : Try.prog.info? e = some i0) (hz : i0.zero = some (.int .u64 0)) (hs : i0.size = 1) (hb : i0.bytes = 8)
    {B : Nat} {w : World} {v u : Value} {l : List Int} {s : Int} (hB : B ≤ w.heap.size) (h : UOwn e B w v l) (h2 : UOwn e B w u [s]) (hl : l.length ≤ 1000000) (ty : TypeId) :
    ∃ v' w', (Builtin.append_ #[t, t] ty #[v, u]).run Try.prog w = .ok v' w' ∧ UOwn e B w' v' (l ++ [s]) ∧ Below B w w' := by
  rcases h2 with ⟨h0, _⟩ | ⟨g, hg, hy, hrow⟩
  · simp at h0
  · have hr := hrow
    obtain ⟨c, rfl⟩ := hrow.val
    obtain ⟨v', w', e1, e2, e3, e4⟩ := run_append_own w B t ty e i0 _ 1 8 ht hi hz hs hb rfl (by decide) v l.length (unCells l) h.owns ⟨g, 0, none⟩ 1 c (unCells [s]) rfl
      (fun j x hj => by
        have hjl : j < (unCells [s]).length := (List.getElem?_eq_some_iff.1 hj).1
        have e : (⟨g, 0, none⟩ : Addr).add j = ⟨g, j, none⟩ := by unfold Addr.add; split <;> simp_all
        rw [e, hr.cell j (by simpa [unCells] using hjl), hj])
      (fun x hx => by
        simp [unCells] at hx
        subst hx; rfl) (by unfold maxLen; omega) (by omega) hB
    refine ⟨v', w', e1, UOwn.of_owns ?_ ?_, (Below.refl B w).grown e3 hB h.block⟩
    · have : unCells (l ++ [s]) = unCells l ++ unCells [s] := by simp [unCells]
      rw [this, List.length_append]; exact e2
    · rw [e4]
      constructor
      · rintro ⟨_, h0⟩; omega
      · intro h0; simp at h0

section
variable (w : World)
theorem wpList_append_u {ops : Array Oper} {rest : List Oper} {o : Oper} {a : Act} {Q : Exit → Act → World → Prop} (hgd : o.guard = none) (sx x : Operand) (t : TypeId)
    (ho : o.op = .call { callee := .builtin .append, args := #[sx, x], argTypes := #[t, t] })
    {e : TypeId} {i0 : TypeInfo} (ht : Try.prog.underlying t = some (.slice e)) (hi : Try.prog.info? e = some i0) (hz : i0.zero = some (.int .u64 0)) (hsz : i0.size = 1) (hb : i0.bytes = 8)
    {B : Nat} {v u : Value} {l : List Int} {s : Int} (hB : B ≤ w.heap.size) (hs : a.eval sx = v) (hx : a.eval x = u) (h1 : UOwn e B w v l) (h2 : UOwn e B w u [s]) (hl : l.length ≤ 1000000)
    (h : ∀ v' w', UOwn e B w' v' (l ++ [s]) → Below B w w' → wpList Try.prog ops Q rest (a.put o.dst v') w') : wpList Try.prog ops Q (o :: rest) a w := by
  refine wpList_plain hgd fun _ hK => ?_
  obtain ⟨v', w', hr, h3, h4⟩ := run_append_u ht hi hz hsz hb hB h1 h2 hl o.type
  unfold Oper.wp execOp
  simp only [ho, resolve, invoke, builtin, Sem.run_bind, Sem.run_pure, Result.andThen_ok, List.map_toArray, List.map_cons, List.map_nil, hs, hx, hr]
  exact hK _ _ (h v' w' h3 h4)
end

/-- A slice of spans, as it is built. -/
theorem lit_pu {B : Nat} (e : TypeId) (w : World) (l : List Sp) (h : B ≤ w.heap.size) (h0 : 0 < l.length) (hm : l.length ≤ maxLen) : POwn e B (w.alloc (.cells (puCells l).toArray e)) (.slice (some ⟨w.heap.size, 0, none⟩) l.length l.length) l :=
  .inr ⟨w.heap.size, h, h0, Row.made (heap_alloc_new _ _) hm (puCells_length l)⟩
theorem lit_pu' {B g : Nat} (e : TypeId) (w : World) (l : List Sp) (hg : w.heap.size = g) (h : B ≤ g) (h0 : 0 < l.length) (hm : l.length ≤ maxLen) : POwn e B (w.alloc (.cells (puCells l).toArray e)) (.slice (some ⟨g, 0, none⟩) l.length l.length) l := by
  subst hg; exact lit_pu e w l h h0 hm
theorem POwn.owns {e : TypeId} {B : Nat} {w : World} {v : Value} {l : List Sp} (h : POwn e B w v l) : w.ownsRow B e 2 v l.length (puCells l) := by
  rcases h with ⟨rfl, rfl⟩ | ⟨g, h1, h2, h3, cap, cur, hv, r⟩
  · exact World.ownsRow_nil _ _ _ _
  · exact ⟨h3, .inr ⟨g, cap, cur, hv, h1, r⟩⟩
theorem POwn.block {e : TypeId} {B : Nat} {w : World} {v : Value} {l : List Sp} (h : POwn e B w v l) : ∀ k, v.ownBlock = some k → B ≤ k := by
  rcases h with ⟨rfl, rfl⟩ | ⟨g, h1, h2, h3⟩
  · intro k hk; simp [Value.ownBlock] at hk
  · obtain ⟨c, rfl⟩ := h3.val
    intro k hk
    have : g = k := by simpa [Value.ownBlock] using hk
    omega
theorem POwn.of_owns {e : TypeId} {B : Nat} {w : World} {v : Value} {l : List Sp} (h : w.ownsRow B e 2 v l.length (puCells l)) (hn : v = .slice none 0 0 ↔ l = []) : POwn e B w v l := by
  rcases h.2 with ⟨h1, h2⟩ | ⟨g, cap, cur, hv, hg, r⟩
  · exact .inl ⟨hn.1 h1, h1⟩
  · refine .inr ⟨g, hg, ?_, h.1, cap, cur, hv, r⟩
    cases l with
    | nil => have := hn.2 rfl; rw [hv] at this; simp at this
    | cons x r => simp
theorem POwn.mono {e : TypeId} {B C : Nat} {w : World} {v : Value} {l : List Sp} (h : POwn e B w v l) (hc : C ≤ B) : POwn e C w v l := by
  rcases h with h | ⟨g, h1, h2, h3⟩
  · exact .inl h
  · exact .inr ⟨g, by omega, h2, h3⟩

theorem run_append_pu {e t : TypeId} {i0 : TypeInfo} (ht : Try.prog.underlying t = some (.slice e)) (hi : Try.prog.info? e = some i0) (hz : i0.zero = some (.agg #[.int .i64 0, .int .u64 0])) (hs : i0.size = 2) (hb : i0.bytes = 16)
    {B : Nat} {w : World} {v u : Value} {l : List Sp} {s : Sp} (hB : B ≤ w.heap.size) (h : POwn e B w v l) (h2 : POwn e B w u [s]) (hl : l.length ≤ 1000000) (ty : TypeId) :
    ∃ v' w', (Builtin.append_ #[t, t] ty #[v, u]).run Try.prog w = .ok v' w' ∧ POwn e B w' v' (l ++ [s]) ∧ Below B w w' := by
  rcases h2 with ⟨h0, _⟩ | ⟨g, hg, hy, hrow⟩
  · simp at h0
  · have hr := hrow
    obtain ⟨c, rfl⟩ := hrow.val
    obtain ⟨v', w', e1, e2, e3, e4⟩ := run_append_own w B t ty e i0 _ 2 16 ht hi hz hs hb rfl (by decide) v l.length (puCells l) h.owns ⟨g, 0, none⟩ 1 c (puCells [s]) rfl
      (fun j x hj => by
        have hjl : j < (puCells [s]).length := (List.getElem?_eq_some_iff.1 hj).1
        rw [puCells_length] at hjl
        have e : (⟨g, 0, none⟩ : Addr).add j = ⟨g, j, none⟩ := by unfold Addr.add; split <;> simp_all
        rw [e, hr.cell j (by simpa using hjl), hj])
      (fun x hx => by
        simp [puCells] at hx
        rcases hx with rfl | rfl <;> rfl) (by unfold maxLen; omega) (by omega) hB
    refine ⟨v', w', e1, POwn.of_owns ?_ ?_, (Below.refl B w).grown e3 hB h.block⟩
    · rw [puCells_append, List.length_append]; exact e2
    · rw [e4]
      constructor
      · rintro ⟨_, h0⟩; omega
      · intro h0; simp at h0

section
variable (w : World)
theorem wpList_append_pu {ops : Array Oper} {rest : List Oper} {o : Oper} {a : Act} {Q : Exit → Act → World → Prop} (hgd : o.guard = none) (sx x : Operand) (t : TypeId)
    (ho : o.op = .call { callee := .builtin .append, args := #[sx, x], argTypes := #[t, t] })
    {e : TypeId} {i0 : TypeInfo} (ht : Try.prog.underlying t = some (.slice e)) (hi : Try.prog.info? e = some i0) (hz : i0.zero = some (.agg #[.int .i64 0, .int .u64 0])) (hsz : i0.size = 2) (hb : i0.bytes = 16)
    {B : Nat} {v u : Value} {l : List Sp} {s : Sp} (hB : B ≤ w.heap.size) (hs : a.eval sx = v) (hx : a.eval x = u) (h1 : POwn e B w v l) (h2 : POwn e B w u [s]) (hl : l.length ≤ 1000000)
    (h : ∀ v' w', POwn e B w' v' (l ++ [s]) → Below B w w' → wpList Try.prog ops Q rest (a.put o.dst v') w') : wpList Try.prog ops Q (o :: rest) a w := by
  refine wpList_plain hgd fun _ hK => ?_
  obtain ⟨v', w', hr, h3, h4⟩ := run_append_pu ht hi hz hsz hb hB h1 h2 hl o.type
  unfold Oper.wp execOp
  simp only [ho, resolve, invoke, builtin, Sem.run_bind, Sem.run_pure, Result.andThen_ok, List.map_toArray, List.map_cons, List.map_nil, hs, hx, hr]
  exact hK _ _ (h v' w' h3 h4)
end

/-- What the kit knows of a type whose values are such numbers; of pairs. -/
def UInfo (e : TypeId) (i : TypeInfo) : Prop := Try.prog.info? e = some i ∧ i.zero = some (.int .u64 0) ∧ i.size = 1 ∧ i.bytes = 8
def PUInfo (e : TypeId) (i : TypeInfo) : Prop := Try.prog.info? e = some i ∧ i.zero = some (.agg #[.int .i64 0, .int .u64 0]) ∧ i.size = 2 ∧ i.bytes = 16
theorem Try.infoU64 : (Try.prog.info? 22).map (fun i => (i.zero, i.size, i.bytes)) = some (some (.int .u64 0), 1, 8) := by kernel_rfl
theorem info_uint64 : ∃ i, UInfo 22 i := by
  obtain ⟨i, hi, h⟩ := Option.map_eq_some_iff.1 Try.infoU64
  simp only [Prod.mk.injEq] at h
  exact ⟨i, hi, h.1, h.2.1, h.2.2⟩
theorem Try.infoPU : (Try.prog.info? 43).map (fun i => (i.zero, i.size, i.bytes)) = some (some (.agg #[.int .i64 0, .int .u64 0]), 2, 16) := by kernel_rfl
theorem info_pu : ∃ i, PUInfo 43 i := by
  obtain ⟨i, hi, h⟩ := Option.map_eq_some_iff.1 Try.infoPU
  simp only [Prod.mk.injEq] at h
  exact ⟨i, hi, h.1, h.2.1, h.2.2⟩
theorem POwn.cells2 {e : TypeId} {B : Nat} {w : World} {v : Value} {l : List Sp} (h : POwn e B w v l) (h0 : 0 < l.length) : ∃ g cap, v = .slice (some ⟨g, 0, none⟩) l.length cap ∧ l.length ≤ cap ∧ ∀ j s, l[j]? = some s → w.cell? ⟨g, j * 2, none⟩ = some (.int .i64 s.1) ∧ w.cell? ⟨g, j * 2 + 1, none⟩ = some (.int .u64 s.2) := by
  rcases h with ⟨h, _⟩ | ⟨g, _, _, hr⟩
  · rw [h] at h0; simp at h0
  · have hr' := hr
    obtain ⟨_, cap, cur, hv, _, hn, hm, _⟩ := hr
    refine ⟨g, cap, hv, hn, fun j s hj => ?_⟩
    have hjl := (List.getElem?_eq_some_iff.1 hj).1
    have c0 := hr'.cell (j * 2) (by omega)
    have c1 := hr'.cell (j * 2 + 1) (by omega)
    rw [c0, c1]
    exact puCells_at l j s hj
theorem UOwn.cells1 {e : TypeId} {B : Nat} {w : World} {v : Value} {l : List Int} (h : UOwn e B w v l) (h0 : 0 < l.length) : ∃ g cap, v = .slice (some ⟨g, 0, none⟩) l.length cap ∧ l.length ≤ cap ∧ ∀ j x, l[j]? = some x → w.cell? ⟨g, j, none⟩ = some (.int .u64 x) := by
  rcases h with ⟨h, _⟩ | ⟨g, _, _, hr⟩
  · rw [h] at h0; simp at h0
  · have hr' := hr
    obtain ⟨_, cap, cur, hv, _, hn, hm, _⟩ := hr
    refine ⟨g, cap, hv, hn, fun j x hj => ?_⟩
    have hjl := (List.getElem?_eq_some_iff.1 hj).1
    rw [hr'.cell j (by omega), unCells, List.getElem?_map, hj]
    rfl

theorem IsRow.usrc {w : World} {a : Option Addr} {len cap : Nat} {zs : List Int} (h : IsRow .u64 w a len cap zs) : ∃ l : List Int, l.length = len ∧ USrc w (.slice a len cap) l := by
  rcases h with ⟨rfl, rfl, rfl, rfl⟩ | ⟨x, rfl, hl, hm, hz, hc, hw⟩
  · exact ⟨[], rfl, USrc.nil w⟩
  · have hlen : (zs.take len).length = len := by simp; omega
    refine ⟨zs.take len, hlen, some x, cap, by rw [hlen], by omega, hm, ?_, ?_⟩
    · intro z hz'
      have := hw z (List.mem_of_mem_take hz')
      simp [Lit.wf, IntKind.min, IntKind.max, IntKind.bits, IntKind.signed] at this
      unfold inu
      omega
    · by_cases h0 : 0 < len
      · obtain ⟨b, off, spot⟩ := x
        have hc0 := hc 0 (by omega)
        have hspot : spot = none := by simpa [Addr.add] using World.cell?_spot hc0
        subst hspot
        refine ⟨b, off, fun _ => rfl, fun j y hj => ?_⟩
        have e1 : (⟨b, off, none⟩ : Addr).add j = ⟨b, off + j, none⟩ := by unfold Addr.add; split <;> simp_all
        rw [List.getElem?_take] at hj
        split at hj
        · have hjl := (List.getElem?_eq_some_iff.1 hj).1
          rw [← e1, hc j hjl, List.getD_eq_getElem?_getD, hj]
          rfl
        · cases hj
      · refine ⟨0, 0, fun h => by omega, fun j y hj => ?_⟩
        have : len = 0 := by omega
        subst this
        simp at hj

theorem Try.cells43 : Try.prog.cellsOf 43 = 2 := by kernel_rfl
theorem Try.cells22 : Try.prog.cellsOf 22 = 1 := by kernel_rfl

/-- A slice of such pairs that came in. -/
def IsPU (w : World) (a : Option Addr) (len cap : Nat) (l : List Sp) : Prop := l.length = len ∧ PSrc w (.slice a len cap) l
theorem pus_of {H : Type} {enc : TypeId × Value → H} {W : World} {base : Nat} {a : Option Addr} {len cap : Nat} {d : DataW H} {p : List MemPlace}
    (h : DataW.Trod enc Try.prog W base (fun _ => true) true 38 (.slice a len cap) d p) : ∃ l, IsPU W a len cap l := by
  obtain ⟨fuel, hf⟩ := h
  rcases Go.Deep.open_slice Try.underlying38 hf with ⟨hcs, _⟩ | ⟨x, l, c, m, n, D, Pl, hcs, _, hl, hm, hmm, _, hx⟩
  · simp [Value.cells] at hcs
    obtain ⟨rfl, rfl, rfl⟩ := hcs
    exact ⟨[], rfl, PSrc.nil W⟩
  · simp [Value.cells] at hcs
    obtain ⟨rfl, rfl, rfl⟩ := hcs
    have hlm : len ≤ m := by rw [hmm]; split <;> omega
    have each : ∀ i, i < len → ∃ y : Sp, (W.cell? (x.add (i * 2)) = some (.int .i64 y.1) ∧ W.cell? (x.add (i * 2 + 1)) = some (.int .u64 y.2)) ∧ in64 y.1 ∧ inu y.2 := by
      intro i hi
      obtain ⟨cs, hc, ht⟩ := hx i (by omega)
      rw [Try.cells43] at hc
      obtain ⟨_, hlen, hcell⟩ := World.cells?_some hc
      obtain ⟨y0, y1, k, _, _, t0, t1⟩ := trod_struct2 Try.underlying43 ht
      match cs, hlen with
      | [c0, c1], _ =>
        simp only [Try.cells3, Try.cells22, List.drop_zero, List.drop_succ_cons, List.take_succ_cons, List.take_zero] at t0 t1
        obtain ⟨n0, e0, _, w0⟩ := DataW.trod_int Try.underlying3 t0
        obtain ⟨n1, e1, _, w1⟩ := DataW.trod_int Try.underlying22 t1
        simp at e0 e1
        subst e0 e1
        simp [Lit.wf, IntKind.min, IntKind.max, IntKind.bits, IntKind.signed] at w0 w1
        have h0 := hcell 0 (by omega)
        have h1 := hcell 1 (by omega)
        rw [Go.Deep.add_add] at h0 h1
        exact ⟨(n0, n1), ⟨by simpa using h0, by simpa using h1⟩, ⟨by omega, by omega⟩, ⟨by omega, by omega⟩⟩
    have : Inhabited Sp := ⟨(0, 0)⟩
    obtain ⟨z, hz⟩ := Go.Deep.choose_lt each
    refine ⟨(List.range len).map z, by simp, some x, cap, by simp, by simp; omega, by omega, ?_, ?_⟩
    · intro s hs
      obtain ⟨j, hj, rfl⟩ := List.mem_map.1 hs
      exact (hz j (by simpa using hj)).2
    · by_cases h0 : 0 < len
      · obtain ⟨b, off, spot⟩ := x
        have hc0 := (hz 0 h0).1.1
        have hspot : spot = none := by simpa [Addr.add] using World.cell?_spot hc0
        subst hspot
        have e1 : ∀ j, (⟨b, off, none⟩ : Addr).add j = ⟨b, off + j, none⟩ := by intro j; unfold Addr.add; split <;> simp_all
        refine ⟨b, off, fun _ => rfl, fun j s hj => ?_⟩
        rw [List.getElem?_map] at hj
        obtain ⟨j', hj', rfl⟩ := Option.map_eq_some_iff.1 hj
        have hjl : j < len := by have := (List.getElem?_eq_some_iff.1 hj').1; simpa using this
        have : j' = j := by
          rw [List.getElem?_range hjl] at hj'
          simpa using hj'.symm
        subst this
        have := (hz j' hjl).1
        rw [e1, e1] at this
        rw [Nat.add_assoc]
        exact this
      · refine ⟨0, 0, fun h => by simp at h; omega, fun j y hj => ?_⟩
        have : len = 0 := by omega
        subst this
        simp at hj
theorem POwn.val {e : TypeId} {B : Nat} {w : World} {v : Value} {l : List Sp} (h : POwn e B w v l) : ∃ ao cap, v = .slice ao l.length cap := by
  rcases h with ⟨rfl, rfl⟩ | ⟨g, _, _, hr⟩
  · exact ⟨none, 0, rfl⟩
  · obtain ⟨c, h⟩ := hr.val; exact ⟨_, c, h⟩
theorem UOwn.val' {e : TypeId} {B : Nat} {w : World} {v : Value} {zs : List Int} (h : UOwn e B w v zs) : ∃ ao cap, v = .slice ao zs.length cap ∧ zs.length ≤ cap ∧ cap ≤ maxLen := by
  rcases h with ⟨rfl, rfl⟩ | ⟨g, _, _, _, cap, cur, hv, _, hn, hm, _⟩
  · exact ⟨none, 0, rfl, Nat.le_refl _, Nat.zero_le _⟩
  · exact ⟨_, cap, hv, hn, hm⟩
end Go.Proofs.Ytoaibabkkphlaaa
