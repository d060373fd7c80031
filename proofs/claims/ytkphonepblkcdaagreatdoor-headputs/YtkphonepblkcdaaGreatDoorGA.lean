/-
  World, Spans, SMem, SCheck, SCount, SAll, SPlaces, SApp, SOwns, Ref6C.
-/
import Derived.WalkKit
import Derived.Laws.CopyOwn
import Derived.Test.YtkphonepblkcdaaGreatDoorRows
import Derived.WalkSpells
import Derived.WalkLawsBesides
import Derived.BigQuiet
import Derived.Deep.QuietTactic
import Derived.RangeFuncBox
import Derived.RangeFuncLeaves
import Derived.RangeFuncNested
import Derived.Shelf.Abstract
import Derived.OwnWalkIn
import Derived.TacticsInMore
import Derived.LoopNIn
import Derived.LoopIn
import Derived.Maps.AppendAt
import Derived.Laws.OwnMore
import Derived.Lib.RowBridge
import Derived.Deep.DeepCutAuto
/-
  What a call leaves of memory: blocks that may have turned, by their numbers; rows that a slice owns, with the row's own number. No program is named here.
-/
namespace Go.Proofs.YtkphonepblkcdaaGreatDoor.Mem
open Go.RowKit

theorem cell_at {w : World} {p : Nat} {cs : Array Value} {t : TypeId} {f : Nat × Nat} (h : w.heap[p]? = some (.cells cs t f)) (o : Nat) : w.cell? ⟨p, o, none⟩ = cs[o]? := by
  simp [World.cell?, h]
theorem frozen_at {w : World} {p : Nat} {cs : Array Value} {t : TypeId} (h : w.heap[p]? = some (.cells cs t (0, 0))) (o : Nat) : w.frozen? ⟨p, o, none⟩ = false := by
  simp [World.frozen?, h]
theorem lt_of_heap {w : World} {p : Nat} {o : Obj} (h : w.heap[p]? = some o) : p < w.heap.size := (Array.getElem?_eq_some_iff.1 h).1

/-- From w to w' no block that was there has turned, but for those of S. -/
structure Fr (S : List Nat) (w w' : World) : Prop where
  os : w'.os = w.os
  tape : w'.tape = w.tape
  output : w'.output = w.output
  size : w.heap.size ≤ w'.heap.size
  block : ∀ k, k < w.heap.size → k ∉ S → w'.heap[k]? = w.heap[k]?

theorem Fr.refl (S : List Nat) (w : World) : Fr S w w := ⟨rfl, rfl, rfl, Nat.le_refl _, fun _ _ _ => rfl⟩
/-- Two steps: what the second one turns is of S, or new since the first. -/
theorem Fr.trans {S S' : List Nat} {a b c : World} (h : Fr S a b) (k : Fr S' b c) (hs : ∀ x ∈ S', x ∈ S ∨ a.heap.size ≤ x) : Fr S a c :=
  ⟨k.os.trans h.os, k.tape.trans h.tape, k.output.trans h.output, Nat.le_trans h.size k.size, fun x hx hn =>
    (k.block x (Nat.lt_of_lt_of_le hx h.size) (fun hm => by rcases hs x hm with h1 | h1; exact hn h1; omega)).trans (h.block x hx hn)⟩
theorem Fr.mono {S S' : List Nat} {a b : World} (h : Fr S a b) (hs : ∀ x ∈ S, x ∈ S' ∨ a.heap.size ≤ x) : Fr S' a b :=
  ⟨h.os, h.tape, h.output, h.size, fun x hx hn => h.block x hx (fun hm => by rcases hs x hm with h1 | h1; exact hn h1; omega)⟩
theorem Fr.nil {S : List Nat} {a b : World} (h : Fr [] a b) : Fr S a b := h.mono (fun x hx => by simp at hx)
theorem Fr.drew {S : List Nat} {a b : World} (h : Fr S a b) : Fr S a b.drew := ⟨h.os, h.tape, h.output, h.size, h.block⟩
theorem Fr.alloc {S : List Nat} {a b : World} (h : Fr S a b) (o : Obj) : Fr S a (b.alloc o) :=
  h.trans (S' := []) ⟨rfl, rfl, rfl, by simp, fun k hk _ => Below.heap_alloc _ _ _ hk⟩ (fun x hx => by simp at hx)
theorem Fr.setCell {S : List Nat} {a b : World} (h : Fr S a b) (p : Addr) (v : Value) (hp : p.block ∈ S ∨ a.heap.size ≤ p.block) : Fr S a (b.setCell p v) :=
  h.trans (S' := [p.block]) ⟨rfl, rfl, rfl, by simp [World.setCell], fun k _ hn => Below.heap_setCell _ _ _ _ (by simpa using hn)⟩ (fun x hx => by simp at hx; subst hx; exact hp)
theorem Fr.setRow {S : List Nat} {a b : World} (h : Fr S a b) (g : Nat) (cs : Array Value) (hp : g ∈ S ∨ a.heap.size ≤ g) : Fr S a (b.setRow g cs) :=
  h.trans (S' := [g]) ⟨rfl, rfl, rfl, by simp [World.setRow], fun k _ hn => setRow_other _ _ _ _ (by simpa using hn)⟩ (fun x hx => by simp at hx; subst hx; exact hp)
theorem Fr.grown {S : List Nat} {a b c : World} {row : Option Nat} (h : Fr S a b) (hg : b.grownBy c row) (hr : ∀ k, row = some k → k ∈ S ∨ a.heap.size ≤ k) : Fr S a c :=
  h.trans (S' := row.toList) ⟨hg.os, hg.tape, hg.output, hg.size, fun k hk hn => hg.block k hk (by rintro rfl; simp at hn)⟩ (fun x hx => hr x (by simpa using hx))
theorem Fr.ofBelow {a b : World} (h : Below a.heap.size a b) : Fr [] a b := ⟨h.os, h.tape, h.output, h.size, fun k hk _ => h.block k hk⟩
theorem Fr.below {S : List Nat} {B : Nat} {a b : World} (h : Fr S a b) (hB : B ≤ a.heap.size) (hs : ∀ x ∈ S, B ≤ x) : Below B a b :=
  ⟨h.os, h.tape, h.output, h.size, fun k hk => h.block k (by omega) (fun hm => by have := hs k hm; omega)⟩
theorem Fr.heap {S : List Nat} {a b : World} (h : Fr S a b) {k : Nat} {o : Obj} (hk : a.heap[k]? = some o) (hn : k ∉ S) : b.heap[k]? = some o :=
  (h.block k (lt_of_heap hk) hn).trans hk
theorem Fr.cell {S : List Nat} {a b : World} (h : Fr S a b) {p : Addr} (hk : p.block < a.heap.size) (hn : p.block ∉ S) : b.cell? p = a.cell? p :=
  World.cell?_of_block (h.block p.block hk hn)
theorem Fr.cell_some {S : List Nat} {a b : World} (h : Fr S a b) {p : Addr} {v : Value} (hc : a.cell? p = some v) (hn : p.block ∉ S) : b.cell? p = some v :=
  (h.cell (World.block_lt_of_cell? a p hc) hn).trans hc

/-- A slice value over the head of a row of its own, number g; its first n elements have the cells xs. -/
def Row (w : World) (e : TypeId) (size : Nat) (v : Value) (g n : Nat) (xs : List Value) : Prop :=
  xs.length = n * size ∧ ∃ cap cur, v = .slice (some ⟨g, 0, none⟩) n cap ∧ w.heap[g]? = some (.cells cur e (0, 0)) ∧ n ≤ cap ∧ cap ≤ maxLen ∧ cur.size = cap * size ∧ cur.toList.take (n * size) = xs

theorem Row.owns {w : World} {e : TypeId} {size : Nat} {v : Value} {g n : Nat} {xs : List Value} (h : Row w e size v g n xs) : w.ownsRow 0 e size v n xs := by
  obtain ⟨h1, cap, cur, hv, r⟩ := h
  exact ⟨h1, .inr ⟨g, cap, cur, hv, Nat.zero_le _, r⟩⟩
theorem Row.lt {w : World} {e : TypeId} {size : Nat} {v : Value} {g n : Nat} {xs : List Value} (h : Row w e size v g n xs) : g < w.heap.size := by
  obtain ⟨_, cap, cur, _, hg, _⟩ := h; exact lt_of_heap hg
theorem Row.val {w : World} {e : TypeId} {size : Nat} {v : Value} {g n : Nat} {xs : List Value} (h : Row w e size v g n xs) : ∃ cap, v = .slice (some ⟨g, 0, none⟩) n cap := by
  obtain ⟨_, cap, cur, hv, _⟩ := h; exact ⟨cap, hv⟩
theorem Row.kept {w w' : World} {e : TypeId} {size : Nat} {v : Value} {g n : Nat} {xs : List Value} {S : List Nat} (h : Row w e size v g n xs) (f : Fr S w w') (hn : g ∉ S) : Row w' e size v g n xs := by
  obtain ⟨h1, cap, cur, hv, hg, r⟩ := h
  exact ⟨h1, cap, cur, hv, f.heap hg hn, r⟩
theorem Row.cell {w : World} {e : TypeId} {size : Nat} {v : Value} {g n : Nat} {xs : List Value} (h : Row w e size v g n xs) (j : Nat) (hj : j < n * size) : w.cell? ⟨g, j, none⟩ = xs[j]? := by
  obtain ⟨h1, cap, cur, rfl, hg, hn, _, hs, ht⟩ := h
  rw [cell_at hg, ← ht, List.getElem?_take, if_pos hj]; simp
theorem Row.frozen {w : World} {e : TypeId} {size : Nat} {v : Value} {g n : Nat} {xs : List Value} (h : Row w e size v g n xs) (j : Nat) : w.frozen? ⟨g, j, none⟩ = false := by
  obtain ⟨_, cap, cur, _, hg, _⟩ := h; exact frozen_at hg j
/-- One cell of the row is stored anew. -/
theorem Row.stored {w : World} {e : TypeId} {size : Nat} {v : Value} {g n : Nat} {xs : List Value} (h : Row w e size v g n xs) (j : Nat) (u : Value) : Row (w.setCell ⟨g, j, none⟩ u) e size v g n (xs.set j u) := by
  obtain ⟨h1, cap, cur, hv, hg, hn, hm, hs, ht⟩ := h
  refine ⟨by simp [h1], cap, cur.setIfInBounds j u, hv, ?_, hn, hm, by simp [hs], ?_⟩
  · simp [World.setCell, Array.getElem?_modify, hg]
  · rw [← ht, Array.toList_setIfInBounds, List.take_set]
/-- A new row, whole. -/
theorem Row.made {w : World} {e : TypeId} {size : Nat} {g n : Nat} {xs : List Value} (hg : w.heap[g]? = some (.cells xs.toArray e (0, 0))) (hm : n ≤ maxLen) (hl : xs.length = n * size) : Row w e size (.slice (some ⟨g, 0, none⟩) n n) g n xs :=
  ⟨hl, n, xs.toArray, rfl, hg, Nat.le_refl _, hm, by simp [hl], by simp [← hl]⟩

/-- A row that is just as long as its room is the whole block. -/
theorem owns_heap {w : World} {base : Nat} {e : TypeId} {g n : Nat} {xs : List Value} (h : w.ownsRow base e 1 (.slice (some ⟨g, 0, none⟩) n n) n xs) : w.heap[g]? = some (.cells xs.toArray e (0, 0)) := by
  rcases h.2 with ⟨h1, _⟩ | ⟨g', cap, cur, hv, _, hg, _, _, hs, ht⟩
  · simp at h1
  · simp only [Value.slice.injEq, Option.some.injEq, Addr.mk.injEq, and_true, true_and] at hv
    obtain ⟨rfl, rfl⟩ := hv
    rw [hg, ← ht, List.take_of_length_le (by simp [hs])]

section
variable {P : Program} (w : World)
/-- append to such a row: in its place, or in a new row, which is the next block. -/
theorem run_append_row (t ty e : TypeId) (i : TypeInfo) (z : Value) (size bytes : Nat) (ht : P.underlying t = some (.slice e)) (hi : P.info? e = some i) (hz : i.zero = some z)
    (hsize : i.size = size) (hby : i.bytes = bytes) (hzs : z.cells.size = size) (v : Value) (g n : Nat) (xs : List Value) (h : Row w e size v g n xs)
    (a : Addr) (m c : Nat) (news : List Value) (hl : news.length = m * size) (hnews : ∀ j u, news[j]? = some u → w.cell? (a.add j) = some u) (h1 : ∀ u ∈ news, u.oneCell' = true)
    (h63 : n + m ≤ maxLen) (hbytes : (n + m) * bytes ≤ 140737488355328) :
    ∃ v' g' w', (Builtin.append_ #[t, t] ty #[v, .slice (some a) m c]).run P w = .ok v' w' ∧ Row w' e size v' g' (n + m) (xs ++ news) ∧ (g' = g ∨ g' = w.heap.size) ∧ Fr [g] w w' := by
  subst hsize hby
  obtain ⟨hx, cap, cur, rfl, hg, hnc, hcm, hcs, htake⟩ := h
  have hlen : (xs ++ news).length = (n + m) * i.size := by rw [List.length_append, hx, hl, Nat.add_mul]
  by_cases hroom : n + m ≤ cap
  · have hfit : n * i.size + news.length ≤ cur.size := by rw [hl, hcs, ← Nat.add_mul]; exact Nat.mul_le_mul_right _ hroom
    have hr := run_append_room (P := P) w t ty e i ht hi g n cap cur hg a m c news hl hnews h1 hroom hfit
    refine ⟨_, g, _, hr, ⟨hlen, cap, _, rfl, setRow_heap w g cur _ e _ hg, hroom, hcm, ?_, ?_⟩, .inl rfl, (Fr.refl _ _).setRow g _ (.inl (by simp))⟩
    · simp only [List.size_toArray, List.length_append, List.length_take, List.length_drop, Array.length_toList]
      omega
    · rw [htake, ← hlen]
      exact List.take_left
  · have holds : ∀ j u, xs[j]? = some u → w.cell? ((⟨g, 0, none⟩ : Addr).add j) = some u := by
      intro j u hu
      have hadd : (⟨g, 0, none⟩ : Addr).add j = ⟨g, j, none⟩ := by unfold Addr.add; split <;> simp_all
      rw [hadd, cell_at hg]
      rw [← htake, List.getElem?_take] at hu
      split at hu
      · simpa using hu
      · cases hu
    have hr := run_append_grow (P := P) w t ty e i z ht hi hz ⟨g, 0, none⟩ n cap xs hx holds a m c news hl hnews (by omega) (by simp only [maxLen] at h63; omega) (growslice_fits (by omega) hbytes)
    have hge := grownCap_ge w (n + m) cap e
    have hcm' : grownCap w (n + m) cap e ≤ maxLen := grownCap_le_maxLen w (n + m) cap e h63
    refine ⟨_, w.heap.size, _, hr, ⟨hlen, _, _, rfl, heap_alloc_new w.drew _, hge, hcm', ?_, ?_⟩, .inr rfl, ((Fr.refl _ _).drew).alloc _⟩
    · simp only [Array.size_append, List.size_toArray, size_zeroCells, hzs, hx, hl, ← Nat.add_mul]
      congr 1
      omega
    · simp only [Array.toList_append, List.append_assoc]
      rw [← List.append_assoc, ← hlen]
      exact List.take_left

theorem wpList_append_row {ops : Array Oper} {rest : List Oper} {o : Oper} {a : Act} {Q : Exit → Act → World → Prop} (hgd : o.guard = none) (s x : Operand) (t : TypeId)
    (ho : o.op = .call { callee := .builtin .append, args := #[s, x], argTypes := #[t, t] })
    (e : TypeId) (i : TypeInfo) (z : Value) (size bytes : Nat) (ht : P.underlying t = some (.slice e)) (hi : P.info? e = some i) (hz : i.zero = some z)
    (hsize : i.size = size) (hby : i.bytes = bytes) (hzs : z.cells.size = size)
    (v : Value) (g n : Nat) (xs : List Value) (hs : a.eval s = v) (hrow : Row w e size v g n xs)
    (ad : Addr) (m c : Nat) (news : List Value) (hx : a.eval x = .slice (some ad) m c) (hl : news.length = m * size) (hnews : ∀ j u, news[j]? = some u → w.cell? (ad.add j) = some u) (h1 : ∀ u ∈ news, u.oneCell' = true)
    (h63 : n + m ≤ maxLen) (hbytes : (n + m) * bytes ≤ 140737488355328)
    (h : ∀ v' g' w', Row w' e size v' g' (n + m) (xs ++ news) → Hid (g' = g ∨ g' = w.heap.size) → Fr [g] w w' → wpList P ops Q rest (a.put o.dst v') w') : wpList P ops Q (o :: rest) a w := by
  refine wpList_plain hgd fun _ hK => ?_
  obtain ⟨v', g', w', hr, h2, h3, h4⟩ := run_append_row (P := P) w t o.type e i z size bytes ht hi hz hsize hby hzs v g n xs hrow ad m c news hl hnews h1 h63 hbytes
  unfold Oper.wp execOp
  simp only [ho, resolve, invoke, builtin, Sem.run_bind, Sem.run_pure, Result.andThen_ok, List.map_toArray, List.map_cons, List.map_nil, hs, hx, hr]
  exact hK _ _ (h v' g' w' h2 h3 h4)

/-- append to a nil slice: the row is the next block. -/
theorem wpList_append_new {ops : Array Oper} {rest : List Oper} {o : Oper} {a : Act} {Q : Exit → Act → World → Prop} (hgd : o.guard = none) (s x : Operand) (t : TypeId)
    (ho : o.op = .call { callee := .builtin .append, args := #[s, x], argTypes := #[t, t] })
    (e : TypeId) (i : TypeInfo) (z : Value) (size bytes : Nat) (ht : P.underlying t = some (.slice e)) (hi : P.info? e = some i) (hz : i.zero = some z)
    (hsize : i.size = size) (hby : i.bytes = bytes) (hzs : z.cells.size = size) (hs : a.eval s = .slice none 0 0)
    (ad : Addr) (m c : Nat) (news : List Value) (hx : a.eval x = .slice (some ad) m c) (hl : news.length = m * size) (hnews : ∀ j u, news[j]? = some u → w.cell? (ad.add j) = some u)
    (hm : 0 < m) (h63 : m ≤ maxLen) (hbytes : m * bytes ≤ 140737488355328)
    (h : ∀ v' w', Row w' e size v' w.heap.size m news → Fr [] w w' → wpList P ops Q rest (a.put o.dst v') w') : wpList P ops Q (o :: rest) a w := by
  subst hsize hby
  refine wpList_plain hgd fun _ hK => ?_
  have hr := run_append_nil (P := P) w t o.type e i z ht hi hz ad m c news hl hnews (by omega) (by simp only [maxLen] at h63; omega) (by omega)
  unfold Oper.wp execOp
  simp only [ho, resolve, invoke, builtin, Sem.run_bind, Sem.run_pure, Result.andThen_ok, List.map_toArray, List.map_cons, List.map_nil, hs, hx, hr]
  have hge := grownCap_ge w m 0 e
  refine hK _ _ (h _ _ ⟨hl, _, _, rfl, heap_alloc_new w.drew _, hge, grownCap_le_maxLen w m 0 e h63, ?_, ?_⟩ (((Fr.refl _ _).drew).alloc _))
  · simp only [Array.size_append, List.size_toArray, size_zeroCells, hzs, hl, ← Nat.add_mul]
    congr 1
    omega
  · simp only [Array.toList_append]
    rw [← hl]
    exact List.take_left

/-- copy that fills a whole row of the call's own. -/
theorem run_copy_fill (dT sT ty elem : TypeId) (hu : P.underlying dT = some (.slice elem)) (hsz : (P.info? elem).map (fun x => x.size) = some 1) (g dLen : Nat) (ao : Option Addr) (sLen sCap : Nat)
    (cur : List Value) (t : TypeId) (hg : w.heap[g]? = some (.cells cur.toArray t (0, 0))) (hl : cur.length = dLen) (hle : dLen ≤ sLen) (cs : List Value) (hcs : cs.length = dLen)
    (hsrc : 0 < dLen → ∃ ad, ao = some ad ∧ ∀ j v, cs[j]? = some v → w.cell? (ad.add j) = some v) (h1 : ∀ v ∈ cs, v.oneCell' = true) :
    ∃ w', (Builtin.copy_ #[dT, sT] ty #[.slice (some ⟨g, 0, none⟩) dLen dLen, .slice ao sLen sCap]).run P w = .ok (.int .i64 (dLen : Int)) w' ∧ w'.heap[g]? = some (.cells cs.toArray t (0, 0)) ∧ Fr [g] w w' := by
  by_cases h0 : dLen = 0
  · subst h0
    have e1 : cur = [] := List.eq_nil_of_length_eq_zero hl
    have e2 : cs = [] := List.eq_nil_of_length_eq_zero hcs
    subst e1 e2
    exact ⟨w, run_copy_none (P := P) w dT sT ty elem _ ao 0 0 sLen sCap hu hsz (by simp), hg, Fr.refl _ _⟩
  · obtain ⟨ad, rfl, hc⟩ := hsrc (by omega)
    have hr := run_copy_row (P := P) w dT sT ty elem g 0 dLen dLen ad sLen sCap cur.toArray t cs hu hsz hg (by rw [hcs]; exact (Nat.min_eq_right hle).symm) hc (by simp [hcs, hl]) h1
    refine ⟨_, by rw [hr, hcs]; rfl, ?_, (Fr.refl _ _).setRow g _ (.inl (by simp))⟩
    rw [setRow_heap w g _ _ t _ hg]
    simp
    omega
end

end Go.Proofs.YtkphonepblkcdaaGreatDoor.Mem

/-
  Spans and places, without any program: a right list, its places, the canonical list of places, runs, unions.
-/
namespace Go.Proofs.YtkphonepblkcdaaGreatDoor.Spans
set_option linter.unusedSimpArgs false
set_option linter.unusedVariables false

/-- Offset, Len. -/
abbrev Sp := Int × Int
def lo (f : Bool) : Int := if f then -1048576 else 0
def hi (f : Bool) : Int := if f then 1048576 else 2097152
/-- A span's own numbers are within their limits (f: it is the first one). -/
def bnd (f : Bool) (s : Sp) : Prop := lo f ≤ s.1 ∧ s.1 ≤ hi f ∧ 0 ≤ s.2 ∧ s.2 ≤ 4096
/-- The rest of a list is right: pl places came ahead, the last one ended at bh. -/
def ok (f : Bool) (pl bh : Int) : List Sp → Prop
  | [] => True
  | s :: r => bnd f s ∧ pl + s.2 ≤ 4096 ∧ bh + s.1 ≤ 1048576 ∧ bh + s.1 + s.2 - 1 ≤ 1048576 ∧ ok false (pl + s.2) (bh + s.1 + s.2) r
/-- The same, reckoned. -/
def okB (f : Bool) (pl bh : Int) : List Sp → Bool
  | [] => true
  | s :: r => (decide (lo f ≤ s.1) && decide (s.1 ≤ hi f) && decide (0 ≤ s.2) && decide (s.2 ≤ 4096)) && decide (pl + s.2 ≤ 4096) && decide (bh + s.1 ≤ 1048576) && decide (bh + s.1 + s.2 - 1 ≤ 1048576) && okB false (pl + s.2) (bh + s.1 + s.2) r
theorem okB_iff (f : Bool) (pl bh : Int) (l : List Sp) : okB f pl bh l = true ↔ ok f pl bh l := by
  induction l generalizing f pl bh with
  | nil => simp [okB, ok]
  | cons s r ih => simp [okB, ok, bnd, ih, and_assoc]
/-- Check's answer. -/
def chk (l : List Sp) : Int := if 1024 < l.length then 12 else if okB true 0 0 l = true then 0 else 20
open Classical in
theorem chk_def (l : List Sp) : chk l = if 1024 < l.length then 12 else if ok true 0 0 l then 0 else 20 := by
  unfold chk
  by_cases h : ok true 0 0 l
  · rw [if_pos ((okB_iff _ _ _ _).2 h), if_pos h]
  · rw [if_neg (fun hh => h ((okB_iff _ _ _ _).1 hh)), if_neg h]
theorem chk_zero {l : List Sp} : chk l = 0 ↔ l.length ≤ 1024 ∧ ok true 0 0 l := by
  rw [chk_def]
  split
  · constructor
    · intro h; simp at h
    · intro h; omega
  · split
    · constructor
      · intro _; exact ⟨by omega, by assumption⟩
      · intro _; rfl
    · constructor
      · intro h; simp at h
      · intro h; exact absurd h.2 (by assumption)
theorem chk_cases (l : List Sp) : chk l = 0 ∨ chk l = 12 ∨ chk l = 20 := by
  unfold chk; split
  · simp
  · split <;> simp

/-- n places from a on. -/
def run (a : Int) : Nat → List Int
  | 0 => []
  | n + 1 => a :: run (a + 1) n
/-- All places, the list's first Offset being from a on. -/
def plc (a : Int) : List Sp → List Int
  | [] => []
  | s :: r => run (a + s.1) s.2.toNat ++ plc (a + s.1 + s.2) r
/-- Where a list ends. -/
def bhd (a : Int) : List Sp → Int
  | [] => a
  | s :: r => bhd (a + s.1 + s.2) r
/-- How many places. -/
def cnt : List Sp → Int
  | [] => 0
  | s :: r => s.2 + cnt r
/-- Places rise, from b on. -/
def rises (b : Int) : List Int → Prop
  | [] => True
  | x :: r => b ≤ x ∧ x ≤ 1048576 ∧ rises (x + 1) r
def risesB (b : Int) : List Int → Bool
  | [] => true
  | x :: r => decide (b ≤ x) && decide (x ≤ 1048576) && risesB (x + 1) r
theorem risesB_iff (b : Int) (l : List Int) : risesB b l = true ↔ rises b l := by
  induction l generalizing b with
  | nil => simp [risesB, rises]
  | cons x r ih => simp [risesB, rises, ih, and_assoc]
/-- Runs of places, one behind the other. -/
def rn (prev : Option Int) : List Int → Nat
  | [] => 0
  | x :: r => (if prev = some (x - 1) then 0 else 1) + rn (some x) r
/-- No empty span, none that touches the one ahead. -/
def shp (f : Bool) : List Sp → Prop
  | [] => True
  | s :: r => 0 < s.2 ∧ (f = true ∨ 0 < s.1) ∧ shp false r
def shpB (f : Bool) : List Sp → Bool
  | [] => true
  | s :: r => decide (0 < s.2) && (f || decide (0 < s.1)) && shpB false r
theorem shpB_iff (f : Bool) (l : List Sp) : shpB f l = true ↔ shp f l := by
  induction l generalizing f with
  | nil => simp [shpB, shp]
  | cons s r ih => simp [shpB, shp, ih, and_assoc]
/-- The canonical list of places, the first Offset being from bh on. -/
def rns (bh : Int) : List Int → List Sp
  | [] => []
  | p :: r => match rns (p + 1) r with
    | [] => [(p - bh, 1)]
    | s :: t => if s.1 = 0 then (p - bh, s.2 + 1) :: t else (p - bh, 1) :: s :: t

theorem run_length (a : Int) (n : Nat) : (run a n).length = n := by
  induction n generalizing a with
  | zero => rfl
  | succ n ih => simp [run, ih]
theorem run_snoc (a : Int) (n : Nat) : run a (n + 1) = run a n ++ [a + n] := by
  induction n generalizing a with
  | zero => simp [run]
  | succ n ih =>
    show a :: run (a + 1) (n + 1) = a :: run (a + 1) n ++ [a + ((n + 1 : Nat) : Int)]
    rw [ih (a + 1)]
    simp
    omega
theorem plc_append (a : Int) (l m : List Sp) : plc a (l ++ m) = plc a l ++ plc (bhd a l) m := by
  induction l generalizing a with
  | nil => rfl
  | cons s l ih => simp [plc, bhd, ih]
theorem bhd_append (a : Int) (l m : List Sp) : bhd a (l ++ m) = bhd (bhd a l) m := by
  induction l generalizing a with
  | nil => rfl
  | cons s l ih => simp [bhd, ih]
theorem cnt_append (l m : List Sp) : cnt (l ++ m) = cnt l + cnt m := by
  induction l with
  | nil => simp [cnt]
  | cons s l ih => simp [cnt, ih]; omega
theorem rises_mono {b c : Int} {l : List Int} (h : rises c l) (hb : b ≤ c) : rises b l := by
  cases l with
  | nil => trivial
  | cons x r => exact ⟨by have := h.1; omega, h.2⟩
theorem rises_run {b a : Int} {n : Nat} {l : List Int} (hb : b ≤ a) (ha : 0 < n → a + n - 1 ≤ 1048576) (h : rises (a + n) l) : rises b (run a n ++ l) := by
  induction n generalizing a b with
  | zero => exact rises_mono h (by simp; omega)
  | succ n ih =>
    refine ⟨hb, by have := ha (by omega); omega, ih (by omega) (fun _ => by have := ha (by omega); omega) ?_⟩
    rw [show a + 1 + (n : Int) = a + ((n + 1 : Nat) : Int) from by omega]
    exact h
theorem rises_mem {b : Int} {l : List Int} (h : rises b l) : ∀ x ∈ l, b ≤ x ∧ x ≤ 1048576 := by
  induction l generalizing b with
  | nil => simp
  | cons y r ih =>
    intro x hx
    rcases List.mem_cons.1 hx with rfl | hx
    · exact ⟨h.1, h.2.1⟩
    · have := ih h.2.2 x hx
      have := h.1
      omega
theorem rises_pair {b : Int} {l : List Int} (h : rises b l) : l.Pairwise (· < ·) := by
  induction l generalizing b with
  | nil => exact List.Pairwise.nil
  | cons y r ih =>
    refine List.Pairwise.cons (fun x hx => ?_) (ih h.2.2)
    have := rises_mem h.2.2 x hx
    omega
theorem rises_of {b : Int} {l : List Int} (hp : l.Pairwise (· < ·)) (hm : ∀ x ∈ l, b ≤ x ∧ x ≤ 1048576) : rises b l := by
  induction l generalizing b with
  | nil => trivial
  | cons y r ih =>
    rw [List.pairwise_cons] at hp
    refine ⟨(hm y (by simp)).1, (hm y (by simp)).2, ih hp.2 (fun x hx => ?_)⟩
    have := hp.1 x hx
    have := hm x (by simp [hx])
    omega
theorem ok_rises {f : Bool} {pl bh : Int} {l : List Sp} (h : ok f pl bh l) {b : Int} (hb : b ≤ bh + lo f) : rises b (plc bh l) := by
  induction l generalizing f pl bh b with
  | nil => trivial
  | cons s r ih =>
    obtain ⟨⟨h1, h2, h3, h4⟩, h5, h6, h7, h8⟩ := h
    have e : ((s.2.toNat : Nat) : Int) = s.2 := Int.toNat_of_nonneg h3
    refine rises_run (by omega) (fun _ => by omega) ?_
    rw [e]
    exact ih h8 (by simp [lo])
theorem ok_rising {l : List Sp} (h : ok true 0 0 l) : rises (-1048576) (plc 0 l) := ok_rises h (by simp [lo])
theorem ok_cnt {f : Bool} {pl bh : Int} {l : List Sp} (h : ok f pl bh l) : ((plc bh l).length : Int) = cnt l ∧ (0 ≤ cnt l) ∧ (pl ≤ 4096 → pl + cnt l ≤ 4096) := by
  induction l generalizing f pl bh with
  | nil => simp [plc, cnt]
  | cons s r ih =>
    obtain ⟨⟨h1, h2, h3, h4⟩, h5, h6, h7, h8⟩ := h
    obtain ⟨i1, i2, i3⟩ := ih h8
    have e : ((s.2.toNat : Nat) : Int) = s.2 := Int.toNat_of_nonneg h3
    have := i3 h5
    simp only [plc, cnt, List.length_append, run_length]
    omega
theorem ok_at {f : Bool} {pl bh : Int} {l : List Sp} (h : ok f pl bh l) (j : Nat) (s : Sp) (hj : l[j]? = some s) : 0 ≤ s.2 ∧ s.2 ≤ 4096 ∧ -1048576 ≤ s.1 ∧ s.1 ≤ 2097152 ∧ (0 < j → 0 ≤ s.1) := by
  induction l generalizing f pl bh j with
  | nil => simp at hj
  | cons y r ih =>
    obtain ⟨⟨h1, h2, h3, h4⟩, h5, h6, h7, h8⟩ := h
    cases j with
    | zero =>
      have : y = s := by simpa using hj
      subst this
      refine ⟨h3, h4, ?_, ?_, fun h => by omega⟩
      · cases f <;> simp [lo] at h1 <;> omega
      · cases f <;> simp [hi] at h2 <;> omega
    | succ j =>
      have := ih h8 j (by simpa using hj)
      refine ⟨this.1, this.2.1, this.2.2.1, this.2.2.2.1, fun _ => ?_⟩
      cases j with
      | zero =>
        cases r with
        | nil => simp at hj
        | cons z r =>
          have : z = s := by simpa using hj
          subst this
          simpa [lo] using h8.1.1
      | succ j => exact this.2.2.2.2 (by omega)
/-- Where a right list stands behind its first k spans. -/
theorem ok_drop {l : List Sp} (h : ok true 0 0 l) (k : Nat) : ok (decide (k = 0)) (cnt (l.take k)) (bhd 0 (l.take k)) (l.drop k) := by
  induction k with
  | zero => simpa [cnt, bhd] using h
  | succ k ih =>
    by_cases hk : k < l.length
    · rw [List.drop_eq_getElem_cons hk] at ih
      rw [List.take_succ_eq_append_getElem hk, cnt_append, bhd_append]
      have := ih.2.2.2.2
      simpa [cnt, bhd] using this
    · rw [List.drop_eq_nil_of_le (by omega)]; trivial

theorem rns_head (bh p : Int) (r : List Int) : ∃ n t, rns bh (p :: r) = (p - bh, n) :: t := by
  simp only [rns]
  split
  · exact ⟨_, _, rfl⟩
  · split
    · exact ⟨_, _, rfl⟩
    · exact ⟨_, _, rfl⟩
theorem rns_length (bh p : Int) (r : List Int) : (rns bh (p :: r)).length = 1 + rn (some p) r := by
  induction r generalizing bh p with
  | nil => simp [rns, rn]
  | cons q r ih =>
    obtain ⟨n, t, e⟩ := rns_head (p + 1) q r
    have h := ih (p + 1) q
    rw [e] at h
    have e2 : rns bh (p :: q :: r) = if q - (p + 1) = 0 then (p - bh, n + 1) :: t else (p - bh, 1) :: (q - (p + 1), n) :: t := by
      rw [rns, e]
    rw [e2]
    simp only [rn, List.length_cons] at h ⊢
    by_cases hq : q - (p + 1) = 0
    · rw [if_pos hq, if_pos (by rw [show q - 1 = p from by omega])]
      simp only [List.length_cons]
      omega
    · rw [if_neg hq, if_neg (by simp; omega)]
      simp only [List.length_cons]
      omega
theorem rns_runs (bh : Int) (p : List Int) : (rns bh p).length = rn none p := by
  cases p with
  | nil => rfl
  | cons x r => rw [rns_length]; simp [rn]
theorem rns_places (bh : Int) (p : List Int) : plc bh (rns bh p) = p := by
  induction p generalizing bh with
  | nil => rfl
  | cons x r ih =>
    have h := ih (x + 1)
    simp only [rns]
    cases hc : rns (x + 1) r with
    | nil =>
      rw [hc] at h
      simp only [plc] at h ⊢
      rw [← h]
      simp [run]
      omega
    | cons s t =>
      rw [hc] at h
      by_cases h0 : s.1 = 0
      · simp only [if_pos h0]
        by_cases h2 : 0 ≤ s.2
        · simp only [plc] at h ⊢
          rw [show (s.2 + 1).toNat = s.2.toNat + 1 from by omega, run]
          rw [show bh + (x - bh) = x from by omega, List.cons_append]
          rw [h0] at h
          rw [show x + 1 + 0 = x + 1 from by omega] at h
          rw [show x + (s.2 + 1) = x + 1 + s.2 from by omega, h]
        · exfalso
          -- lengths are never below 1
          have key : ∀ (b : Int) (l : List Int), ∀ y ∈ rns b l, 0 < y.2 := by
            intro b l
            induction l generalizing b with
            | nil => simp [rns]
            | cons z l ihl =>
              have := ihl (z + 1)
              simp only [rns]
              split
              · simp
              · rename_i s' t' e'
                rw [e'] at this
                split
                · intro y hy
                  rcases List.mem_cons.1 hy with rfl | hy
                  · have := this s' (by simp)
                    show 0 < s'.2 + 1
                    omega
                  · exact this y (by simp [hy])
                · intro y hy
                  rcases List.mem_cons.1 hy with rfl | hy
                  · show (0 : Int) < 1
                    omega
                  · exact this y hy
          have := key (x + 1) r s (by rw [hc]; simp)
          omega
      · simp only [if_neg h0]
        rw [plc, show (x - bh, (1 : Int)).2.toNat = 1 from rfl]
        show run (bh + (x - bh)) 1 ++ plc (bh + (x - bh) + 1) (s :: t) = _
        rw [show bh + (x - bh) = x from by omega, h]
        rfl
theorem rns_shape {b : Int} (bh : Int) {p : List Int} (h : rises b p) : shp true (rns bh p) := by
  induction p generalizing bh b with
  | nil => trivial
  | cons x r ih =>
    have hs := ih (x + 1) h.2.2
    simp only [rns]
    cases hc : rns (x + 1) r with
    | nil => exact ⟨by show (0 : Int) < 1; omega, .inl rfl, trivial⟩
    | cons s t =>
      rw [hc] at hs
      by_cases h0 : s.1 = 0
      · simp only [if_pos h0]
        exact ⟨by have := hs.1; show 0 < s.2 + 1; omega, .inl rfl, hs.2.2⟩
      · simp only [if_neg h0]
        refine ⟨by show (0 : Int) < 1; omega, .inl rfl, hs.1, .inr ?_, hs.2.2⟩
        cases r with
        | nil => simp [rns] at hc
        | cons q r =>
          obtain ⟨n, t', e⟩ := rns_head (x + 1) q r
          rw [hc] at e
          have : s = (q - (x + 1), n) := by simpa using (List.cons.inj e).1
          have := h.2.2.1
          subst s
          simp at h0 ⊢
          omega
theorem rns_run (a : Int) (m : Nat) (X : List Int) (h : ∀ s t, rns (a + m) X = s :: t → s.1 ≠ 0) (hm : 0 < m) : rns a (run a m ++ X) = (0, (m : Int)) :: rns (a + m) X := by
  induction m generalizing a with
  | zero => omega
  | succ m ih =>
    show rns a (a :: (run (a + 1) m ++ X)) = _
    by_cases h0 : m = 0
    · subst h0
      simp only [run, List.nil_append, rns]
      have h' : ∀ s t, rns (a + 1) X = s :: t → s.1 ≠ 0 := by simpa using h
      cases hc : rns (a + 1) X with
      | nil => simp [hc]
      | cons s t =>
        simp only [if_neg (h' s t hc)]
        simp [hc]
    · have hI := ih (a + 1) (by rw [show a + 1 + (m : Int) = a + ((m + 1 : Nat) : Int) from by omega]; exact h) (by omega)
      rw [rns, hI]
      simp
      rw [show a + 1 + (m : Int) = a + ((m : Int) + 1) from by omega]
/-- A list without empty spans, none touching the one ahead, is the canonical one of its places. -/
theorem rns_unique {f : Bool} (bh : Int) {l : List Sp} (h : shp f l) : rns bh (plc bh l) = l := by
  induction l generalizing bh f with
  | nil => rfl
  | cons s r ih =>
    obtain ⟨h1, h2, h3⟩ := h
    have hr := ih (bh + s.1 + s.2) h3
    have hX : ∀ u t, rns (bh + s.1 + s.2) (plc (bh + s.1 + s.2) r) = u :: t → u.1 ≠ 0 := by
      intro u t e
      rw [hr] at e
      subst e
      rcases h3.2.1 with h | h
      · cases h
      · omega
    obtain ⟨o, n⟩ := s
    simp only at h1 hr hX ⊢
    obtain ⟨m, rfl⟩ : ∃ m : Nat, n = ((m + 1 : Nat) : Int) := ⟨(n - 1).toNat, by omega⟩
    simp only [plc, Int.toNat_natCast]
    show rns bh ((bh + o) :: (run (bh + o + 1) m ++ plc (bh + o + ((m + 1 : Nat) : Int)) r)) = _
    have e1 : bh + o + 1 + (m : Int) = bh + o + ((m + 1 : Nat) : Int) := by omega
    by_cases h0 : m = 0
    · subst h0
      simp only [run, List.nil_append, rns]
      have e2 : bh + o + ((0 + 1 : Nat) : Int) = bh + o + 1 := by simp
      rw [e2] at hr hX ⊢
      rw [hr]
      cases r with
      | nil => simp; omega
      | cons u t =>
        have := hX u t hr
        simp only [if_neg this]
        simp
        omega
    · have := rns_run (bh + o + 1) m (plc (bh + o + ((m + 1 : Nat) : Int)) r) (by rw [e1]; exact hX) (by omega)
      rw [rns, this, e1, hr]
      simp
      omega
theorem shp_ok {f : Bool} {pl bh b : Int} {l : List Sp} (h : shp f l) (hr : rises b (plc bh l)) (hb : bh + lo f ≤ b) (hb2 : -1048576 ≤ bh) (hb3 : f = true → bh = 0) (hc : pl + cnt l ≤ 4096) (hpl : 0 ≤ pl) : ok f pl bh l := by
  induction l generalizing f pl bh b with
  | nil => trivial
  | cons s r ih =>
    obtain ⟨h1, h2, h3⟩ := h
    obtain ⟨o, n⟩ := s
    simp only at h1 h2
    obtain ⟨m, rfl⟩ : ∃ m : Nat, n = ((m + 1 : Nat) : Int) := ⟨(n - 1).toNat, by omega⟩
    simp only [plc, Int.toNat_natCast] at hr
    have hsplit : ∀ (k : Nat) (c a : Int) (X : List Int), rises c (run a k ++ X) → 0 < k → c ≤ a ∧ a + k - 1 ≤ 1048576 ∧ rises (a + k) X := by
      intro k
      induction k with
      | zero => intro c a X _ h; omega
      | succ k ihk =>
        intro c a X hX _
        obtain ⟨g1, g2, g3⟩ := hX
        by_cases hk : k = 0
        · subst hk
          simp only [run, List.nil_append] at g3
          exact ⟨g1, by simpa using g2, by simpa using g3⟩
        · obtain ⟨i1, i2, i3⟩ := ihk (a + 1) (a + 1) X g3 (by omega)
          refine ⟨g1, by omega, ?_⟩
          rw [show a + ((k + 1 : Nat) : Int) = a + 1 + (k : Int) from by omega]
          exact i3
    obtain ⟨i1, i2, i3⟩ := hsplit (m + 1) b (bh + o) _ hr (by omega)
    have hcn : ∀ (l : List Sp), shp false l → 0 ≤ cnt l := by
      intro l
      induction l with
      | nil => intro _; simp [cnt]
      | cons y l ihl => intro hy; have := ihl hy.2.2; have := hy.1; simp only [cnt]; omega
    have hc0 := hcn r h3
    simp only [cnt] at hc
    have hbo : -1048576 ≤ bh + o := by
      cases f
      · rcases h2 with h | h
        · cases h
        · omega
      · have := hb3 rfl
        simp [lo] at hb
        omega
    refine ⟨⟨?_, ?_, by simp only; omega, by simp only; omega⟩, by simp only; omega, by simp only; omega, by simp only; omega, ih h3 i3 (by simp [lo]) (by simp only; omega) (by simp) (by simp only; omega) (by simp only; omega)⟩
    · cases f <;> simp [lo] at hb ⊢
      · rcases h2 with h | h
        · cases h
        · omega
      · omega
    · cases f <;> simp [hi]
      · omega
      · have := hb3 rfl; omega
theorem cnt_length {f : Bool} {bh : Int} {l : List Sp} (h : shp f l) : cnt l = ((plc bh l).length : Int) := by
  induction l generalizing bh f with
  | nil => simp [cnt, plc]
  | cons s r ih =>
    have := h.1
    simp only [cnt, plc, List.length_append, run_length]
    rw [ih (bh := bh + s.1 + s.2) h.2.2]
    omega
/-- Rising places, not too many of them, have a right canonical list. -/
theorem rns_ok {p : List Int} (h : rises (-1048576) p) (hl : p.length ≤ 4096) : ok true 0 0 (rns 0 p) := by
  refine shp_ok (rns_shape 0 h) (b := -1048576) ?_ (by simp [lo]) (by omega) (fun _ => rfl) ?_ (by omega)
  · rw [rns_places]; exact h
  · rw [cnt_length (bh := 0) (rns_shape 0 h), rns_places]; omega

theorem rn_run (prev : Option Int) (a : Int) (m : Nat) (X : List Int) (hm : 0 < m) : rn prev (run a m ++ X) = (if prev = some (a - 1) then 0 else 1) + rn (some (a + m - 1)) X := by
  induction m generalizing a prev with
  | zero => omega
  | succ m ih =>
    show (if prev = some (a - 1) then 0 else 1) + rn (some a) (run (a + 1) m ++ X) = _
    by_cases h0 : m = 0
    · subst h0
      simp [run]
    · rw [ih (some a) (a + 1) (by omega)]
      rw [if_pos (show some a = some (a + 1 - 1) from by rw [show a + 1 - 1 = a from by omega])]
      rw [show a + 1 + (m : Int) - 1 = a + ((m + 1 : Nat) : Int) - 1 from by omega]
      simp
theorem rn_le (prev : Option Int) (bh : Int) (l : List Sp) : rn prev (plc bh l) ≤ l.length := by
  induction l generalizing prev bh with
  | nil => simp [plc, rn]
  | cons s r ih =>
    simp only [plc, List.length_cons]
    by_cases h0 : s.2.toNat = 0
    · rw [h0]
      have := ih prev (bh + s.1 + s.2)
      simp only [run, List.nil_append]
      omega
    · rw [rn_run _ _ _ _ (by omega)]
      have := ih (some (bh + s.1 + (s.2.toNat : Int) - 1)) (bh + s.1 + s.2)
      split <;> omega
theorem shp_of_runs {f : Bool} (bh : Int) {l : List Sp} (hs : ∀ s ∈ l, 0 ≤ s.2) (ho : ∀ (j : Nat) s, l[j]? = some s → (0 < j ∨ f = false) → 0 ≤ s.1)
    (h : rn (if f then none else some (bh - 1)) (plc bh l) = l.length) : shp f l := by
  induction l generalizing f bh with
  | nil => trivial
  | cons s r ih =>
    have h2 := hs s (by simp)
    simp only [plc, List.length_cons] at h
    by_cases h0 : s.2.toNat = 0
    · rw [h0] at h
      simp only [run, List.nil_append] at h
      have := rn_le (if f then none else some (bh - 1)) (bh + s.1 + s.2) r
      omega
    · rw [rn_run _ _ _ _ (by omega)] at h
      have e : bh + s.1 + (s.2.toNat : Int) - 1 = bh + s.1 + s.2 - 1 := by omega
      rw [e] at h
      have hle := rn_le (some (bh + s.1 + s.2 - 1)) (bh + s.1 + s.2) r
      have hc : ¬ ((if f then none else some (bh - 1)) = some (bh + s.1 - 1)) := by
        intro hc
        rw [if_pos hc] at h
        omega
      rw [if_neg hc] at h
      refine ⟨by omega, ?_, ih (f := false) (bh + s.1 + s.2) (fun y hy => hs y (by simp [hy])) (fun j y hj _ => ho (j + 1) y (by simpa using hj) (.inl (by omega))) (by simp; omega)⟩
      cases f with
      | true => exact .inl rfl
      | false =>
        refine .inr ?_
        have := ho 0 s (by simp) (.inr rfl)
        simp at hc
        omega
/-- A right list is canonical just if it has as many spans as its places have runs. -/
theorem canon_iff {l : List Sp} (h : ok true 0 0 l) : shp true l ↔ rn none (plc 0 l) = l.length := by
  constructor
  · intro hs
    rw [← rns_runs 0, rns_unique 0 hs]
  · intro hr
    refine shp_of_runs 0 (f := true) (fun s hs => ?_) (fun j s hj h0 => ?_) (by simpa using hr)
    · obtain ⟨j, hj⟩ := List.mem_iff_getElem?.1 hs
      exact (ok_at h j s hj).1
    · exact (ok_at h j s hj).2.2.2.2 (by simpa using h0)
/-- No list with the same places is shorter. -/
theorem rns_short (l : List Sp) : (rns 0 (plc 0 l)).length ≤ l.length := by rw [rns_runs]; exact rn_le _ _ _

/-- Two rising lists with the same members are one. -/
theorem rising_ext {l m : List Int} (hl : l.Pairwise (· < ·)) (hm : m.Pairwise (· < ·)) (h : ∀ x, x ∈ l ↔ x ∈ m) : l = m := by
  induction l generalizing m with
  | nil =>
    cases m with
    | nil => rfl
    | cons y r => exact absurd ((h y).2 (by simp)) (by simp)
  | cons x l ih =>
    cases m with
    | nil => exact absurd ((h x).1 (by simp)) (by simp)
    | cons y m =>
      rw [List.pairwise_cons] at hl hm
      have hxy : x = y := by
        have a := (h x).1 (by simp)
        have b := (h y).2 (by simp)
        rcases List.mem_cons.1 a with e | e
        · exact e
        · rcases List.mem_cons.1 b with e' | e'
          · exact e'.symm
          · have := hm.1 x e
            have := hl.1 y e'
            omega
      subst hxy
      congr 1
      refine ih hl.2 hm.2 (fun z => ?_)
      constructor
      · intro hz
        rcases List.mem_cons.1 ((h z).1 (by simp [hz])) with e | e
        · subst e; exact absurd (hl.1 z hz) (by omega)
        · exact e
      · intro hz
        rcases List.mem_cons.1 ((h z).2 (by simp [hz])) with e | e
        · subst e; exact absurd (hm.1 z hz) (by omega)
        · exact e

/-- All of two rising lists, each once (n: enough rounds). -/
def mg : Nat → List Int → List Int → List Int
  | 0, _, _ => []
  | _ + 1, [], [] => []
  | n + 1, x :: a, [] => x :: mg n a []
  | n + 1, [], y :: b => y :: mg n [] b
  | n + 1, x :: a, y :: b => if x < y then x :: mg n a (y :: b) else if y < x then y :: mg n (x :: a) b else x :: mg n a b
theorem mg_nil (n : Nat) : mg n [] [] = [] := by cases n <;> rfl
theorem mg_mem {n : Nat} {a b : List Int} (hn : a.length + b.length ≤ n) (z : Int) : z ∈ mg n a b ↔ z ∈ a ∨ z ∈ b := by
  induction n generalizing a b with
  | zero =>
    have ha : a = [] := List.eq_nil_of_length_eq_zero (by omega)
    have hb : b = [] := List.eq_nil_of_length_eq_zero (by omega)
    subst ha hb
    simp [mg]
  | succ n ih =>
    cases a with
    | nil =>
      cases b with
      | nil => simp [mg]
      | cons y b =>
        have := ih (a := []) (b := b) (by simp at hn ⊢; omega)
        simp [mg, this]
    | cons x a =>
      cases b with
      | nil =>
        have := ih (a := a) (b := []) (by simp at hn ⊢; omega)
        simp [mg, this]
      | cons y b =>
        simp only [mg]
        split
        · have := ih (a := a) (b := y :: b) (by simp at hn ⊢; omega)
          simp [this, or_assoc]
        · split
          · have := ih (a := x :: a) (b := b) (by simp at hn ⊢; omega)
            simp only [List.mem_cons, this]
            constructor
            · rintro (h | (h | h) | h)
              · exact .inr (.inl h)
              · exact .inl (.inl h)
              · exact .inl (.inr h)
              · exact .inr (.inr h)
            · rintro ((h | h) | (h | h))
              · exact .inr (.inl (.inl h))
              · exact .inr (.inl (.inr h))
              · exact .inl h
              · exact .inr (.inr h)
          · have hxy : x = y := by omega
            subst hxy
            have := ih (a := a) (b := b) (by simp at hn ⊢; omega)
            simp only [List.mem_cons, this]
            constructor
            · rintro (h | h | h)
              · exact .inl (.inl h)
              · exact .inl (.inr h)
              · exact .inr (.inr h)
            · rintro ((h | h) | (h | h))
              · exact .inl h
              · exact .inr (.inl h)
              · exact .inl h
              · exact .inr (.inr h)
theorem mg_pair {n : Nat} {a b : List Int} (hn : a.length + b.length ≤ n) (ha : a.Pairwise (· < ·)) (hb : b.Pairwise (· < ·)) : (mg n a b).Pairwise (· < ·) := by
  induction n generalizing a b with
  | zero => simp [mg]
  | succ n ih =>
    cases a with
    | nil =>
      cases b with
      | nil => simp [mg]
      | cons y b =>
        rw [List.pairwise_cons] at hb
        refine List.Pairwise.cons (fun z hz => ?_) (ih (by simp at hn ⊢; omega) ha hb.2)
        rw [mg_mem (by simp at hn ⊢; omega)] at hz
        rcases hz with h | h
        · simp at h
        · exact hb.1 z h
    | cons x a =>
      have ha' := ha
      rw [List.pairwise_cons] at ha
      cases b with
      | nil =>
        refine List.Pairwise.cons (fun z hz => ?_) (ih (by simp at hn ⊢; omega) ha.2 hb)
        rw [mg_mem (by simp at hn ⊢; omega)] at hz
        rcases hz with h | h
        · exact ha.1 z h
        · simp at h
      | cons y b =>
        have hb' := hb
        rw [List.pairwise_cons] at hb
        simp only [mg]
        split
        · refine List.Pairwise.cons (fun z hz => ?_) (ih (by simp at hn ⊢; omega) ha.2 hb')
          rw [mg_mem (by simp at hn ⊢; omega)] at hz
          rcases hz with h | h
          · exact ha.1 z h
          · rcases List.mem_cons.1 h with rfl | h
            · assumption
            · have := hb.1 z h; omega
        · split
          · refine List.Pairwise.cons (fun z hz => ?_) (ih (by simp at hn ⊢; omega) ha' hb.2)
            rw [mg_mem (by simp at hn ⊢; omega)] at hz
            rcases hz with h | h
            · rcases List.mem_cons.1 h with rfl | h
              · assumption
              · have := ha.1 z h; omega
            · exact hb.1 z h
          · have hxy : x = y := by omega
            subst hxy
            refine List.Pairwise.cons (fun z hz => ?_) (ih (by simp at hn ⊢; omega) ha.2 hb.2)
            rw [mg_mem (by simp at hn ⊢; omega)] at hz
            rcases hz with h | h
            · exact ha.1 z h
            · exact hb.1 z h
theorem mg_length {n : Nat} {a b : List Int} : (mg n a b).length ≤ a.length + b.length := by
  induction n generalizing a b with
  | zero => simp [mg]
  | succ n ih =>
    cases a with
    | nil =>
      cases b with
      | nil => simp [mg]
      | cons y b => have := ih (a := []) (b := b); simp [mg] at this ⊢; omega
    | cons x a =>
      cases b with
      | nil => have := ih (a := a) (b := []); simp [mg] at this ⊢; omega
      | cons y b =>
        simp only [mg]
        split
        · have := ih (a := a) (b := y :: b); simp at this ⊢; omega
        · split
          · have := ih (a := x :: a) (b := b); simp at this ⊢; omega
          · have := ih (a := a) (b := b); simp at this ⊢; omega
/-- All of two rising lists, each once. -/
def uni (a b : List Int) : List Int := mg (a.length + b.length) a b
theorem uni_mem (a b : List Int) (z : Int) : z ∈ uni a b ↔ z ∈ a ∨ z ∈ b := mg_mem (Nat.le_refl _) z
theorem uni_pair {a b : List Int} (ha : a.Pairwise (· < ·)) (hb : b.Pairwise (· < ·)) : (uni a b).Pairwise (· < ·) := mg_pair (Nat.le_refl _) ha hb
theorem uni_rises {b0 : Int} {a b : List Int} (ha : rises b0 a) (hb : rises b0 b) : rises b0 (uni a b) :=
  rises_of (uni_pair (rises_pair ha) (rises_pair hb)) (fun x hx => by
    rcases (uni_mem a b x).1 hx with h | h
    · exact rises_mem ha x h
    · exact rises_mem hb x h)
theorem uni_comm {a b : List Int} (ha : a.Pairwise (· < ·)) (hb : b.Pairwise (· < ·)) : uni a b = uni b a :=
  rising_ext (uni_pair ha hb) (uni_pair hb ha) (fun x => by rw [uni_mem, uni_mem, or_comm])
theorem uni_length (a b : List Int) : (uni a b).length ≤ a.length + b.length := mg_length

/-- From's answer. -/
def frm (p : List Int) : Int := if risesB (-1048576) p = true then (if 4096 < p.length then 12 else if 1024 < (rns 0 p).length then 12 else 0) else 11
open Classical in
theorem frm_def (p : List Int) : frm p = if rises (-1048576) p then (if 4096 < p.length then 12 else if 1024 < (rns 0 p).length then 12 else 0) else 11 := by
  unfold frm
  by_cases h : rises (-1048576) p
  · rw [if_pos ((risesB_iff _ _).2 h), if_pos h]
  · rw [if_neg (fun hh => h ((risesB_iff _ _).1 hh)), if_neg h]
end Go.Proofs.YtkphonepblkcdaaGreatDoor.Spans

/-
  Slices of numbers and of spans in memory: wherever they lie, and in rows of the call's own.
-/
namespace Go.Proofs.YtkphonepblkcdaaGreatDoor
open Go.RowKit Mem Spans
open Classical
set_option linter.unusedSimpArgs false
set_option linter.unusedVariables false

def in64 (z : Int) : Prop := -9223372036854775808 ≤ z ∧ z ≤ 9223372036854775807
/-- A slice of numbers, wherever it lies. -/
def ISrc (w : World) (v : Value) (zs : List Int) : Prop :=
  ∃ ao cap, v = .slice ao zs.length cap ∧ zs.length ≤ cap ∧ cap ≤ maxLen ∧ (∀ z ∈ zs, in64 z) ∧
    ∃ b off, (0 < zs.length → ao = some ⟨b, off, none⟩) ∧ ∀ j x, zs[j]? = some x → w.cell? ⟨b, off + j, none⟩ = some (.int .i64 x)
/-- A slice of spans, wherever it lies. -/
def SSrc (w : World) (v : Value) (l : List Sp) : Prop :=
  ∃ ao cap, v = .slice ao l.length cap ∧ l.length ≤ cap ∧ cap ≤ maxLen ∧ (∀ s ∈ l, in64 s.1 ∧ in64 s.2) ∧
    ∃ b off, (0 < l.length → ao = some ⟨b, off, none⟩) ∧ ∀ j s, l[j]? = some s → w.cell? ⟨b, off + j * 2, none⟩ = some (.int .i64 s.1) ∧ w.cell? ⟨b, off + j * 2 + 1, none⟩ = some (.int .i64 s.2)
theorem ISrc.kept {w w' : World} {v : Value} {zs : List Int} (h : ISrc w v zs) (f : Fr [] w w') : ISrc w' v zs := by
  obtain ⟨ao, cap, h1, h2, h3, h4, b, off, h5, h6⟩ := h
  exact ⟨ao, cap, h1, h2, h3, h4, b, off, h5, fun j x hj => f.cell_some (h6 j x hj) (by simp)⟩
theorem SSrc.kept {w w' : World} {v : Value} {l : List Sp} (h : SSrc w v l) (f : Fr [] w w') : SSrc w' v l := by
  obtain ⟨ao, cap, h1, h2, h3, h4, b, off, h5, h6⟩ := h
  exact ⟨ao, cap, h1, h2, h3, h4, b, off, h5, fun j x hj => ⟨f.cell_some (h6 j x hj).1 (by simp), f.cell_some (h6 j x hj).2 (by simp)⟩⟩
theorem ISrc.nil (w : World) : ISrc w (.slice none 0 0) [] := ⟨none, 0, rfl, Nat.le_refl _, Nat.zero_le _, by simp, 0, 0, fun h => by simp at h, fun j x hj => by simp at hj⟩
theorem SSrc.nil (w : World) : SSrc w (.slice none 0 0) [] := ⟨none, 0, rfl, Nat.le_refl _, Nat.zero_le _, by simp, 0, 0, fun h => by simp at h, fun j x hj => by simp at hj⟩

/-- The cells of numbers, of spans. -/
def inCells (zs : List Int) : List Value := zs.map (Value.int .i64)
def spCells (l : List Sp) : List Value := l.flatMap fun s => [.int .i64 s.1, .int .i64 s.2]
theorem spCells_length (l : List Sp) : (spCells l).length = l.length * 2 := by
  induction l with
  | nil => rfl
  | cons x y ih => rw [spCells, List.flatMap_cons, List.length_append, ← spCells, ih]; simp; omega
theorem spCells_append (l m : List Sp) : spCells (l ++ m) = spCells l ++ spCells m := by simp [spCells]
theorem spCells_at (l : List Sp) (j : Nat) (s : Sp) (h : l[j]? = some s) : (spCells l)[j * 2]? = some (.int .i64 s.1) ∧ (spCells l)[j * 2 + 1]? = some (.int .i64 s.2) := by
  induction l generalizing j with
  | nil => simp at h
  | cons x y ih =>
    have e : spCells (x :: y) = .int .i64 x.1 :: .int .i64 x.2 :: spCells y := by simp [spCells]
    rw [e]
    rcases j with _ | j
    · have : x = s := by simpa using h
      subst this
      simp
    · have := ih j (by simpa using h)
      rw [show (j + 1) * 2 = j * 2 + 1 + 1 from by omega]
      simpa using this
theorem spCells_set (l : List Sp) (s : Sp) (n : Int) : (spCells (l ++ [s])).set (l.length * 2 + 1) (.int .i64 n) = spCells (l ++ [(s.1, n)]) := by
  rw [spCells_append, spCells_append, List.set_append_right _ _ (by rw [spCells_length]; omega), spCells_length]
  rw [show l.length * 2 + 1 - l.length * 2 = 1 from by omega]
  rfl

/-- A slice of numbers that the call made itself, from block B on. -/
def IOwn (B : Nat) (w : World) (v : Value) (zs : List Int) : Prop :=
  (zs = [] ∧ v = .slice none 0 0) ∨ ∃ g, B ≤ g ∧ 0 < zs.length ∧ Row w 3 1 v g zs.length (inCells zs)
/-- A slice of spans (of whatever such type) that the call made itself. -/
def SOwn (e : TypeId) (B : Nat) (w : World) (v : Value) (l : List Sp) : Prop :=
  (l = [] ∧ v = .slice none 0 0) ∨ ∃ g, B ≤ g ∧ 0 < l.length ∧ Row w e 2 v g l.length (spCells l)
theorem IOwn.kept {B : Nat} {w w' : World} {v : Value} {zs : List Int} (h : IOwn B w v zs) (f : Fr [] w w') : IOwn B w' v zs := by
  rcases h with h | ⟨g, h1, h2, h3⟩
  · exact .inl h
  · exact .inr ⟨g, h1, h2, h3.kept f (by simp)⟩
theorem SOwn.kept {e : TypeId} {B : Nat} {w w' : World} {v : Value} {l : List Sp} (h : SOwn e B w v l) (f : Fr [] w w') : SOwn e B w' v l := by
  rcases h with h | ⟨g, h1, h2, h3⟩
  · exact .inl h
  · exact .inr ⟨g, h1, h2, h3.kept f (by simp)⟩
theorem IOwn.mono {B C : Nat} {w : World} {v : Value} {zs : List Int} (h : IOwn B w v zs) (hc : C ≤ B) : IOwn C w v zs := by
  rcases h with h | ⟨g, h1, h2, h3⟩
  · exact .inl h
  · exact .inr ⟨g, by omega, h2, h3⟩
theorem IOwn.src {B : Nat} {w : World} {v : Value} {zs : List Int} (h : IOwn B w v zs) (hz : ∀ z ∈ zs, in64 z) : ISrc w v zs := by
  rcases h with ⟨rfl, rfl⟩ | ⟨g, h1, h2, h3⟩
  · exact ISrc.nil w
  · have hr := h3
    obtain ⟨_, cap, cur, hv, _, hn, hm, _⟩ := h3
    refine ⟨_, cap, hv, hn, hm, hz, g, 0, fun _ => rfl, fun j x hj => ?_⟩
    have hjl := (List.getElem?_eq_some_iff.1 hj).1
    have := hr.cell j (by omega)
    rw [show 0 + j = j from by omega, this, inCells, List.getElem?_map, hj]
    rfl
theorem SOwn.src {e : TypeId} {B : Nat} {w : World} {v : Value} {l : List Sp} (h : SOwn e B w v l) (hz : ∀ s ∈ l, in64 s.1 ∧ in64 s.2) : SSrc w v l := by
  rcases h with ⟨rfl, rfl⟩ | ⟨g, h1, h2, h3⟩
  · exact SSrc.nil w
  · have hr := h3
    obtain ⟨_, cap, cur, hv, _, hn, hm, _⟩ := h3
    refine ⟨_, cap, hv, hn, hm, hz, g, 0, fun _ => rfl, fun j x hj => ?_⟩
    have hjl := (List.getElem?_eq_some_iff.1 hj).1
    have c0 := hr.cell (j * 2) (by omega)
    have c1 := hr.cell (j * 2 + 1) (by omega)
    have := spCells_at l j x hj
    rw [show 0 + j * 2 = j * 2 from by omega, c0, c1]
    exact this

theorem Tryz.infoInt : (Tryz.prog.info? 3).map (fun i => (i.zero, i.size, i.bytes)) = some (some (.int .i64 0), 1, 8) := by kernel_rfl
theorem info_int : ∃ i, Tryz.prog.info? 3 = some i ∧ i.zero = some (.int .i64 0) ∧ i.size = 1 ∧ i.bytes = 8 := by
  obtain ⟨i, hi, h⟩ := Option.map_eq_some_iff.1 Tryz.infoInt
  simp only [Prod.mk.injEq] at h
  exact ⟨i, hi, h.1, h.2.1, h.2.2⟩
theorem Tryz.infoSpan : (Tryz.prog.info? 64).map (fun i => (i.zero, i.size, i.bytes)) = some (some (.agg #[.int .i64 0, .int .i64 0]), 2, 16) := by kernel_rfl
theorem info_span : ∃ i, Tryz.prog.info? 64 = some i ∧ i.zero = some (.agg #[.int .i64 0, .int .i64 0]) ∧ i.size = 2 ∧ i.bytes = 16 := by
  obtain ⟨i, hi, h⟩ := Option.map_eq_some_iff.1 Tryz.infoSpan
  simp only [Prod.mk.injEq] at h
  exact ⟨i, hi, h.1, h.2.1, h.2.2⟩

set_option maxHeartbeats 400000 in
theorem bound_any (s : Sp) (f : Bool) (w : World) (h1 : in64 s.1) (h2 : in64 s.2) :
    Calls Tryz.prog 91 #[.agg #[.int .i64 s.1, .int .i64 s.2], .bool f] w fun e w' => e = .returned (.bool (decide (bnd f s))) ∧ Fr [] w w' := by
  obtain ⟨o, n⟩ := s
  unfold in64 at h1 h2
  have F0 : Hid (Fr [] w (w.alloc (.cells #[.int .i64 o, .int .i64 n] 64))) := (Fr.refl _ _).alloc _
  cases f
  · have e : decide (bnd false (o, n)) = (decide (0 ≤ o) && decide (o ≤ 2097152) && decide (0 ≤ n) && decide (n ≤ 4096)) := by
      simp [bnd, lo, hi, Bool.and_assoc]
    rw [e]
    clear e
    go_enter Tryz.func91, Tryz.ntmps91
    by_cases a1 : 0 ≤ o
    · by_cases a2 : o ≤ 2097152
      · by_cases a3 : 0 ≤ n
        · go_wp2
          go_ret
          exact ⟨by simp [a1, a2, a3], F0.out⟩
        · go_wp2
          go_ret
          exact ⟨by simp [a1, a2, a3]; omega, F0.out⟩
      · go_wp2
        go_ret
        exact ⟨by simp [a1, a2]; omega, F0.out⟩
    · go_wp2
      go_ret
      exact ⟨by simp [a1]; omega, F0.out⟩
  · have e : decide (bnd true (o, n)) = (decide (-1048576 ≤ o) && decide (o ≤ 1048576) && decide (0 ≤ n) && decide (n ≤ 4096)) := by
      simp [bnd, lo, hi, Bool.and_assoc]
    rw [e]
    clear e
    go_enter Tryz.func91, Tryz.ntmps91
    by_cases a1 : -1048576 ≤ o
    · by_cases a2 : o ≤ 1048576
      · by_cases a3 : 0 ≤ n
        · go_wp2
          go_ret
          exact ⟨by simp [a1, a2, a3], F0.out⟩
        · go_wp2
          go_ret
          exact ⟨by simp [a1, a2, a3]; omega, F0.out⟩
      · go_wp2
        go_ret
        exact ⟨by simp [a1, a2]; omega, F0.out⟩
    · go_wp2
      go_ret
      exact ⟨by simp [a1]; omega, F0.out⟩
end Go.Proofs.YtkphonepblkcdaaGreatDoor

/-
  Package span: Check, Count, Canonical.
-/
namespace Go.Proofs.YtkphonepblkcdaaGreatDoor
open Go.RowKit Mem Spans
open Classical
set_option linter.unusedSimpArgs false
set_option linter.unusedVariables false
set_option maxRecDepth 100000

theorem drop_at {α : Type} {l : List α} {k : Nat} {s : α} (h : l[k]? = some s) : l.drop k = s :: l.drop (k + 1) := by
  obtain ⟨hk, e⟩ := List.getElem?_eq_some_iff.1 h
  rw [List.drop_eq_getElem_cons hk, e]
theorem take_at {α : Type} {l : List α} {k : Nat} {s : α} (h : l[k]? = some s) : l.take (k + 1) = l.take k ++ [s] := by
  obtain ⟨hk, e⟩ := List.getElem?_eq_some_iff.1 h
  rw [List.take_succ_eq_append_getElem hk, e]
theorem at_lt {α : Type} {l : List α} {k : Nat} (h : k < l.length) : ∃ s, l[k]? = some s := ⟨l[k], List.getElem?_eq_getElem h⟩

set_option maxHeartbeats 1000000 in
theorem check_any (v : Value) (l : List Sp) (w : World) (h : SSrc w v l) :
    Calls Tryz.prog 68 #[v] w fun e w' => e = .returned (.int .i64 (chk l)) ∧ Fr [] w w' := by
  obtain ⟨ao, cap, rfl, hcap, hmax, h64, b, off, ha, hc⟩ := h
  have HC : Hid (∀ j s, l[j]? = some s → w.cell? ⟨b, off + j * 2, none⟩ = some (.int .i64 s.1) ∧ w.cell? ⟨b, off + j * 2 + 1, none⟩ = some (.int .i64 s.2)) := hc
  have HA : Hid (0 < l.length → ao = some ⟨b, off, none⟩) := ha
  have H64 : Hid (∀ s ∈ l, in64 s.1 ∧ in64 s.2) := h64
  clear hc ha h64
  go_enter Tryz.func68, Tryz.ntmps68
  by_cases hlen : 1024 < l.length
  · have e : chk l = 12 := by rw [chk_def]; rw [if_pos hlen]
    rw [e]
    go_wp2
    go_ret
    exact ⟨rfl, Fr.refl _ _⟩
  · have HK : Hid (chk l = if ok true 0 0 l then 0 else 20) := by rw [Hid, chk_def]; rw [if_neg hlen]
    go_wp2
    go_loopw [3, 4, 13] (fun p q i wr => ∃ (k : Nat) (P B : Int), k ≤ l.length ∧ i = .int .i64 (k : Int) ∧ p = .int .i64 P ∧ q = .int .i64 B ∧ (ok true 0 0 l ↔ ok ((k : Int) == 0) P B (l.drop k)) ∧ 0 ≤ P ∧ P ≤ 4096 ∧ -1048576 ≤ B ∧ B ≤ 1048577 ∧ (k = 0 → B = 0) ∧ Fr [] w wr) (fun _ _ i _ => l.length - (intOf i).toNat)
    case atStart => exact ⟨0, 0, 0, by omega, rfl, rfl, rfl, by simp, by omega, by omega, by omega, by omega, fun _ => rfl, Fr.refl _ _⟩
    case round =>
      obtain ⟨k, P, B, hk, rfl, rfl, rfl, hok, hP0, hP1, hB0, hB1, hBk, hf⟩ := hrel
      have HBK : Hid (k = 0 → B = 0) := hBk
      clear hBk
      have HF : Hid (Fr [] w wr) := hf
      have HO : Hid (ok true 0 0 l ↔ ok ((k : Int) == 0) P B (l.drop k)) := hok
      clear hf hok
      by_cases hlt : k < l.length
      · obtain rfl := HA.out (by omega)
        obtain ⟨s, hs⟩ := at_lt hlt
        have HS : Hid (l[k]? = some s) := hs
        have HM := H64.out s (List.mem_of_getElem? hs)
        have c0 : wr.cell? ⟨b, off + k * 2, none⟩ = some (.int .i64 s.1) := HF.out.cell_some (HC.out k s hs).1 (by simp)
        have c1 : wr.cell? ⟨b, off + k * 2 + 1, none⟩ = some (.int .i64 s.2) := HF.out.cell_some (HC.out k s hs).2 (by simp)
        have HD : Hid (ok true 0 0 l ↔ ok ((k : Int) == 0) P B (s :: l.drop (k + 1))) := by rw [Hid, ← drop_at hs]; exact HO.out
        clear hs HO
        have HF2 : Hid (Fr [] w (wr.alloc (.cells #[.int .i64 s.1, .int .i64 s.2] 64))) := HF.out.alloc _
        go_wp2_with fail
        refine (bound_any s ((k : Int) == 0) _ HM.1 HM.2).mono ?_
        rintro e w2 ⟨rfl, hf2⟩
        have d0 : w2.cell? ⟨wr.heap.size, 0, none⟩ = some (.int .i64 s.1) := hf2.cell_some (by rw [World.cell?_alloc_at _ _ _ _ rfl]; rfl) (by simp)
        have d1 : w2.cell? ⟨wr.heap.size, 1, none⟩ = some (.int .i64 s.2) := hf2.cell_some (by rw [World.cell?_alloc_at _ _ _ _ rfl]; rfl) (by simp)
        have HF3 : Hid (Fr [] w w2) := HF2.out.trans hf2 (by simp)
        clear hf2 HF2 c0 c1
        obtain ⟨o, n⟩ := s
        simp only at d0 d1
        by_cases hb : bnd ((k : Int) == 0) (o, n)
        · have hdb : decide (bnd ((k : Int) == 0) (o, n)) = true := decide_eq_true hb
          have HBN : Hid (bnd ((k : Int) == 0) (o, n)) := hb
          have hS : -1048576 ≤ o ∧ o ≤ 2097152 ∧ 0 ≤ n ∧ n ≤ 4096 := by
            obtain ⟨b1, b2, b3, b4⟩ := hb
            simp only at b1 b2 b3 b4
            refine ⟨?_, ?_, b3, b4⟩
            · unfold lo at b1; split at b1 <;> omega
            · unfold hi at b2; split at b2 <;> omega
          have HB0 : Hid (0 < k → 0 ≤ o) := by
            intro h0
            have e : ((k : Int) == 0) = false := by simp; omega
            have := hb.1
            rw [e] at this
            simpa [lo] using this
          clear hb
          obtain ⟨hS1, hS2, hS3, hS4⟩ := hS
          by_cases t1 : P + n ≤ 4096
          · by_cases t2 : B + o ≤ 1048576 ∧ B + o + n - 1 ≤ 1048576
            · obtain ⟨t2, t3⟩ := t2
              go_wp2
              go_roundw
              case rel =>
                refine ⟨k + 1, P + n, B + o + n, by omega, by go_num, rfl, rfl, ?_, by omega, by omega, ?_, by omega, by omega, HF3.out⟩
                · have e : (((k + 1 : Nat) : Int) == 0) = false := by simp; omega
                  rw [HD.out, e]
                  exact ⟨fun h => h.2.2.2.2, fun h => ⟨HBN.out, t1, t2, t3, h⟩⟩
                · by_cases h0 : k = 0
                  · have := HBK.out h0; omega
                  · have := HB0.out (by omega); omega
              case measure => simp [intOf]; omega
            · have hno : ¬ ok true 0 0 l := by
                rw [HD.out]
                exact fun h => t2 ⟨h.2.2.1, h.2.2.2.1⟩
              have HE : Hid (chk l = 20) := by rw [Hid, HK.out, if_neg hno]
              clear hno
              have t3 : 1048576 < B + o ∨ 1048576 < B + o + n - 1 := by omega
              go_wp2
              all_goals go_ret
              all_goals exact ⟨by rw [HE.out]; rfl, HF3.out⟩
          · have hno : ¬ ok true 0 0 l := by
              rw [HD.out]
              exact fun h => t1 h.2.1
            have HE : Hid (chk l = 20) := by rw [Hid, HK.out, if_neg hno]
            clear hno
            go_wp2
            all_goals go_ret
            all_goals exact ⟨by rw [HE.out]; rfl, HF3.out⟩
        · have hno : ¬ ok true 0 0 l := by
            rw [HD.out]
            exact fun h => hb h.1
          have HE : Hid (chk l = 20) := by rw [Hid, HK.out, if_neg hno]
          have hdb : decide (bnd ((k : Int) == 0) (o, n)) = false := decide_eq_false hb
          clear hno hb
          go_wp2
          all_goals go_ret
          all_goals exact ⟨by rw [HE.out]; rfl, HF3.out⟩
      · have hkl : k = l.length := by omega
        have hyes : ok true 0 0 l := by
          rw [HO.out, List.drop_eq_nil_of_le (by omega)]
          trivial
        have HE : Hid (chk l = 0) := by rw [Hid, HK.out, if_pos hyes]
        clear hyes
        go_wp2
        all_goals go_ret
        all_goals exact ⟨by rw [HE.out]; rfl, HF.out⟩
end Go.Proofs.YtkphonepblkcdaaGreatDoor

/-
  Package span: Count, Canonical.
-/
namespace Go.Proofs.YtkphonepblkcdaaGreatDoor
open Go.RowKit Mem Spans
open Classical
set_option linter.unusedSimpArgs false
set_option linter.unusedVariables false
set_option maxRecDepth 100000

/-- Count's and Canonical's answers. -/
def ctn (l : List Sp) : Int := if chk l = 0 then cnt l else 0
def cnn (l : List Sp) : Bool := decide (chk l = 0) && shpB true l
theorem cnn_def (l : List Sp) : cnn l = decide (chk l = 0 ∧ shp true l) := by
  unfold cnn
  by_cases h : shp true l
  · rw [(shpB_iff _ _).2 h]; simp [h]
  · rw [show shpB true l = false from by
      cases hb : shpB true l
      · rfl
      · exact absurd ((shpB_iff _ _).1 hb) h]
    simp [h]

set_option maxHeartbeats 2000000 in
theorem canonical_any (v : Value) (l : List Sp) (w : World) (h : SSrc w v l) :
    Calls Tryz.prog 69 #[v] w fun e w' => e = .returned (.bool (cnn l)) ∧ Fr [] w w' := by
  have HSR : Hid (SSrc w v l) := h
  obtain ⟨ao, cap, rfl, hcap, hmax, h64, b, off, ha, hc⟩ := h
  have HC : Hid (∀ j s, l[j]? = some s → w.cell? ⟨b, off + j * 2, none⟩ = some (.int .i64 s.1) ∧ w.cell? ⟨b, off + j * 2 + 1, none⟩ = some (.int .i64 s.2)) := hc
  have HA : Hid (0 < l.length → ao = some ⟨b, off, none⟩) := ha
  clear hc ha h64
  go_enter Tryz.func69, Tryz.ntmps69
  go_wp2_with fail
  refine (check_any _ l w HSR.out).mono ?_
  rintro e w1 ⟨rfl, hf1⟩
  have HF1 : Hid (Fr [] w w1) := hf1
  clear hf1
  by_cases hk0 : chk l = 0
  · have HE : Hid (cnn l = decide (shp true l)) := by rw [Hid, cnn_def]; simp [hk0]
    have hlen := (chk_zero.1 hk0).1
    have HO : Hid (ok true 0 0 l) := (chk_zero.1 hk0).2
    go_wp2
    go_loopw [10] (fun i wr => ∃ (k : Nat), k ≤ l.length ∧ i = .int .i64 (k : Int) ∧ (shp true l ↔ shp ((k : Int) == 0) (l.drop k)) ∧ Fr [] w wr) (fun i _ => l.length - (intOf i).toNat)
    case atStart => exact ⟨0, by omega, rfl, by simp, HF1.out⟩
    case round =>
      obtain ⟨k, hk, rfl, hc, hf⟩ := hrel
      have HF : Hid (Fr [] w wr) := hf
      have HP : Hid (shp true l ↔ shp ((k : Int) == 0) (l.drop k)) := hc
      clear hf hc
      by_cases hlt : k < l.length
      · obtain rfl := HA.out (by omega)
        obtain ⟨s, hs⟩ := at_lt hlt
        have c0 : wr.cell? ⟨b, off + k * 2, none⟩ = some (.int .i64 s.1) := HF.out.cell_some (HC.out k s hs).1 (by simp)
        have c1 : wr.cell? ⟨b, off + k * 2 + 1, none⟩ = some (.int .i64 s.2) := HF.out.cell_some (HC.out k s hs).2 (by simp)
        have HAT : Hid (0 ≤ s.2 ∧ (0 < k → 0 ≤ s.1)) := ⟨(ok_at HO.out k s hs).1, (ok_at HO.out k s hs).2.2.2.2⟩
        have HP2 : Hid (shp true l ↔ 0 < s.2 ∧ (((k : Int) == 0) = true ∨ 0 < s.1) ∧ shp false (l.drop (k + 1))) := by
          have := HP.out
          rw [drop_at hs] at this
          exact this
        clear HP hs hk0
        have HF2 : Hid (Fr [] w (wr.alloc (.cells #[.int .i64 s.1, .int .i64 s.2] 64))) := HF.out.alloc _
        by_cases hn : s.2 = 0
        · have HNO : Hid (decide (shp true l) = false) := by
            rw [Hid, decide_eq_false_iff_not, HP2.out]
            rintro ⟨h, _⟩; omega
          clear HP2
          go_wp2
          go_ret
          exact ⟨by rw [HE.out, HNO.out]; rfl, HF.out.alloc _⟩
        · by_cases hkk : k = 0
          · subst hkk
            simp only [Nat.zero_mul, Nat.add_zero] at c0 c1
            go_wp2
            go_roundw
            case rel =>
              refine ⟨0 + 1, by omega, by go_num, ?_, HF.out.alloc _⟩
              rw [HP2.out]
              have := HAT.out.1
              exact ⟨fun h => h.2.2, fun h => ⟨by omega, .inl rfl, h⟩⟩
            case measure => simp [intOf]; omega
          · by_cases ho : s.1 = 0
            · have HNO : Hid (decide (shp true l) = false) := by
                rw [Hid, decide_eq_false_iff_not, HP2.out]
                rintro ⟨_, h | h, _⟩
                · simp at h; omega
                · omega
              clear HP2
              have hkp : (0 : Int) < (k : Int) := by omega
              go_wp2
              go_ret
              exact ⟨by rw [HE.out, HNO.out]; rfl, HF.out.alloc _⟩
            · have hkp : (0 : Int) < (k : Int) := by omega
              have hn2 : (s.2 == 0) = false := by simpa using hn
              have ho2 : (s.1 == 0) = false := by simpa using ho
              go_wp2
              go_roundw
              case rel =>
                refine ⟨k + 1, by omega, by go_num, ?_, HF.out.alloc _⟩
                rw [HP2.out]
                have e : (((k + 1 : Nat) : Int) == 0) = false := by simp; omega
                rw [e]
                have h1 := HAT.out.1
                have h2 := HAT.out.2 (by omega)
                exact ⟨fun h => h.2.2, fun h => ⟨by omega, .inr (by omega), h⟩⟩
              case measure => simp [intOf]; omega
      · have hkl : k = l.length := by omega
        have HYES : Hid (decide (shp true l) = true) := by
          rw [Hid, decide_eq_true_iff, HP.out, List.drop_eq_nil_of_le (by omega)]
          trivial
        clear HP
        go_wp2
        go_ret
        exact ⟨by rw [HE.out, HYES.out]; rfl, HF.out⟩
  · have HE : Hid (cnn l = false) := by rw [Hid, cnn_def]; simp [hk0]
    go_wp2
    go_ret
    exact ⟨by rw [HE.out]; rfl, HF1.out⟩
end Go.Proofs.YtkphonepblkcdaaGreatDoor

/-
  Package span: All, and the function that it hands back: all buckets' numbers and places, as far as it is asked.
-/
namespace Go.Proofs.YtkphonepblkcdaaGreatDoor
open Go.RowKit Go.Shelf Mem Spans
set_option linter.unusedSimpArgs false
set_option linter.unusedVariables false
set_option maxRecDepth 100000
attribute [local go_sem] Oper.semAt_some

/-- Places with their numbers, from i on. -/
def prs (i : Nat) : List Int → List (Int × Int)
  | [] => []
  | p :: r => ((i : Int), p) :: prs (i + 1) r
theorem prs_length (i : Nat) (l : List Int) : (prs i l).length = l.length := by
  induction l generalizing i with
  | nil => rfl
  | cons x l ih => simp [prs, ih]
theorem prs_snoc (i : Nat) (l : List Int) (x : Int) : prs i (l ++ [x]) = prs i l ++ [(((i + l.length : Nat) : Int), x)] := by
  induction l generalizing i with
  | nil => simp [prs]
  | cons y l ih =>
    simp only [List.cons_append, prs, ih]
    rw [show i + 1 + l.length = i + (y :: l).length from by simp; omega]
theorem prs_take (i : Nat) (l : List Int) (k : Nat) : prs i (l.take k) = (prs i l).take k := by
  induction l generalizing i k with
  | nil => simp [prs]
  | cons y l ih =>
    cases k with
    | zero => simp [prs]
    | succ k => simp [prs, ih]
theorem prs_at (i : Nat) (l : List Int) (k : Nat) : (prs i l)[k]? = l[k]?.map (fun p => (((i + k : Nat) : Int), p)) := by
  induction l generalizing i k with
  | nil => simp [prs]
  | cons y l ih =>
    cases k with
    | zero => simp [prs]
    | succ k =>
      simp only [prs, List.getElem?_cons_succ, ih]
      rw [show i + 1 + k = i + (k + 1) from by omega]
theorem prs_snd (i : Nat) (l : List Int) : (prs i l).map (fun x => x.2) = l := by
  induction l generalizing i with
  | nil => rfl
  | cons y l ih => simp [prs, ih]
/-- All that a list tells. -/
def pls (l : List Sp) : List Int := if chk l = 0 then plc 0 l else []
def tot (l : List Sp) : List (Int × Int) := prs 0 (pls l)
theorem pls_le (l : List Sp) : (pls l).length ≤ 4096 := by
  unfold pls
  split
  · have := ok_cnt (chk_zero.1 (by assumption)).2
    have := this.2.2 (by omega)
    omega
  · simp
theorem pls_rises (l : List Sp) : rises (-1048576) (pls l) := by
  unfold pls
  split
  · exact ok_rising (chk_zero.1 (by assumption)).2
  · trivial
theorem pls_in (l : List Sp) : ∀ x ∈ pls l, in64 x := fun x hx => by
  have := rises_mem (pls_rises l) x hx
  unfold in64
  omega

theorem Fr.grownBy {w w' : World} (h : Fr [] w w') : w.grownBy w' none := ⟨h.os, h.tape, h.output, h.size, fun k hk _ => h.block k hk (by simp)⟩
theorem SSrc.below {n0 : Nat} {w w' : World} {v : Value} {l : List Sp} (h : SSrc w v l) (hb : Below n0 w w') (hn : w.heap.size ≤ n0) : SSrc w' v l := by
  obtain ⟨ao, cap, h1, h2, h3, h4, b, off, h5, h6⟩ := h
  refine ⟨ao, cap, h1, h2, h3, h4, b, off, h5, fun j x hj => ?_⟩
  have c0 := (h6 j x hj).1
  have c1 := (h6 j x hj).2
  have b0 : b < n0 := by have := World.block_lt_of_cell? w _ c0; simp at this; omega
  exact ⟨(hb.cell (p := ⟨b, off + j * 2, none⟩) b0).trans c0, (hb.cell (p := ⟨b, off + j * 2 + 1, none⟩) b0).trans c1⟩




/-- The same, where the body is owed only at pairs whose number is one of the list's. -/
def NPair (N : Nat) : Type := { x : Int × Int // ∃ k : Nat, k < N ∧ x.1 = (k : Int) }
end Go.Proofs.YtkphonepblkcdaaGreatDoor

/-
  Package span: Places.
-/
namespace Go.Proofs.YtkphonepblkcdaaGreatDoor
open Go.RowKit Go.Shelf Mem Spans
set_option linter.unusedSimpArgs false
set_option linter.unusedVariables false
set_option maxRecDepth 100000
attribute [local go_sem] Oper.semAt_some

theorem IOwn.of_owns {B : Nat} {w : World} {v : Value} {zs : List Int} (h : w.ownsRow B 3 1 v zs.length (zs.map (Value.int .i64))) (hn : v = .slice none 0 0 ↔ zs = []) : IOwn B w v zs := by
  rcases h.2 with ⟨h1, h2⟩ | ⟨g, cap, cur, hv, hg, r⟩
  · exact .inl ⟨hn.1 h1, h1⟩
  · refine .inr ⟨g, hg, ?_, h.1, cap, cur, hv, r⟩
    cases zs with
    | nil => have := hn.2 rfl; rw [hv] at this; simp at this
    | cons x r => simp

/-- The places of what came. -/
def sec (pre : List (Int × Int)) : List Int := pre.map (fun x => x.2)
theorem sec_snoc (pre : List (Int × Int)) (x : Int × Int) : sec (pre ++ [x]) = sec pre ++ [x.2] := by simp [sec]
theorem sec_length (pre : List (Int × Int)) : (sec pre).length = pre.length := by simp [sec]

end Go.Proofs.YtkphonepblkcdaaGreatDoor

/-
  Rows of numbers of the call's own: append of one to another.
-/
namespace Go.Proofs.YtkphonepblkcdaaGreatDoor
open Go.RowKit Mem Spans
open Classical
set_option linter.unusedSimpArgs false
set_option linter.unusedVariables false
set_option maxRecDepth 100000

theorem IOwn.owns {B : Nat} {w : World} {v : Value} {zs : List Int} (h : IOwn B w v zs) : w.ownsRow B 3 1 v zs.length (inCells zs) := by
  rcases h with ⟨rfl, rfl⟩ | ⟨g, h1, h2, h3, cap, cur, hv, r⟩
  · exact World.ownsRow_nil _ _ _ _
  · exact ⟨h3, .inr ⟨g, cap, cur, hv, h1, r⟩⟩
theorem IOwn.block {B : Nat} {w : World} {v : Value} {zs : List Int} (h : IOwn B w v zs) : ∀ k, v.ownBlock = some k → B ≤ k := by
  rcases h with ⟨rfl, rfl⟩ | ⟨g, h1, h2, h3⟩
  · intro k hk; simp [Value.ownBlock] at hk
  · obtain ⟨c, rfl⟩ := h3.val
    intro k hk
    have : g = k := by simpa [Value.ownBlock] using hk
    omega
theorem inCells_length (zs : List Int) : (inCells zs).length = zs.length := by simp [inCells]


section
variable (w : World)
end

end Go.Proofs.YtkphonepblkcdaaGreatDoor

/-
  Slices of spans of the call's own: append; how they are built.
-/
namespace Go.Proofs.YtkphonepblkcdaaGreatDoor
open Go.RowKit Mem Spans
set_option linter.unusedSimpArgs false
set_option linter.unusedVariables false
set_option maxRecDepth 100000

theorem Tryz.infoRefSpan : (Tryz.prog.info? 115).map (fun i => (i.zero, i.size, i.bytes)) = some (some (.agg #[.int .i64 0, .int .i64 0]), 2, 16) := by kernel_rfl
theorem info_refspan : ∃ i, Tryz.prog.info? 115 = some i ∧ i.zero = some (.agg #[.int .i64 0, .int .i64 0]) ∧ i.size = 2 ∧ i.bytes = 16 := by
  obtain ⟨i, hi, h⟩ := Option.map_eq_some_iff.1 Tryz.infoRefSpan
  simp only [Prod.mk.injEq] at h
  exact ⟨i, hi, h.1, h.2.1, h.2.2⟩

/-- A slice of spans, as it is built. -/
theorem lit_sp {B : Nat} (e : TypeId) (w : World) (l : List Sp) (h : B ≤ w.heap.size) (h0 : 0 < l.length) (hm : l.length ≤ maxLen) : SOwn e B (w.alloc (.cells (spCells l).toArray e)) (.slice (some ⟨w.heap.size, 0, none⟩) l.length l.length) l :=
  .inr ⟨w.heap.size, h, h0, Row.made (heap_alloc_new _ _) hm (spCells_length l)⟩
theorem lit_sp' {B g : Nat} (e : TypeId) (w : World) (l : List Sp) (hg : w.heap.size = g) (h : B ≤ g) (h0 : 0 < l.length) (hm : l.length ≤ maxLen) : SOwn e B (w.alloc (.cells (spCells l).toArray e)) (.slice (some ⟨g, 0, none⟩) l.length l.length) l := by
  subst hg; exact lit_sp e w l h h0 hm
/-- A slice of numbers, as it is built. -/
theorem lit_in {B : Nat} (w : World) (l : List Int) (h : B ≤ w.heap.size) (h0 : 0 < l.length) (hm : l.length ≤ maxLen) : IOwn B (w.alloc (.cells (inCells l).toArray 3)) (.slice (some ⟨w.heap.size, 0, none⟩) l.length l.length) l :=
  .inr ⟨w.heap.size, h, h0, Row.made (heap_alloc_new _ _) hm (by simp [inCells])⟩

theorem SOwn.owns {e : TypeId} {B : Nat} {w : World} {v : Value} {l : List Sp} (h : SOwn e B w v l) : w.ownsRow B e 2 v l.length (spCells l) := by
  rcases h with ⟨rfl, rfl⟩ | ⟨g, h1, h2, h3, cap, cur, hv, r⟩
  · exact World.ownsRow_nil _ _ _ _
  · exact ⟨h3, .inr ⟨g, cap, cur, hv, h1, r⟩⟩
theorem SOwn.block {e : TypeId} {B : Nat} {w : World} {v : Value} {l : List Sp} (h : SOwn e B w v l) : ∀ k, v.ownBlock = some k → B ≤ k := by
  rcases h with ⟨rfl, rfl⟩ | ⟨g, h1, h2, h3⟩
  · intro k hk; simp [Value.ownBlock] at hk
  · obtain ⟨c, rfl⟩ := h3.val
    intro k hk
    have : g = k := by simpa [Value.ownBlock] using hk
    omega
theorem SOwn.of_owns {e : TypeId} {B : Nat} {w : World} {v : Value} {l : List Sp} (h : w.ownsRow B e 2 v l.length (spCells l)) (hn : v = .slice none 0 0 ↔ l = []) : SOwn e B w v l := by
  rcases h.2 with ⟨h1, h2⟩ | ⟨g, cap, cur, hv, hg, r⟩
  · exact .inl ⟨hn.1 h1, h1⟩
  · refine .inr ⟨g, hg, ?_, h.1, cap, cur, hv, r⟩
    cases l with
    | nil => have := hn.2 rfl; rw [hv] at this; simp at this
    | cons x r => simp
theorem SOwn.mono {e : TypeId} {B C : Nat} {w : World} {v : Value} {l : List Sp} (h : SOwn e B w v l) (hc : C ≤ B) : SOwn e C w v l := by
  rcases h with h | ⟨g, h1, h2, h3⟩
  · exact .inl h
  · exact .inr ⟨g, by omega, h2, h3⟩

theorem run_append_sp {e t : TypeId} {i0 : TypeInfo} (ht : Tryz.prog.underlying t = some (.slice e)) (hi : Tryz.prog.info? e = some i0) (hz : i0.zero = some (.agg #[.int .i64 0, .int .i64 0])) (hs : i0.size = 2) (hb : i0.bytes = 16)
    {B : Nat} {w : World} {v u : Value} {l : List Sp} {s : Sp} (hB : B ≤ w.heap.size) (h : SOwn e B w v l) (h2 : SOwn e B w u [s]) (hl : l.length ≤ 1000000) (ty : TypeId) :
    ∃ v' w', (Builtin.append_ #[t, t] ty #[v, u]).run Tryz.prog w = .ok v' w' ∧ SOwn e B w' v' (l ++ [s]) ∧ Below B w w' := by
  rcases h2 with ⟨h0, _⟩ | ⟨g, hg, hy, hrow⟩
  · simp at h0
  · have hr := hrow
    obtain ⟨c, rfl⟩ := hrow.val
    obtain ⟨v', w', e1, e2, e3, e4⟩ := run_append_own w B t ty e i0 _ 2 16 ht hi hz hs hb rfl (by decide) v l.length (spCells l) h.owns ⟨g, 0, none⟩ 1 c (spCells [s]) rfl
      (fun j x hj => by
        have hjl : j < (spCells [s]).length := (List.getElem?_eq_some_iff.1 hj).1
        rw [spCells_length] at hjl
        have e : (⟨g, 0, none⟩ : Addr).add j = ⟨g, j, none⟩ := by unfold Addr.add; split <;> simp_all
        rw [e, hr.cell j (by simpa using hjl), hj])
      (fun x hx => by
        simp [spCells] at hx
        rcases hx with rfl | rfl <;> rfl) (by unfold maxLen; omega) (by omega) hB
    refine ⟨v', w', e1, SOwn.of_owns ?_ ?_, (Below.refl B w).grown e3 hB h.block⟩
    · rw [spCells_append, List.length_append]; exact e2
    · rw [e4]
      constructor
      · rintro ⟨_, h0⟩; omega
      · intro h0; simp at h0

section
variable (w : World)
theorem wpList_append_sp {ops : Array Oper} {rest : List Oper} {o : Oper} {a : Act} {Q : Exit → Act → World → Prop} (hgd : o.guard = none) (sx x : Operand) (t : TypeId)
    (ho : o.op = .call { callee := .builtin .append, args := #[sx, x], argTypes := #[t, t] })
    {e : TypeId} {i0 : TypeInfo} (ht : Tryz.prog.underlying t = some (.slice e)) (hi : Tryz.prog.info? e = some i0) (hz : i0.zero = some (.agg #[.int .i64 0, .int .i64 0])) (hsz : i0.size = 2) (hb : i0.bytes = 16)
    {B : Nat} {v u : Value} {l : List Sp} {s : Sp} (hB : B ≤ w.heap.size) (hs : a.eval sx = v) (hx : a.eval x = u) (h1 : SOwn e B w v l) (h2 : SOwn e B w u [s]) (hl : l.length ≤ 1000000)
    (h : ∀ v' w', SOwn e B w' v' (l ++ [s]) → Below B w w' → wpList Tryz.prog ops Q rest (a.put o.dst v') w') : wpList Tryz.prog ops Q (o :: rest) a w := by
  refine wpList_plain hgd fun _ hK => ?_
  obtain ⟨v', w', hr, h3, h4⟩ := run_append_sp ht hi hz hsz hb hB h1 h2 hl o.type
  unfold Oper.wp execOp
  simp only [ho, resolve, invoke, builtin, Sem.run_bind, Sem.run_pure, Result.andThen_ok, List.map_toArray, List.map_cons, List.map_nil, hs, hx, hr]
  exact hK _ _ (h v' w' h3 h4)
end

end Go.Proofs.YtkphonepblkcdaaGreatDoor

/-
  The document's Check.
-/
namespace Go.Proofs.YtkphonepblkcdaaGreatDoor
open Go.RowKit Mem Spans
open Classical
set_option linter.unusedSimpArgs false
set_option linter.unusedVariables false
set_option maxRecDepth 100000

theorem dec4096 {n : Int} {c : Bool} (h : c = decide (n ≤ 4096)) : Value.bool (decide (4096 < n)) = Value.bool (!c) := by
  rw [h]
  congr 1
  by_cases hn : n ≤ 4096
  · rw [decide_eq_true hn, decide_eq_false (by omega)]; rfl
  · rw [decide_eq_false hn, decide_eq_true (by omega)]; rfl

set_option maxHeartbeats 8000000 in
theorem lcheck_any (v : Value) (l : List Sp) (w : World) (h : SSrc w v l) :
    Calls Tryz.prog 65 #[v] w fun e w' => e = .returned (.int .i64 (chk l)) ∧ Fr [] w w' := by
  obtain ⟨ao, cap, rfl, hcap, hmax, h64, b, off, ha, hc⟩ := h
  have HC : Hid (∀ j s, l[j]? = some s → w.cell? ⟨b, off + j * 2, none⟩ = some (.int .i64 s.1) ∧ w.cell? ⟨b, off + j * 2 + 1, none⟩ = some (.int .i64 s.2)) := hc
  have HA : Hid (0 < l.length → ao = some ⟨b, off, none⟩) := ha
  have H64 : Hid (∀ s ∈ l, in64 s.1 ∧ in64 s.2) := h64
  clear hc ha h64
  go_enter Tryz.func65, Tryz.ntmps65
  by_cases hlen : 1024 < l.length
  · have HE : Hid (chk l = 12) := by rw [Hid, chk_def]; rw [if_pos hlen]
    go_wp2
    go_ret
    exact ⟨by rw [HE.out]; rfl, Fr.refl _ _⟩
  · have HK : Hid (chk l = if ok true 0 0 l then 0 else 20) := by rw [Hid, chk_def]; rw [if_neg hlen]
    go_wp2
    go_loopw [3, 4, 5] (fun q p i wr => ∃ (k : Nat) (P B : Int), k ≤ l.length ∧ i = .int .i64 (k : Int) ∧ p = .int .i64 P ∧ q = .int .i64 B ∧ (ok true 0 0 l ↔ ok ((k : Int) == 0) P B (l.drop k)) ∧ 0 ≤ P ∧ P ≤ 4096 ∧ -1048576 ≤ B ∧ B ≤ 1048577 ∧ (k = 0 → B = 0) ∧ Fr [] w wr) (fun _ _ i _ => l.length - (intOf i).toNat)
    case atStart => exact ⟨0, 0, 0, by omega, rfl, rfl, rfl, by simp, by omega, by omega, by omega, by omega, fun _ => rfl, Fr.refl _ _⟩
    case round =>
      obtain ⟨k, P, B, hk, rfl, rfl, rfl, hok, hP0, hP1, hB0, hB1, hBk, hf⟩ := hrel
      have HBK : Hid (k = 0 → B = 0) := hBk
      have HF : Hid (Fr [] w wr) := hf
      have HO : Hid (ok true 0 0 l ↔ ok ((k : Int) == 0) P B (l.drop k)) := hok
      clear hf hok hBk
      by_cases hlt : k < l.length
      · obtain rfl := HA.out (by omega)
        obtain ⟨s, hs⟩ := at_lt hlt
        have HM := H64.out s (List.mem_of_getElem? hs)
        have c0 : wr.cell? ⟨b, off + k * 2, none⟩ = some (.int .i64 s.1) := HF.out.cell_some (HC.out k s hs).1 (by simp)
        have c1 : wr.cell? ⟨b, off + k * 2 + 1, none⟩ = some (.int .i64 s.2) := HF.out.cell_some (HC.out k s hs).2 (by simp)
        have HD : Hid (ok true 0 0 l ↔ ok ((k : Int) == 0) P B (s :: l.drop (k + 1))) := by rw [Hid, ← drop_at hs]; exact HO.out
        clear hs HO
        obtain ⟨o, n⟩ := s
        simp only at c0 c1
        obtain ⟨⟨ho1, ho2⟩, ⟨hn1, hn2⟩⟩ := HM
        simp only at ho1 ho2 hn1 hn2
        have HNB : Hid (¬ bnd ((k : Int) == 0) (o, n) → chk l = 20) := fun hb => by rw [HK.out, if_neg (by rw [HD.out]; exact fun h => hb h.1)]
        have HF2 : Hid (Fr [] w (wr.alloc (.cells #[.int .i64 o, .int .i64 n] 115))) := HF.out.alloc _
        have f0 : (wr.alloc (.cells #[.int .i64 o, .int .i64 n] 115)).cell? ⟨wr.heap.size, 0, none⟩ = some (.int .i64 o) := by rw [World.cell?_alloc_at _ _ _ _ rfl]; rfl
        have f1 : (wr.alloc (.cells #[.int .i64 o, .int .i64 n] 115)).cell? ⟨wr.heap.size, 1, none⟩ = some (.int .i64 n) := by rw [World.cell?_alloc_at _ _ _ _ rfl]; rfl
        go_upto_region 8 with fail
        generalize hW : wr.alloc (.cells #[.int .i64 o, .int .i64 n] 115) = wk at *
        go_cut [56] from 21 to 56 (fun c wx => c = .bool (!(decide (bnd ((k : Int) == 0) (o, n)))) ∧ wx = wk)
        case first =>
          by_cases h0 : k = 0
          · have HB0 : Hid (decide (bnd ((k : Int) == 0) (o, n)) = decide (-1048576 ≤ o ∧ o ≤ 1048576 ∧ 0 ≤ n ∧ n ≤ 4096)) := by rw [Hid, h0]; exact decide_eq_decide.2 Iff.rfl
            have HB1 : Hid True := trivial
            have e0 : ((k : Int) == 0) = true := by simp; omega
            have e1 : decide ((0 : Int) < (k : Int)) = false := decide_eq_false (by omega)
            have e2 : decide (0 < k) = false := decide_eq_false (by omega)
            have e3 : ¬ 0 < k := by omega
            clear HD HNB
            clear h0
            by_cases t1 : o < -1048576
            · have d0 : decide (o < -1048576) = true := decide_eq_true t1
              have HV : Hid (decide (bnd ((k : Int) == 0) (o, n)) = false) := by
                rw [Hid, HB0.out]; simp; omega
              clear HB0 HB1
              go_wp2
              go_meet
              exact ⟨by rw [HV.out]; rfl, rfl⟩
            · have d0 : decide (o < -1048576) = false := decide_eq_false t1
              by_cases t2 : 2097152 < o
              · have d1 : decide (2097152 < o) = true := decide_eq_true t2
                have HV : Hid (decide (bnd ((k : Int) == 0) (o, n)) = false) := by
                  rw [Hid, HB0.out]; simp; omega
                clear HB0 HB1
                go_wp2
                go_meet
                exact ⟨by rw [HV.out]; rfl, rfl⟩
              · have d1 : decide (2097152 < o) = false := decide_eq_false t2
                by_cases t3 : 1048576 < o
                · have d2 : decide (1048576 < o) = true := decide_eq_true t3
                  have HV : Hid (decide (bnd ((k : Int) == 0) (o, n)) = false) := by
                    rw [Hid, HB0.out]; simp; omega
                  clear HB0 HB1
                  go_wp2
                  go_meet
                  exact ⟨by rw [HV.out]; rfl, rfl⟩
                · have d2 : decide (1048576 < o) = false := decide_eq_false t3
                  by_cases t4 : n < 0
                  · have d3 : decide (n < 0) = true := decide_eq_true t4
                    have HV : Hid (decide (bnd ((k : Int) == 0) (o, n)) = false) := by
                      rw [Hid, HB0.out]; simp; omega
                    clear HB0 HB1
                    go_wp2
                    go_meet
                    exact ⟨by rw [HV.out]; rfl, rfl⟩
                  · have d3 : decide (n < 0) = false := decide_eq_false t4
                    have HV : Hid (decide (bnd ((k : Int) == 0) (o, n)) = decide (n ≤ 4096)) := by
                      rw [Hid, HB0.out]; exact decide_eq_decide.2 ⟨fun h => h.2.2.2, fun h => ⟨by omega, by omega, by omega, h⟩⟩
                    clear HB0 HB1
                    go_wp2
                    go_meet
                    exact ⟨dec4096 HV.out, rfl⟩
          · have hkf : ((k : Int) == 0) = false := by simp; omega
            have HB1 : Hid (decide (bnd ((k : Int) == 0) (o, n)) = decide (0 ≤ o ∧ o ≤ 2097152 ∧ 0 ≤ n ∧ n ≤ 4096)) := by rw [Hid, hkf]; exact decide_eq_decide.2 Iff.rfl
            have HB0 : Hid True := trivial
            have e1 : decide ((0 : Int) < (k : Int)) = true := decide_eq_true (by omega)
            have e2 : decide (0 < k) = true := decide_eq_true (by omega)
            have e3 : 0 < k := by omega
            clear HD HNB
            by_cases t1 : o < -1048576
            · have d0 : decide (o < -1048576) = true := decide_eq_true t1
              have HV : Hid (decide (bnd ((k : Int) == 0) (o, n)) = false) := by
                rw [Hid, HB1.out]; simp; omega
              clear HB0 HB1
              go_wp2
              go_meet
              exact ⟨by rw [HV.out]; rfl, rfl⟩
            · have d0 : decide (o < -1048576) = false := decide_eq_false t1
              by_cases t2 : 2097152 < o
              · have d1 : decide (2097152 < o) = true := decide_eq_true t2
                have HV : Hid (decide (bnd ((k : Int) == 0) (o, n)) = false) := by
                  rw [Hid, HB1.out]; simp; omega
                clear HB0 HB1
                go_wp2
                go_meet
                exact ⟨by rw [HV.out]; rfl, rfl⟩
              · have d1 : decide (2097152 < o) = false := decide_eq_false t2
                by_cases t3 : o < 0
                · have d2 : decide (o < 0) = true := decide_eq_true t3
                  have HV : Hid (decide (bnd ((k : Int) == 0) (o, n)) = false) := by
                    rw [Hid, HB1.out]; simp; omega
                  clear HB0 HB1
                  go_wp2
                  go_meet
                  exact ⟨by rw [HV.out]; rfl, rfl⟩
                · have d2 : decide (o < 0) = false := decide_eq_false t3
                  by_cases t4 : n < 0
                  · have d3 : decide (n < 0) = true := decide_eq_true t4
                    have HV : Hid (decide (bnd ((k : Int) == 0) (o, n)) = false) := by
                      rw [Hid, HB1.out]; simp; omega
                    clear HB0 HB1
                    go_wp2
                    go_meet
                    exact ⟨by rw [HV.out]; rfl, rfl⟩
                  · have d3 : decide (n < 0) = false := decide_eq_false t4
                    have HV : Hid (decide (bnd ((k : Int) == 0) (o, n)) = decide (n ≤ 4096)) := by
                      rw [Hid, HB1.out]; exact decide_eq_decide.2 ⟨fun h => h.2.2.2, fun h => ⟨by omega, by omega, by omega, h⟩⟩
                    clear HB0 HB1
                    go_wp2
                    go_meet
                    exact ⟨dec4096 HV.out, rfl⟩
        case rest =>
          obtain ⟨hc, hwx⟩ := hcut
          have hwx' := hwx.symm
          clear hwx
          subst hwx'
          by_cases hb : bnd ((k : Int) == 0) (o, n)
          · rw [show (!(decide (bnd ((k : Int) == 0) (o, n)))) = false from by rw [decide_eq_true hb]; rfl] at hc
            subst hc
            have hS : -1048576 ≤ o ∧ o ≤ 2097152 ∧ 0 ≤ n ∧ n ≤ 4096 := by
              obtain ⟨b1, b2, b3, b4⟩ := hb
              simp only at b1 b2 b3 b4
              refine ⟨?_, ?_, b3, b4⟩
              · unfold lo at b1; split at b1 <;> omega
              · unfold hi at b2; split at b2 <;> omega
            have HBN : Hid (bnd ((k : Int) == 0) (o, n)) := hb
            have HLOW : Hid (-1048576 ≤ B + o) := by
              by_cases h0 : k = 0
              · have := HBK.out h0; rw [Hid]; omega
              · have e : ((k : Int) == 0) = false := by simp; omega
                have h1 := hb.1
                rw [e] at h1
                have h2 : 0 ≤ o := by simpa [lo] using h1
                rw [Hid]; omega
            obtain ⟨hS1, hS2, hS3, hS4⟩ := hS
            have hlow := HLOW.out
            clear hb HNB
            by_cases t2 : B + o ≤ 1048576
            · obtain ⟨M, rfl⟩ : ∃ M : Nat, n = (M : Int) := ⟨n.toNat, by omega⟩
              have tl1 : decide (B + o < -1048576) = false := decide_eq_false (by omega)
              have tl2 : decide (1048576 < B + o) = false := decide_eq_false (by omega)
              go_wp2
              go_loopw [3, 4, 7] (fun q p i wx => ∃ (m : Nat), m ≤ M ∧ i = .int .i64 (m : Int) ∧ p = .int .i64 (P + (m : Int)) ∧ q = .int .i64 (B + o + (m : Int)) ∧ (m = 0 ∨ B + o + (m : Int) - 1 ≤ 1048576) ∧ wx = wk) (fun _ _ i _ => M - (intOf i).toNat)
              case atStart => exact ⟨0, by omega, rfl, by simp, by simp, .inl rfl, rfl⟩
              case round =>
                obtain ⟨m, hm, rfl, rfl, rfl, hmb, rfl⟩ := hrel
                have HMB : Hid (m = 0 ∨ B + o + (m : Int) - 1 ≤ 1048576) := hmb
                clear hmb
                by_cases hmlt : m < M
                · by_cases t3 : 1048576 < B + o + (m : Int)
                  · have HE : Hid (chk l = 20) := by
                      rw [Hid, HK.out, if_neg]
                      rw [HD.out]
                      intro h
                      have := h.2.2.2.1
                      simp only at this
                      omega
                    clear HD
                    go_wp2
                    go_ret
                    exact ⟨by rw [HE.out]; rfl, HF2.out⟩
                  · go_wp2
                    go_roundw
                    case rel => exact ⟨m + 1, by omega, by go_num, by rw [show P + ((m + 1 : Nat) : Int) = P + (m : Int) + 1 from by omega], by rw [show B + o + ((m + 1 : Nat) : Int) = B + o + (m : Int) + 1 from by omega], .inr (by omega), by trivial⟩
                    case measure => simp [intOf]; omega
                · obtain rfl : m = M := by omega
                  have hb3 : B + o + (m : Int) - 1 ≤ 1048576 := by
                    rcases HMB.out with h | h
                    · omega
                    · exact h
                  by_cases t4 : P + (m : Int) ≤ 4096
                  · go_wp2
                    go_roundw
                    case rel =>
                      refine ⟨k + 1, P + (m : Int), B + o + (m : Int), by omega, by go_num, rfl, rfl, ?_, by omega, by omega, by omega, by omega, by omega, HF2.out⟩
                      have e : (((k + 1 : Nat) : Int) == 0) = false := by simp; omega
                      rw [HD.out, e]
                      exact ⟨fun h => h.2.2.2.2, fun h => ⟨HBN.out, t4, t2, hb3, h⟩⟩
                    case measure => simp [intOf]; omega
                  · have HE : Hid (chk l = 20) := by
                      rw [Hid, HK.out, if_neg]
                      rw [HD.out]
                      exact fun h => t4 h.2.1
                    clear HD
                    go_wp2
                    go_ret
                    exact ⟨by rw [HE.out]; rfl, HF2.out⟩
            · have tl1 : decide (B + o < -1048576) = false := decide_eq_false (by omega)
              have tl2 : decide (1048576 < B + o) = true := decide_eq_true (by omega)
              have HE : Hid (chk l = 20) := by
                rw [Hid, HK.out, if_neg]
                rw [HD.out]
                exact fun h => t2 h.2.2.1
              clear HD
              go_wp2
              all_goals go_ret
              all_goals exact ⟨by rw [HE.out]; rfl, HF2.out⟩
          · rw [show (!(decide (bnd ((k : Int) == 0) (o, n)))) = true from by rw [decide_eq_false hb]; rfl] at hc
            subst hc
            have HE : Hid (chk l = 20) := HNB.out hb
            clear HNB HD hb
            go_wp2
            go_ret
            exact ⟨by rw [HE.out]; rfl, HF2.out⟩
      · have hkl : k = l.length := by omega
        have hyes : ok true 0 0 l := by
          rw [HO.out, List.drop_eq_nil_of_le (by omega)]
          trivial
        have HE : Hid (chk l = 0) := by rw [Hid, HK.out, if_pos hyes]
        clear hyes
        go_wp2
        go_ret
        exact ⟨by rw [HE.out]; rfl, HF.out⟩
end Go.Proofs.YtkphonepblkcdaaGreatDoor
