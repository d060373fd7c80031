/-
  Chains of *fail.Error in memory, each with the next one within it, at whose end is nil or the sentinel; and fail.first over them.
-/
import Derived.Test.YtkphonepblkcdaaGreatDoorAs
namespace Go.Proofs.YtkphonepblkcdaaGreatDoor
open Go.RowKit Go.Extern.Stop Go.Stop Go.Extern Mem
set_option linter.unusedVariables false

/-- One *fail.Error: its block, its code, place and number. -/
structure Node where
  b : Nat
  c : Int
  p : ByteArray
  a : Int

def errOf (b : Nat) : Value := .iface 110 (.pointer (some ⟨b, 0, none⟩))
/-- What is at a chain's end: nil (a program without the sentinel). -/
def IsLast (sa : Addr) (v : Value) : Prop := v = .nilIface
/-- The value v is the error at the head of a chain of these, at whose end is 'last'; an outer one is younger. -/
def Chain (w : World) (last : Value) : List Node → Value → Prop
  | [], v => v = last
  | n :: r, v => v = errOf n.b ∧ (∀ m ∈ r, m.b < n.b) ∧ ∃ u, w.heap[n.b]? = some (.cells #[.int .i64 n.c, .string n.p, .int .i64 n.a, u] 112 (0, 0)) ∧ Chain w last r u
/-- The pointer to the first of them. -/
def hd : List Node → Value
  | [] => .pointer none
  | n :: _ => .pointer (some ⟨n.b, 0, none⟩)

theorem Chain.kept {w w' : World} {last : Value} {S : List Nat} (f : Fr S w w') : ∀ {l : List Node} {v : Value}, Chain w last l v → (∀ n ∈ l, n.b ∉ S) → Chain w' last l v
  | [], v, h, _ => h
  | n :: r, v, ⟨h1, h2, u, h3, h4⟩, hs => ⟨h1, h2, u, f.heap h3 (hs n (by simp)), Chain.kept f h4 (fun m hm => hs m (by simp [hm]))⟩
theorem Chain.lt {w : World} {last : Value} : ∀ {l : List Node} {v : Value}, Chain w last l v → ∀ n ∈ l, n.b < w.heap.size
  | [], _, _, n, hn => by simp at hn
  | m :: r, v, ⟨_, _, u, h3, h4⟩, n, hn => by
    rcases List.mem_cons.1 hn with rfl | h
    · exact lt_of_heap h3
    · exact Chain.lt h4 n h
theorem Chain.tail {w : World} {last : Value} {n : Node} {r : List Node} {v : Value} (h : Chain w last (n :: r) v) :
    ∃ u, w.heap[n.b]? = some (.cells #[.int .i64 n.c, .string n.p, .int .i64 n.a, u] 112 (0, 0)) ∧ Chain w last r u := h.2.2
theorem Chain.kept0 {w w' : World} {last : Value} (f : Fr [] w w') {l : List Node} {v : Value} (h : Chain w last l v) : Chain w' last l v := h.kept f (fun n _ => by simp)

/-- The package-level variables that the layer's code reads. -/
structure Env (sa : Addr) (w : World) : Prop where
  ty : TypeVar w
theorem Env.kept {sa : Addr} {w w' : World} {S : List Nat} (h : Env sa w) (f : Fr S w w') (hs : ∀ x ∈ S, 2 ≤ x) : Env sa w' :=
  ⟨f.cell_some h.ty (fun hm => by have := hs _ hm; simp at this)⟩
theorem Env.kept0 {sa : Addr} {w w' : World} (h : Env sa w) (f : Fr [] w w') : Env sa w' := h.kept f (by simp)

set_option maxHeartbeats 1000000 in
theorem first_nil (w : World) : Calls Tryz.prog 64 #[.nilIface] w fun e w' => e = .returned (.pointer none) ∧ Fr [] w w' := by
  go_enter Tryz.func64, Tryz.ntmps64
  go_wp2_with fail
  refine (as_nil _ _).mono ?_
  rintro e w' ⟨rfl, rfl⟩
  go_wp2_with fail
  go_ret
  exact ⟨rfl, (Fr.refl _ _).alloc _⟩


/-- fail.first of what is at a chain's end. -/
theorem first_last (sa : Addr) (last : Value) (w : World) (hE : Env sa w) (hl : IsLast sa last) : Calls Tryz.prog 64 #[last] w fun e w' => e = .returned (.pointer none) ∧ Fr [] w w' := by
  have e : last = .nilIface := hl
  subst e
  exact first_nil w

set_option maxHeartbeats 1000000 in
theorem first_node (e : Addr) (w : World) (hg : TypeVar w) : Calls Tryz.prog 64 #[.iface 110 (.pointer (some e))] w fun v w' => v = .returned (.pointer (some e)) ∧ Fr [] w w' := by
  have hg1 : TypeVar (w.alloc (.cells #[.pointer none] 110)) := ((Fr.refl [] w).alloc _).cell_some hg (by simp)
  go_enter Tryz.func64, Tryz.ntmps64
  go_wp2_with fail
  refine (as_hit e ⟨w.heap.size, 0, none⟩ (.pointer none) _ hg1 (by simp) (by simp)).mono ?_
  rintro v w' ⟨rfl, rfl⟩
  go_wp2_with fail
  go_ret
  refine ⟨?_, ?_⟩
  · simp
  · exact (((((Fr.refl [] w).alloc _).alloc _).alloc _).alloc _).alloc _

/-- fail.first over a chain: the pointer to its first *fail.Error, nil if there is none. -/
theorem first_chain (sa : Addr) (last : Value) (l : List Node) (v : Value) (w : World) (hE : Env sa w) (hl : IsLast sa last) (h : Chain w last l v) :
    Calls Tryz.prog 64 #[v] w fun e w' => e = .returned (hd l) ∧ Fr [] w w' := by
  rcases l with _ | ⟨n, r⟩
  · have : v = last := h
    subst this
    exact first_last sa v w hE hl
  · obtain ⟨rfl, -⟩ := h
    exact first_node _ w hE.ty
end Go.Proofs.YtkphonepblkcdaaGreatDoor
