/-
  Chains of *fail.Error in memory, each with the next one within it, at whose end is nil or the sentinel; and fail.first over them.
-/
import Derived.Test.YtobhpachigagkaaDoorAs
import Derived.Lib.LaidTab
import Derived.Lib.ItoaNum
namespace Go.Proofs.YtobhpachigagkaaDoor
open Go.RowKit Go.Extern.Stop Go.Stop Go.Extern Mem
set_option linter.unusedVariables false

/-- One *fail.Error: its block, its code, place and number. -/
structure Node where
  b : Nat
  c : Int
  p : ByteArray
  a : Int

def errOf (b : Nat) : Value := .iface 50 (.pointer (some ⟨b, 0, none⟩))
def sentOf (sa : Addr) : Value := .iface 121 (.pointer (some sa))
/-- What is at a chain's end: nil, or the sentinel. -/
def IsLast (sa : Addr) (v : Value) : Prop := v = .nilIface ∨ v = sentOf sa
/-- The value v is the error at the head of a chain of these, at whose end is 'last'; an outer one is younger. -/
def Chain (w : World) (last : Value) : List Node → Value → Prop
  | [], v => v = last
  | n :: r, v => v = errOf n.b ∧ (∀ m ∈ r, m.b < n.b) ∧ ∃ u, w.heap[n.b]? = some (.cells #[.int .i64 n.c, .string n.p, .int .i64 n.a, u] 54 (0, 0)) ∧ Chain w last r u
/-- The pointer to the first of them. -/
def hd : List Node → Value
  | [] => .pointer none
  | n :: _ => .pointer (some ⟨n.b, 0, none⟩)

theorem Chain.kept {w w' : World} {last : Value} {S : List Nat} (f : Fr S w w') : ∀ {l : List Node} {v : Value}, Chain w last l v → (∀ n ∈ l, n.b ∉ S) → Chain w' last l v
  | [], v, h, _ => h
  | n :: r, v, ⟨h1, h2, u, h3, h4⟩, hs => ⟨h1, h2, u, f.heap h3 (hs n (by simp)), Chain.kept f h4 (fun m hm => hs m (by simp [hm]))⟩
theorem Chain.lt {w : World} {last : Value} : ∀ {l : List Node} {v : Value}, Chain w last l v → ∀ n ∈ l, n.b < w.heap.size
  | [], _, _, n, hn => by simp at hn
  | m :: r, v, ⟨_, _, u, h3, h4⟩, n, hn => by
    rcases List.mem_cons.1 hn with rfl | h
    · exact lt_of_heap h3
    · exact Chain.lt h4 n h
theorem Chain.tail {w : World} {last : Value} {n : Node} {r : List Node} {v : Value} (h : Chain w last (n :: r) v) :
    ∃ u, w.heap[n.b]? = some (.cells #[.int .i64 n.c, .string n.p, .int .i64 n.a, u] 54 (0, 0)) ∧ Chain w last r u := h.2.2
theorem Chain.kept0 {w w' : World} {last : Value} (f : Fr [] w w') {l : List Node} {v : Value} (h : Chain w last l v) : Chain w' last l v := h.kept f (fun n _ => by simp)

/-- The package-level variables that the layer's code reads. -/
structure Env (sa : Addr) (w : World) : Prop where
  ty : TypeVar w
  sent : w.cell? ⟨0, 0, none⟩ = some (sentOf sa)
  tab : Lib.TabIs Tryd.prog w "internal/strconv.uint64pow10" .u64 Lib.pow10Tab
theorem Tryd.tabName : Tryd.prog.globalNamed "internal/strconv.uint64pow10" = some 2 := by kernel_rfl
theorem tab_kept {w w' : World} {S : List Nat} (h : Lib.TabIs Tryd.prog w "internal/strconv.uint64pow10" .u64 Lib.pow10Tab) (f : Fr S w w') (hs : 2 ∉ S) :
    Lib.TabIs Tryd.prog w' "internal/strconv.uint64pow10" .u64 Lib.pow10Tab := by
  unfold Lib.TabIs World.var? at h ⊢
  simp only [Tryd.tabName, Option.bind_some] at h ⊢
  have hl : 2 < w.heap.size := by
    rcases Nat.lt_or_ge 2 w.heap.size with h' | h'
    · exact h'
    · simp [Array.getElem?_eq_none h'] at h
  rw [f.block _ hl hs]
  exact h
theorem Env.kept {sa : Addr} {w w' : World} {S : List Nat} (h : Env sa w) (f : Fr S w w') (hs : ∀ x ∈ S, 5 ≤ x) : Env sa w' :=
  ⟨f.cell_some h.ty (fun hm => by have := hs _ hm; simp at this), f.cell_some h.sent (fun hm => by have := hs _ hm; simp at this), tab_kept h.tab f (fun hm => by have := hs _ hm; simp at this)⟩
theorem Env.kept0 {sa : Addr} {w w' : World} (h : Env sa w) (f : Fr [] w w') : Env sa w' := h.kept f (by simp)

set_option maxHeartbeats 1000000 in
theorem first_nil (w : World) : Calls Tryd.prog 21 #[.nilIface] w fun e w' => e = .returned (.pointer none) ∧ Fr [] w w' := by
  go_enter Tryd.func21, Tryd.ntmps21
  go_wp2_with fail
  refine (as_nil _ _).mono ?_
  rintro e w' ⟨rfl, rfl⟩
  go_wp2_with fail
  go_ret
  exact ⟨rfl, (Fr.refl _ _).alloc _⟩

set_option maxHeartbeats 1000000 in
theorem first_sent (p : Value) (w : World) (hg : TypeVar w) : Calls Tryd.prog 21 #[.iface 121 p] w fun e w' => e = .returned (.pointer none) ∧ Fr [] w w' := by
  have hg1 : TypeVar (w.alloc (.cells #[.pointer none] 50)) := ((Fr.refl [] w).alloc _).cell_some hg (by simp)
  go_enter Tryd.func21, Tryd.ntmps21
  go_wp2_with fail
  refine (as_miss _ ⟨w.heap.size, 0, none⟩ _ hg1 (by simp)).mono ?_
  rintro e w' ⟨rfl, rfl⟩
  go_wp2_with fail
  go_ret
  exact ⟨rfl, ((((Fr.refl _ _).alloc _).alloc _).alloc _).alloc _⟩

set_option maxHeartbeats 1000000 in
theorem first_node (e : Addr) (w : World) (hg : TypeVar w) : Calls Tryd.prog 21 #[.iface 50 (.pointer (some e))] w fun v w' => v = .returned (.pointer (some e)) ∧ Fr [] w w' := by
  have hg1 : TypeVar (w.alloc (.cells #[.pointer none] 50)) := ((Fr.refl [] w).alloc _).cell_some hg (by simp)
  go_enter Tryd.func21, Tryd.ntmps21
  go_wp2_with fail
  refine (as_hit e ⟨w.heap.size, 0, none⟩ (.pointer none) _ hg1 (by simp) (by simp)).mono ?_
  rintro v w' ⟨rfl, rfl⟩
  go_wp2_with fail
  go_ret
  refine ⟨?_, ?_⟩
  · simp
  · exact (((((Fr.refl [] w).alloc _).alloc _).alloc _).alloc _).alloc _

/-- fail.first over a chain: the pointer to its first *fail.Error, nil if there is none. -/
theorem first_chain (sa : Addr) (last : Value) (l : List Node) (v : Value) (w : World) (hE : Env sa w) (hl : IsLast sa last) (h : Chain w last l v) :
    Calls Tryd.prog 21 #[v] w fun e w' => e = .returned (hd l) ∧ Fr [] w w' := by
  rcases l with _ | ⟨n, r⟩
  · have : v = last := h
    subst this
    rcases hl with rfl | rfl
    · exact first_nil w
    · exact first_sent _ w hE.ty
  · obtain ⟨rfl, -⟩ := h
    exact first_node _ w hE.ty
end Go.Proofs.YtobhpachigagkaaDoor
