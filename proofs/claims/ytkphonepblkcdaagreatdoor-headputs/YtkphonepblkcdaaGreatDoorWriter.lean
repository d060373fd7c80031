/-
  Package stream: the writer: NewWriter, Bit, Put, Len, Bytes, Copy.
-/
import Derived.Test.YtkphonepblkcdaaGreatDoorFirst
namespace Go.Proofs.YtkphonepblkcdaaGreatDoor
open Go.RowKit Mem Bits
set_option linter.unusedSimpArgs false
set_option linter.unusedVariables false

/-- The writer at block p, its bytes in block g, has the bits l. -/
def Wr (w : World) (p g : Nat) (l : List Bool) : Prop :=
  p ≠ g ∧ ∃ v, w.heap[p]? = some (.cells #[v, .int .i64 (l.length : Int)] 79 (0, 0)) ∧ Row w 5 1 v g (nbs l.length) ((pack l).map u8)

theorem Wr.kept {w w' : World} {p g : Nat} {l : List Bool} {S : List Nat} (h : Wr w p g l) (f : Fr S w w') (hp : p ∉ S) (hg : g ∉ S) : Wr w' p g l := by
  obtain ⟨h0, v, h1, h2⟩ := h
  exact ⟨h0, v, f.heap h1 hp, h2.kept f hg⟩
theorem Wr.lt {w : World} {p g : Nat} {l : List Bool} (h : Wr w p g l) : p < w.heap.size ∧ g < w.heap.size := by
  obtain ⟨_, v, h1, h2⟩ := h; exact ⟨lt_of_heap h1, h2.lt⟩

theorem Src.ofRow {w : World} {v : Value} {g : Nat} {bs : List Nat} (h : Row w 5 1 v g bs.length (bs.map u8)) (hb : ∀ x ∈ bs, x < 256) : Src w v bs := by
  have hc := h.cell
  obtain ⟨_, cap, cur, rfl, hg, hn, hm, hs, ht⟩ := h
  refine ⟨_, cap, rfl, hn, hm, fun _ => ⟨g, 0, rfl, fun j hj => ?_⟩, hb⟩
  rw [Nat.zero_add, hc j (by omega)]
  simp [hj]

theorem Wr.new {w1 : World} {g : Nat} {l : List Bool} (hg : w1.heap[g]? = some (.cells ((pack l).map u8).toArray 5 (0, 0))) (hl : l.length ≤ 4294967296) :
    Wr (w1.alloc (.cells #[.slice (some ⟨g, 0, none⟩) (nbs l.length) (nbs l.length), .int .i64 (l.length : Int)] 79)) w1.heap.size g l := by
  have hlt := lt_of_heap hg
  refine ⟨by omega, _, heap_alloc_new w1 _, ?_⟩
  refine Row.made ?_ (by unfold maxLen nbs; omega) (by simp)
  exact (Below.heap_alloc _ _ _ hlt).trans hg

set_option maxHeartbeats 1000000 in
theorem newWriter_ok (v : Value) (bs : List Nat) (n : Nat) (w : World) (hs : Src w v bs) (hn : nbs n ≤ bs.length) (hb : n ≤ 4294967296) :
    Calls Tryz.prog 14 #[v, .int .i64 (n : Int)] w fun e w' => ∃ p g, e = .returned (.tuple #[.pointer (some ⟨p, 0, none⟩), .int .i64 0]) ∧ Wr w' p g (unpack bs n) ∧ w.heap.size ≤ p ∧ w.heap.size ≤ g ∧ Fr [] w w' := by
  have hs0 := hs
  obtain ⟨ao, cap, rfl, hc1, hc2, hcell, h256⟩ := hs
  have ht : decide (nbs n ≤ bs.length) = true := decide_eq_true hn
  clear hcell
  go_enter Tryz.func14, Tryz.ntmps14
  go_wp2_with (first
    | (go_at_call 39; refine (has_any _ _ _ _ _ (by omega)).mono ?_; rintro e w' ⟨rfl, rfl⟩)
    | (go_at_call 40; refine (first_any _ bs n _ (by exact hs0) hn hb).mono ?_; rintro e w' ⟨rfl, hg, hf, hz⟩))
  go_ret2
  have hl : (unpack bs n).length = n := by simp
  have hw := Wr.new hg (by rw [hl]; exact hb)
  rw [hl] at hw
  exact ⟨_, _, rfl, hw, by omega, Nat.le_refl _, hf.alloc _⟩

set_option maxHeartbeats 1000000 in
theorem newWriter_no (ao : Option Addr) (len cap : Nat) (n : Int) (w : World) (h1 : n ≤ 9223372036854775807) (h : n < 0 ∨ len < nbs n.toNat) :
    Calls Tryz.prog 14 #[.slice ao len cap, .int .i64 n] w fun e w' => e = .returned (.tuple #[.pointer none, .int .i64 11]) ∧ w = w' := by
  by_cases h0 : n < 0
  · go_enter Tryz.func14, Tryz.ntmps14
    go_wp2_with (first
      | (go_at_call 39; refine (has_neg _ _ _ _ _ h0).mono ?_; rintro e w' ⟨rfl, rfl⟩))
    go_ret2
    exact ⟨rfl, rfl⟩
  · obtain ⟨m, rfl⟩ := Int.eq_ofNat_of_zero_le (show 0 ≤ n by omega)
    have ht : decide (nbs m ≤ len) = false := decide_eq_false (by simp at h; omega)
    go_enter Tryz.func14, Tryz.ntmps14
    go_wp2_with (first
      | (go_at_call 39; refine (has_any _ _ _ _ _ (by omega)).mono ?_; rintro e w' ⟨rfl, rfl⟩))
    go_ret2
    exact ⟨rfl, rfl⟩

theorem pack_step (l : List Bool) (h : l.length % 8 ≠ 0) : nbs l.length = l.length / 8 + 1 := by unfold nbs; omega
theorem pack_new (l : List Bool) (h : l.length % 8 = 0) : nbs l.length = l.length / 8 ∧ pack l ++ [0] = packN l (l.length / 8 + 1) := by
  have e : nbs l.length = l.length / 8 := by unfold nbs; omega
  exact ⟨e, by rw [packN_succ _ _ (by omega)]; unfold pack; rw [e]⟩

/-- What stands behind the bit that was put: the byte that it is in, and how many there are. -/
theorem Wr.done {w : World} {p g m : Nat} {l l' : List Bool} {v : Value} (hp : p ≠ g) (hb : w.heap[p]? = some (.cells #[v, .int .i64 (l.length : Int)] 79 (0, 0)))
    (hr : Row w 5 1 v g m ((packN l' m).map u8)) (hl : l'.length = l.length + 1) (hm : m = l.length / 8 + 1) : Wr (w.setCell ⟨p, 1, none⟩ (.int .i64 ((l.length : Int) + 1))) p g l' := by
  have e : nbs l'.length = m := by unfold nbs; omega
  refine ⟨hp, v, ?_, ?_⟩
  · simp [World.setCell, Array.getElem?_modify, hb, hl]
  · unfold pack
    rw [e]
    exact hr.kept ((Fr.refl [p] w).setCell _ _ (.inl (by simp))) (by simpa using Ne.symm hp)

/-- The writer's state once there is room for one more bit. -/
def Wroom (w w1 : World) (p g N : Nat) (l : List Bool) : Prop :=
  ∃ g1 cap1, p ≠ g1 ∧ w1.heap[p]? = some (.cells #[.slice (some ⟨g1, 0, none⟩) (N / 8 + 1) cap1, .int .i64 (N : Int)] 79 (0, 0)) ∧
    Row w1 5 1 (.slice (some ⟨g1, 0, none⟩) (N / 8 + 1) cap1) g1 (N / 8 + 1) ((packN l (N / 8 + 1)).map u8) ∧ (g1 = g ∨ w.heap.size ≤ g1) ∧ Fr [p, g] w w1

theorem Wroom.same {w : World} {p g N : Nat} {l : List Bool} {v : Value} (hpg : p ≠ g) (hN : l.length = N) (h8 : N % 8 ≠ 0) (hp : w.heap[p]? = some (.cells #[v, .int .i64 (N : Int)] 79 (0, 0)))
    (hr : Row w 5 1 v g (nbs N) ((pack l).map u8)) : Wroom w w p g N l := by
  have e : nbs N = N / 8 + 1 := by rw [← hN]; exact pack_step l (by rw [hN]; exact h8)
  obtain ⟨cap, rfl⟩ := hr.val
  rw [e] at hr hp
  exact ⟨g, cap, hpg, hp, by unfold pack at hr; rw [hN, e] at hr; exact hr, .inl rfl, Fr.refl _ _⟩

theorem Wroom.grown {w w1 : World} {p g g1 N : Nat} {l : List Bool} {v v1 : Value} {o : Obj} (hpg : p ≠ g) (hN : l.length = N) (h8 : N % 8 = 0) (hp : w.heap[p]? = some (.cells #[v, .int .i64 (N : Int)] 79 (0, 0)))
    (hr : Row w1 5 1 v1 g1 (nbs N + 1) ((pack l).map u8 ++ [.int .u8 0])) (hg : g1 = g ∨ g1 = w.heap.size + 1) (hf : Fr [g] (w.alloc o) w1) : Wroom w (w1.setCell ⟨p, 0, none⟩ v1) p g N l := by
  have hpl := lt_of_heap hp
  have hp1 : w1.heap[p]? = some (.cells #[v, .int .i64 (N : Int)] 79 (0, 0)) := hf.heap ((Below.heap_alloc _ _ _ hpl).trans hp) (by simpa using hpg)
  have hsz : (w.alloc o).heap.size = w.heap.size + 1 := by simp
  have hne : p ≠ g1 := by omega
  obtain ⟨e1, e2⟩ := pack_new l (by rw [hN]; exact h8)
  rw [hN] at e1 e2
  obtain ⟨cap, rfl⟩ := hr.val
  rw [e1] at hr ⊢
  refine ⟨g1, cap, hne, ?_, ?_, by omega, ?_⟩
  · simp [World.setCell, Array.getElem?_modify, hp1]
  · rw [← e2, List.map_append]
    exact hr.kept ((Fr.refl [p] w1).setCell _ _ (.inl (by simp))) (by simpa using Ne.symm hne)
  · exact (((Fr.refl [p, g] w).alloc o).trans hf (by simp)).setCell _ _ (.inl (by simp))

/-- A bit that is put: the byte is stored anew, if it is 1. -/
theorem Wroom.set {w w1 : World} {p g1 N cap1 : Nat} {l : List Bool} (hN : l.length = N) (hne : p ≠ g1) (hp : w1.heap[p]? = some (.cells #[.slice (some ⟨g1, 0, none⟩) (N / 8 + 1) cap1, .int .i64 (N : Int)] 79 (0, 0)))
    (hr : Row w1 5 1 (.slice (some ⟨g1, 0, none⟩) (N / 8 + 1) cap1) g1 (N / 8 + 1) ((packN l (N / 8 + 1)).map u8)) :
    Wr ((w1.setCell ⟨g1, N / 8, none⟩ (.int .u8 ((byteAt l (N / 8) ||| mk N : Nat) : Int))).setCell ⟨p, 1, none⟩ (.int .i64 ((N : Int) + 1))) p g1 (l ++ [true]) := by
  have hs := hr.stored (N / 8) (.int .u8 ((byteAt l (N / 8) ||| mk N : Nat) : Int))
  subst hN
  refine Wr.done (l := l) (m := l.length / 8 + 1) (v := .slice (some ⟨g1, 0, none⟩) (l.length / 8 + 1) cap1) hne ?_ ?_ (by simp) rfl
  · exact ((Fr.refl [g1] w1).setCell _ _ (.inl (by simp))).heap hp (by simpa using hne)
  · rw [packN_true, List.map_set]; exact hs

theorem setCell_comm_drew {w : World} (a b : Addr) (u v : Value) : (w.setCell a u).drew.setCell b v = ((w.setCell a u).setCell b v).drew := rfl
theorem Wr.drew {w : World} {p g : Nat} {l : List Bool} (h : Wr w p g l) : Wr w.drew p g l := h

end Go.Proofs.YtkphonepblkcdaaGreatDoor
