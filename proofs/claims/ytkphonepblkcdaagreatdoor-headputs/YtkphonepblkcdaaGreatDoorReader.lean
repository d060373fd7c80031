/-
  Package stream: the reader: NewReader, Get, Bit, Left, Pos, Short.
-/
import Derived.Test.YtkphonepblkcdaaGreatDoorWriter
import Derived.BigQuiet
import Derived.Deep.QuietTactic
namespace Go.Proofs.YtkphonepblkcdaaGreatDoor
open Go.RowKit Mem Bits
set_option linter.unusedSimpArgs false
set_option linter.unusedVariables false

/-- The reader at block p, its bytes in block g, over the bits l: it stands at pos, ends at lim, and was short or not. -/
def Rd (w : World) (p g : Nat) (l : List Bool) (pos lim : Nat) (sh : Bool) : Prop :=
  p ≠ g ∧ pos ≤ lim ∧ lim ≤ l.length ∧ ∃ v, w.heap[p]? = some (.cells #[v, .int .i64 (lim : Int), .int .i64 (pos : Int), .bool sh] 93 (0, 0)) ∧ Row w 5 1 v g (nbs l.length) ((pack l).map u8)

theorem Rd.kept {w w' : World} {p g : Nat} {l : List Bool} {pos lim : Nat} {sh : Bool} {S : List Nat} (h : Rd w p g l pos lim sh) (f : Fr S w w') (hp : p ∉ S) (hg : g ∉ S) : Rd w' p g l pos lim sh := by
  obtain ⟨h0, h1, h2, v, h3, h4⟩ := h
  exact ⟨h0, h1, h2, v, f.heap h3 hp, h4.kept f hg⟩
theorem Rd.lt {w : World} {p g : Nat} {l : List Bool} {pos lim : Nat} {sh : Bool} (h : Rd w p g l pos lim sh) : p < w.heap.size ∧ g < w.heap.size := by
  obtain ⟨_, _, _, v, h1, h2⟩ := h; exact ⟨lt_of_heap h1, h2.lt⟩

theorem Rd.new {w1 : World} {g : Nat} {l : List Bool} (hg : w1.heap[g]? = some (.cells ((pack l).map u8).toArray 5 (0, 0))) (hl : l.length ≤ 4294967296) :
    Rd (w1.alloc (.cells #[.slice (some ⟨g, 0, none⟩) (nbs l.length) (nbs l.length), .int .i64 (l.length : Int), .int .i64 0, .bool false] 93)) w1.heap.size g l 0 l.length false := by
  have hlt := lt_of_heap hg
  refine ⟨by omega, Nat.zero_le _, Nat.le_refl _, _, heap_alloc_new w1 _, ?_⟩
  refine Row.made ?_ (by unfold maxLen nbs; omega) (by simp)
  exact (Below.heap_alloc _ _ _ hlt).trans hg

set_option maxHeartbeats 1000000 in
theorem newReader_ok (v : Value) (bs : List Nat) (n : Nat) (w : World) (hs : Src w v bs) (hn : nbs n ≤ bs.length) (hb : n ≤ 4294967296) :
    Calls Tryz.prog 21 #[v, .int .i64 (n : Int)] w fun e w' => ∃ p g, e = .returned (.tuple #[.pointer (some ⟨p, 0, none⟩), .int .i64 0]) ∧ Rd w' p g (unpack bs n) 0 n false ∧ w.heap.size ≤ p ∧ w.heap.size ≤ g ∧ Fr [] w w' := by
  have hs0 := hs
  obtain ⟨ao, cap, rfl, hc1, hc2, hcell, h256⟩ := hs
  have ht : decide (nbs n ≤ bs.length) = true := decide_eq_true hn
  clear hcell
  go_enter Tryz.func21, Tryz.ntmps21
  go_wp2_with (first
    | (go_at_call 39; refine (has_any _ _ _ _ _ (by omega)).mono ?_; rintro e w' ⟨rfl, rfl⟩)
    | (go_at_call 40; refine (first_any _ bs n _ (by exact hs0) hn hb).mono ?_; rintro e w' ⟨rfl, hg, hf, hz⟩))
  go_ret2
  have hl : (unpack bs n).length = n := by simp
  have hw := Rd.new hg (by rw [hl]; exact hb)
  rw [hl] at hw
  exact ⟨_, _, rfl, hw, by omega, Nat.le_refl _, hf.alloc _⟩

set_option maxHeartbeats 1000000 in
theorem newReader_no (ao : Option Addr) (len cap : Nat) (n : Int) (w : World) (h1 : n ≤ 9223372036854775807) (h : n < 0 ∨ len < nbs n.toNat) :
    Calls Tryz.prog 21 #[.slice ao len cap, .int .i64 n] w fun e w' => e = .returned (.tuple #[.pointer none, .int .i64 11]) ∧ w = w' := by
  by_cases h0 : n < 0
  · go_enter Tryz.func21, Tryz.ntmps21
    go_wp2_with (first
      | (go_at_call 39; refine (has_neg _ _ _ _ _ h0).mono ?_; rintro e w' ⟨rfl, rfl⟩))
    go_ret2
    exact ⟨rfl, rfl⟩
  · obtain ⟨m, rfl⟩ := Int.eq_ofNat_of_zero_le (show 0 ≤ n by omega)
    have ht : decide (nbs m ≤ len) = false := decide_eq_false (by simp at h; omega)
    go_enter Tryz.func21, Tryz.ntmps21
    go_wp2_with (first
      | (go_at_call 39; refine (has_any _ _ _ _ _ (by omega)).mono ?_; rintro e w' ⟨rfl, rfl⟩))
    go_ret2
    exact ⟨rfl, rfl⟩

theorem Mem.Fr.drewN {S : List Nat} {a b : World} (h : Fr S a b) (n : Nat) : Fr S a (b.drewN n) := ⟨h.os, h.tape, h.output, h.size, h.block⟩

set_option maxHeartbeats 400000 in
theorem left_any (w : World) (p g : Nat) (l : List Bool) (pos lim : Nat) (sh : Bool) (h : Rd w p g l pos lim sh) (hb : l.length ≤ 4294967296) :
    Calls Tryz.prog 25 #[.pointer (some ⟨p, 0, none⟩)] w fun e w' => e = .returned (.int .i64 ((lim - pos : Nat) : Int)) ∧ Fr [] w w' := by
  obtain ⟨hpg, h1, h2, v, hp, hrow⟩ := h
  have c1 : w.cell? ⟨p, 1, none⟩ = some (.int .i64 (lim : Int)) := by rw [cell_at hp]; rfl
  have c2 : w.cell? ⟨p, 2, none⟩ = some (.int .i64 (pos : Int)) := by rw [cell_at hp]; rfl
  have e : ((lim - pos : Nat) : Int) = (lim : Int) - (pos : Int) := by omega
  rw [e]
  clear hp hrow e
  go_enter Tryz.func25, Tryz.ntmps25
  go_wp2
  go_quiet (fail)
  go_wp2
  go_ret
  exact ⟨rfl, (Fr.refl _ _).drewN _⟩


end Go.Proofs.YtkphonepblkcdaaGreatDoor
