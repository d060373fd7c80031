/-
  Package xor: next and Get, where they tell a value, and where nothing is left.
-/
import Derived.Test.YtjijbegoehpicaaDoorXGet
namespace Go.Proofs.YtjijbegoehpicaaDoor
open Go.RowKit Mem Bits Windows
set_option linter.unusedSimpArgs false
set_option linter.unusedVariables false

set_option maxRecDepth 100000 in
set_option maxHeartbeats 1000000 in
theorem next_first (w : World) (p q g : Nat) (s : XRow) (l : List Bool) (pos lim : Nat) (sh : Bool) (V : Nat) (hx : Xr w p s) (h : Rd w q g l pos lim sh) (hb : l.length ≤ 4294967296) (h3 : pos + 64 ≤ lim) (hpq : p ≠ q) (hn : s.n = 0) (hV : rd l pos 64 = V) :
    Calls Tryd.prog 31 #[.pointer (some ⟨p, 0, none⟩), .pointer (some ⟨q, 0, none⟩)] w fun e w' => e = .returned (.tuple #[.int .u64 (V : Int), win s.a s.b, .int .i64 0]) ∧ Rd w' q g l (pos + 64) lim sh ∧ Fr [q] w w' := by
  have hrl := h.lt
  have hxl := hx.lt
  have hrA := h.kept ((Fr.refl [] w).alloc (.cells #[.int .i64 0, .int .i64 0] 55)) (by simp) (by simp)
  have hxA := hx.kept ((Fr.refl [] w).alloc (.cells #[.int .i64 0, .int .i64 0] 55)) (by simp)
  have hfA : Fr [] w (w.alloc (.cells #[.int .i64 0, .int .i64 0] 55)) := (Fr.refl _ _).alloc _
  have hB : (w.alloc (.cells #[.int .i64 0, .int .i64 0] 55)).heap[w.heap.size]? = some (.cells #[.int .i64 0, .int .i64 0] 55 (0, 0)) := heap_alloc_new _ _
  have c1 := hxA.c1
  rw [hn] at c1
  clear h hx
  go_enter Tryd.func31, Tryd.ntmps31
  go_wp2_with fail
  generalize w.alloc (.cells #[.int .i64 0, .int .i64 0] 55) = wA at *
  generalize hBn : w.heap.size = B at *
  have HBn : Hid (w.heap.size = B) := hBn
  clear hBn
  refine (xget_ok wA q g l pos lim sh 64 hrA hb (by omega) (by omega)).mono ?_
  rintro e w3 ⟨rfl, hr3, hf1⟩
  rw [hV]
  have hB3 := hf1.heap hB (by simp; omega)
  have hx3 := hxA.kept hf1 (by simp; omega)
  have hF3 : Fr [q] w w3 := (hfA.nil (S := [q])).trans hf1 (by simp)
  have c2 := hx3.c2
  have c3 := hx3.c3
  have i0 : w3.cell? ⟨B, 0, none⟩ = some (.int .i64 0) := by rw [cell_at hB3]; rfl
  have i1 : w3.cell? ⟨B, 1, none⟩ = some (.int .i64 0) := by rw [cell_at hB3]; rfl
  have f0 := frozen_at hB3 0
  have f1 := frozen_at hB3 1
  have HB3 : Hid (w3.heap[B]? = some (.cells #[.int .i64 0, .int .i64 0] 55 (0, 0))) := hB3
  clear hrA hB hxA hfA hf1 c1 hB3
  go_wp2_with fail
  go_region
  go_wp2_with fail
  refine bodyPost_ret (win_res3 rfl _ _ B 55 (.int .i64 (s.a : Int)) (.int .i64 (s.b : Int)) (0, 0) rfl (by have := HB3.out; simp [World.setCell, World.drew, World.drewN, Array.getElem?_modify, this])) rfl ?_
  have hff : Fr [B] w3 ((w3.drew.setCell ⟨B, 0, none⟩ (.int .i64 (s.a : Int))).setCell ⟨B, 1, none⟩ (.int .i64 (s.b : Int))) := (((Fr.refl [B] w3).drew).setCell _ _ (.inl (by simp))).setCell _ _ (.inl (by simp))
  exact ⟨rfl, hr3.kept hff (by simp; omega) (by simp; omega), hF3.trans hff (by have := HBn.out; simp; omega)⟩

set_option maxRecDepth 100000 in
set_option maxHeartbeats 1000000 in
/-- The same value again (E = 0), or nothing is left (E = 16). -/
theorem next_same (w : World) (p q g : Nat) (s : XRow) (l : List Bool) (pos lim : Nat) (sh : Bool) (hx : Xr w p s) (h : Rd w q g l pos lim sh) (hb : l.length ≤ 4294967296) (h3 : pos + 1 ≤ lim) (hpq : p ≠ q) (hn : s.n ≠ 0) (hV : rd l pos 1 = 0) :
    Calls Tryd.prog 31 #[.pointer (some ⟨p, 0, none⟩), .pointer (some ⟨q, 0, none⟩)] w fun e w' => e = .returned (.tuple #[.int .u64 (s.last : Int), win s.a s.b, .int .i64 0]) ∧ Rd w' q g l (pos + 1) lim sh ∧ Fr [q] w w' := by
  have hrl := h.lt
  have hxl := hx.lt
  have hrA := h.kept ((Fr.refl [] w).alloc (.cells #[.int .i64 0, .int .i64 0] 55)) (by simp) (by simp)
  have hxA := hx.kept ((Fr.refl [] w).alloc (.cells #[.int .i64 0, .int .i64 0] 55)) (by simp)
  have hfA : Fr [] w (w.alloc (.cells #[.int .i64 0, .int .i64 0] 55)) := (Fr.refl _ _).alloc _
  have hB : (w.alloc (.cells #[.int .i64 0, .int .i64 0] 55)).heap[w.heap.size]? = some (.cells #[.int .i64 0, .int .i64 0] 55 (0, 0)) := heap_alloc_new _ _
  have c1 := hxA.c1
  have hn0 : ((s.n : Int) == 0) = false := beq_eq_false_iff_ne.2 (by omega)
  clear h hx
  go_enter Tryd.func31, Tryd.ntmps31
  go_wp2_with fail
  generalize w.alloc (.cells #[.int .i64 0, .int .i64 0] 55) = wA at *
  generalize hBn : w.heap.size = B at *
  have HBn : Hid (w.heap.size = B) := hBn
  clear hBn
  refine (xget_ok wA q g l pos lim sh 1 hrA hb (by omega) (by omega)).mono ?_
  rintro e w3 ⟨rfl, hr3, hf1⟩
  rw [hV]
  have hB3 := hf1.heap hB (by simp; omega)
  have hx3 := hxA.kept hf1 (by simp; omega)
  have hF3 : Fr [q] w w3 := (hfA.nil (S := [q])).trans hf1 (by simp)
  have c0 := hx3.c0
  have c2 := hx3.c2
  have c3 := hx3.c3
  have i0 : w3.cell? ⟨B, 0, none⟩ = some (.int .i64 0) := by rw [cell_at hB3]; rfl
  have i1 : w3.cell? ⟨B, 1, none⟩ = some (.int .i64 0) := by rw [cell_at hB3]; rfl
  have f0 := frozen_at hB3 0
  have f1 := frozen_at hB3 1
  have HB3 : Hid (w3.heap[B]? = some (.cells #[.int .i64 0, .int .i64 0] 55 (0, 0))) := hB3
  clear hrA hB hxA hfA hf1 c1 hB3
  go_wp2_with fail
  go_region
  go_wp2_with fail
  refine bodyPost_ret (win_res3 rfl _ _ B 55 (.int .i64 (s.a : Int)) (.int .i64 (s.b : Int)) (0, 0) rfl (by have := HB3.out; simp [World.setCell, World.drew, World.drewN, Array.getElem?_modify, this])) rfl ?_
  have hff : Fr [B] w3 ((w3.drew.setCell ⟨B, 0, none⟩ (.int .i64 (s.a : Int))).setCell ⟨B, 1, none⟩ (.int .i64 (s.b : Int))) := (((Fr.refl [B] w3).drew).setCell _ _ (.inl (by simp))).setCell _ _ (.inl (by simp))
  exact ⟨rfl, hr3.kept hff (by simp; omega) (by simp; omega), hF3.trans hff (by have := HBn.out; simp; omega)⟩

set_option maxRecDepth 100000 in
set_option maxHeartbeats 1000000 in
theorem next_short (w : World) (p q g : Nat) (s : XRow) (l : List Bool) (pos lim : Nat) (sh : Bool) (hx : Xr w p s) (h : Rd w q g l pos lim sh) (hb : l.length ≤ 4294967296) (h3 : lim < pos + 1) (hpq : p ≠ q) (hn : s.n ≠ 0) :
    Calls Tryd.prog 31 #[.pointer (some ⟨p, 0, none⟩), .pointer (some ⟨q, 0, none⟩)] w fun e w' => e = .returned (.tuple #[.int .u64 (s.last : Int), win s.a s.b, .int .i64 16]) ∧ Rd w' q g l pos lim sh ∧ Fr [q] w w' := by
  have hrl := h.lt
  have hxl := hx.lt
  have hrA := h.kept ((Fr.refl [] w).alloc (.cells #[.int .i64 0, .int .i64 0] 55)) (by simp) (by simp)
  have hxA := hx.kept ((Fr.refl [] w).alloc (.cells #[.int .i64 0, .int .i64 0] 55)) (by simp)
  have hfA : Fr [] w (w.alloc (.cells #[.int .i64 0, .int .i64 0] 55)) := (Fr.refl _ _).alloc _
  have hB : (w.alloc (.cells #[.int .i64 0, .int .i64 0] 55)).heap[w.heap.size]? = some (.cells #[.int .i64 0, .int .i64 0] 55 (0, 0)) := heap_alloc_new _ _
  have c1 := hxA.c1
  have hn0 : ((s.n : Int) == 0) = false := beq_eq_false_iff_ne.2 (by omega)
  clear h hx
  go_enter Tryd.func31, Tryd.ntmps31
  go_wp2_with fail
  generalize w.alloc (.cells #[.int .i64 0, .int .i64 0] 55) = wA at *
  generalize hBn : w.heap.size = B at *
  have HBn : Hid (w.heap.size = B) := hBn
  clear hBn
  refine (xget_short wA q g l pos lim sh 1 hrA hb (by omega) (by omega)).mono ?_
  rintro e w3 ⟨rfl, hr3, hf1⟩
  have hB3 := hf1.heap hB (by simp; omega)
  have hx3 := hxA.kept hf1 (by simp; omega)
  have hF3 : Fr [q] w w3 := (hfA.nil (S := [q])).trans hf1 (by simp)
  have c0 := hx3.c0
  have c2 := hx3.c2
  have c3 := hx3.c3
  have i0 : w3.cell? ⟨B, 0, none⟩ = some (.int .i64 0) := by rw [cell_at hB3]; rfl
  have i1 : w3.cell? ⟨B, 1, none⟩ = some (.int .i64 0) := by rw [cell_at hB3]; rfl
  have f0 := frozen_at hB3 0
  have f1 := frozen_at hB3 1
  have HB3 : Hid (w3.heap[B]? = some (.cells #[.int .i64 0, .int .i64 0] 55 (0, 0))) := hB3
  clear hrA hB hxA hfA hf1 c1 hB3
  go_wp2_with fail
  go_region
  go_wp2_with fail
  refine bodyPost_ret (win_res3 rfl _ _ B 55 (.int .i64 (s.a : Int)) (.int .i64 (s.b : Int)) (0, 0) rfl (by have := HB3.out; simp [World.setCell, World.drew, World.drewN, Array.getElem?_modify, this])) rfl ?_
  have hff : Fr [B] w3 ((w3.drew.setCell ⟨B, 0, none⟩ (.int .i64 (s.a : Int))).setCell ⟨B, 1, none⟩ (.int .i64 (s.b : Int))) := (((Fr.refl [B] w3).drew).setCell _ _ (.inl (by simp))).setCell _ _ (.inl (by simp))
  exact ⟨rfl, hr3.kept hff (by simp; omega) (by simp; omega), hF3.trans hff (by have := HBn.out; simp; omega)⟩

set_option maxRecDepth 100000 in
set_option maxHeartbeats 1000000 in
/-- Where getDiff tells what differs. -/
theorem next_diff (w : World) (p q g : Nat) (s : XRow) (l : List Bool) (pos lim : Nat) (sh : Bool) (D A W P V : Nat) (hx : Xr w p s) (h : Rd w q g l pos lim sh) (hb : l.length ≤ 4294967296) (h3 : pos + 1 ≤ lim) (hpq : p ≠ q) (hn : s.n ≠ 0) (hV : rd l pos 1 = 1)
    (hxo : Go.bits .xor .u64 (s.last : Int) (D : Int) = (V : Int))
    (hG : ∀ wx, Fr [q] w wx → Xr wx p s → Rd wx q g l (pos + 1) lim sh → Calls Tryd.prog 39 #[.pointer (some ⟨p, 0, none⟩), .pointer (some ⟨q, 0, none⟩)] wx fun e w' => e = .returned (.tuple #[.int .u64 (D : Int), win A W, .int .i64 0]) ∧ Rd w' q g l P lim sh ∧ Fr [q] wx w') :
    Calls Tryd.prog 31 #[.pointer (some ⟨p, 0, none⟩), .pointer (some ⟨q, 0, none⟩)] w fun e w' => e = .returned (.tuple #[.int .u64 (V : Int), win A W, .int .i64 0]) ∧ Rd w' q g l P lim sh ∧ Fr [q] w w' := by
  have hrl := h.lt
  have hxl := hx.lt
  have hrA := h.kept ((Fr.refl [] w).alloc (.cells #[.int .i64 0, .int .i64 0] 55)) (by simp) (by simp)
  have hxA := hx.kept ((Fr.refl [] w).alloc (.cells #[.int .i64 0, .int .i64 0] 55)) (by simp)
  have hfA : Fr [] w (w.alloc (.cells #[.int .i64 0, .int .i64 0] 55)) := (Fr.refl _ _).alloc _
  have hB : (w.alloc (.cells #[.int .i64 0, .int .i64 0] 55)).heap[w.heap.size]? = some (.cells #[.int .i64 0, .int .i64 0] 55 (0, 0)) := heap_alloc_new _ _
  have c1 := hxA.c1
  have hn0 : ((s.n : Int) == 0) = false := beq_eq_false_iff_ne.2 (by omega)
  have HG : Hid _ := hG
  clear h hx hG
  go_enter Tryd.func31, Tryd.ntmps31
  go_wp2_with fail
  generalize w.alloc (.cells #[.int .i64 0, .int .i64 0] 55) = wA at *
  generalize hBn : w.heap.size = B at *
  have HBn : Hid (w.heap.size = B) := hBn
  clear hBn
  refine (xget_ok wA q g l pos lim sh 1 hrA hb (by omega) (by omega)).mono ?_
  rintro e w1 ⟨rfl, hr1, hf1⟩
  rw [hV]
  have hB1 := hf1.heap hB (by simp; omega)
  have hx1 := hxA.kept hf1 (by simp; omega)
  have hF1 : Fr [q] w w1 := (hfA.nil (S := [q])).trans hf1 (by simp)
  clear hrA hB hxA hfA hf1 c1
  go_wp2_with fail
  refine (HG.out w1 hF1 hx1 hr1).mono ?_
  rintro e w2 ⟨rfl, hr2, hf2⟩
  have hB2 := hf2.heap hB1 (by simp; omega)
  have hx2 := hx1.kept hf2 (by simp; omega)
  have hF2 : Fr [q] w w2 := hF1.trans hf2 (by simp)
  clear hr1 hx1 hF1 hf2 HG hB1
  go_wp2_with fail
  have hfZ : Fr [] w2 (w2.alloc (.cells #[.int .i64 (A : Int), .int .i64 (W : Int)] 55)) := (Fr.refl _ _).alloc _
  have hZ : (w2.alloc (.cells #[.int .i64 (A : Int), .int .i64 (W : Int)] 55)).heap[w2.heap.size]? = some (.cells #[.int .i64 (A : Int), .int .i64 (W : Int)] 55 (0, 0)) := heap_alloc_new _ _
  have hBl := lt_of_heap hB2
  generalize w2.alloc (.cells #[.int .i64 (A : Int), .int .i64 (W : Int)] 55) = w3 at *
  generalize w2.heap.size = Z at *
  have hr3 := hr2.kept hfZ (by simp) (by simp)
  have hx3 := hx2.kept hfZ (by simp)
  have hB3 := hfZ.heap hB2 (by simp)
  have hF3 : Fr [q] w w3 := hF2.trans hfZ (by simp)
  have k0 : w3.cell? ⟨Z, 0, none⟩ = some (.int .i64 (A : Int)) := by rw [cell_at hZ]; rfl
  have k1 : w3.cell? ⟨Z, 1, none⟩ = some (.int .i64 (W : Int)) := by rw [cell_at hZ]; rfl
  have c0 := hx3.c0
  have i0 : w3.cell? ⟨B, 0, none⟩ = some (.int .i64 0) := by rw [cell_at hB3]; rfl
  have i1 : w3.cell? ⟨B, 1, none⟩ = some (.int .i64 0) := by rw [cell_at hB3]; rfl
  have f0 := frozen_at hB3 0
  have f1 := frozen_at hB3 1
  have HB3 : Hid (w3.heap[B]? = some (.cells #[.int .i64 0, .int .i64 0] 55 (0, 0))) := hB3
  clear hr2 hx2 hB2 hF2 hfZ hZ hB3
  go_region
  go_wp2_with fail
  refine bodyPost_ret (win_res3 rfl _ _ B 55 (.int .i64 (A : Int)) (.int .i64 (W : Int)) (0, 0) rfl (by have := HB3.out; simp [World.setCell, World.drew, World.drewN, Array.getElem?_modify, this])) rfl ?_
  have hff : Fr [B] w3 ((w3.drew.setCell ⟨B, 0, none⟩ (.int .i64 (A : Int))).setCell ⟨B, 1, none⟩ (.int .i64 (W : Int))) := (((Fr.refl [B] w3).drew).setCell _ _ (.inl (by simp))).setCell _ _ (.inl (by simp))
  exact ⟨rfl, hr3.kept hff (by simp; omega) (by simp; omega), hF3.trans hff (by have := HBn.out; simp; omega)⟩
end Go.Proofs.YtjijbegoehpicaaDoor
