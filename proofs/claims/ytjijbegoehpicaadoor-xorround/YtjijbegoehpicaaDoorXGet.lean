/-
  Package xor: get, getWindow, getDiff (where it tells a value).
-/
import Derived.Test.YtjijbegoehpicaaDoorXCost
import Derived.Laws.ResultCell
namespace Go.Proofs.YtjijbegoehpicaaDoor
open Go.RowKit Mem Bits Windows
set_option linter.unusedSimpArgs false
set_option linter.unusedVariables false

set_option maxHeartbeats 400000 in
theorem xget_ok (w : World) (q g : Nat) (l : List Bool) (pos lim : Nat) (sh : Bool) (n : Nat) (h : Rd w q g l pos lim sh) (hb : l.length ≤ 4294967296) (hn : n ≤ 64) (h3 : pos + n ≤ lim) :
    Calls Tryd.prog 38 #[.pointer (some ⟨q, 0, none⟩), .int .i64 (n : Int)] w fun e w' => e = .returned (.tuple #[.int .u64 ((rd l pos n : Nat) : Int), .int .i64 0]) ∧ Rd w' q g l (pos + n) lim sh ∧ Fr [q] w w' := by
  have hm := h.2.2.1
  go_enter Tryd.func38, Tryd.ntmps38
  go_wp2_with fail
  refine (left_any w q g l pos lim sh h hb).mono ?_
  rintro e w1 ⟨rfl, hf1⟩
  have h1 := h.kept hf1 (by simp) (by simp)
  clear h
  obtain ⟨M, hM⟩ : ∃ M, lim - pos = M := ⟨_, rfl⟩
  rw [hM]
  have d0 : decide ((M : Int) < (n : Int)) = false := decide_eq_false (by omega)
  have d1 : decide (M < n) = false := decide_eq_false (by omega)
  by_cases h0 : n = 0
  · subst h0
    clear d0 d1
    go_wp2_with fail
    refine (get_bad w1 q 0 (by omega)).mono ?_
    rintro e w2 ⟨rfl, rfl⟩
    go_wp2_with fail
    go_ret2
    exact ⟨by simp [rd, val], h1, hf1.nil⟩
  · go_wp2_with fail
    refine (get_ok w1 q g l pos lim sh n h1 hb (by omega) hn h3).mono ?_
    rintro e w2 ⟨rfl, hr2, hf2⟩
    go_wp2_with fail
    go_ret2
    exact ⟨by first | rfl | trivial, hr2, hf1.nil.trans hf2 (by simp)⟩

set_option maxHeartbeats 400000 in
theorem xget_short (w : World) (q g : Nat) (l : List Bool) (pos lim : Nat) (sh : Bool) (n : Nat) (h : Rd w q g l pos lim sh) (hb : l.length ≤ 4294967296) (h3 : lim < pos + n) (hn : n ≤ 64) :
    Calls Tryd.prog 38 #[.pointer (some ⟨q, 0, none⟩), .int .i64 (n : Int)] w fun e w' => e = .returned (.tuple #[.int .u64 0, .int .i64 16]) ∧ Rd w' q g l pos lim sh ∧ Fr [q] w w' := by
  have hm := h.2.1
  go_enter Tryd.func38, Tryd.ntmps38
  go_wp2_with fail
  refine (left_any w q g l pos lim sh h hb).mono ?_
  rintro e w1 ⟨rfl, hf1⟩
  have h1 := h.kept hf1 (by simp) (by simp)
  clear h
  obtain ⟨M, hM⟩ : ∃ M, lim - pos = M := ⟨_, rfl⟩
  rw [hM]
  have d0 : decide ((M : Int) < (n : Int)) = true := decide_eq_true (by omega)
  have d1 : decide (M < n) = true := decide_eq_true (by omega)
  go_wp2_with fail
  go_ret2
  exact ⟨by first | rfl | trivial, h1, hf1.nil⟩

/-- A window out of its variable, and another result. -/
theorem win_res2 {fn : Func} {p u : Tmp} (h : fn.results = #[.cell p 55, .tmp u]) (tmps : Array Value) (w : World) (g : Nat) (t : TypeId) (x y : Value) (fr : Nat × Nat)
    (hp : tmps.getD p undef = .pointer (some ⟨g, 0, none⟩)) (hg : w.heap[g]? = some (.cells #[x, y] t fr)) : (results fn tmps).run Tryd.prog w = .ok (.tuple #[.agg #[x, y], tmps.getD u undef]) w := by
  rw [results_cell_tmp h tmps, hp]
  have := run_loadVar_row (P := Tryd.prog) w g t 55 #[x, y] fr _ hg Tryd.underlying55 rfl Tryd.sizeOf55
  simp [asAddr, this]
/-- A window out of its variable, between two results. -/
theorem win_res3 {fn : Func} {p u v : Tmp} (h : fn.results = #[.tmp v, .cell p 55, .tmp u]) (tmps : Array Value) (w : World) (g : Nat) (t : TypeId) (x y : Value) (fr : Nat × Nat)
    (hp : tmps.getD p undef = .pointer (some ⟨g, 0, none⟩)) (hg : w.heap[g]? = some (.cells #[x, y] t fr)) : (results fn tmps).run Tryd.prog w = .ok (.tuple #[tmps.getD v undef, .agg #[x, y], tmps.getD u undef]) w := by
  have hl := run_loadVar_row (P := Tryd.prog) w g t 55 #[x, y] fr _ hg Tryd.underlying55 rfl Tryd.sizeOf55
  have hp' : tmps[p]?.getD undef = .pointer (some ⟨g, 0, none⟩) := by simpa using hp
  simp [results, h, hp', asAddr, hl]

set_option maxRecDepth 100000 in
set_option maxHeartbeats 1000000 in
theorem getWindow_ok (w : World) (q g : Nat) (l : List Bool) (pos lim : Nat) (sh : Bool) (A C W : Nat) (h : Rd w q g l pos lim sh) (hb : l.length ≤ 4294967296) (h3 : pos + 11 ≤ lim)
    (hA : rd l pos 5 = A) (hC : rd l (pos + 5) 6 = C) (hW : (if C = 0 then 64 else C) = W) (hAW : A + W ≤ 64) :
    Calls Tryd.prog 44 #[.pointer (some ⟨q, 0, none⟩)] w fun e w' => e = .returned (.tuple #[win A W, .int .i64 0]) ∧ Rd w' q g l (pos + 11) lim sh ∧ Fr [q] w w' := by
  have hrl := h.lt
  have hrA := h.kept ((Fr.refl [] w).alloc (.cells #[.int .i64 0, .int .i64 0] 55)) (by simp) (by simp)
  have hfA : Fr [] w (w.alloc (.cells #[.int .i64 0, .int .i64 0] 55)) := (Fr.refl _ _).alloc _
  have hB : (w.alloc (.cells #[.int .i64 0, .int .i64 0] 55)).heap[w.heap.size]? = some (.cells #[.int .i64 0, .int .i64 0] 55 (0, 0)) := heap_alloc_new _ _
  have hA32 : A < 32 := by rw [← hA]; exact rd_lt l pos 5
  have hC64 : C < 64 := by rw [← hC]; exact rd_lt l (pos + 5) 6
  clear h
  go_enter Tryd.func44, Tryd.ntmps44
  go_wp2_with fail
  generalize w.alloc (.cells #[.int .i64 0, .int .i64 0] 55) = wA at *
  refine (xget_ok wA q g l pos lim sh 5 hrA hb (by omega) (by omega)).mono ?_
  rintro e w1 ⟨rfl, hr1, hf1⟩
  rw [hA]
  have hB1 := hf1.heap hB (by simp; omega)
  clear hrA hB
  go_wp2_with fail
  refine (xget_ok w1 q g l (pos + 5) lim sh 6 hr1 hb (by omega) (by omega)).mono ?_
  rintro e w2 ⟨rfl, hr2, hf2⟩
  rw [hC]
  have hB2 := hf2.heap hB1 (by simp; omega)
  have hF2 : Fr [q] w w2 := ((hfA.nil (S := [q])).trans hf1 (by simp)).trans hf2 (by simp)
  have k0 : w2.cell? ⟨w.heap.size, 0, none⟩ = some (.int .i64 0) := by rw [cell_at hB2]; rfl
  have k1 : w2.cell? ⟨w.heap.size, 1, none⟩ = some (.int .i64 0) := by rw [cell_at hB2]; rfl
  have f0 := frozen_at hB2 0
  have f1 := frozen_at hB2 1
  have HB : Hid (w2.heap[w.heap.size]? = some (.cells #[.int .i64 0, .int .i64 0] 55 (0, 0))) := hB2
  have hr2' : Rd w2 q g l (pos + 11) lim sh := hr2
  clear hr1 hB1 hf1 hf2 hfA hB2 hA hC hr2
  generalize hBn : w.heap.size = B at *
  have HBn : Hid (w.heap.size = B) := hBn
  clear hBn
  by_cases h0 : C = 0
  · subst h0
    rw [if_pos rfl] at hW
    subst hW
    have d1 : decide (64 < (A : Int) + 64) = false := decide_eq_false (by omega)
    go_wp2_with fail
    refine bodyPost_ret (win_res2 rfl _ _ B 55 (.int .i64 (A : Int)) (.int .i64 ((64 : Nat) : Int)) (0, 0) rfl (by have := HB.out; simp [World.setCell, Array.getElem?_modify, this])) rfl ?_
    have hff : Fr [B] w2 ((w2.setCell ⟨B, 0, none⟩ (.int .i64 (A : Int))).setCell ⟨B, 1, none⟩ (.int .i64 64)) := ((Fr.refl [B] w2).setCell _ _ (.inl (by simp))).setCell _ _ (.inl (by simp))
    exact ⟨rfl, hr2'.kept hff (by simp; omega) (by simp; omega), hF2.trans hff (by have := HBn.out; simp; omega)⟩
  · rw [if_neg h0] at hW
    subst hW
    have d0 : ((C : Int) == 0) = false := beq_eq_false_iff_ne.2 (by omega)
    have d1 : decide (64 < (A : Int) + (C : Int)) = false := decide_eq_false (by omega)
    go_wp2_with fail
    refine bodyPost_ret (win_res2 rfl _ _ B 55 (.int .i64 (A : Int)) (.int .i64 (C : Int)) (0, 0) rfl (by have := HB.out; simp [World.setCell, Array.getElem?_modify, this])) rfl ?_
    have hff : Fr [B] w2 ((w2.setCell ⟨B, 0, none⟩ (.int .i64 (A : Int))).setCell ⟨B, 1, none⟩ (.int .i64 (C : Int))) := ((Fr.refl [B] w2).setCell _ _ (.inl (by simp))).setCell _ _ (.inl (by simp))
    exact ⟨rfl, hr2'.kept hff (by simp; omega) (by simp; omega), hF2.trans hff (by have := HBn.out; simp; omega)⟩

set_option maxRecDepth 100000 in
set_option maxHeartbeats 1000000 in
theorem getDiff_own (w : World) (p q g : Nat) (s : XRow) (l : List Bool) (pos lim : Nat) (sh : Bool) (R K D : Nat) (hx : Xr w p s) (h : Rd w q g l pos lim sh) (hb : l.length ≤ 4294967296) (h3 : pos + 1 + s.b ≤ lim) (hpq : p ≠ q)
    (hs : s.a + s.b ≤ 64) (hr0 : rd l pos 1 = 0) (hR : rd l (pos + 1) s.b = R) (hK : 64 - s.a - s.b = K) (hD : R * 2 ^ K = D) (hD0 : D ≠ 0) (hD64 : D < 18446744073709551616) :
    Calls Tryd.prog 39 #[.pointer (some ⟨p, 0, none⟩), .pointer (some ⟨q, 0, none⟩)] w fun e w' => e = .returned (.tuple #[.int .u64 (D : Int), win s.a s.b, .int .i64 0]) ∧ Rd w' q g l (pos + 1 + s.b) lim sh ∧ Fr [q] w w' := by
  have hrl := h.lt
  have hxl := hx.lt
  have hrA := h.kept ((Fr.refl [] w).alloc (.cells #[.int .i64 0, .int .i64 0] 55)) (by simp) (by simp)
  have hxA := hx.kept ((Fr.refl [] w).alloc (.cells #[.int .i64 0, .int .i64 0] 55)) (by simp)
  have hfA : Fr [] w (w.alloc (.cells #[.int .i64 0, .int .i64 0] 55)) := (Fr.refl _ _).alloc _
  have hB : (w.alloc (.cells #[.int .i64 0, .int .i64 0] 55)).heap[w.heap.size]? = some (.cells #[.int .i64 0, .int .i64 0] 55 (0, 0)) := heap_alloc_new _ _
  have hd0 : ((D : Int) == 0) = false := beq_eq_false_iff_ne.2 (by omega)
  have hsl : (R : Int) * 2 ^ K = (D : Int) := by rw [← hD]; simp
  have hsw : IntKind.u64.wrap (D : Int) = (D : Int) := by rw [IntKind.wrap_u64]; omega
  clear h hx
  go_enter Tryd.func39, Tryd.ntmps39
  go_wp2_with fail
  generalize w.alloc (.cells #[.int .i64 0, .int .i64 0] 55) = wA at *
  generalize hBn : w.heap.size = B at *
  have HBn : Hid (w.heap.size = B) := hBn
  clear hBn
  refine (xget_ok wA q g l pos lim sh 1 hrA hb (by omega) (by omega)).mono ?_
  rintro e w1 ⟨rfl, hr1, hf1⟩
  rw [hr0]
  have hB1 := hf1.heap hB (by simp; omega)
  have hx1 := hxA.kept hf1 (by simp; omega)
  have hF1 : Fr [q] w w1 := (hfA.nil (S := [q])).trans hf1 (by simp)
  have c2 := hx1.c2
  have c3 := hx1.c3
  clear hrA hB hxA hfA hf1
  go_wp2_with fail
  have hrZ := hr1.kept ((Fr.refl [] w1).alloc (.cells #[.int .i64 (s.a : Int), .int .i64 (s.b : Int)] 55)) (by simp) (by simp)
  have hxZ := hx1.kept ((Fr.refl [] w1).alloc (.cells #[.int .i64 (s.a : Int), .int .i64 (s.b : Int)] 55)) (by simp)
  have hFZ : Fr [q] w (w1.alloc (.cells #[.int .i64 (s.a : Int), .int .i64 (s.b : Int)] 55)) := hF1.alloc _
  have hZ : (w1.alloc (.cells #[.int .i64 (s.a : Int), .int .i64 (s.b : Int)] 55)).heap[w1.heap.size]? = some (.cells #[.int .i64 (s.a : Int), .int .i64 (s.b : Int)] 55 (0, 0)) := heap_alloc_new _ _
  have hBZ := ((Fr.refl [] w1).alloc (.cells #[.int .i64 (s.a : Int), .int .i64 (s.b : Int)] 55)).heap hB1 (by simp)
  have hrl1 := hr1.lt
  have hBl := lt_of_heap hB1
  have hxl1 := hx1.lt
  clear hr1 hx1 hF1 hB1 c2 c3
  generalize w1.alloc (.cells #[.int .i64 (s.a : Int), .int .i64 (s.b : Int)] 55) = wZ at *
  generalize w1.heap.size = Z at *
  refine (xget_ok wZ q g l (pos + 1) lim sh s.b hrZ hb (by omega) h3).mono ?_
  rintro e w2 ⟨rfl, hr2, hf2⟩
  rw [hR]
  have hB2 := hf2.heap hBZ (by simp; omega)
  have hZ2 := hf2.heap hZ (by simp; omega)
  have hx2 := hxZ.kept hf2 (by simp; omega)
  have hF2 : Fr [q] w w2 := hFZ.trans hf2 (by simp)
  have k0 : w2.cell? ⟨Z, 0, none⟩ = some (.int .i64 (s.a : Int)) := by rw [cell_at hZ2]; rfl
  have k1 : w2.cell? ⟨Z, 1, none⟩ = some (.int .i64 (s.b : Int)) := by rw [cell_at hZ2]; rfl
  clear hrZ hxZ hFZ hZ hBZ hf2
  go_wp2_with fail
  refine (behind_is s.a s.b K w2 hs hK).mono ?_
  rintro e w3 ⟨rfl, hf3⟩
  have hr3 := hr2.kept hf3 (by simp) (by simp)
  have hB3 := hf3.heap hB2 (by simp)
  have hZ3 := hf3.heap hZ2 (by simp)
  have hF3 : Fr [q] w w3 := hF2.trans hf3 (by simp)
  have k0 : w3.cell? ⟨Z, 0, none⟩ = some (.int .i64 (s.a : Int)) := by rw [cell_at hZ3]; rfl
  have k1 : w3.cell? ⟨Z, 1, none⟩ = some (.int .i64 (s.b : Int)) := by rw [cell_at hZ3]; rfl
  have i0 : w3.cell? ⟨B, 0, none⟩ = some (.int .i64 0) := by rw [cell_at hB3]; rfl
  have i1 : w3.cell? ⟨B, 1, none⟩ = some (.int .i64 0) := by rw [cell_at hB3]; rfl
  have f0 := frozen_at hB3 0
  have f1 := frozen_at hB3 1
  have HB3 : Hid (w3.heap[B]? = some (.cells #[.int .i64 0, .int .i64 0] 55 (0, 0))) := hB3
  clear hr2 hB2 hZ2 hx2 hF2 hf3 hB3
  go_wp2_with fail
  go_quiet (fail)
  go_wp2_with fail
  go_region
  go_wp2_with fail
  refine bodyPost_ret (win_res3 rfl _ _ B 55 (.int .i64 (s.a : Int)) (.int .i64 (s.b : Int)) (0, 0) rfl (by have := HB3.out; simp [World.setCell, World.drewN, Array.getElem?_modify, this])) rfl ?_
  have hff : Fr [B] w3 (((w3.drewN (nq + 1)).setCell ⟨B, 0, none⟩ (.int .i64 (s.a : Int))).setCell ⟨B, 1, none⟩ (.int .i64 (s.b : Int))) := (((Fr.refl [B] w3).drewN (nq + 1)).setCell _ _ (.inl (by simp))).setCell _ _ (.inl (by simp))
  exact ⟨rfl, hr3.kept hff (by simp; omega) (by simp; omega), hF3.trans hff (by have := HBn.out; simp; omega)⟩

theorem windowOf_is (d A W : Nat) (w : World) (hT : XTab w) (h0 : d ≠ 0) (hd : d < 18446744073709551616) (hA : wa d = A) (hW : wb d = W) :
    Calls Tryd.prog 34 #[.int .u64 (d : Int)] w fun e w' => e = .returned (win A W) ∧ Fr [] w w' := by
  subst hA hW; exact windowOf_any d w hT h0 hd
theorem has_is (a b d : Nat) (t : Bool) (w : World) (hT : XTab w) (h : a + b ≤ 64) (hd : d < 18446744073709551616) (ht : hasW a b d = t) :
    Calls Tryd.prog 33 #[win a b, .int .u64 (d : Int)] w fun e w' => e = .returned (.bool t) ∧ Fr [] w w' := by
  subst ht; exact has_win a b d w hT h hd

set_option maxRecDepth 100000 in
set_option maxHeartbeats 2000000 in
theorem getDiff_told (w : World) (p q g : Nat) (s : XRow) (l : List Bool) (pos lim : Nat) (sh : Bool) (A C W R K D : Nat) (hT : XTab w) (hqV : 0 < q) (hx : Xr w p s) (h : Rd w q g l pos lim sh) (hb : l.length ≤ 4294967296) (h3 : pos + 12 + W ≤ lim) (hpq : p ≠ q)
    (hs : s.a + s.b ≤ 64) (hr0 : rd l pos 1 = 1) (hA : rd l (pos + 1) 5 = A) (hC : rd l (pos + 1 + 5) 6 = C) (hW : (if C = 0 then 64 else C) = W) (hAW : A + W ≤ 64)
    (hR : rd l (pos + 1 + 11) W = R) (hK : 64 - A - W = K) (hD : R * 2 ^ K = D) (hD0 : D ≠ 0) (hD64 : D < 18446744073709551616) (hh : hasW s.a s.b D = false) (hwa : wa D = A) (hwb : wb D = W) :
    Calls Tryd.prog 39 #[.pointer (some ⟨p, 0, none⟩), .pointer (some ⟨q, 0, none⟩)] w fun e w' => e = .returned (.tuple #[.int .u64 (D : Int), win A W, .int .i64 0]) ∧ Rd w' q g l (pos + 12 + W) lim sh ∧ Fr [q] w w' := by
  have hrl := h.lt
  have hxl := hx.lt
  have HT : Hid (XTab w) := hT
  have hTl := hT.lt
  clear hT
  have hrA := h.kept ((Fr.refl [] w).alloc (.cells #[.int .i64 0, .int .i64 0] 55)) (by simp) (by simp)
  have hxA := hx.kept ((Fr.refl [] w).alloc (.cells #[.int .i64 0, .int .i64 0] 55)) (by simp)
  have hfA : Fr [] w (w.alloc (.cells #[.int .i64 0, .int .i64 0] 55)) := (Fr.refl _ _).alloc _
  have hB : (w.alloc (.cells #[.int .i64 0, .int .i64 0] 55)).heap[w.heap.size]? = some (.cells #[.int .i64 0, .int .i64 0] 55 (0, 0)) := heap_alloc_new _ _
  have hd0 : ((D : Int) == 0) = false := beq_eq_false_iff_ne.2 (by omega)
  have hsl : (R : Int) * 2 ^ K = (D : Int) := by rw [← hD]; simp
  have hsw : IntKind.u64.wrap (D : Int) = (D : Int) := by rw [IntKind.wrap_u64]; omega
  have HH : Hid (hasW s.a s.b D = false) := hh
  have HWA : Hid (wa D = A) := hwa
  have HWB : Hid (wb D = W) := hwb
  clear h hx hh hwa hwb
  go_enter Tryd.func39, Tryd.ntmps39
  go_wp2_with fail
  generalize w.alloc (.cells #[.int .i64 0, .int .i64 0] 55) = wA at *
  generalize hBn : w.heap.size = B at *
  have HBn : Hid (w.heap.size = B) := hBn
  clear hBn
  refine (xget_ok wA q g l pos lim sh 1 hrA hb (by omega) (by omega)).mono ?_
  rintro e w1 ⟨rfl, hr1, hf1⟩
  rw [hr0]
  have hB1 := hf1.heap hB (by simp; omega)
  have hx1 := hxA.kept hf1 (by simp; omega)
  have hF1 : Fr [q] w w1 := (hfA.nil (S := [q])).trans hf1 (by simp)
  have c2 := hx1.c2
  have c3 := hx1.c3
  clear hrA hB hxA hfA hf1
  go_wp2_with fail
  have hrZ := hr1.kept ((Fr.refl [] w1).alloc (.cells #[.int .i64 (s.a : Int), .int .i64 (s.b : Int)] 55)) (by simp) (by simp)
  have hxZ := hx1.kept ((Fr.refl [] w1).alloc (.cells #[.int .i64 (s.a : Int), .int .i64 (s.b : Int)] 55)) (by simp)
  have hFZ : Fr [q] w (w1.alloc (.cells #[.int .i64 (s.a : Int), .int .i64 (s.b : Int)] 55)) := hF1.alloc _
  have hZ : (w1.alloc (.cells #[.int .i64 (s.a : Int), .int .i64 (s.b : Int)] 55)).heap[w1.heap.size]? = some (.cells #[.int .i64 (s.a : Int), .int .i64 (s.b : Int)] 55 (0, 0)) := heap_alloc_new _ _
  have hBZ := ((Fr.refl [] w1).alloc (.cells #[.int .i64 (s.a : Int), .int .i64 (s.b : Int)] 55)).heap hB1 (by simp)
  have hrl1 := hr1.lt
  have hBl := lt_of_heap hB1
  have hxl1 := hx1.lt
  have hsz1 := hF1.size
  clear hr1 hx1 hF1 hB1 c2 c3
  generalize w1.alloc (.cells #[.int .i64 (s.a : Int), .int .i64 (s.b : Int)] 55) = wZ at *
  generalize w1.heap.size = Z at *
  refine (getWindow_ok wZ q g l (pos + 1) lim sh A C W hrZ hb (by omega) hA hC hW hAW).mono ?_
  rintro e w2 ⟨rfl, hr2, hf2⟩
  have hB2 := hf2.heap hBZ (by simp; omega)
  have hZ2 := hf2.heap hZ (by simp; omega)
  have hx2 := hxZ.kept hf2 (by simp; omega)
  have hF2 : Fr [q] w w2 := hFZ.trans hf2 (by simp)
  have k0 : w2.cell? ⟨Z, 0, none⟩ = some (.int .i64 (s.a : Int)) := by rw [cell_at hZ2]; rfl
  have k1 : w2.cell? ⟨Z, 1, none⟩ = some (.int .i64 (s.b : Int)) := by rw [cell_at hZ2]; rfl
  have z0 := frozen_at hZ2 0
  have z1 := frozen_at hZ2 1
  have HZ2 : Hid (w2.heap[Z]? = some (.cells #[.int .i64 (s.a : Int), .int .i64 (s.b : Int)] 55 (0, 0))) := hZ2
  clear hrZ hxZ hFZ hZ hBZ hf2 hZ2
  go_wp2_with fail
  have hfS : Fr [Z] w2 ((w2.setCell ⟨Z, 0, none⟩ (.int .i64 (A : Int))).setCell ⟨Z, 1, none⟩ (.int .i64 (W : Int))) := ((Fr.refl [Z] w2).setCell _ _ (.inl (by simp))).setCell _ _ (.inl (by simp))
  have hZS : ((w2.setCell ⟨Z, 0, none⟩ (.int .i64 (A : Int))).setCell ⟨Z, 1, none⟩ (.int .i64 (W : Int))).heap[Z]? = some (.cells #[.int .i64 (A : Int), .int .i64 (W : Int)] 55 (0, 0)) := by have := HZ2.out; simp [World.setCell, Array.getElem?_modify, this]
  generalize (w2.setCell ⟨Z, 0, none⟩ (.int .i64 (A : Int))).setCell ⟨Z, 1, none⟩ (.int .i64 (W : Int)) = wS at *
  have hrS := hr2.kept hfS (by simp; omega) (by simp; omega)
  have hBS := hfS.heap hB2 (by simp; omega)
  have hxS := hx2.kept hfS (by simp; omega)
  have hFS : Fr [q] w wS := hF2.trans hfS (by have := HBn.out; simp; omega)
  clear hr2 hB2 hx2 hF2 k0 k1 z0 z1 HZ2 hfS
  have k0 : wS.cell? ⟨Z, 0, none⟩ = some (.int .i64 (A : Int)) := by rw [cell_at hZS]; rfl
  have k1 : wS.cell? ⟨Z, 1, none⟩ = some (.int .i64 (W : Int)) := by rw [cell_at hZS]; rfl
  have hW64 : W ≤ 64 := by omega
  go_wp2_with fail
  refine (xget_ok wS q g l (pos + 1 + 11) lim sh W hrS hb (by omega) (by omega)).mono ?_
  rintro e w2 ⟨rfl, hr2, hf2⟩
  rw [hR]
  have hB2 := hf2.heap hBS (by simp; omega)
  have hZ2 := hf2.heap hZS (by simp; omega)
  have hx2 := hxS.kept hf2 (by simp; omega)
  have hF2 : Fr [q] w w2 := hFS.trans hf2 (by simp)
  clear k0 k1
  have k0 : w2.cell? ⟨Z, 0, none⟩ = some (.int .i64 (A : Int)) := by rw [cell_at hZ2]; rfl
  have k1 : w2.cell? ⟨Z, 1, none⟩ = some (.int .i64 (W : Int)) := by rw [cell_at hZ2]; rfl
  clear hrS hxS hFS hZS hBS hf2
  go_wp2_with fail
  refine (behind_is A W K w2 hAW hK).mono ?_
  rintro e w4 ⟨rfl, hf4⟩
  have hr4 := hr2.kept hf4 (by simp) (by simp)
  have hB4 := hf4.heap hB2 (by simp)
  have hZ4 := hf4.heap hZ2 (by simp)
  have hx4 := hx2.kept hf4 (by simp)
  have hF4 : Fr [q] w w4 := hF2.trans hf4 (by simp)
  clear k0 k1
  have k0 : w4.cell? ⟨Z, 0, none⟩ = some (.int .i64 (A : Int)) := by rw [cell_at hZ4]; rfl
  have k1 : w4.cell? ⟨Z, 1, none⟩ = some (.int .i64 (W : Int)) := by rw [cell_at hZ4]; rfl
  have c2 := hx4.c2
  have c3 := hx4.c3
  clear hr2 hB2 hZ2 hx2 hF2 hf4
  go_wp2_with fail
  have HTP : Hid (XTab w4.drew) := HT.out.kept hF4.drew (by simp; omega)
  have HB4 : Hid (w4.heap[B]? = some (.cells #[.int .i64 0, .int .i64 0] 55 (0, 0))) := hB4
  have HZ4 : Hid (w4.heap[Z]? = some (.cells #[.int .i64 (A : Int), .int .i64 (W : Int)] 55 (0, 0))) := hZ4
  have HR4 : Hid (Rd w4 q g l (pos + 12 + W) lim sh) := by show Rd _ _ _ _ _ _ _; rw [show pos + 12 + W = pos + 1 + 11 + W from by omega]; exact hr4
  have HF4 : Hid (Fr [q] w w4) := hF4
  clear hB4 hZ4 hr4 hF4 hx4
  go_region_held3 (fun w' => w'.cell? ⟨Z, 0, none⟩ = some (.int .i64 (A : Int)) ∧ w'.cell? ⟨Z, 1, none⟩ = some (.int .i64 (W : Int)) ∧ w'.cell? ⟨p, 2, none⟩ = some (.int .i64 (s.a : Int)) ∧ w'.cell? ⟨p, 3, none⟩ = some (.int .i64 (s.b : Int))) (go_keep) (first
    | (go_at_call 33; refine (has_is s.a s.b D false _ HTP.out hs hD64 HH.out).mono ?_; rintro e w5 ⟨rfl, hf5⟩; have m0 := hf5.cell_some (p := ⟨Z, 0, none⟩) (v := .int .i64 (A : Int)) k0 (by simp); have m1 := hf5.cell_some (p := ⟨Z, 1, none⟩) (v := .int .i64 (W : Int)) k1 (by simp); have m2 := hf5.cell_some (p := ⟨p, 2, none⟩) (v := .int .i64 (s.a : Int)) c2 (by simp); have m3 := hf5.cell_some (p := ⟨p, 3, none⟩) (v := .int .i64 (s.b : Int)) c3 (by simp))
    | (go_at_call 34; refine (windowOf_is D A W _ (HTP.out.kept hf5 (by simp)) hD0 hD64 HWA.out HWB.out).mono ?_; rintro e w6 ⟨rfl, hf6⟩; have n0 := hf6.cell_some (p := ⟨Z, 0, none⟩) (v := .int .i64 (A : Int)) m0 (by simp); have n1 := hf6.cell_some (p := ⟨Z, 1, none⟩) (v := .int .i64 (W : Int)) m1 (by simp); have n2 := hf6.cell_some (p := ⟨p, 2, none⟩) (v := .int .i64 (s.a : Int)) m2 (by simp); have n3 := hf6.cell_some (p := ⟨p, 3, none⟩) (v := .int .i64 (s.b : Int)) m3 (by simp)))
  have hf46 : Fr [] w4 w6 := (show Fr [] w4 w5 from ⟨hf5.os, hf5.tape, hf5.output, hf5.size, hf5.block⟩).trans hf6 (by simp)
  have hB6 := hf46.heap HB4.out (by simp)
  have hr6 := HR4.out.kept hf46 (by simp) (by simp)
  have hF6 : Fr [q] w w6 := HF4.out.trans hf46 (by simp)
  have i0 : w6.cell? ⟨B, 0, none⟩ = some (.int .i64 0) := by rw [cell_at hB6]; rfl
  have i1 : w6.cell? ⟨B, 1, none⟩ = some (.int .i64 0) := by rw [cell_at hB6]; rfl
  have f0 := frozen_at hB6 0
  have f1 := frozen_at hB6 1
  have HB6 : Hid (w6.heap[B]? = some (.cells #[.int .i64 0, .int .i64 0] 55 (0, 0))) := hB6
  clear hf5 hf6 hf46 hB6 HB4 HZ4 HR4 HF4 m0 m1 m2 m3 k0 k1 c2 c3 HTP n2 n3
  go_wp2_with fail
  go_region
  go_wp2_with fail
  refine bodyPost_ret (win_res3 rfl _ _ B 55 (.int .i64 (A : Int)) (.int .i64 (W : Int)) (0, 0) rfl (by have := HB6.out; simp [World.setCell, World.drew, World.drewN, Array.getElem?_modify, this])) rfl ?_
  have hff : Fr [B] w6 ((w6.drew.setCell ⟨B, 0, none⟩ (.int .i64 (A : Int))).setCell ⟨B, 1, none⟩ (.int .i64 (W : Int))) := (((Fr.refl [B] w6).drew).setCell _ _ (.inl (by simp))).setCell _ _ (.inl (by simp))
  exact ⟨rfl, hr6.kept hff (by simp; omega) (by simp; omega), hF6.trans hff (by have := HBn.out; simp; omega)⟩
end Go.Proofs.YtjijbegoehpicaaDoor
