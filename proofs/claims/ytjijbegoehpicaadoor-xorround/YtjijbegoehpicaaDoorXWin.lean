/-
  Package xor: the windows: behind, has, windowOf, windowFor.
-/
import Derived.Test.YtjijbegoehpicaaDoorGet
import Derived.Test.YtjijbegoehpicaaDoorPut
import Derived.Test.YtjijbegoehpicaaDoorMBits
import Derived.Deep.RegionHeld3
import Derived.Laws.Rows
namespace Go.Proofs.YtjijbegoehpicaaDoor
open Go.RowKit Mem Bits Windows
set_option linter.unusedSimpArgs false
set_option linter.unusedVariables false

/-- A window's value. -/
abbrev win (a b : Nat) : Value := .agg #[.int .i64 (a : Int), .int .i64 (b : Int)]

set_option maxHeartbeats 400000 in
theorem behind_any (a b : Nat) (w : World) (h : a + b ≤ 64) :
    Calls Tryd.prog 37 #[win a b] w fun e w' => e = .returned (.int .i64 ((64 - a - b : Nat) : Int)) ∧ Fr [] w w' := by
  have e8 : ((64 - a - b : Nat) : Int) = 64 - (a : Int) - (b : Int) := by omega
  rw [e8]
  go_enter Tryd.func37, Tryd.ntmps37
  go_wp2_with fail
  go_ret
  exact ⟨rfl, (Fr.refl _ _).alloc _⟩

theorem behind_is (a b K : Nat) (w : World) (h : a + b ≤ 64) (hK : 64 - a - b = K) :
    Calls Tryd.prog 37 #[win a b] w fun e w' => e = .returned (.int .i64 (K : Int)) ∧ Fr [] w w' := by
  subst hK; exact behind_any a b w h
theorem lz_is (d Z : Nat) (w : World) (h : d < 18446744073709551616) (hZ : 64 - bl d = Z) :
    Calls Tryd.prog 40 #[.int .u64 (d : Int)] w fun e w' => e = .returned (.int .i64 (Z : Int)) ∧ w = w' := by
  subst hZ; exact lz_any d w h
theorem tz_is (d Z : Nat) (w : World) (hT : XTab w) (h : d < 18446744073709551616) (hZ : tz d = Z) :
    Calls Tryd.prog 41 #[.int .u64 (d : Int)] w fun e w' => e = .returned (.int .i64 (Z : Int)) ∧ w = w' := by
  subst hZ; exact tz_any d w hT h

set_option maxHeartbeats 1000000 in
theorem has_win (a b d : Nat) (w : World) (hT : XTab w) (h : a + b ≤ 64) (hd : d < 18446744073709551616) :
    Calls Tryd.prog 33 #[win a b, .int .u64 (d : Int)] w fun e w' => e = .returned (.bool (hasW a b d)) ∧ Fr [] w w' := by
  obtain ⟨Z, hZ⟩ : ∃ Z, 64 - bl d = Z := ⟨_, rfl⟩
  obtain ⟨T, hTz⟩ : ∃ T, tz d = T := ⟨_, rfl⟩
  obtain ⟨K, hK⟩ : ∃ K, 64 - a - b = K := ⟨_, rfl⟩
  have hZ64 : Z ≤ 64 := by omega
  have hT64 : T ≤ 64 := by rw [← hTz]; exact tz_le d hd
  have hK64 : K ≤ 64 := by omega
  have HW : Hid (hasW a b d = (decide (a ≤ Z) && decide (K ≤ T))) := by show _ = _; unfold hasW; rw [hZ, hTz, hK]
  have HZ : Hid (64 - bl d = Z) := hZ
  have HTZ : Hid (tz d = T) := hTz
  have HK : Hid (64 - a - b = K) := hK
  have HAB : Hid (a + b ≤ 64) := h
  have HT : Hid (∀ wx, Fr [] w wx → XTab wx) := fun wx hx => hT.kept hx (by simp)
  have ha : a ≤ 64 := by omega
  have hb : b ≤ 64 := by omega
  clear hT hZ hTz hK h
  have k0 : (w.alloc (.cells #[.int .i64 (a : Int), .int .i64 (b : Int)] 55)).cell? ⟨w.heap.size, 0, none⟩ = some (.int .i64 (a : Int)) := by rw [World.cell?_alloc_at _ _ _ _ rfl]; rfl
  have k1 : (w.alloc (.cells #[.int .i64 (a : Int), .int .i64 (b : Int)] 55)).cell? ⟨w.heap.size, 1, none⟩ = some (.int .i64 (b : Int)) := by rw [World.cell?_alloc_at _ _ _ _ rfl]; rfl
  have hf : Fr [] w (w.alloc (.cells #[.int .i64 (a : Int), .int .i64 (b : Int)] 55)) := (Fr.refl _ _).alloc _
  go_enter Tryd.func33, Tryd.ntmps33
  go_wp2_with fail
  generalize w.alloc (.cells #[.int .i64 (a : Int), .int .i64 (b : Int)] 55) = wP at *
  generalize w.heap.size = B at *
  have HTP : Hid (XTab wP.drew) := HT.out _ hf.drew
  clear HT
  by_cases h1 : a ≤ Z
  · have HE : Hid (hasW a b d = decide (K ≤ T)) := by show _ = _; rw [HW.out, decide_eq_true h1, Bool.true_and]
    have d1 : decide ((a : Int) ≤ (Z : Int)) = true := decide_eq_true (by omega)
    go_region_held3 (fun w' => w'.cell? ⟨B, 0, none⟩ = some (.int .i64 (a : Int)) ∧ w'.cell? ⟨B, 1, none⟩ = some (.int .i64 (b : Int))) (go_keep) (first
      | (go_at_call 40; refine (lz_is d Z _ hd HZ.out).mono ?_; rintro e w1 ⟨rfl, rfl⟩)
      | (go_at_call 41; refine (tz_is d T _ HTP.out hd HTZ.out).mono ?_; rintro e w1 ⟨rfl, rfl⟩)
      | (go_at_call 37; refine (behind_is a b K _ HAB.out HK.out).mono ?_; rintro e w1 ⟨rfl, hf1⟩; have i0 := hf1.cell_some (p := ⟨B, 0, none⟩) (v := .int .i64 (a : Int)) k0 (by simp); have i1 := hf1.cell_some (p := ⟨B, 1, none⟩) (v := .int .i64 (b : Int)) k1 (by simp)))
    go_wp2_with fail
    go_ret
    exact ⟨by rw [HE.out]; rfl, hf.trans (show Fr [] wP w1 from ⟨hf1.os, hf1.tape, hf1.output, hf1.size, hf1.block⟩) (by simp)⟩
  · have HE : Hid (hasW a b d = false) := by show _ = _; rw [HW.out, decide_eq_false h1, Bool.false_and]
    have d1 : decide ((a : Int) ≤ (Z : Int)) = false := decide_eq_false (by omega)
    have d2 : decide (a ≤ Z) = false := decide_eq_false h1
    go_quiet ((go_at_call 40; exact Calls.quiet_of_same ((lz_is d Z _ hd HZ.out).mono fun e w' ⟨a, b⟩ => ⟨a, b.symm⟩)))
    go_wp2_with fail
    go_ret
    exact ⟨by rw [HE.out]; rfl, hf.drewN _⟩

theorem Tryd.sizeOf55 : (Tryd.prog.info? 55).map (·.size) = some 2 := by kernel_rfl
/-- A window that is handed back out of its variable. -/
theorem win_res {fn : Func} {p : Tmp} (h : fn.results = #[.cell p 55]) (tmps : Array Value) (w : World) (g : Nat) (t : TypeId) (x y : Value) (fr : Nat × Nat)
    (hp : tmps.getD p undef = .pointer (some ⟨g, 0, none⟩)) (hg : w.heap[g]? = some (.cells #[x, y] t fr)) : (results fn tmps).run Tryd.prog w = .ok (.agg #[x, y]) w :=
  results_cell_row h tmps w g t #[x, y] fr _ hp hg Tryd.underlying55 rfl Tryd.sizeOf55

set_option maxHeartbeats 1000000 in
theorem windowOf_any (d : Nat) (w : World) (hT : XTab w) (h0 : d ≠ 0) (hd : d < 18446744073709551616) :
    Calls Tryd.prog 34 #[.int .u64 (d : Int)] w fun e w' => e = .returned (win (wa d) (wb d)) ∧ Fr [] w w' := by
  have hbl := bl_le d hd
  have htb := tz_lt_bl h0 hd
  have HT : Hid (∀ wx, Fr [] w wx → XTab wx) := fun wx hx => hT.kept hx (by simp)
  clear hT
  have HA : Hid (((wa d : Nat) : Int) = min (((64 - bl d : Nat)) : Int) 31) := by show _ = _; unfold wa; split <;> omega
  have HB : Hid (((wb d : Nat) : Int) = 64 - min (((64 - bl d : Nat)) : Int) 31 - ((tz d : Nat) : Int)) := by show _ = _; have := HA.out; have := wa_wb h0 hd; omega
  go_enter Tryd.func34, Tryd.ntmps34
  go_wp2_with fail
  refine (lz_any d _ hd).mono ?_
  rintro e w1 ⟨rfl, rfl⟩
  go_wp2_with fail
  refine (tz_any d _ (HT.out _ ((Fr.refl _ _).alloc _)) hd).mono ?_
  rintro e w1 ⟨rfl, rfl⟩
  go_wp2_with fail
  refine bodyPost_ret (win_res rfl _ _ _ _ _ _ _ rfl (heap_alloc_new _ _)) rfl ?_
  exact ⟨by unfold win; rw [HA.out, HB.out], (Fr.refl _ _).alloc _⟩

/-- The row at block p. -/
def Xr (w : World) (p : Nat) (s : XRow) : Prop :=
  w.heap[p]? = some (.cells #[.int .u64 (s.last : Int), .int .i64 (s.n : Int), .int .i64 (s.a : Int), .int .i64 (s.b : Int)] 57 (0, 0))
theorem Xr.kept {w w' : World} {p : Nat} {s : XRow} {S : List Nat} (h : Xr w p s) (f : Fr S w w') (hp : p ∉ S) : Xr w' p s := f.heap h hp
theorem Xr.lt {w : World} {p : Nat} {s : XRow} (h : Xr w p s) : p < w.heap.size := lt_of_heap h
theorem Xr.c0 {w : World} {p : Nat} {s : XRow} (h : Xr w p s) : w.cell? ⟨p, 0, none⟩ = some (.int .u64 (s.last : Int)) := by rw [cell_at h]; rfl
theorem Xr.c1 {w : World} {p : Nat} {s : XRow} (h : Xr w p s) : w.cell? ⟨p, 1, none⟩ = some (.int .i64 (s.n : Int)) := by rw [cell_at h]; rfl
theorem Xr.c2 {w : World} {p : Nat} {s : XRow} (h : Xr w p s) : w.cell? ⟨p, 2, none⟩ = some (.int .i64 (s.a : Int)) := by rw [cell_at h]; rfl
theorem Xr.c3 {w : World} {p : Nat} {s : XRow} (h : Xr w p s) : w.cell? ⟨p, 3, none⟩ = some (.int .i64 (s.b : Int)) := by rw [cell_at h]; rfl

set_option maxHeartbeats 1000000 in
theorem windowFor_any (p : Nat) (s : XRow) (d : Nat) (w : World) (hT : XTab w) (hx : Xr w p s) (hs : s.a + s.b ≤ 64) (h0 : d ≠ 0) (hd : d < 18446744073709551616) :
    Calls Tryd.prog 23 #[.pointer (some ⟨p, 0, none⟩), .int .u64 (d : Int)] w fun e w' => e = .returned (win (fw s.a s.b d).1 (fw s.a s.b d).2) ∧ Fr [] w w' := by
  have HT : Hid (∀ wx, Fr [] w wx → XTab wx) := fun wx hx => hT.kept hx (by simp)
  have HX : Hid (∀ wx, Fr [] w wx → Xr wx p s) := fun wx hf => hx.kept hf (by simp)
  clear hT
  have hp := hx.lt
  have f0 : Fr [] w (w.alloc (.cells #[.int .i64 0, .int .i64 0] 55)) := (Fr.refl _ _).alloc _
  have g0 : (w.alloc (.cells #[.int .i64 0, .int .i64 0] 55)).heap[w.heap.size]? = some (.cells #[.int .i64 0, .int .i64 0] 55 (0, 0)) := heap_alloc_new _ _
  have c2 := (HX.out _ f0).c2
  have c3 := (HX.out _ f0).c3
  clear hx
  go_enter Tryd.func23, Tryd.ntmps23
  go_wp2_with fail
  refine (has_win s.a s.b d _ (HT.out _ f0) hs hd).mono ?_
  rintro e w1 ⟨rfl, hf1⟩
  have hf2 : Fr [] w w1 := f0.trans hf1 (by simp)
  have g1 := hf1.heap g0 (by simp)
  have i0 : w1.cell? ⟨w.heap.size, 0, none⟩ = some (.int .i64 0) := by rw [cell_at g1]; rfl
  have i1 : w1.cell? ⟨w.heap.size, 1, none⟩ = some (.int .i64 0) := by rw [cell_at g1]; rfl
  have z0 := frozen_at g1 0
  have z1 := frozen_at g1 1
  have HG : Hid (w1.heap[w.heap.size]? = some (.cells #[.int .i64 0, .int .i64 0] 55 (0, 0))) := g1
  have e2 := (HX.out _ hf2).c2
  have e3 := (HX.out _ hf2).c3
  have hT1 : Hid (XTab w1) := HT.out _ hf2
  have hq := lt_of_heap g1
  clear c2 c3 g0 g1 f0 hf1 HX HT
  generalize hB : w.heap.size = B at *
  have HB : Hid (w.heap.size = B) := hB
  clear hB
  by_cases hh : hasW s.a s.b d = true
  · have HW : Hid (fw s.a s.b d = (s.a, s.b)) := by show _ = _; unfold fw; rw [if_pos hh]
    rw [hh]
    go_wp2_with fail
    refine bodyPost_ret (win_res rfl _ _ B 55 (.int .i64 (s.a : Int)) (.int .i64 (s.b : Int)) (0, 0) rfl (by have := HG.out; simp [World.setCell, Array.getElem?_modify, this])) rfl ?_
    refine ⟨by rw [HW.out], ?_⟩
    exact (hf2.setCell _ _ (.inr (by have := HB.out; simp; omega))).setCell _ _ (.inr (by have := HB.out; simp; omega))
  · have hh' : hasW s.a s.b d = false := by simpa using hh
    have HW : Hid (fw s.a s.b d = (wa d, wb d)) := by show _ = _; unfold fw; rw [if_neg hh]
    rw [hh']
    go_wp2_with fail
    refine (windowOf_any d w1 hT1.out h0 hd).mono ?_
    rintro e w2 ⟨rfl, hf3⟩
    have hf4 : Fr [] w w2 := hf2.trans hf3 (by simp)
    have g2 := hf3.heap HG.out (by simp)
    have j0 : w2.cell? ⟨B, 0, none⟩ = some (.int .i64 0) := by rw [cell_at g2]; rfl
    have j1 : w2.cell? ⟨B, 1, none⟩ = some (.int .i64 0) := by rw [cell_at g2]; rfl
    have y0 := frozen_at g2 0
    have y1 := frozen_at g2 1
    have HG2 : Hid (w2.heap[B]? = some (.cells #[.int .i64 0, .int .i64 0] 55 (0, 0))) := g2
    clear g2 hf3 hf2 HG i0 i1 z0 z1 e2 e3
    go_wp2_with fail
    refine bodyPost_ret (win_res rfl _ _ B 55 (.int .i64 ((wa d : Nat) : Int)) (.int .i64 ((wb d : Nat) : Int)) (0, 0) rfl (by have := HG2.out; simp [World.setCell, Array.getElem?_modify, this])) rfl ?_
    refine ⟨by rw [HW.out], ?_⟩
    exact (hf4.setCell _ _ (.inr (by have := HB.out; simp; omega))).setCell _ _ (.inr (by have := HB.out; simp; omega))
end Go.Proofs.YtjijbegoehpicaaDoor
