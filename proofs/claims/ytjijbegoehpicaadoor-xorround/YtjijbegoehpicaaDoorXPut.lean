/-
  Package xor: New, Copy, Len, Last, Window, Cost, Put.
-/
import Derived.Test.YtjijbegoehpicaaDoorXWin
namespace Go.Proofs.YtjijbegoehpicaaDoor
open Go.RowKit Mem Bits Windows
set_option linter.unusedSimpArgs false
set_option linter.unusedVariables false

set_option maxHeartbeats 400000 in
theorem xnew_any (w : World) :
    Calls Tryd.prog 7 #[] w fun e w' => ∃ p, e = .returned (.pointer (some ⟨p, 0, none⟩)) ∧ Xr w' p xnew ∧ w.heap.size ≤ p ∧ Fr [] w w' := by
  go_enter Tryd.func7, Tryd.ntmps7
  go_wp2_with fail
  go_ret
  exact ⟨w.heap.size, rfl, heap_alloc_new _ _, Nat.le_refl _, (Fr.refl _ _).alloc _⟩

set_option maxHeartbeats 400000 in
theorem xcopy_any (w : World) (p : Nat) (s : XRow) (h : Xr w p s) :
    Calls Tryd.prog 8 #[.pointer (some ⟨p, 0, none⟩)] w fun e w' => ∃ p', e = .returned (.pointer (some ⟨p', 0, none⟩)) ∧ Xr w' p' s ∧ w.heap.size ≤ p' ∧ Fr [] w w' := by
  have c0 := h.c0
  have c1 := h.c1
  have c2 := h.c2
  have c3 := h.c3
  clear h
  go_enter Tryd.func8, Tryd.ntmps8
  go_wp2_with fail
  go_ret
  exact ⟨w.heap.size, rfl, heap_alloc_new _ _, Nat.le_refl _, (Fr.refl _ _).alloc _⟩

set_option maxHeartbeats 400000 in
theorem xlen_any (w : World) (p : Nat) (s : XRow) (h : Xr w p s) :
    Calls Tryd.prog 12 #[.pointer (some ⟨p, 0, none⟩)] w fun e w' => e = .returned (.int .i64 (s.n : Int)) ∧ w = w' := by
  have c1 := h.c1
  clear h
  go_enter Tryd.func12, Tryd.ntmps12
  go_wp2_with fail
  go_ret
  exact ⟨rfl, rfl⟩

set_option maxHeartbeats 400000 in
theorem xlast_any (w : World) (p : Nat) (s : XRow) (h : Xr w p s) :
    Calls Tryd.prog 13 #[.pointer (some ⟨p, 0, none⟩)] w fun e w' => e = .returned (.int .u64 (s.last : Int)) ∧ w = w' := by
  have c0 := h.c0
  clear h
  go_enter Tryd.func13, Tryd.ntmps13
  go_wp2_with fail
  go_ret
  exact ⟨rfl, rfl⟩

set_option maxHeartbeats 400000 in
theorem xwindow_any (w : World) (p : Nat) (s : XRow) (h : Xr w p s) :
    Calls Tryd.prog 14 #[.pointer (some ⟨p, 0, none⟩)] w fun e w' => e = .returned (.tuple #[.int .i64 (s.a : Int), .int .i64 (s.b : Int)]) ∧ Fr [] w w' := by
  have c2 := h.c2
  have c3 := h.c3
  clear h
  go_enter Tryd.func14, Tryd.ntmps14
  go_wp2_with fail
  go_quiet (fail)
  go_wp2_with fail
  go_ret2
  exact ⟨rfl, (Fr.refl _ _).drewN _⟩

set_option maxHeartbeats 400000 in
theorem xadd_any (w : World) (p : Nat) (s : XRow) (V : Nat) (h : Xr w p s) (hn : s.n ≤ 1000000000) :
    Calls Tryd.prog 29 #[.pointer (some ⟨p, 0, none⟩), .int .u64 (V : Int)] w fun e w' => e = .returned (.tuple #[]) ∧ Xr w' p ⟨V, s.n + 1, s.a, s.b⟩ ∧ Fr [p] w w' := by
  have c0 := h.c0
  have c1 := h.c1
  have f0 := frozen_at h 0
  have f1 := frozen_at h 1
  have H : Hid (Xr w p s) := h
  clear h
  go_enter Tryd.func29, Tryd.ntmps29
  go_wp2_with fail
  go_end0
  refine ⟨rfl, ?_, ((Fr.refl [p] w).setCell _ _ (.inl (by simp))).setCell _ _ (.inl (by simp))⟩
  have := H.out
  unfold Xr at this ⊢
  simp [World.setCell, Array.getElem?_modify, this]

set_option maxRecDepth 100000 in
set_option maxHeartbeats 2000000 in
theorem putDiff_any (w : World) (p q g : Nat) (s : XRow) (l : List Bool) (d : Nat) (hT : XTab w) (hp : 0 < p) (hq : 0 < q) (hg : 0 < g) (hpq : p ≠ q) (hpg : p ≠ g)
    (hx : Xr w p s) (hw : Wr w q g l) (hs : wok s.a s.b) (h0 : d ≠ 0) (hd : d < 18446744073709551616) (hl : l.length ≤ 4294966000) :
    Calls Tryd.prog 28 #[.pointer (some ⟨p, 0, none⟩), .pointer (some ⟨q, 0, none⟩), .int .u64 (d : Int)] w fun e w' => e = .returned (.tuple #[]) ∧ Xr w' p ⟨s.last, s.n, (fw s.a s.b d).1, (fw s.a s.b d).2⟩ ∧ ∃ g', Wr w' q g' (l ++ (true :: diffBits s.a s.b d)) ∧ (g' = g ∨ w.heap.size ≤ g') ∧ Fr [p, q, g] w w' := by
  have HT : Hid (XTab w) := hT
  have hsz := hT.lt
  have hle := hs.le
  clear hT
  have d0 : ((d : Int) != 0) = true := by rw [bne_iff_ne]; omega
  have d1 : ((d : Int) == 0) = false := beq_eq_false_iff_ne.2 (by omega)
  have hxl := hx.lt
  have hwl := hw.lt
  go_enter Tryd.func28, Tryd.ntmps28
  go_wp2_with fail
  refine (bit_any w q g l true hw (by omega)).mono ?_
  rintro e w1 ⟨rfl, g1, hw1, hg1, hf1⟩
  have hx1 := hx.kept hf1 (by simp; omega)
  have hz1 := hf1.size
  clear hw hx
  go_wp2_with fail
  refine (windowFor_any p s d w1 (HT.out.kept hf1 (by simp; omega)) hx1 hle.2 h0 hd).mono ?_
  rintro e w2 ⟨rfl, hf2⟩
  have hx2 := hx1.kept hf2 (by simp)
  have hw2 := hw1.kept hf2 (by simp) (by simp)
  have hz2 := hf2.size
  clear hw1 hx1
  have hfw := fw_ok hs h0 hd
  generalize hA : (fw s.a s.b d).1 = A at *
  generalize hB : (fw s.a s.b d).2 = B at *
  go_wp2_with fail
  have hfP : Fr [q, g] w (w2.alloc (.cells #[.int .i64 (A : Int), .int .i64 (B : Int)] 55)) := (hf1.trans hf2 (by simp)).alloc _
  have hwP := hw2.kept ((Fr.refl [] w2).alloc (.cells #[.int .i64 (A : Int), .int .i64 (B : Int)] 55)) (by simp) (by simp)
  have hxP := hx2.kept ((Fr.refl [] w2).alloc (.cells #[.int .i64 (A : Int), .int .i64 (B : Int)] 55)) (by simp)
  have hQ : (w2.alloc (.cells #[.int .i64 (A : Int), .int .i64 (B : Int)] 55)).heap[w2.heap.size]? = some (.cells #[.int .i64 (A : Int), .int .i64 (B : Int)] 55 (0, 0)) := heap_alloc_new _ _
  have hzP : (w2.alloc (.cells #[.int .i64 (A : Int), .int .i64 (B : Int)] 55)).heap.size = w2.heap.size + 1 := by simp
  have hwl2 := hw2.lt
  clear hf1 hf2 hx2 hw2
  generalize w2.alloc (.cells #[.int .i64 (A : Int), .int .i64 (B : Int)] 55) = wP at *
  generalize w2.heap.size = Q at *
  have k0 : wP.cell? ⟨Q, 0, none⟩ = some (.int .i64 (A : Int)) := by rw [cell_at hQ]; rfl
  have k1 : wP.cell? ⟨Q, 1, none⟩ = some (.int .i64 (B : Int)) := by rw [cell_at hQ]; rfl
  have c2 := hxP.c2
  have c3 := hxP.c3
  have HXP : Hid (Xr wP p s) := hxP
  have HQ : Hid (wP.heap[Q]? = some (.cells #[.int .i64 (A : Int), .int .i64 (B : Int)] 55 (0, 0))) := hQ
  have HWP : Hid (Wr wP q g1 (l ++ [true])) := hwP
  have HFP : Hid (Fr [q, g] w wP) := hfP
  clear hxP hQ hwP hfP
  have HFW : Hid ((fw s.a s.b d).1 = A ∧ (fw s.a s.b d).2 = B) := ⟨hA, hB⟩
  have hfb : 1 ≤ B := by rw [← hB]; exact (fw_pos hs h0 hd).1
  have HAB : Hid (A + B ≤ 64) := hfw.le.2
  have hA31 : A ≤ 31 := hfw.le.1
  have hB64 : B ≤ 64 := by have := hfw.le; omega
  obtain ⟨K, hK⟩ : ∃ K, 64 - A - B = K := ⟨_, rfl⟩
  have hK64 : K ≤ 64 := by omega
  have HK : Hid (64 - A - B = K) := hK
  obtain ⟨V, hV⟩ : ∃ V, d / 2 ^ K = V := ⟨_, rfl⟩
  have hsh : (d : Int) / 2 ^ K = (V : Int) := by rw [← hV]; simp
  have hV64 : V < 18446744073709551616 := by rw [← hV]; exact Nat.lt_of_le_of_lt (Nat.div_le_self _ _) hd
  have HDB : Hid (numBits V B = dbits A B d) := by show _ = _; unfold dbits; rw [hK, hV]
  clear hK hV
  by_cases hh : hasW s.a s.b d = true
  · have e1 : s.a = A := by rw [← hA]; unfold fw; rw [if_pos hh]
    have e2 : s.b = B := by rw [← hB]; unfold fw; rw [if_pos hh]
    have HD : Hid (diffBits s.a s.b d = false :: dbits A B d) := by show _ = _; unfold diffBits; rw [if_pos hh, e1, e2]
    rw [e1] at c2
    rw [e2] at c3
    have HA : Hid (s.a = A ∧ s.b = B) := ⟨e1, e2⟩
    clear hA hB e1 e2
    go_region_held3 (fun w' => w'.cell? ⟨Q, 0, none⟩ = some (.int .i64 (A : Int)) ∧ w'.cell? ⟨Q, 1, none⟩ = some (.int .i64 (B : Int)) ∧ w'.cell? ⟨p, 2, none⟩ = some (.int .i64 (A : Int)) ∧ w'.cell? ⟨p, 3, none⟩ = some (.int .i64 (B : Int))) (go_keep) (first
      | (go_at_call 36; refine (bit_any _ q g1 _ _ (Wr.drew HWP.out) (by simp; omega)).mono ?_; rintro e w3 ⟨rfl, g3, hw3, hg3, hf3⟩; have i0 := hf3.cell_some (p := ⟨Q, 0, none⟩) (v := .int .i64 (A : Int)) k0 (by simp; omega); have i1 := hf3.cell_some (p := ⟨Q, 1, none⟩) (v := .int .i64 (B : Int)) k1 (by simp; omega); have i2 := hf3.cell_some (p := ⟨p, 2, none⟩) (v := .int .i64 (A : Int)) c2 (by simp; omega); have i3 := hf3.cell_some (p := ⟨p, 3, none⟩) (v := .int .i64 (B : Int)) c3 (by simp; omega)))
    have hf3' : Fr [q, g1] wP w3 := ⟨hf3.os, hf3.tape, hf3.output, hf3.size, hf3.block⟩
    have hg3' : g3 = g1 ∨ wP.heap.size ≤ g3 := hg3
    have hFz := HFP.out.size
    have hF3 : Fr [q, g] w w3 := HFP.out.two hf3' (by omega)
    have hx3 := HXP.out.kept hf3' (by simp; omega)
    have hQ3 := hf3'.heap HQ.out (by simp; omega)
    have hz3 := hf3'.size
    have hg4 : g3 = g ∨ w.heap.size ≤ g3 := by omega
    have hQg : g3 ≠ Q := by omega
    clear hf3 hg3 hf3' hg3' k0 k1 c2 c3 HXP HQ HWP HFP
    go_wp2_with fail
    go_quiet (fail)
    have hwy : Wr (w3.drewN nq) q g3 _ := hw3
    have hxy : Xr (w3.drewN nq) p s := hx3
    have hQy : (w3.drewN nq).heap[Q]? = _ := hQ3
    have hFy : Fr [q, g] w (w3.drewN nq) := hF3.drewN _
    have hzy : w3.heap.size = (w3.drewN nq).heap.size := rfl
    clear i0 i1 i2 i3 hw3 hx3 hQ3 hF3
    generalize w3.drewN nq = wy at *
    have hwT := hwy
    have hxT := hxy
    have hQT := hQy
    have hFT := hFy
    clear hwy hxy hQy hFy
    have hwlt := hwT.lt
    have k0 : wy.cell? ⟨Q, 0, none⟩ = some (.int .i64 (A : Int)) := by rw [cell_at hQT]; rfl
    have k1 : wy.cell? ⟨Q, 1, none⟩ = some (.int .i64 (B : Int)) := by rw [cell_at hQT]; rfl
    have HXT : Hid (Xr wy p s) := hxT
    have HQT : Hid (wy.heap[Q]? = some (.cells #[.int .i64 (A : Int), .int .i64 (B : Int)] 55 (0, 0))) := hQT
    have HWT : Hid (Wr wy q g3 _) := hwT
    have HFT : Hid (Fr [q, g] w wy) := hFT
    clear hxT hQT hwT hFT
    go_wp2_with fail
    go_region_held3 (fun w' => w'.cell? ⟨Q, 0, none⟩ = some (.int .i64 (A : Int)) ∧ w'.cell? ⟨Q, 1, none⟩ = some (.int .i64 (B : Int))) (go_keep) (first
      | (go_at_call 37; refine (behind_is A B K _ HAB.out HK.out).mono ?_; rintro e w5 ⟨rfl, hf5⟩; have m0 := hf5.cell_some (p := ⟨Q, 0, none⟩) (v := .int .i64 (A : Int)) k0 (by simp); have m1 := hf5.cell_some (p := ⟨Q, 1, none⟩) (v := .int .i64 (B : Int)) k1 (by simp))
      | (go_at_call 27; refine (put_ok _ q g3 _ V B ((Wr.drew HWT.out).kept hf5 (by simp) (by simp)) (by simp; omega) hV64 hfb hB64).mono ?_; rintro e w6 ⟨rfl, g6, hw6, hg6, hf6⟩; have n0 := hf6.cell_some (p := ⟨Q, 0, none⟩) (v := .int .i64 (A : Int)) m0 (by simp; omega); have n1 := hf6.cell_some (p := ⟨Q, 1, none⟩) (v := .int .i64 (B : Int)) m1 (by simp; omega)))
    have hf5' : Fr [] wy w5 := ⟨hf5.os, hf5.tape, hf5.output, hf5.size, hf5.block⟩
    have hf56 : Fr [q, g3] wy w6 := hf5'.nil.trans hf6 (by simp)
    have hz5 := hf5'.size
    have hFz := HFT.out.size
    have hF6 : Fr [q, g] w w6 := HFT.out.two hf56 (by omega)
    have hx6 := HXT.out.kept hf56 (by simp; omega)
    have hg7 : g6 = g ∨ w.heap.size ≤ g6 := by omega
    have o2 := hx6.c2
    have o3 := hx6.c3
    have f2 := frozen_at hx6 2
    have f3 := frozen_at hx6 3
    have hz6 := hf6.size
    have hw6l := hw6.lt
    have HX6 : Hid (Xr w6 p s) := hx6
    have HW6 : Hid (Wr w6 q g6 (l ++ (true :: diffBits s.a s.b d))) := by
      show Wr _ _ _ _
      rw [HD.out, ← HDB.out]
      simpa using hw6
    have hpg6 : p ≠ g6 := by omega
    clear hf5 hf6 hf5' hf56 k0 k1 m0 m1 hx6 hw6 HXT HQT HWT HFT
    go_wp2_with fail
    go_end0
    have hff : Fr [p] w6 ((w6.setCell ⟨p, 2, none⟩ (.int .i64 (A : Int))).setCell ⟨p, 3, none⟩ (.int .i64 (B : Int))) := ((Fr.refl [p] w6).setCell _ _ (.inl (by simp))).setCell _ _ (.inl (by simp))
    refine ⟨rfl, ?_, g6, HW6.out.kept hff (by simp; omega) (by simp; omega), hg7, ?_⟩
    · have := HX6.out
      have e := HFW.out
      unfold Xr at this ⊢
      rw [e.1, e.2]
      simp [World.setCell, Array.getElem?_modify, this]
    · exact (hF6.mono (S' := [p, q, g]) (by intro x hx; simp at hx ⊢; omega)).trans hff (by simp)
  · have hf : hasW s.a s.b d = false := by simpa using hh
    have e1 : wa d = A := by rw [← hA]; unfold fw; rw [if_neg hh]
    have e2 : wb d = B := by rw [← hB]; unfold fw; rw [if_neg hh]
    have HD : Hid (diffBits s.a s.b d = true :: (numBits A 5 ++ numBits B 6 ++ dbits A B d)) := by show _ = _; unfold diffBits; rw [if_neg hh, e1, e2]
    have hne : ¬ (A = s.a ∧ B = s.b) := by rw [← e1, ← e2]; exact fw_same h0 hd hf
    clear hA hB e1 e2
    by_cases hAe : A = s.a
    · have hBe : ¬ B = s.b := fun h => hne ⟨hAe, h⟩
      have dB : ((B : Int) == (s.b : Int)) = false := beq_eq_false_iff_ne.2 (by omega)
      have HAe : Hid (A = s.a) := hAe
      rw [← hAe] at c2
      clear hAe hne
      go_region_held3 (fun w' => w'.cell? ⟨Q, 0, none⟩ = some (.int .i64 (A : Int)) ∧ w'.cell? ⟨Q, 1, none⟩ = some (.int .i64 (B : Int)) ∧ w'.cell? ⟨p, 2, none⟩ = some (.int .i64 (A : Int)) ∧ w'.cell? ⟨p, 3, none⟩ = some (.int .i64 (s.b : Int))) (go_keep) (first
        | (go_at_call 36; refine (bit_any _ q g1 _ _ (Wr.drew HWP.out) (by simp; omega)).mono ?_; rintro e w3 ⟨rfl, g3, hw3, hg3, hf3⟩; have i0 := hf3.cell_some (p := ⟨Q, 0, none⟩) (v := .int .i64 (A : Int)) k0 (by simp; omega); have i1 := hf3.cell_some (p := ⟨Q, 1, none⟩) (v := .int .i64 (B : Int)) k1 (by simp; omega); have i2 := hf3.cell_some (p := ⟨p, 2, none⟩) (v := .int .i64 (A : Int)) c2 (by simp; omega); have i3 := hf3.cell_some (p := ⟨p, 3, none⟩) (v := .int .i64 (s.b : Int)) c3 (by simp; omega)))
      have hf3' : Fr [q, g1] wP w3 := ⟨hf3.os, hf3.tape, hf3.output, hf3.size, hf3.block⟩
      have hg3' : g3 = g1 ∨ wP.heap.size ≤ g3 := hg3
      have hFz := HFP.out.size
      have hF3 : Fr [q, g] w w3 := HFP.out.two hf3' (by omega)
      have hx3 := HXP.out.kept hf3' (by simp; omega)
      have hQ3 := hf3'.heap HQ.out (by simp; omega)
      have hz3 := hf3'.size
      have hg4 : g3 = g ∨ w.heap.size ≤ g3 := by omega
      have hQg : g3 ≠ Q := by omega
      clear hf3 hg3 hf3' hg3' k0 k1 c2 c3 HXP HQ HWP HFP
      go_wp2_with fail
      go_quiet (fail)
      have hwy : Wr (w3.drewN nq) q g3 _ := hw3
      have hxy : Xr (w3.drewN nq) p s := hx3
      have hQy : (w3.drewN nq).heap[Q]? = _ := hQ3
      have hFy : Fr [q, g] w (w3.drewN nq) := hF3.drewN _
      have hzy : w3.heap.size = (w3.drewN nq).heap.size := rfl
      clear i0 i1 i2 i3 hw3 hx3 hQ3 hF3
      generalize w3.drewN nq = wy at *
      have k0 : wy.cell? ⟨Q, 0, none⟩ = some (.int .i64 (A : Int)) := by rw [cell_at hQy]; rfl
      have k1 : wy.cell? ⟨Q, 1, none⟩ = some (.int .i64 (B : Int)) := by rw [cell_at hQy]; rfl
      have hQlt := lt_of_heap hQy
      have hFyz := hFy.size
      go_wp2_with fail
      refine (put_ok wy q g3 _ A 5 hwy (by simp; omega) (by omega) (by omega) (by omega)).mono ?_
      rintro e w7 ⟨rfl, g7, hw7, hgS, hf7⟩
      have hF7 : Fr [q, g] w w7 := hFy.two hf7 (by omega)
      have hx7 := hxy.kept hf7 (by simp; omega)
      have hQ7 := hf7.heap hQy (by simp; omega)
      have hz7 := hf7.size
      have hgT : g7 = g ∨ w.heap.size ≤ g7 := by omega
      have hQg7 : g7 ≠ Q := by omega
      clear hwy hxy hQy hFy hf7 k0 k1 hgS hg4 hQg
      have k0 : w7.cell? ⟨Q, 0, none⟩ = some (.int .i64 (A : Int)) := by rw [cell_at hQ7]; rfl
      have k1 : w7.cell? ⟨Q, 1, none⟩ = some (.int .i64 (B : Int)) := by rw [cell_at hQ7]; rfl
      go_wp2_with fail
      refine (put_ok w7 q g7 _ B 6 hw7 (by simp; omega) (by omega) (by omega) (by omega)).mono ?_
      rintro e w8 ⟨rfl, g8, hw8, hgS, hf8⟩
      have hFT : Fr [q, g] w w8 := hF7.two hf8 (by omega)
      have hxT := hx7.kept hf8 (by simp; omega)
      have hQT := hf8.heap hQ7 (by simp; omega)
      have hz8 := hf8.size
      have hg4 : g8 = g ∨ w.heap.size ≤ g8 := by omega
      have hQg : g8 ≠ Q := by omega
      have hwT := hw8
      clear hw7 hx7 hQ7 hF7 hf8 k0 k1 hgS hgT hQg7 hw8
      have hwlt := hwT.lt
      have k0 : w8.cell? ⟨Q, 0, none⟩ = some (.int .i64 (A : Int)) := by rw [cell_at hQT]; rfl
      have k1 : w8.cell? ⟨Q, 1, none⟩ = some (.int .i64 (B : Int)) := by rw [cell_at hQT]; rfl
      have HXT : Hid (Xr w8 p s) := hxT
      have HQT : Hid (w8.heap[Q]? = some (.cells #[.int .i64 (A : Int), .int .i64 (B : Int)] 55 (0, 0))) := hQT
      have HWT : Hid (Wr w8 q g8 _) := hwT
      have HFT : Hid (Fr [q, g] w w8) := hFT
      clear hxT hQT hwT hFT
      go_wp2_with fail
      go_region_held3 (fun w' => w'.cell? ⟨Q, 0, none⟩ = some (.int .i64 (A : Int)) ∧ w'.cell? ⟨Q, 1, none⟩ = some (.int .i64 (B : Int))) (go_keep) (first
        | (go_at_call 37; refine (behind_is A B K _ HAB.out HK.out).mono ?_; rintro e w5 ⟨rfl, hf5⟩; have m0 := hf5.cell_some (p := ⟨Q, 0, none⟩) (v := .int .i64 (A : Int)) k0 (by simp); have m1 := hf5.cell_some (p := ⟨Q, 1, none⟩) (v := .int .i64 (B : Int)) k1 (by simp))
        | (go_at_call 27; refine (put_ok _ q g8 _ V B ((Wr.drew HWT.out).kept hf5 (by simp) (by simp)) (by simp; omega) hV64 hfb hB64).mono ?_; rintro e w6 ⟨rfl, g6, hw6, hg6, hf6⟩; have n0 := hf6.cell_some (p := ⟨Q, 0, none⟩) (v := .int .i64 (A : Int)) m0 (by simp; omega); have n1 := hf6.cell_some (p := ⟨Q, 1, none⟩) (v := .int .i64 (B : Int)) m1 (by simp; omega)))
      have hf5' : Fr [] w8 w5 := ⟨hf5.os, hf5.tape, hf5.output, hf5.size, hf5.block⟩
      have hf56 : Fr [q, g8] w8 w6 := hf5'.nil.trans hf6 (by simp)
      have hz5 := hf5'.size
      have hFz := HFT.out.size
      have hF6 : Fr [q, g] w w6 := HFT.out.two hf56 (by omega)
      have hx6 := HXT.out.kept hf56 (by simp; omega)
      have hg7 : g6 = g ∨ w.heap.size ≤ g6 := by omega
      have o2 := hx6.c2
      have o3 := hx6.c3
      have f2 := frozen_at hx6 2
      have f3 := frozen_at hx6 3
      have hz6 := hf6.size
      have hw6l := hw6.lt
      have HX6 : Hid (Xr w6 p s) := hx6
      have HW6 : Hid (Wr w6 q g6 (l ++ (true :: diffBits s.a s.b d))) := by
        show Wr _ _ _ _
        rw [HD.out, ← HDB.out]
        simpa using hw6
      have hpg6 : p ≠ g6 := by omega
      clear hf5 hf6 hf5' hf56 k0 k1 m0 m1 hx6 hw6 HXT HQT HWT HFT
      go_wp2_with fail
      go_end0
      have hff : Fr [p] w6 ((w6.setCell ⟨p, 2, none⟩ (.int .i64 (A : Int))).setCell ⟨p, 3, none⟩ (.int .i64 (B : Int))) := ((Fr.refl [p] w6).setCell _ _ (.inl (by simp))).setCell _ _ (.inl (by simp))
      refine ⟨rfl, ?_, g6, HW6.out.kept hff (by simp; omega) (by simp; omega), hg7, ?_⟩
      · have := HX6.out
        have e := HFW.out
        unfold Xr at this ⊢
        rw [e.1, e.2]
        simp [World.setCell, Array.getElem?_modify, this]
      · exact (hF6.mono (S' := [p, q, g]) (by intro x hx; simp at hx ⊢; omega)).trans hff (by simp)
    have dA : ((A : Int) == (s.a : Int)) = false := beq_eq_false_iff_ne.2 (by omega)
    go_region_held3 (fun w' => w'.cell? ⟨Q, 0, none⟩ = some (.int .i64 (A : Int)) ∧ w'.cell? ⟨Q, 1, none⟩ = some (.int .i64 (B : Int)) ∧ w'.cell? ⟨p, 2, none⟩ = some (.int .i64 (s.a : Int)) ∧ w'.cell? ⟨p, 3, none⟩ = some (.int .i64 (s.b : Int))) (go_keep) (first
      | (go_at_call 36; refine (bit_any _ q g1 _ _ (Wr.drew HWP.out) (by simp; omega)).mono ?_; rintro e w3 ⟨rfl, g3, hw3, hg3, hf3⟩; have i0 := hf3.cell_some (p := ⟨Q, 0, none⟩) (v := .int .i64 (A : Int)) k0 (by simp; omega); have i1 := hf3.cell_some (p := ⟨Q, 1, none⟩) (v := .int .i64 (B : Int)) k1 (by simp; omega); have i2 := hf3.cell_some (p := ⟨p, 2, none⟩) (v := .int .i64 (s.a : Int)) c2 (by simp; omega); have i3 := hf3.cell_some (p := ⟨p, 3, none⟩) (v := .int .i64 (s.b : Int)) c3 (by simp; omega)))
    have hf3' : Fr [q, g1] wP w3 := ⟨hf3.os, hf3.tape, hf3.output, hf3.size, hf3.block⟩
    have hg3' : g3 = g1 ∨ wP.heap.size ≤ g3 := hg3
    have hFz := HFP.out.size
    have hF3 : Fr [q, g] w w3 := HFP.out.two hf3' (by omega)
    have hx3 := HXP.out.kept hf3' (by simp; omega)
    have hQ3 := hf3'.heap HQ.out (by simp; omega)
    have hz3 := hf3'.size
    have hg4 : g3 = g ∨ w.heap.size ≤ g3 := by omega
    have hQg : g3 ≠ Q := by omega
    clear hf3 hg3 hf3' hg3' k0 k1 c2 c3 HXP HQ HWP HFP
    go_wp2_with fail
    go_quiet (fail)
    have hwy : Wr (w3.drewN nq) q g3 _ := hw3
    have hxy : Xr (w3.drewN nq) p s := hx3
    have hQy : (w3.drewN nq).heap[Q]? = _ := hQ3
    have hFy : Fr [q, g] w (w3.drewN nq) := hF3.drewN _
    have hzy : w3.heap.size = (w3.drewN nq).heap.size := rfl
    clear i0 i1 i2 i3 hw3 hx3 hQ3 hF3
    generalize w3.drewN nq = wy at *
    have k0 : wy.cell? ⟨Q, 0, none⟩ = some (.int .i64 (A : Int)) := by rw [cell_at hQy]; rfl
    have k1 : wy.cell? ⟨Q, 1, none⟩ = some (.int .i64 (B : Int)) := by rw [cell_at hQy]; rfl
    have hQlt := lt_of_heap hQy
    have hFyz := hFy.size
    go_wp2_with fail
    refine (put_ok wy q g3 _ A 5 hwy (by simp; omega) (by omega) (by omega) (by omega)).mono ?_
    rintro e w7 ⟨rfl, g7, hw7, hgS, hf7⟩
    have hF7 : Fr [q, g] w w7 := hFy.two hf7 (by omega)
    have hx7 := hxy.kept hf7 (by simp; omega)
    have hQ7 := hf7.heap hQy (by simp; omega)
    have hz7 := hf7.size
    have hgT : g7 = g ∨ w.heap.size ≤ g7 := by omega
    have hQg7 : g7 ≠ Q := by omega
    clear hwy hxy hQy hFy hf7 k0 k1 hgS hg4 hQg
    have k0 : w7.cell? ⟨Q, 0, none⟩ = some (.int .i64 (A : Int)) := by rw [cell_at hQ7]; rfl
    have k1 : w7.cell? ⟨Q, 1, none⟩ = some (.int .i64 (B : Int)) := by rw [cell_at hQ7]; rfl
    go_wp2_with fail
    refine (put_ok w7 q g7 _ B 6 hw7 (by simp; omega) (by omega) (by omega) (by omega)).mono ?_
    rintro e w8 ⟨rfl, g8, hw8, hgS, hf8⟩
    have hFT : Fr [q, g] w w8 := hF7.two hf8 (by omega)
    have hxT := hx7.kept hf8 (by simp; omega)
    have hQT := hf8.heap hQ7 (by simp; omega)
    have hz8 := hf8.size
    have hg4 : g8 = g ∨ w.heap.size ≤ g8 := by omega
    have hQg : g8 ≠ Q := by omega
    have hwT := hw8
    clear hw7 hx7 hQ7 hF7 hf8 k0 k1 hgS hgT hQg7 hw8
    have hwlt := hwT.lt
    have k0 : w8.cell? ⟨Q, 0, none⟩ = some (.int .i64 (A : Int)) := by rw [cell_at hQT]; rfl
    have k1 : w8.cell? ⟨Q, 1, none⟩ = some (.int .i64 (B : Int)) := by rw [cell_at hQT]; rfl
    have HXT : Hid (Xr w8 p s) := hxT
    have HQT : Hid (w8.heap[Q]? = some (.cells #[.int .i64 (A : Int), .int .i64 (B : Int)] 55 (0, 0))) := hQT
    have HWT : Hid (Wr w8 q g8 _) := hwT
    have HFT : Hid (Fr [q, g] w w8) := hFT
    clear hxT hQT hwT hFT
    go_wp2_with fail
    go_region_held3 (fun w' => w'.cell? ⟨Q, 0, none⟩ = some (.int .i64 (A : Int)) ∧ w'.cell? ⟨Q, 1, none⟩ = some (.int .i64 (B : Int))) (go_keep) (first
      | (go_at_call 37; refine (behind_is A B K _ HAB.out HK.out).mono ?_; rintro e w5 ⟨rfl, hf5⟩; have m0 := hf5.cell_some (p := ⟨Q, 0, none⟩) (v := .int .i64 (A : Int)) k0 (by simp); have m1 := hf5.cell_some (p := ⟨Q, 1, none⟩) (v := .int .i64 (B : Int)) k1 (by simp))
      | (go_at_call 27; refine (put_ok _ q g8 _ V B ((Wr.drew HWT.out).kept hf5 (by simp) (by simp)) (by simp; omega) hV64 hfb hB64).mono ?_; rintro e w6 ⟨rfl, g6, hw6, hg6, hf6⟩; have n0 := hf6.cell_some (p := ⟨Q, 0, none⟩) (v := .int .i64 (A : Int)) m0 (by simp; omega); have n1 := hf6.cell_some (p := ⟨Q, 1, none⟩) (v := .int .i64 (B : Int)) m1 (by simp; omega)))
    have hf5' : Fr [] w8 w5 := ⟨hf5.os, hf5.tape, hf5.output, hf5.size, hf5.block⟩
    have hf56 : Fr [q, g8] w8 w6 := hf5'.nil.trans hf6 (by simp)
    have hz5 := hf5'.size
    have hFz := HFT.out.size
    have hF6 : Fr [q, g] w w6 := HFT.out.two hf56 (by omega)
    have hx6 := HXT.out.kept hf56 (by simp; omega)
    have hg7 : g6 = g ∨ w.heap.size ≤ g6 := by omega
    have o2 := hx6.c2
    have o3 := hx6.c3
    have f2 := frozen_at hx6 2
    have f3 := frozen_at hx6 3
    have hz6 := hf6.size
    have hw6l := hw6.lt
    have HX6 : Hid (Xr w6 p s) := hx6
    have HW6 : Hid (Wr w6 q g6 (l ++ (true :: diffBits s.a s.b d))) := by
      show Wr _ _ _ _
      rw [HD.out, ← HDB.out]
      simpa using hw6
    have hpg6 : p ≠ g6 := by omega
    clear hf5 hf6 hf5' hf56 k0 k1 m0 m1 hx6 hw6 HXT HQT HWT HFT
    go_wp2_with fail
    go_end0
    have hff : Fr [p] w6 ((w6.setCell ⟨p, 2, none⟩ (.int .i64 (A : Int))).setCell ⟨p, 3, none⟩ (.int .i64 (B : Int))) := ((Fr.refl [p] w6).setCell _ _ (.inl (by simp))).setCell _ _ (.inl (by simp))
    refine ⟨rfl, ?_, g6, HW6.out.kept hff (by simp; omega) (by simp; omega), hg7, ?_⟩
    · have := HX6.out
      have e := HFW.out
      unfold Xr at this ⊢
      rw [e.1, e.2]
      simp [World.setCell, Array.getElem?_modify, this]
    · exact (hF6.mono (S' := [p, q, g]) (by intro x hx; simp at hx ⊢; omega)).trans hff (by simp)
end Go.Proofs.YtjijbegoehpicaaDoor
