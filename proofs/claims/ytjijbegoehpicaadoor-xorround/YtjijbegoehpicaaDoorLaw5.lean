/-
  What the statements of layer 5 share: bits (a writer's bits as a text), and awake (a fixed answer): true, and nothing is turned that was there.
-/
import Derived.Test.YtjijbegoehpicaaDoorXRead
import Derived.Test.YtjijbegoehpicaaDoorRefTxt
namespace Go.Proofs.YtjijbegoehpicaaDoor
open Go.RowKit Mem Bits Windows
set_option linter.unusedSimpArgs false
set_option linter.unusedVariables false

/-- Rows, by the values put. -/
def xrow (z : Nat → Nat) : Nat → XRow
  | 0 => xnew
  | k + 1 => xnext (xrow z k) (z k)
def xall (z : Nat → Nat) : Nat → List Bool
  | 0 => []
  | k + 1 => xall z k ++ xbits (xrow z k) (z k)
theorem xrow_ok {z : Nat → Nat} (hz : ∀ j, z j < 18446744073709551616) : ∀ k, (xrow z k).ok
  | 0 => xnew_ok
  | k + 1 => xnext_ok (xrow_ok hz k) (hz k)
theorem xrow_n (z : Nat → Nat) : ∀ k, (xrow z k).n = k
  | 0 => rfl
  | k + 1 => by rw [xrow, xnext_n, xrow_n z k]
theorem xall_le {z : Nat → Nat} (hz : ∀ j, z j < 18446744073709551616) : ∀ k, (xall z k).length ≤ 77 * k
  | 0 => by simp [xall]
  | k + 1 => by have := xall_le hz k; have := xbits_le (xrow_ok hz k) (hz k); simp only [xall, List.length_append]; omega
theorem xall_split (z : Nat → Nat) (k m : Nat) (h : k < m) : ∃ r, xall z m = xall z k ++ xbits (xrow z k) (z k) ++ r := by
  have : ∀ d, ∃ r, xall z (k + 1 + d) = xall z k ++ xbits (xrow z k) (z k) ++ r := by
    intro d
    induction d with
    | zero => exact ⟨[], by simp [xall]⟩
    | succ d ih =>
      obtain ⟨r, hr⟩ := ih
      exact ⟨r ++ xbits (xrow z (k + 1 + d)) (z (k + 1 + d)), by rw [← Nat.add_assoc]; show xall z (k + 1 + d) ++ _ = _; rw [hr]; simp⟩
  have := this (m - (k + 1))
  rwa [show k + 1 + (m - (k + 1)) = m from by omega] at this

set_option maxRecDepth 100000 in
set_option maxHeartbeats 1000000 in
theorem lbits_any (w : World) (p g : Nat) (l : List Bool) (h : Wr w p g l) (hl : l.length ≤ 1000000) :
    Calls Tryd.prog 15 #[.pointer (some ⟨p, 0, none⟩)] w fun e w' => e = .returned (.string (txt l)) ∧ Fr [] w w' := by
  have hnb : nbs l.length ≤ 125001 := by unfold nbs; omega
  have h8 : l.length ≤ 8 * nbs l.length := by unfold nbs; omega
  have HU : Hid (unpack (pack l) l.length = l) := unpack_pack l
  have HPL : Hid ((pack l).length = nbs l.length) := pack_length l
  go_enter Tryd.func15, Tryd.ntmps15
  go_wp2_with fail
  refine (bytes_any w p g l h (by omega)).mono ?_
  rintro e w1 ⟨g1, rfl, hg1, hz1, hf1⟩
  have hlt : ∀ x ∈ pack l, x < 256 := packN_lt _ _
  have hsrc : Src w1 (.slice (some ⟨g1, 0, none⟩) (nbs l.length) (nbs l.length)) (pack l) := Wr.src (Row.made hg1 (by unfold maxLen; omega) (by simp))
  have hrun := run_str hsrc
  have hw1 := h.kept hf1 (by simp) (by simp)
  have hzs : (str (pack l)).size = nbs l.length := by rw [str_size]; exact HPL.out
  clear hsrc hg1 h
  have d0 : decide ((l.length : Int) < 0) = false := decide_eq_false (by omega)
  have d1 : decide (8 * ((str (pack l)).size : Int) < (l.length : Int)) = false := decide_eq_false (by omega)
  have hzb : (str (pack l)).size ≤ 125001 := by omega
  have HZS : Hid ((str (pack l)).size = nbs l.length) := hzs
  clear hzs
  go_wp2_with fail
  refine (len_any w1 p g l hw1).mono ?_
  rintro e w2 ⟨rfl, rfl⟩
  go_wp2_with fail
  refine (len_any w1 p g l hw1).mono ?_
  rintro e w2 ⟨rfl, rfl⟩
  go_wp2_with fail
  refine (len_any w1 p g l hw1).mono ?_
  rintro e w2 ⟨rfl, rfl⟩
  go_wp2_with fail
  refine (text_any (pack l) l.length w1 hlt (by rw [HPL.out]; exact h8) (by rw [HPL.out]; omega)).mono ?_
  rintro e w2 ⟨rfl, rfl⟩
  rw [HU.out]
  go_wp2_with fail
  go_ret
  exact ⟨by first | rfl | trivial, hf1⟩

/-- What awake puts: 1, 1, 3. -/
def zA (j : Nat) : Nat := if j = 2 then 3 else 1
theorem zA_lt (j : Nat) : zA j < 18446744073709551616 := by unfold zA; split <;> decide
theorem zA_row : xrow zA 3 = ⟨3, 3, 31, 32⟩ := by rfl
theorem zA_len : (xall zA 3).length = 110 := by decide +kernel

set_option maxRecDepth 100000 in
set_option maxHeartbeats 2000000 in
theorem awake_any (w : World) (hT : XTab w) : Calls Tryd.prog 5 #[] w fun e w' => e = .returned (.bool true) ∧ Fr [] w w' := by
  have hsz := hT.lt
  have HT : Hid (XTab w) := hT
  clear hT
  have HZ : Hid (∀ k, (xrow zA k).ok) := xrow_ok zA_lt
  have HLE : Hid (∀ k, (xall zA k).length ≤ 77 * k) := xall_le zA_lt
  go_enter Tryd.func5, Tryd.ntmps5
  go_wp2_with fail
  refine (newWriter_ok _ [] 0 w (Src.nil w) (by decide) (by decide)).mono ?_
  rintro e w1 ⟨p, g, rfl, hw, hp, hg, hf1⟩
  have hw1 : Wr w1 p g (xall zA 0) := hw
  have hz1 := hf1.size
  have hwl := hw.lt
  clear hw
  go_wp2_with fail
  refine (xnew_any w1).mono ?_
  rintro e w2 ⟨x, rfl, hx2, hxz, hf2⟩
  have hx2' : Xr w2 x (xrow zA 0) := hx2
  have hw2 := hw1.kept hf2 (by simp) (by simp)
  have hF2 : Fr [] w w2 := hf1.trans hf2 (by simp)
  have hz2 := hf2.size
  have hxl := hx2.lt
  clear hx2 hw1 hf1 hf2
  go_wp2_with fail
  refine (xput_any w2 x p g (xrow zA 0) _ 1 (HT.out.kept hF2 (by simp)) (by omega) (by omega) (by omega) (by omega) (by omega) hx2' hw2 (HZ.out 0) (by decide) (by decide) (by have := HLE.out 0; omega)).mono ?_
  rintro e w3 ⟨rfl, hx3, g3, hw3, hg3, hf3⟩
  have hx3' : Xr w3 x (xrow zA 1) := hx3
  have hw3' : Wr w3 p g3 (xall zA 1) := hw3
  have hF3 : Fr [] w w3 := hF2.trans hf3 (by simp; omega)
  have hz3 := hf3.size
  clear hx3 hw3 hx2' hw2 hF2 hf3
  go_wp2_with fail
  refine (xput_any w3 x p g3 (xrow zA 1) _ 1 (HT.out.kept hF3 (by simp)) (by omega) (by omega) (by omega) (by omega) (by omega) hx3' hw3' (HZ.out 1) (by decide) (by decide) (by have := HLE.out 1; omega)).mono ?_
  rintro e w4 ⟨rfl, hx4, g4, hw4, hg4, hf4⟩
  have hx4' : Xr w4 x (xrow zA 2) := hx4
  have hw4' : Wr w4 p g4 (xall zA 2) := hw4
  have hF4 : Fr [] w w4 := hF3.trans hf4 (by simp; omega)
  have hz4 := hf4.size
  clear hx4 hw4 hx3' hw3' hF3 hf4
  go_wp2_with fail
  refine (xput_any w4 x p g4 (xrow zA 2) _ 3 (HT.out.kept hF4 (by simp)) (by omega) (by omega) (by omega) (by omega) (by omega) hx4' hw4' (HZ.out 2) (by decide) (by decide) (by have := HLE.out 2; omega)).mono ?_
  rintro e w5 ⟨rfl, hx5, g5, hw5, hg5, hf5⟩
  have hx5' : Xr w5 x ⟨3, 3, 31, 32⟩ := by rw [← zA_row]; exact hx5
  have hw5' : Wr w5 p g5 (xall zA 3) := hw5
  have hF5 : Fr [] w w5 := hF4.trans hf5 (by simp; omega)
  have hz5 := hf5.size
  clear hx5 hw5 hx4' hw4' hF4 hf5
  go_wp2_with fail
  refine (xwindow_any w5 x _ hx5').mono ?_
  rintro e w6 ⟨rfl, hf6⟩
  have hx6 := hx5'.kept hf6 (by simp)
  have hw6 := hw5'.kept hf6 (by simp) (by simp)
  have hF6 : Fr [] w w6 := hF5.trans hf6 (by simp)
  have hz6 := hf6.size
  have hwl6 := hw6.lt
  have HL : Hid ((xall zA 3).length = 110) := zA_len
  have HS : Hid (∀ i, i < 3 → ∃ r, xall zA 3 = xall zA i ++ xbits (xrow zA i) (zA i) ++ r) := fun i hi => xall_split zA i 3 hi
  generalize xall zA 3 = L at *
  clear hx5' hw5' hF5 hf6
  have hL1 : L.length ≤ 110 := by have := HL.out; omega
  go_wp2_with fail
  refine (bytes_any w6 p g5 L hw6 (by omega)).mono ?_
  rintro e w7 ⟨g7, rfl, hg7, hz7, hf7⟩
  have hw7 := hw6.kept hf7 (by simp) (by simp)
  have hx7 := hx6.kept hf7 (by simp)
  have hF7 : Fr [] w w7 := hF6.trans hf7 (by simp)
  have hz7' := hf7.size
  clear hw6 hx6 hF6 hf7
  go_wp2_with fail
  refine (len_any w7 p g5 L hw7).mono ?_
  rintro e w8 ⟨rfl, rfl⟩
  have hsrc : Src w7 (.slice (some ⟨g7, 0, none⟩) (nbs L.length) (nbs L.length)) (pack L) := Wr.src (Row.made hg7 (by unfold maxLen nbs; omega) (by simp))
  go_wp2_with fail
  refine (newReader_ok _ (pack L) L.length w7 hsrc (by simp) (by omega)).mono ?_
  rintro e w8 ⟨q, h, rfl, hr8, hq, hh, hf8⟩
  rw [unpack_pack] at hr8
  have hw8 := hw7.kept hf8 (by simp) (by simp)
  have hx8 := hx7.kept hf8 (by simp)
  have hF8 : Fr [] w w8 := hF7.trans hf8 (by simp)
  have hz8 := hf8.size
  have hrl := hr8.lt
  clear hw7 hx7 hF7 hf8 hsrc hg7
  go_wp2_with fail
  refine (xnew_any w8).mono ?_
  rintro e w9 ⟨y, rfl, hy9, hyz, hf9⟩
  have hy9' : Xr w9 y (xrow zA 0) := hy9
  have hw9 := hw8.kept hf9 (by simp) (by simp)
  have hx9 := hx8.kept hf9 (by simp)
  have hr9' := hr8.kept hf9 (by simp) (by simp)
  have hr9 : Rd w9 q h L (xall zA 0).length L.length false := hr9'
  have hF9 : Fr [] w w9 := hF8.trans hf9 (by simp)
  have hyl := hy9.lt
  have hqb : w6.heap.size ≤ q ∧ w6.heap.size ≤ h := by omega
  clear hy9 hw8 hx8 hr8 hF8 hf9 hr9'
  go_wp2_with fail
  obtain ⟨r0, hr0e⟩ := HS.out 0 (by omega)
  have HR0 : Hid (L = xall zA 0 ++ xbits (xrow zA 0) 1 ++ r0) := hr0e
  have hrd0 : Rd w9 q h (xall zA 0 ++ xbits (xrow zA 0) 1 ++ r0) (xall zA 0).length L.length false := by rw [← HR0.out]; exact hr9
  have hle0 : (xall zA 0).length + (xbits (xrow zA 0) 1).length ≤ L.length := by rw [HR0.out]; simp
  clear hr0e hr9
  refine (xgetV_put w9 y q h (xrow zA 0) (xall zA 0) r0 L.length false 1 (HT.out.kept hF9 (by simp)) (by omega) hy9' hrd0 (by rw [← HR0.out]; omega) hle0 (by omega) (by omega) (HZ.out 0) (by decide) (by decide)).mono ?_
  rintro e w10 ⟨rfl, hy0, hrr0, hf0⟩
  rw [← HR0.out] at hrr0
  have hyn0 : Xr w10 y (xrow zA 1) := hy0
  have hrn0 : Rd w10 q h L (xall zA 1).length L.length false := by
    have e : (xall zA 1).length = (xall zA 0).length + (xbits (xrow zA 0) 1).length := by show (xall zA 0 ++ xbits (xrow zA 0) 1).length = _; simp
    rw [e]; exact hrr0
  have hwn0 := hw9.kept hf0 (by simp; omega) (by simp; omega)
  have hxn0 := hx9.kept hf0 (by simp; omega)
  have hFn0 : Fr [] w w10 := hF9.trans hf0 (by simp; omega)
  clear hy0 hrr0 hf0 hy9' hw9 hx9 hF9 hrd0 hle0 HR0 r0
  go_wp2_with fail
  obtain ⟨r1, hr1e⟩ := HS.out 1 (by omega)
  have HR1 : Hid (L = xall zA 1 ++ xbits (xrow zA 1) 1 ++ r1) := hr1e
  have hrd1 : Rd w10 q h (xall zA 1 ++ xbits (xrow zA 1) 1 ++ r1) (xall zA 1).length L.length false := by rw [← HR1.out]; exact hrn0
  have hle1 : (xall zA 1).length + (xbits (xrow zA 1) 1).length ≤ L.length := by rw [HR1.out]; simp
  clear hr1e hrn0
  refine (xgetV_put w10 y q h (xrow zA 1) (xall zA 1) r1 L.length false 1 (HT.out.kept hFn0 (by simp)) (by omega) hyn0 hrd1 (by rw [← HR1.out]; omega) hle1 (by omega) (by omega) (HZ.out 1) (by decide) (by decide)).mono ?_
  rintro e w11 ⟨rfl, hy1, hrr1, hf1⟩
  rw [← HR1.out] at hrr1
  have hyn1 : Xr w11 y (xrow zA 2) := hy1
  have hrn1 : Rd w11 q h L (xall zA 2).length L.length false := by
    have e : (xall zA 2).length = (xall zA 1).length + (xbits (xrow zA 1) 1).length := by show (xall zA 1 ++ xbits (xrow zA 1) 1).length = _; simp
    rw [e]; exact hrr1
  have hwn1 := hwn0.kept hf1 (by simp; omega) (by simp; omega)
  have hxn1 := hxn0.kept hf1 (by simp; omega)
  have hFn1 : Fr [] w w11 := hFn0.trans hf1 (by simp; omega)
  clear hy1 hrr1 hf1 hyn0 hwn0 hxn0 hFn0 hrd1 hle1 HR1 r1
  go_wp2_with fail
  obtain ⟨r2, hr2e⟩ := HS.out 2 (by omega)
  have HR2 : Hid (L = xall zA 2 ++ xbits (xrow zA 2) 3 ++ r2) := hr2e
  have hrd2 : Rd w11 q h (xall zA 2 ++ xbits (xrow zA 2) 3 ++ r2) (xall zA 2).length L.length false := by rw [← HR2.out]; exact hrn1
  have hle2 : (xall zA 2).length + (xbits (xrow zA 2) 3).length ≤ L.length := by rw [HR2.out]; simp
  clear hr2e hrn1
  refine (xgetV_put w11 y q h (xrow zA 2) (xall zA 2) r2 L.length false 3 (HT.out.kept hFn1 (by simp)) (by omega) hyn1 hrd2 (by rw [← HR2.out]; omega) hle2 (by omega) (by omega) (HZ.out 2) (by decide) (by decide)).mono ?_
  rintro e w12 ⟨rfl, hy2, hrr2, hf2⟩
  rw [← HR2.out] at hrr2
  have hyn2 : Xr w12 y (xrow zA 3) := hy2
  have hrn2 : Rd w12 q h L (xall zA 3).length L.length false := by
    have e : (xall zA 3).length = (xall zA 2).length + (xbits (xrow zA 2) 3).length := by show (xall zA 2 ++ xbits (xrow zA 2) 3).length = _; simp
    rw [e]; exact hrr2
  have hwn2 := hwn1.kept hf2 (by simp; omega) (by simp; omega)
  have hxn2 := hxn1.kept hf2 (by simp; omega)
  have hFn2 : Fr [] w w12 := hFn1.trans hf2 (by simp; omega)
  clear hy2 hrr2 hf2 hyn1 hwn1 hxn1 hFn1 hrd2 hle2 HR2 r2
  have e3 : (xall zA 3).length = L.length := by rw [HL.out]; exact zA_len
  rw [e3] at hrn2
  have hn3 : (xrow zA 3).n ≠ 0 := by rw [zA_row]; decide
  go_wp2_with fail
  refine (xgetV_short w12 y q h (xrow zA 3) L L.length L.length false hyn2 hrn2 (by omega) (by omega) (by omega) hn3).mono ?_
  rintro e w13 ⟨rfl, hy13, hr13, hf13⟩
  have hw13 := hwn2.kept hf13 (by simp; omega) (by simp; omega)
  have hx13 := hxn2.kept hf13 (by simp; omega)
  have hF13 : Fr [] w w13 := hFn2.trans hf13 (by simp; omega)
  clear hyn2 hrn2 hwn2 hxn2 hFn2 hf13 hr13 hy13 e3 hn3
  go_wp2_with fail
  refine (len_any w13 p g5 L hw13).mono ?_
  rintro e w14 ⟨rfl, rfl⟩
  rw [HL.out]
  go_wp2_with fail
  refine (xlen_any w13 x _ hx13).mono ?_
  rintro e w14 ⟨rfl, rfl⟩
  go_wp2_with fail
  refine (xlast_any w13 x _ hx13).mono ?_
  rintro e w14 ⟨rfl, rfl⟩
  go_wp2_with fail
  go_ret
  exact ⟨by first | rfl | trivial, hF13⟩
end Go.Proofs.YtjijbegoehpicaaDoor
