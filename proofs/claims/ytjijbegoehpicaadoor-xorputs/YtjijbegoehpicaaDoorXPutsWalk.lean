/-
  The walk of tidepolelaw05.XorPuts: it returns true, whatever it is given, and writes nothing that was there.
-/
import Derived.Test.YtjijbegoehpicaaDoorLaw5
import Derived.Test.YtjijbegoehpicaaDoorRef5T
import Derived.Test.YtjijbegoehpicaaDoorRowArgs
namespace Go.Proofs.YtjijbegoehpicaaDoor
open Go.RowKit Mem Bits Windows
set_option linter.unusedSimpArgs false
set_option linter.unusedVariables false

/-- The document's row in its variable. -/
def Dr (w : World) (b : Nat) (s : XRow) : Prop := Four w b (.int .u64 (s.last : Int)) (.int .i64 (s.n : Int)) (.int .i64 (s.a : Int)) (.int .i64 (s.b : Int))

set_option maxRecDepth 100000 in
set_option maxHeartbeats 4000000 in
theorem puts_walk (a0 : Option Addr) (len0 cap0 : Nat) (z0 : List Int) (w : World) (hT : XTab w) (w0 : IsRow .u64 w a0 len0 cap0 z0) :
    Calls Tryd.prog 3 #[.slice a0 len0 cap0] w fun e w' => e = .returned (.bool true) ∧ Fr [] w w' := by
  obtain ⟨b, off, z, ha, hcell, hz⟩ := w0.nats
  clear w0
  have hsz := hT.lt
  have HT : Hid (XTab w) := hT
  clear hT
  by_cases hbad : 30 < len0
  · have d0 : decide (30 < (len0 : Int)) = true := decide_eq_true (by omega)
    clear ha hcell hz
    go_enter Tryd.func3, Tryd.ntmps3
    go_wp2_with fail
    refine (awake_any w HT.out).mono ?_
    rintro e w' ⟨rfl, hf⟩
    go_wp2_with fail
    go_ret
    exact ⟨by first | rfl | trivial, hf⟩
  have d0 : decide (30 < (len0 : Int)) = false := decide_eq_false (by omega)
  have HZ : Hid (∀ j, z j < 18446744073709551616) := hz
  have HCELL : Hid (∀ j, j < len0 → w.cell? ⟨b, off + j, none⟩ = some (.int .u64 (z j : Int))) := hcell
  have HA0 : Hid (0 < len0 → a0 = some ⟨b, off, none⟩) := ha
  have HOK : Hid (∀ k, (xrow z k).ok) := xrow_ok hz
  have HN : Hid (∀ k, (xrow z k).n = k) := xrow_n z
  have HLE : Hid (∀ k, (xall z k).length ≤ 77 * k) := xall_le hz
  clear hz hcell ha
  go_enter Tryd.func3, Tryd.ntmps3
  go_wp2_with fail
  refine (newWriter_ok _ [] 0 w (Src.nil w) (by decide) (by decide)).mono ?_
  rintro e w1 ⟨p, g, rfl, hw, hp, hg, hf1⟩
  have hw1 : Wr w1 p g (xall z 0) := hw
  have hwl1 := hw.lt
  have hz1 := hf1.size
  clear hw
  go_wp2_with fail
  refine (xnew_any w1).mono ?_
  rintro e w2 ⟨x, rfl, hx2, hxz, hf2⟩
  have hw2 := hw1.kept hf2 (by simp) (by simp)
  have hF2 : Fr [] w w2 := hf1.trans hf2 (by simp)
  have hxl := hx2.lt
  have hz2 := hf2.size
  clear hw1 hf1 hf2
  have hfS : Fr [] w2 (w2.alloc (.cells #[.int .u64 0, .int .i64 0, .int .i64 0, .int .i64 0] 32)) := (Fr.refl _ _).alloc _
  have hS : Dr (w2.alloc (.cells #[.int .u64 0, .int .i64 0, .int .i64 0, .int .i64 0] 32)) w2.heap.size (xrow z 0) := heap_alloc_new _ _
  have hzS : (w2.alloc (.cells #[.int .u64 0, .int .i64 0, .int .i64 0, .int .i64 0] 32)).heap.size = w2.heap.size + 1 := by simp
  go_wp2_with fail
  generalize w2.alloc (.cells #[.int .u64 0, .int .i64 0, .int .i64 0, .int .i64 0] 32) = w3 at *
  generalize w2.heap.size = S at *
  have hw3 := hw2.kept hfS (by simp) (by simp)
  have hx3 := hx2.kept hfS (by simp)
  have hx3' : Xr w3 x (xrow z 0) := hx3
  have hF3 : Fr [] w w3 := hF2.trans hfS (by simp)
  have hord : w.heap.size ≤ p ∧ w.heap.size ≤ g ∧ w.heap.size ≤ x ∧ w.heap.size ≤ S ∧ x ≠ p ∧ x ≠ g ∧ S ≠ p ∧ S ≠ g ∧ x ≠ S ∧ x < w3.heap.size ∧ S < w3.heap.size := by omega
  clear hp hg hwl1 hz1 hxz hxl hz2 hzS hw2 hx2 hF2 hfS hx3
  obtain ⟨hp, hg, hx0, hS0, hxp, hxg, hSp, hSg, hxS, hxl3, hSl3⟩ := hord
  go_loopw [7, 37] (fun t c wr => ∃ k gk : Nat, k ≤ len0 ∧ t = .string (txt (xall z k)) ∧ c = .int .i64 (k : Int) ∧ Wr wr p gk (xall z k) ∧ Xr wr x (xrow z k) ∧ Dr wr S (xrow z k) ∧ w.heap.size ≤ gk ∧ x ≠ gk ∧ S ≠ gk ∧ x < wr.heap.size ∧ S < wr.heap.size ∧ Fr [] w wr) (fun _ c _ => len0 - (intOf c).toNat)
  case atStart => exact ⟨0, g, by omega, rfl, rfl, hw3, hx3', hS, hg, hxg, hSg, hxl3, hSl3, hF3⟩
  case round =>
    clear hw3 hx3' hS hF3 hxl3 hSl3 hg hxg hSg
    obtain ⟨k, gk, hk, rfl, rfl, hwk, hxk, hSk, hgk, hxgk, hSgk, hxlk, hSlk, hfr⟩ := hrel
    have hpl := HLE.out k
    by_cases hlt : k < len0
    · have hae := HA0.out (by omega)
      subst hae
      have hc := hfr.cell_some (HCELL.out k hlt) (by simp)
      have dk : decide ((k : Int) < (len0 : Int)) = true := decide_eq_true (by omega)
      have hzr := hfr.size
      have hwlr := hwk.lt
      have HOKk := HOK.out k
      have hVk := HZ.out k
      have hnk : (xrow z k).n ≤ 1000000000 := by rw [HN.out k]; omega
      have HXN : Hid (xrow z (k + 1) = xnext (xrow z k) (z k)) := rfl
      have HXA : Hid (xall z (k + 1) = xall z k ++ xbits (xrow z k) (z k)) := rfl
      have HLast : Hid ((xnext (xrow z k) (z k)).last = z k) := xnext_last _ _
      have hxb := xbits_le HOKk hVk
      have hzt : (txt (xall z k)).size = (xall z k).length := txt_size _
      have HOK1 : Hid (xrow z k).ok := HOKk
      clear HOKk
      generalize hse : xrow z k = s at *
      clear hse
      generalize hve : z k = V at *
      clear hve
      obtain ⟨M, hM⟩ : ∃ M, M = xbits s V := ⟨_, rfl⟩
      have HM : Hid (M = xbits s V) := hM
      rw [← hM] at hxb HXA
      have hzM : (txt M).size = M.length := txt_size _
      clear hM
      go_wp2_with fail
      refine (xcopy_any wr x s hxk).mono ?_
      rintro e w4 ⟨cb, rfl, hc4, hcb, hf4⟩
      have hx4 := hxk.kept hf4 (by simp)
      have hw4 := hwk.kept hf4 (by simp) (by simp)
      have hS4 : Dr w4 S s := Four.kept hSk hf4 (by simp)
      have hF4 : Fr [] w w4 := hfr.trans hf4 (by simp)
      have hz4 := hf4.size
      have hcl := hc4.lt
      clear hxk hwk hSk hfr hf4 hc
      go_wp2_with fail
      refine (xcost_any w4 x s V (HT.out.kept hF4 (by simp)) hx4 HOK1.out hVk).mono ?_
      rintro e w5 ⟨rfl, hf5⟩
      rw [← HM.out]
      have hx5 := hx4.kept hf5 (by simp)
      have hc5 := hc4.kept hf5 (by simp)
      have hw5 := hw4.kept hf5 (by simp) (by simp)
      have hS5 : Dr w5 S s := Four.kept hS4 hf5 (by simp)
      have hF5 : Fr [] w w5 := hF4.trans hf5 (by simp)
      have hz5 := hf5.size
      have s0 := Four.c0 hS5
      have s1 := Four.c1 hS5
      have s2 := Four.c2 hS5
      have s3 := Four.c3 hS5
      clear hx4 hc4 hw4 hS4 hF4 hf5
      go_wp2_with fail
      refine (rput_any s V w5 HOK1.out hnk hVk).mono ?_
      rintro e w6 ⟨rfl, hf6⟩
      rw [← HM.out]
      have hx6 := hx5.kept hf6 (by simp)
      have hc6 := hc5.kept hf6 (by simp)
      have hw6 := hw5.kept hf6 (by simp) (by simp)
      have hS6 : Dr w6 S s := Four.kept hS5 hf6 (by simp)
      have hF6 : Fr [] w w6 := hF5.trans hf6 (by simp)
      have hz6 := hf6.size
      clear s0 s1 s2 s3 hx5 hc5 hw5 hS5 hF5 hf6
      obtain ⟨n, hn⟩ : ∃ n, n = xnext s V := ⟨_, rfl⟩
      rw [← hn] at HXN HLast ⊢
      have HNX : Hid (n = xnext s V) := hn
      clear hn
      have hfN : Fr [] w6 (w6.alloc (.cells #[.int .u64 (n.last : Int), .int .i64 (n.n : Int), .int .i64 (n.a : Int), .int .i64 (n.b : Int)] 32)) := (Fr.refl _ _).alloc _
      have hN : Dr (w6.alloc (.cells #[.int .u64 (n.last : Int), .int .i64 (n.n : Int), .int .i64 (n.a : Int), .int .i64 (n.b : Int)] 32)) w6.heap.size n := heap_alloc_new _ _
      have hzN : (w6.alloc (.cells #[.int .u64 (n.last : Int), .int .i64 (n.n : Int), .int .i64 (n.a : Int), .int .i64 (n.b : Int)] 32)).heap.size = w6.heap.size + 1 := by simp
      go_wp2_with fail
      generalize w6.alloc (.cells #[.int .u64 (n.last : Int), .int .i64 (n.n : Int), .int .i64 (n.a : Int), .int .i64 (n.b : Int)] 32) = w7 at *
      have hx7 := hx6.kept hfN (by simp)
      have hc7 := hc6.kept hfN (by simp)
      have hw7 := hw6.kept hfN (by simp) (by simp)
      have hS7 : Dr w7 S s := Four.kept hS6 hfN (by simp)
      have hF7 : Fr [] w w7 := hF6.trans hfN (by simp)
      generalize hNb : w6.heap.size = N at *
      clear hx6 hc6 hw6 hS6 hF6 hfN
      refine (xput_any w7 x p gk s (xall z k) V (HT.out.kept hF7 (by simp)) (by omega) (by omega) (by omega) hxp hxgk hx7 hw7 HOK1.out hnk hVk (by omega)).mono ?_
      rintro e w8 ⟨rfl, hx8, g8, hw8, hg8, hf8⟩
      rw [← HNX.out] at hx8
      rw [← HM.out] at hw8
      have hc8 := hc7.kept hf8 (by simp; omega)
      have hS8 : Dr w8 S s := Four.kept hS7 hf8 (by simp; omega)
      have hN8 : Dr w8 N n := Four.kept hN hf8 (by simp; omega)
      have hF8 : Fr [] w w8 := hF7.trans hf8 (by simp; omega)
      have hz8 := hf8.size
      have hq1 : w.heap.size ≤ g8 ∧ x ≠ g8 ∧ S ≠ g8 ∧ x < w8.heap.size ∧ S < w8.heap.size ∧ N ≠ S := by omega
      have s0 := Four.c0 hS8
      have s1 := Four.c1 hS8
      have s2 := Four.c2 hS8
      have s3 := Four.c3 hS8
      have f0 := frozen_at hS8 0
      have f1 := frozen_at hS8 1
      have f2 := frozen_at hS8 2
      have f3 := frozen_at hS8 3
      have n0 := Four.c0 hN8
      have n1 := Four.c1 hN8
      have n2 := Four.c2 hN8
      have n3 := Four.c3 hN8
      have hNS : (N == S) = false := beq_eq_false_iff_ne.2 hq1.2.2.2.2.2
      have HC8 : Hid (∀ n, Xr (w8.drewN n) cb s) := fun _ => hc8
      have HX8 : Hid (Xr w8 x n) := hx8
      have HW8 : Hid (Wr w8 p g8 (xall z k ++ M)) := hw8
      have HS8 : Hid (Dr w8 S s) := hS8
      have HF8 : Hid (Fr [] w w8) := hF8
      clear hx7 hc7 hw7 hS7 hF7 hf8 hN hc8 hx8 hw8 hS8 hN8 hF8
      go_wp2_with fail
      go_quiet (first | (go_at_call 12; exact Calls.quiet_of_same ((xlen_any _ cb s (HC8.out _)).mono fun e w' ⟨a, b⟩ => ⟨a, b.symm⟩)) | (go_at_call 13; exact Calls.quiet_of_same ((xlast_any _ cb s (HC8.out _)).mono fun e w' ⟨a, b⟩ => ⟨a, b.symm⟩)))
      go_wp2_with fail
      have hfS9 : Fr [S] w8 (((((w8.drewN nq).setCell ⟨S, 0, none⟩ (.int .u64 (n.last : Int))).setCell ⟨S, 1, none⟩ (.int .i64 (n.n : Int))).setCell ⟨S, 2, none⟩ (.int .i64 (n.a : Int))).setCell ⟨S, 3, none⟩ (.int .i64 (n.b : Int))) := (((((Fr.refl [S] w8).drewN nq).setCell _ _ (.inl (by simp))).setCell _ _ (.inl (by simp))).setCell _ _ (.inl (by simp))).setCell _ _ (.inl (by simp))
      have hS9 : Dr (((((w8.drewN nq).setCell ⟨S, 0, none⟩ (.int .u64 (n.last : Int))).setCell ⟨S, 1, none⟩ (.int .i64 (n.n : Int))).setCell ⟨S, 2, none⟩ (.int .i64 (n.a : Int))).setCell ⟨S, 3, none⟩ (.int .i64 (n.b : Int))) S n := (Four.drewN HS8.out nq).set _ _ _ _
      generalize ((((w8.drewN nq).setCell ⟨S, 0, none⟩ (.int .u64 (n.last : Int))).setCell ⟨S, 1, none⟩ (.int .i64 (n.n : Int))).setCell ⟨S, 2, none⟩ (.int .i64 (n.a : Int))).setCell ⟨S, 3, none⟩ (.int .i64 (n.b : Int)) = w9 at *
      have hx9 := HX8.out.kept hfS9 (by simp; omega)
      have hw9 := HW8.out.kept hfS9 (by simp; omega) (by simp; omega)
      have hF9 : Fr [] w w9 := HF8.out.trans hfS9 (by simp; omega)
      have hz9 := hfS9.size
      clear HC8 HX8 HW8 HS8 HF8 hfS9 s0 s1 s2 s3 f0 f1 f2 f3 n0 n1 n2 n3 hNS
      refine (xwindow_any w9 x n hx9).mono ?_
      rintro e w10 ⟨rfl, hf10⟩
      have hx10 := hx9.kept hf10 (by simp)
      have hw10 := hw9.kept hf10 (by simp) (by simp)
      have hS10 : Dr w10 S n := Four.kept hS9 hf10 (by simp)
      have hF10 : Fr [] w w10 := hF9.trans hf10 (by simp)
      have hz10 := hf10.size
      have s0 := Four.c0 hS10
      have s1 := Four.c1 hS10
      have s2 := Four.c2 hS10
      have s3 := Four.c3 hS10
      have HC10 : Hid (∀ m, Xr (w10.drewN m) x n) := fun _ => hx10
      have dl : ((n.last : Int) != (V : Int)) = false := by rw [HLast.out]; simp
      have HX10 : Hid (Xr w10 x n) := hx10
      have HW10 : Hid (Wr w10 p g8 (xall z k ++ M)) := hw10
      have HS10 : Hid (Dr w10 S n) := hS10
      have HF10 : Hid (Fr [] w w10) := hF10
      clear hx9 hw9 hS9 hF9 hf10 hx10 hw10 hS10 hF10
      go_wp2_with fail
      go_quiet (first | (go_at_call 12; exact Calls.quiet_of_same ((xlen_any _ x n (HC10.out _)).mono fun e w' ⟨a, b⟩ => ⟨a, b.symm⟩)) | (go_at_call 13; exact Calls.quiet_of_same ((xlast_any _ x n (HC10.out _)).mono fun e w' ⟨a, b⟩ => ⟨a, b.symm⟩)))
      go_wp2_with fail
      go_roundw
      case rel => exact ⟨k + 1, g8, by omega, by rw [HXA.out, ← txt_append], by go_num, by rw [HXA.out]; exact HW10.out, by rw [HXN.out]; exact HX10.out, by rw [HXN.out]; exact HS10.out, hq1.1, hq1.2.1, hq1.2.2.1, by show x < w10.heap.size; omega, by show S < w10.heap.size; omega, HF10.out.drewN _⟩
      case measure => simp [intOf]; omega
    · have hjl : k = len0 := by omega
      subst hjl
      have dk : decide ((k : Int) < (k : Int)) = false := decide_eq_false (by omega)
      clear hSk hxk
      go_wp2_with fail
      refine (lbits_any wr p gk (xall z k) hwk (by omega)).mono ?_
      rintro e w5 ⟨rfl, hf5⟩
      have hF5 : Fr [] w w5 := hfr.trans hf5 (by simp)
      clear hf5 hfr hwk
      go_wp2_with fail
      refine (awake_any w5 (HT.out.kept hF5 (by simp))).mono ?_
      rintro e w6 ⟨rfl, hf6⟩
      go_wp2_with fail
      go_ret
      exact ⟨by first | rfl | trivial, hF5.trans hf6 (by simp)⟩
end Go.Proofs.YtjijbegoehpicaaDoor
