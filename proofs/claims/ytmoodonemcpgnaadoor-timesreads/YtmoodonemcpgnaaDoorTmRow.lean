/-
  Package times: New, Copy, Len, Last, Step, signed, stepTo, change, add, Put, Cost (rows of int64: I, of uint64: U).
-/
import Derived.Test.YtmoodonemcpgnaaDoorEvens
import Derived.Test.YtmoodonemcpgnaaDoorVbPut
namespace Go.Proofs.YtmoodonemcpgnaaDoor
open Go.RowKit Mem Bits Groups Evens
set_option linter.unusedSimpArgs false
set_option linter.unusedVariables false

/-! ### Rows of int64 -/
def TrI (w : World) (p : Nat) (s : TRow) : Prop := w.heap[p]? = some (.cells #[.int .i64 (sg (s.last)), .int .i64 (sg s.step), .int .i64 (s.n : Int)] 65 (0, 0))
theorem TrI.kept {w w' : World} {p : Nat} {s : TRow} {S : List Nat} (h : TrI w p s) (f : Fr S w w') (hp : p ∉ S) : TrI w' p s := f.heap h hp
theorem TrI.lt {w : World} {p : Nat} {s : TRow} (h : TrI w p s) : p < w.heap.size := lt_of_heap h
theorem TrI.c0 {w : World} {p : Nat} {s : TRow} (h : TrI w p s) : w.cell? ⟨p, 0, none⟩ = some (.int .i64 (sg (s.last))) := by rw [cell_at h]; rfl
theorem TrI.c1 {w : World} {p : Nat} {s : TRow} (h : TrI w p s) : w.cell? ⟨p, 1, none⟩ = some (.int .i64 (sg s.step)) := by rw [cell_at h]; rfl
theorem TrI.c2 {w : World} {p : Nat} {s : TRow} (h : TrI w p s) : w.cell? ⟨p, 2, none⟩ = some (.int .i64 (s.n : Int)) := by rw [cell_at h]; rfl

set_option maxHeartbeats 400000 in
theorem tnewI_any (w : World) :
    Calls Tryd.prog 8 #[] w fun e w' => ∃ p, e = .returned (.pointer (some ⟨p, 0, none⟩)) ∧ TrI w' p t0 ∧ w.heap.size ≤ p ∧ Fr [] w w' := by
  go_enter Tryd.func8, Tryd.ntmps8
  go_wp2_with fail
  go_ret
  exact ⟨w.heap.size, rfl, heap_alloc_new _ _, Nat.le_refl _, (Fr.refl _ _).alloc _⟩

set_option maxHeartbeats 400000 in
theorem tlenI_any (w : World) (p : Nat) (s : TRow) (h : TrI w p s) :
    Calls Tryd.prog 18 #[.pointer (some ⟨p, 0, none⟩)] w fun e w' => e = .returned (.int .i64 (s.n : Int)) ∧ w = w' := by
  have c2 := h.c2
  clear h
  go_enter Tryd.func18, Tryd.ntmps18
  go_wp2_with fail
  go_ret
  exact ⟨rfl, rfl⟩

set_option maxHeartbeats 400000 in
theorem tlastI_any (w : World) (p : Nat) (s : TRow) (h : TrI w p s) :
    Calls Tryd.prog 16 #[.pointer (some ⟨p, 0, none⟩)] w fun e w' => e = .returned (.int .i64 (sg (s.last))) ∧ w = w' := by
  have c0 := h.c0
  clear h
  go_enter Tryd.func16, Tryd.ntmps16
  go_wp2_with fail
  go_ret
  exact ⟨rfl, rfl⟩

set_option maxHeartbeats 400000 in
theorem tstepI_any (w : World) (p : Nat) (s : TRow) (h : TrI w p s) :
    Calls Tryd.prog 20 #[.pointer (some ⟨p, 0, none⟩)] w fun e w' => e = .returned (.int .i64 (sg s.step)) ∧ w = w' := by
  have c1 := h.c1
  clear h
  go_enter Tryd.func20, Tryd.ntmps20
  go_wp2_with fail
  go_ret
  exact ⟨rfl, rfl⟩

set_option maxHeartbeats 400000 in
theorem signedI_any (w : World) : Calls Tryd.prog 39 #[] w fun e w' => e = .returned (.bool true) ∧ w = w' := by
  go_enter Tryd.func39, Tryd.ntmps39
  go_wp2_with fail
  go_ret
  exact ⟨by first | rfl | decide, rfl⟩

set_option maxHeartbeats 400000 in
theorem stepToI_any (w : World) (p : Nat) (s : TRow) (V : Nat) (h : TrI w p s) (hs : s.ok) (hV : V < 18446744073709551616) :
    Calls Tryd.prog 55 #[.pointer (some ⟨p, 0, none⟩), .int .i64 (sg (V))] w fun e w' => e = .returned (.int .i64 (sg (stp s V))) ∧ w' = w := by
  have c0 := h.c0
  have HE : Hid (wrap64 (sg V - sg s.last) = sg (stp s V)) := by
    show _ = _
    exact wrap_diff hV hs.1
  clear h hs
  go_enter Tryd.func55, Tryd.ntmps55
  go_wp2_with fail
  go_ret
  exact ⟨by rw [← HE.out]; rfl, rfl⟩

set_option maxHeartbeats 400000 in
theorem changeI_any (w : World) (p : Nat) (s : TRow) (V : Nat) (h : TrI w p s) (hs : s.ok) (hV : V < 18446744073709551616) :
    Calls Tryd.prog 38 #[.pointer (some ⟨p, 0, none⟩), .int .i64 (sg (V))] w fun e w' => e = .returned (.int .i64 (sg (chg s V))) ∧ Fr [] w w' := by
  have c1 := h.c1
  have HE : Hid (wrap64 (sg (stp s V) - sg s.step) = sg (chg s V)) := wrap_diff (stp_lt s V) hs.2
  have HS : Hid (s.ok) := hs
  have HH : Hid (TrI w p s) := h
  have HV : Hid (V < 18446744073709551616) := hV
  clear h hs hV
  go_enter Tryd.func38, Tryd.ntmps38
  go_wp2_with fail
  go_quiet ((go_at_call 55; exact Calls.quiet_of_same (stepToI_any _ p s V (HH.out.kept ((Fr.refl [] _).drewN _) (by simp)) HS.out HV.out)))
  go_wp2_with fail
  go_ret
  exact ⟨by rw [← HE.out]; rfl, (Fr.refl _ _).drewN _⟩

set_option maxHeartbeats 400000 in
theorem addI_any (w : World) (p : Nat) (s : TRow) (V : Nat) (h : TrI w p s) (hs : s.ok) (hV : V < 18446744073709551616) (hn : s.n ≤ 1000000000) :
    Calls Tryd.prog 45 #[.pointer (some ⟨p, 0, none⟩), .int .i64 (sg (V))] w fun e w' => e = .returned (.tuple #[]) ∧ TrI w' p (tnext s V) ∧ Fr [p] w w' := by
  have c0 := h.c0
  have c1 := h.c1
  have c2 := h.c2
  have f0 := frozen_at h 0
  have f1 := frozen_at h 1
  have f2 := frozen_at h 2
  have H : Hid (TrI w p s) := h
  have HS : Hid (s.ok) := hs
  have HV : Hid (V < 18446744073709551616) := hV
  clear h hs hV
  by_cases h0 : s.n = 0
  · have d0 : decide (0 < (s.n : Int)) = false := decide_eq_false (by omega)
    have d1 : decide (0 < s.n) = false := decide_eq_false (by omega)
    have HN : Hid (tnext s V = ⟨V, s.step, s.n + 1⟩) := by show _ = _; unfold tnext; rw [if_pos h0]
    clear h0
    go_enter Tryd.func45, Tryd.ntmps45
    go_wp2_with fail
    go_end0
    refine ⟨rfl, ?_, ((Fr.refl [p] w).setCell _ _ (.inl (by simp))).setCell _ _ (.inl (by simp))⟩
    rw [HN.out]
    have := H.out
    unfold TrI at this ⊢
    simp [World.setCell, Array.getElem?_modify, this]
  · have d0 : decide (0 < (s.n : Int)) = true := decide_eq_true (by omega)
    have d1 : decide (0 < s.n) = true := decide_eq_true (by omega)
    have HN : Hid (tnext s V = ⟨V, stp s V, s.n + 1⟩) := by show _ = _; unfold tnext; rw [if_neg h0]
    clear h0
    go_enter Tryd.func45, Tryd.ntmps45
    go_wp2_with fail
    refine (stepToI_any w p s V H.out HS.out HV.out).mono ?_
    rintro e w1 ⟨rfl, rfl⟩
    go_wp2_with fail
    go_end0
    refine ⟨rfl, ?_, (((Fr.refl [p] _).setCell _ _ (.inl (by simp))).setCell _ _ (.inl (by simp))).setCell _ _ (.inl (by simp))⟩
    rw [HN.out]
    have := H.out
    unfold TrI at this ⊢
    simp [World.setCell, Array.getElem?_modify, this]

set_option maxRecDepth 100000 in
set_option maxHeartbeats 1000000 in
theorem tputI_any (w : World) (p q g : Nat) (s : TRow) (l : List Bool) (V : Nat) (hT : Tab w) (hp : 0 < p) (hq : 0 < q) (hg : 0 < g) (hpq : p ≠ q) (hpg : p ≠ g)
    (hx : TrI w p s) (hw : Wr w q g l) (hs : s.ok) (hn : s.n ≤ 1000000000) (hV : V < 18446744073709551616) (hl : l.length ≤ 4294966000) :
    Calls Tryd.prog 14 #[.pointer (some ⟨p, 0, none⟩), .pointer (some ⟨q, 0, none⟩), .int .i64 (sg (V))] w fun e w' => e = .returned (.tuple #[]) ∧ TrI w' p (tnext s V) ∧ ∃ g', Wr w' q g' (l ++ tbits true s V) ∧ (g' = g ∨ w.heap.size ≤ g') ∧ Fr [p, q, g] w w' := by
  have c2 := hx.c2
  have hxl := hx.lt
  have HS : Hid (s.ok) := hs
  have HV : Hid (V < 18446744073709551616) := hV
  have HT : Hid (Tab w) := hT
  clear hs hV hT
  by_cases h0 : s.n = 0
  · have d0 : decide (0 < (s.n : Int)) = false := decide_eq_false (by omega)
    have d1 : decide (0 < s.n) = false := decide_eq_false (by omega)
    have HB : Hid (tbits true s V = sbits (sg V)) := by show _ = _; unfold tbits; rw [if_pos h0]; rfl
    clear h0
    rw [HB.out]
    obtain ⟨hb1, hb2⟩ := sg_in HV.out
    go_enter Tryd.func14, Tryd.ntmps14
    go_wp2_with fail
    refine (signedI_any w).mono ?_
    rintro e w1 ⟨rfl, rfl⟩
    go_wp2_with fail
    refine (vputS_any w q g l (sg V) HT.out hq hg hw hl hb1 hb2).mono ?_
    rintro e w2 ⟨rfl, g2, hw2, hg2, hf2⟩
    have hx2 := hx.kept hf2 (by simp; omega)
    clear hw hx c2
    go_wp2_with fail
    refine (addI_any w2 p s V hx2 HS.out HV.out hn).mono ?_
    rintro e w3 ⟨rfl, hx3, hf3⟩
    have hw3 := hw2.kept hf3 (by simp; omega) (by simp; omega)
    go_wp2_with fail
    go_end0
    exact ⟨rfl, hx3, g2, hw3, hg2, (hf2.mono (by simp)).trans hf3 (by simp)⟩
  · have d0 : decide (0 < (s.n : Int)) = true := decide_eq_true (by omega)
    have d1 : decide (0 < s.n) = true := decide_eq_true (by omega)
    have HB : Hid (tbits true s V = sbits (sg (chg s V))) := by show _ = _; unfold tbits; rw [if_neg h0]
    clear h0
    rw [HB.out]
    obtain ⟨hb1, hb2⟩ := sg_in (chg_lt s V)
    go_enter Tryd.func14, Tryd.ntmps14
    go_wp2_with fail
    refine (changeI_any w p s V hx HS.out HV.out).mono ?_
    rintro e w1 ⟨rfl, hf1⟩
    have hx1 := hx.kept hf1 (by simp)
    have hw1 := hw.kept hf1 (by simp) (by simp)
    have hz1 := hf1.size
    clear hx hw c2
    go_wp2_with fail
    refine (vputS_any w1 q g l (sg (chg s V)) (HT.out.kept hf1 (by simp)) hq hg hw1 hl hb1 hb2).mono ?_
    rintro e w2 ⟨rfl, g2, hw2, hg2, hf2⟩
    have hx2 := hx1.kept hf2 (by simp; omega)
    clear hw1 hx1
    go_wp2_with fail
    refine (addI_any w2 p s V hx2 HS.out HV.out hn).mono ?_
    rintro e w3 ⟨rfl, hx3, hf3⟩
    have hw3 := hw2.kept hf3 (by simp; omega) (by simp; omega)
    go_wp2_with fail
    go_end0
    exact ⟨rfl, hx3, g2, hw3, by omega, ((hf1.nil (S := [p, q, g])).trans hf2 (by simp)).trans hf3 (by simp)⟩

set_option maxRecDepth 100000 in
set_option maxHeartbeats 1000000 in
theorem tcostI_any (w : World) (p : Nat) (s : TRow) (V : Nat) (hT : Tab w) (hx : TrI w p s) (hs : s.ok) (hV : V < 18446744073709551616) :
    Calls Tryd.prog 12 #[.pointer (some ⟨p, 0, none⟩), .int .i64 (sg (V))] w fun e w' => e = .returned (.int .i64 ((tbits true s V).length : Int)) ∧ Fr [] w w' := by
  have c2 := hx.c2
  have HS : Hid (s.ok) := hs
  have HV : Hid (V < 18446744073709551616) := hV
  have HT : Hid (Tab w) := hT
  clear hs hV hT
  by_cases h0 : s.n = 0
  · have d0 : decide (0 < (s.n : Int)) = false := decide_eq_false (by omega)
    have d1 : decide (0 < s.n) = false := decide_eq_false (by omega)
    have HB : Hid (tbits true s V = sbits (sg V)) := by show _ = _; unfold tbits; rw [if_pos h0]; rfl
    clear h0
    rw [HB.out]
    obtain ⟨hb1, hb2⟩ := sg_in HV.out
    go_enter Tryd.func12, Tryd.ntmps12
    go_wp2_with fail
    refine (signedI_any w).mono ?_
    rintro e w1 ⟨rfl, rfl⟩
    go_wp2_with fail
    refine (lenS_any (sg V) w HT.out hb1 hb2).mono ?_
    rintro e w2 ⟨rfl, hf2⟩
    go_wp2_with fail
    go_ret
    exact ⟨rfl, hf2⟩
  · have d0 : decide (0 < (s.n : Int)) = true := decide_eq_true (by omega)
    have d1 : decide (0 < s.n) = true := decide_eq_true (by omega)
    have HB : Hid (tbits true s V = sbits (sg (chg s V))) := by show _ = _; unfold tbits; rw [if_neg h0]
    clear h0
    rw [HB.out]
    obtain ⟨hb1, hb2⟩ := sg_in (chg_lt s V)
    go_enter Tryd.func12, Tryd.ntmps12
    go_wp2_with fail
    refine (changeI_any w p s V hx HS.out HV.out).mono ?_
    rintro e w1 ⟨rfl, hf1⟩
    clear hx c2
    go_wp2_with fail
    refine (lenS_any (sg (chg s V)) w1 (HT.out.kept hf1 (by simp)) hb1 hb2).mono ?_
    rintro e w2 ⟨rfl, hf2⟩
    go_wp2_with fail
    go_ret
    exact ⟨rfl, hf1.trans hf2 (by simp)⟩


/-! ### Rows of uint64 -/
def TrU (w : World) (p : Nat) (s : TRow) : Prop := w.heap[p]? = some (.cells #[.int .u64 ((s.last : Nat) : Int), .int .i64 (sg s.step), .int .i64 (s.n : Int)] 67 (0, 0))
theorem TrU.kept {w w' : World} {p : Nat} {s : TRow} {S : List Nat} (h : TrU w p s) (f : Fr S w w') (hp : p ∉ S) : TrU w' p s := f.heap h hp
theorem TrU.lt {w : World} {p : Nat} {s : TRow} (h : TrU w p s) : p < w.heap.size := lt_of_heap h
theorem TrU.c0 {w : World} {p : Nat} {s : TRow} (h : TrU w p s) : w.cell? ⟨p, 0, none⟩ = some (.int .u64 ((s.last : Nat) : Int)) := by rw [cell_at h]; rfl
theorem TrU.c1 {w : World} {p : Nat} {s : TRow} (h : TrU w p s) : w.cell? ⟨p, 1, none⟩ = some (.int .i64 (sg s.step)) := by rw [cell_at h]; rfl
theorem TrU.c2 {w : World} {p : Nat} {s : TRow} (h : TrU w p s) : w.cell? ⟨p, 2, none⟩ = some (.int .i64 (s.n : Int)) := by rw [cell_at h]; rfl

set_option maxHeartbeats 400000 in
theorem tnewU_any (w : World) :
    Calls Tryd.prog 9 #[] w fun e w' => ∃ p, e = .returned (.pointer (some ⟨p, 0, none⟩)) ∧ TrU w' p t0 ∧ w.heap.size ≤ p ∧ Fr [] w w' := by
  go_enter Tryd.func9, Tryd.ntmps9
  go_wp2_with fail
  go_ret
  exact ⟨w.heap.size, rfl, heap_alloc_new _ _, Nat.le_refl _, (Fr.refl _ _).alloc _⟩

set_option maxHeartbeats 400000 in
theorem tlenU_any (w : World) (p : Nat) (s : TRow) (h : TrU w p s) :
    Calls Tryd.prog 19 #[.pointer (some ⟨p, 0, none⟩)] w fun e w' => e = .returned (.int .i64 (s.n : Int)) ∧ w = w' := by
  have c2 := h.c2
  clear h
  go_enter Tryd.func19, Tryd.ntmps19
  go_wp2_with fail
  go_ret
  exact ⟨rfl, rfl⟩

set_option maxHeartbeats 400000 in
theorem tlastU_any (w : World) (p : Nat) (s : TRow) (h : TrU w p s) :
    Calls Tryd.prog 17 #[.pointer (some ⟨p, 0, none⟩)] w fun e w' => e = .returned (.int .u64 ((s.last : Nat) : Int)) ∧ w = w' := by
  have c0 := h.c0
  clear h
  go_enter Tryd.func17, Tryd.ntmps17
  go_wp2_with fail
  go_ret
  exact ⟨rfl, rfl⟩

set_option maxHeartbeats 400000 in
theorem tstepU_any (w : World) (p : Nat) (s : TRow) (h : TrU w p s) :
    Calls Tryd.prog 22 #[.pointer (some ⟨p, 0, none⟩)] w fun e w' => e = .returned (.int .i64 (sg s.step)) ∧ w = w' := by
  have c1 := h.c1
  clear h
  go_enter Tryd.func22, Tryd.ntmps22
  go_wp2_with fail
  go_ret
  exact ⟨rfl, rfl⟩

set_option maxHeartbeats 400000 in
theorem signedU_any (w : World) : Calls Tryd.prog 42 #[] w fun e w' => e = .returned (.bool false) ∧ w = w' := by
  go_enter Tryd.func42, Tryd.ntmps42
  go_wp2_with fail
  go_ret
  exact ⟨by first | rfl | decide, rfl⟩

set_option maxHeartbeats 400000 in
theorem stepToU_any (w : World) (p : Nat) (s : TRow) (V : Nat) (h : TrU w p s) (hs : s.ok) (hV : V < 18446744073709551616) :
    Calls Tryd.prog 57 #[.pointer (some ⟨p, 0, none⟩), .int .u64 ((V : Nat) : Int)] w fun e w' => e = .returned (.int .i64 (sg (stp s V))) ∧ w' = w := by
  have c0 := h.c0
  have HE : Hid (wrap64 (IntKind.u64.wrap ((V : Int) - (s.last : Int))) = sg (stp s V)) := by
    show _ = _
    rw [wrapU_diff hV hs.1]; exact wrap_sg (sub64_lt _ _)
  clear h hs
  go_enter Tryd.func57, Tryd.ntmps57
  go_wp2_with fail
  go_ret
  exact ⟨by rw [← HE.out]; rfl, rfl⟩

set_option maxHeartbeats 400000 in
theorem changeU_any (w : World) (p : Nat) (s : TRow) (V : Nat) (h : TrU w p s) (hs : s.ok) (hV : V < 18446744073709551616) :
    Calls Tryd.prog 41 #[.pointer (some ⟨p, 0, none⟩), .int .u64 ((V : Nat) : Int)] w fun e w' => e = .returned (.int .i64 (sg (chg s V))) ∧ Fr [] w w' := by
  have c1 := h.c1
  have HE : Hid (wrap64 (sg (stp s V) - sg s.step) = sg (chg s V)) := wrap_diff (stp_lt s V) hs.2
  have HS : Hid (s.ok) := hs
  have HH : Hid (TrU w p s) := h
  have HV : Hid (V < 18446744073709551616) := hV
  clear h hs hV
  go_enter Tryd.func41, Tryd.ntmps41
  go_wp2_with fail
  go_quiet ((go_at_call 57; exact Calls.quiet_of_same (stepToU_any _ p s V (HH.out.kept ((Fr.refl [] _).drewN _) (by simp)) HS.out HV.out)))
  go_wp2_with fail
  go_ret
  exact ⟨by rw [← HE.out]; rfl, (Fr.refl _ _).drewN _⟩

set_option maxHeartbeats 400000 in
theorem addU_any (w : World) (p : Nat) (s : TRow) (V : Nat) (h : TrU w p s) (hs : s.ok) (hV : V < 18446744073709551616) (hn : s.n ≤ 1000000000) :
    Calls Tryd.prog 46 #[.pointer (some ⟨p, 0, none⟩), .int .u64 ((V : Nat) : Int)] w fun e w' => e = .returned (.tuple #[]) ∧ TrU w' p (tnext s V) ∧ Fr [p] w w' := by
  have c0 := h.c0
  have c1 := h.c1
  have c2 := h.c2
  have f0 := frozen_at h 0
  have f1 := frozen_at h 1
  have f2 := frozen_at h 2
  have H : Hid (TrU w p s) := h
  have HS : Hid (s.ok) := hs
  have HV : Hid (V < 18446744073709551616) := hV
  clear h hs hV
  by_cases h0 : s.n = 0
  · have d0 : decide (0 < (s.n : Int)) = false := decide_eq_false (by omega)
    have d1 : decide (0 < s.n) = false := decide_eq_false (by omega)
    have HN : Hid (tnext s V = ⟨V, s.step, s.n + 1⟩) := by show _ = _; unfold tnext; rw [if_pos h0]
    clear h0
    go_enter Tryd.func46, Tryd.ntmps46
    go_wp2_with fail
    go_end0
    refine ⟨rfl, ?_, ((Fr.refl [p] w).setCell _ _ (.inl (by simp))).setCell _ _ (.inl (by simp))⟩
    rw [HN.out]
    have := H.out
    unfold TrU at this ⊢
    simp [World.setCell, Array.getElem?_modify, this]
  · have d0 : decide (0 < (s.n : Int)) = true := decide_eq_true (by omega)
    have d1 : decide (0 < s.n) = true := decide_eq_true (by omega)
    have HN : Hid (tnext s V = ⟨V, stp s V, s.n + 1⟩) := by show _ = _; unfold tnext; rw [if_neg h0]
    clear h0
    go_enter Tryd.func46, Tryd.ntmps46
    go_wp2_with fail
    refine (stepToU_any w p s V H.out HS.out HV.out).mono ?_
    rintro e w1 ⟨rfl, rfl⟩
    go_wp2_with fail
    go_end0
    refine ⟨rfl, ?_, (((Fr.refl [p] _).setCell _ _ (.inl (by simp))).setCell _ _ (.inl (by simp))).setCell _ _ (.inl (by simp))⟩
    rw [HN.out]
    have := H.out
    unfold TrU at this ⊢
    simp [World.setCell, Array.getElem?_modify, this]

set_option maxRecDepth 100000 in
set_option maxHeartbeats 1000000 in
theorem tputU_any (w : World) (p q g : Nat) (s : TRow) (l : List Bool) (V : Nat) (hT : Tab w) (hp : 0 < p) (hq : 0 < q) (hg : 0 < g) (hpq : p ≠ q) (hpg : p ≠ g)
    (hx : TrU w p s) (hw : Wr w q g l) (hs : s.ok) (hn : s.n ≤ 1000000000) (hV : V < 18446744073709551616) (hl : l.length ≤ 4294966000) :
    Calls Tryd.prog 15 #[.pointer (some ⟨p, 0, none⟩), .pointer (some ⟨q, 0, none⟩), .int .u64 ((V : Nat) : Int)] w fun e w' => e = .returned (.tuple #[]) ∧ TrU w' p (tnext s V) ∧ ∃ g', Wr w' q g' (l ++ tbits false s V) ∧ (g' = g ∨ w.heap.size ≤ g') ∧ Fr [p, q, g] w w' := by
  have c2 := hx.c2
  have hxl := hx.lt
  have HS : Hid (s.ok) := hs
  have HV : Hid (V < 18446744073709551616) := hV
  have HT : Hid (Tab w) := hT
  clear hs hV hT
  by_cases h0 : s.n = 0
  · have d0 : decide (0 < (s.n : Int)) = false := decide_eq_false (by omega)
    have d1 : decide (0 < s.n) = false := decide_eq_false (by omega)
    have HB : Hid (tbits false s V = ubits V) := by show _ = _; unfold tbits; rw [if_pos h0]; rfl
    clear h0
    rw [HB.out]
    obtain ⟨hb1, hb2⟩ := sg_in HV.out
    go_enter Tryd.func15, Tryd.ntmps15
    go_wp2_with fail
    refine (signedU_any w).mono ?_
    rintro e w1 ⟨rfl, rfl⟩
    go_wp2_with fail
    refine (vputU_any w q g l V HT.out hq hg hw hl HV.out).mono ?_
    rintro e w2 ⟨rfl, g2, hw2, hg2, hf2⟩
    have hx2 := hx.kept hf2 (by simp; omega)
    clear hw hx c2
    go_wp2_with fail
    refine (addU_any w2 p s V hx2 HS.out HV.out hn).mono ?_
    rintro e w3 ⟨rfl, hx3, hf3⟩
    have hw3 := hw2.kept hf3 (by simp; omega) (by simp; omega)
    go_wp2_with fail
    go_end0
    exact ⟨rfl, hx3, g2, hw3, hg2, (hf2.mono (by simp)).trans hf3 (by simp)⟩
  · have d0 : decide (0 < (s.n : Int)) = true := decide_eq_true (by omega)
    have d1 : decide (0 < s.n) = true := decide_eq_true (by omega)
    have HB : Hid (tbits false s V = sbits (sg (chg s V))) := by show _ = _; unfold tbits; rw [if_neg h0]
    clear h0
    rw [HB.out]
    obtain ⟨hb1, hb2⟩ := sg_in (chg_lt s V)
    go_enter Tryd.func15, Tryd.ntmps15
    go_wp2_with fail
    refine (changeU_any w p s V hx HS.out HV.out).mono ?_
    rintro e w1 ⟨rfl, hf1⟩
    have hx1 := hx.kept hf1 (by simp)
    have hw1 := hw.kept hf1 (by simp) (by simp)
    have hz1 := hf1.size
    clear hx hw c2
    go_wp2_with fail
    refine (vputS_any w1 q g l (sg (chg s V)) (HT.out.kept hf1 (by simp)) hq hg hw1 hl hb1 hb2).mono ?_
    rintro e w2 ⟨rfl, g2, hw2, hg2, hf2⟩
    have hx2 := hx1.kept hf2 (by simp; omega)
    clear hw1 hx1
    go_wp2_with fail
    refine (addU_any w2 p s V hx2 HS.out HV.out hn).mono ?_
    rintro e w3 ⟨rfl, hx3, hf3⟩
    have hw3 := hw2.kept hf3 (by simp; omega) (by simp; omega)
    go_wp2_with fail
    go_end0
    exact ⟨rfl, hx3, g2, hw3, by omega, ((hf1.nil (S := [p, q, g])).trans hf2 (by simp)).trans hf3 (by simp)⟩

set_option maxRecDepth 100000 in
set_option maxHeartbeats 1000000 in
theorem tcostU_any (w : World) (p : Nat) (s : TRow) (V : Nat) (hT : Tab w) (hx : TrU w p s) (hs : s.ok) (hV : V < 18446744073709551616) :
    Calls Tryd.prog 13 #[.pointer (some ⟨p, 0, none⟩), .int .u64 ((V : Nat) : Int)] w fun e w' => e = .returned (.int .i64 ((tbits false s V).length : Int)) ∧ Fr [] w w' := by
  have c2 := hx.c2
  have HS : Hid (s.ok) := hs
  have HV : Hid (V < 18446744073709551616) := hV
  have HT : Hid (Tab w) := hT
  clear hs hV hT
  by_cases h0 : s.n = 0
  · have d0 : decide (0 < (s.n : Int)) = false := decide_eq_false (by omega)
    have d1 : decide (0 < s.n) = false := decide_eq_false (by omega)
    have HB : Hid (tbits false s V = ubits V) := by show _ = _; unfold tbits; rw [if_pos h0]; rfl
    clear h0
    rw [HB.out]
    obtain ⟨hb1, hb2⟩ := sg_in HV.out
    go_enter Tryd.func13, Tryd.ntmps13
    go_wp2_with fail
    refine (signedU_any w).mono ?_
    rintro e w1 ⟨rfl, rfl⟩
    go_wp2_with fail
    refine (lenU_any V w HT.out HV.out).mono ?_
    rintro e w2 ⟨rfl, hf2⟩
    go_wp2_with fail
    go_ret
    exact ⟨rfl, hf2 ▸ Fr.refl _ _⟩
  · have d0 : decide (0 < (s.n : Int)) = true := decide_eq_true (by omega)
    have d1 : decide (0 < s.n) = true := decide_eq_true (by omega)
    have HB : Hid (tbits false s V = sbits (sg (chg s V))) := by show _ = _; unfold tbits; rw [if_neg h0]
    clear h0
    rw [HB.out]
    obtain ⟨hb1, hb2⟩ := sg_in (chg_lt s V)
    go_enter Tryd.func13, Tryd.ntmps13
    go_wp2_with fail
    refine (changeU_any w p s V hx HS.out HV.out).mono ?_
    rintro e w1 ⟨rfl, hf1⟩
    clear hx c2
    go_wp2_with fail
    refine (lenS_any (sg (chg s V)) w1 (HT.out.kept hf1 (by simp)) hb1 hb2).mono ?_
    rintro e w2 ⟨rfl, hf2⟩
    go_wp2_with fail
    go_ret
    exact ⟨rfl, hf1.trans hf2 (by simp)⟩

end Go.Proofs.YtmoodonemcpgnaaDoor
