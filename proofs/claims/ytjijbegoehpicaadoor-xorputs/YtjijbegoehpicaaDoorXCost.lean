/-
  Package xor: Put and Cost.
-/
import Derived.Test.YtjijbegoehpicaaDoorXPut
namespace Go.Proofs.YtjijbegoehpicaaDoor
open Go.RowKit Mem Bits Windows
set_option linter.unusedSimpArgs false
set_option linter.unusedVariables false

set_option maxHeartbeats 400000 in
theorem putDiff_zero (w : World) (p q g : Nat) (l : List Bool) (hw : Wr w q g l) (hl : l.length ≤ 4294966000) :
    Calls Tryd.prog 28 #[.pointer (some ⟨p, 0, none⟩), .pointer (some ⟨q, 0, none⟩), .int .u64 0] w fun e w' => e = .returned (.tuple #[]) ∧ ∃ g', Wr w' q g' (l ++ [false]) ∧ (g' = g ∨ w.heap.size ≤ g') ∧ Fr [q, g] w w' := by
  go_enter Tryd.func28, Tryd.ntmps28
  go_wp2_with fail
  refine (bit_any w q g l false hw (by omega)).mono ?_
  rintro e w1 ⟨rfl, g1, hw1, hg1, hf1⟩
  go_wp2_with fail
  first
    | go_end0
    | refine bodyPost_ret (results_none rfl _ _ _) rfl ?_
  exact ⟨rfl, g1, hw1, hg1, hf1⟩

theorem xor_int {u v D : Nat} (hu : u < 18446744073709551616) (hv : v < 18446744073709551616) (h : u ^^^ v = D) : Go.bits .xor .u64 (u : Int) (v : Int) = (D : Int) := by
  rw [u64_xor_nat u v hu hv, h]

set_option maxRecDepth 100000 in
set_option maxHeartbeats 1000000 in
theorem xput_any (w : World) (p q g : Nat) (s : XRow) (l : List Bool) (V : Nat) (hT : XTab w) (hp : 0 < p) (hq : 0 < q) (hg : 0 < g) (hpq : p ≠ q) (hpg : p ≠ g)
    (hx : Xr w p s) (hw : Wr w q g l) (hs : s.ok) (hn : s.n ≤ 1000000000) (hV : V < 18446744073709551616) (hl : l.length ≤ 4294966000) :
    Calls Tryd.prog 11 #[.pointer (some ⟨p, 0, none⟩), .pointer (some ⟨q, 0, none⟩), .int .u64 (V : Int)] w fun e w' => e = .returned (.tuple #[]) ∧ Xr w' p (xnext s V) ∧ ∃ g', Wr w' q g' (l ++ xbits s V) ∧ (g' = g ∨ w.heap.size ≤ g') ∧ Fr [p, q, g] w w' := by
  have hxl := hx.lt
  have hwl := hw.lt
  have c1 := hx.c1
  have c0 := hx.c0
  by_cases h0 : s.n = 0
  · have HN : Hid (xnext s V = ⟨V, s.n + 1, s.a, s.b⟩) := by show _ = _; unfold xnext; rw [if_pos h0]
    have HB : Hid (xbits s V = numBits V 64) := by show _ = _; unfold xbits; rw [if_pos h0]
    have d0 : ((s.n : Int) == 0) = true := beq_iff_eq.2 (by omega)
    go_enter Tryd.func11, Tryd.ntmps11
    go_wp2_with fail
    refine (put_ok w q g l V 64 hw (by omega) hV (by omega) (by omega)).mono ?_
    rintro e w1 ⟨rfl, g1, hw1, hg1, hf1⟩
    have hx1 := hx.kept hf1 (by simp; omega)
    have hz1 := hf1.size
    clear hx hw c0 c1
    go_wp2_with fail
    refine (xadd_any w1 p s V hx1 hn).mono ?_
    rintro e w2 ⟨rfl, hx2, hf2⟩
    go_wp2_with fail
    go_end0
    have hw2 := hw1.kept hf2 (by simp; omega) (by simp; omega)
    exact ⟨rfl, by rw [HN.out]; exact hx2, g1, by rw [HB.out]; exact hw2, hg1, (hf1.mono (S' := [p, q, g]) (by intro x hx; simp at hx ⊢; omega)).trans hf2 (by simp)⟩
  · have d0 : ((s.n : Int) == 0) = false := beq_eq_false_iff_ne.2 (by omega)
    obtain ⟨D, hD⟩ : ∃ D, V ^^^ s.last = D := ⟨_, rfl⟩
    have hxr := xor_int hV hs.1 hD
    have hD64 : D < 18446744073709551616 := by rw [← hD]; exact xor_lt hV hs.1
    by_cases hd : D = 0
    · subst hd
      have HN : Hid (xnext s V = ⟨V, s.n + 1, s.a, s.b⟩) := by show _ = _; unfold xnext; rw [if_neg h0, if_pos hD]
      have HB : Hid (xbits s V = [false]) := by show _ = _; unfold xbits; rw [if_neg h0, if_pos hD]
      have hxr' : Go.bits .xor .u64 (V : Int) (s.last : Int) = 0 := hxr
      clear hxr hD
      go_enter Tryd.func11, Tryd.ntmps11
      go_wp2_with fail
      refine (putDiff_zero w p q g l hw hl).mono ?_
      rintro e w1 ⟨rfl, g1, hw1, hg1, hf1⟩
      have hx1 := hx.kept hf1 (by simp; omega)
      have hz1 := hf1.size
      clear hx hw c0 c1
      go_wp2_with fail
      refine (xadd_any w1 p s V hx1 hn).mono ?_
      rintro e w2 ⟨rfl, hx2, hf2⟩
      go_wp2_with fail
      go_end0
      have hw2 := hw1.kept hf2 (by simp; omega) (by simp; omega)
      exact ⟨rfl, by rw [HN.out]; exact hx2, g1, by rw [HB.out]; exact hw2, hg1, (hf1.mono (S' := [p, q, g]) (by intro x hx; simp at hx ⊢; omega)).trans hf2 (by simp)⟩
    · have HN : Hid (xnext s V = ⟨V, s.n + 1, (fw s.a s.b D).1, (fw s.a s.b D).2⟩) := by show _ = _; unfold xnext; rw [if_neg h0, hD, if_neg hd]
      have HB : Hid (xbits s V = true :: diffBits s.a s.b D) := by show _ = _; unfold xbits; rw [if_neg h0, hD, if_neg hd]
      clear hD
      go_enter Tryd.func11, Tryd.ntmps11
      go_wp2_with fail
      refine (putDiff_any w p q g s l D hT hp hq hg hpq hpg hx hw hs.2 hd hD64 hl).mono ?_
      rintro e w1 ⟨rfl, hx1, g1, hw1, hg1, hf1⟩
      have hz1 := hf1.size
      clear hx hw c0 c1
      go_wp2_with fail
      refine (xadd_any w1 p ⟨s.last, s.n, (fw s.a s.b D).1, (fw s.a s.b D).2⟩ V hx1 hn).mono ?_
      rintro e w2 ⟨rfl, hx2, hf2⟩
      go_wp2_with fail
      go_end0
      have hw2 := hw1.kept hf2 (by simp; omega) (by simp; omega)
      exact ⟨rfl, by rw [HN.out]; exact hx2, g1, by rw [HB.out]; exact hw2, hg1, hf1.trans hf2 (by simp)⟩

set_option maxRecDepth 100000 in
set_option maxHeartbeats 1000000 in
theorem xcost_any (w : World) (p : Nat) (s : XRow) (V : Nat) (hT : XTab w) (hx : Xr w p s) (hs : s.ok) (hV : V < 18446744073709551616) :
    Calls Tryd.prog 9 #[.pointer (some ⟨p, 0, none⟩), .int .u64 (V : Int)] w fun e w' => e = .returned (.int .i64 ((xbits s V).length : Int)) ∧ Fr [] w w' := by
  have c1 := hx.c1
  have c0 := hx.c0
  by_cases h0 : s.n = 0
  · have HB : Hid (xbits s V = numBits V 64) := by show _ = _; unfold xbits; rw [if_pos h0]
    have d0 : ((s.n : Int) == 0) = true := beq_iff_eq.2 (by omega)
    clear hx
    go_enter Tryd.func9, Tryd.ntmps9
    go_wp2_with fail
    go_ret
    exact ⟨by rw [HB.out, numBits_length]; rfl, Fr.refl _ _⟩
  · have d0 : ((s.n : Int) == 0) = false := beq_eq_false_iff_ne.2 (by omega)
    obtain ⟨D, hD⟩ : ∃ D, V ^^^ s.last = D := ⟨_, rfl⟩
    have hxr := xor_int hV hs.1 hD
    have hD64 : D < 18446744073709551616 := by rw [← hD]; exact xor_lt hV hs.1
    by_cases hd : D = 0
    · subst hd
      have HB : Hid (xbits s V = [false]) := by show _ = _; unfold xbits; rw [if_neg h0, if_pos hD]
      have hxr' : Go.bits .xor .u64 (V : Int) (s.last : Int) = 0 := hxr
      clear hxr hD hx
      go_enter Tryd.func9, Tryd.ntmps9
      go_wp2_with fail
      go_ret
      exact ⟨by rw [HB.out]; rfl, Fr.refl _ _⟩
    · have HB : Hid (xbits s V = true :: diffBits s.a s.b D) := by show _ = _; unfold xbits; rw [if_neg h0, hD, if_neg hd]
      have d1 : ((D : Int) == 0) = false := beq_eq_false_iff_ne.2 (by omega)
      have hle := hs.2.le
      have hfw := (fw_ok hs.2 hd hD64).le
      clear hD
      go_enter Tryd.func9, Tryd.ntmps9
      go_wp2_with fail
      refine (windowFor_any p s D w hT hx hle.2 hd hD64).mono ?_
      rintro e w1 ⟨rfl, hf1⟩
      have hx1 := hx.kept hf1 (by simp)
      have hz1 := hf1.size
      have hxl := hx1.lt
      clear hx c0 c1
      by_cases hh : hasW s.a s.b D = true
      · have HW : Hid (fw s.a s.b D = (s.a, s.b)) := by show _ = _; unfold fw; rw [if_pos hh]
        have HL : Hid ((true :: diffBits s.a s.b D).length = 2 + s.b) := by show _ = _; unfold diffBits; rw [if_pos hh]; simp; omega
        rw [HW.out]
        have c2 := hx1.c2
        have c3 := hx1.c3
        clear hx1 hfw
        go_wp2_with fail
        go_quiet (fail)
        go_wp2_with fail
        go_ret
        exact ⟨by rw [HB.out, HL.out]; simp, (hf1.alloc _).drewN _⟩
      · have hf : hasW s.a s.b D = false := by simpa using hh
        have HW : Hid (fw s.a s.b D = (wa D, wb D)) := by show _ = _; unfold fw; rw [if_neg hh]
        have HL : Hid ((true :: diffBits s.a s.b D).length = 13 + wb D) := by show _ = _; unfold diffBits; rw [if_neg hh]; simp; omega
        rw [HW.out] at hfw ⊢
        have hne := fw_same hd hD64 hf
        have c2 := hx1.c2
        have c3 := hx1.c3
        clear hx1
        simp only at hfw ⊢
        generalize wa D = A at *
        generalize wb D = B at *
        by_cases hAe : A = s.a
        · have hBe : ¬ B = s.b := fun h => hne ⟨hAe, h⟩
          have dB : ((B : Int) == (s.b : Int)) = false := beq_eq_false_iff_ne.2 (by omega)
          rw [← hAe] at c2
          clear hAe hne
          go_wp2_with fail
          go_quiet (fail)
          go_wp2_with fail
          go_ret
          exact ⟨by rw [HB.out, HL.out]; simp, (hf1.alloc _).drewN _⟩
        · have dA : ((A : Int) == (s.a : Int)) = false := beq_eq_false_iff_ne.2 (by omega)
          clear hne
          go_wp2_with fail
          go_quiet (fail)
          go_wp2_with fail
          go_ret
          exact ⟨by rw [HB.out, HL.out]; simp, (hf1.alloc _).drewN _⟩
end Go.Proofs.YtjijbegoehpicaaDoor
