/-
  Package varint: Zig, Zag, Len, PutU, PutS.
-/
import Derived.Test.YtimopgapnnkbnaaPut
import Derived.Test.YtimopgapnnkbnaaSevens
namespace Go.Proofs.Ytimopgapnnkbnaa
open Go.RowKit Mem Bits Sevens
set_option linter.unusedSimpArgs false
set_option linter.unusedVariables false

/-- '^v' is what v lacks to -1. -/
theorem not_i64 (v : Int) (h1 : -9223372036854775808 ≤ v) (h2 : v ≤ 9223372036854775807) : Go.bits .xor .i64 (-1) v = -1 - v := by
  show IntKind.i64.wrap ((BitVec.ofInt 64 (-1) ^^^ BitVec.ofInt 64 v).toNat : Int) = _
  have h3 : BitVec.ofInt 64 (-1) = BitVec.allOnes 64 := by decide
  rw [h3, BitVec.allOnes_xor, BitVec.toNat_not, BitVec.toNat_ofInt]
  simp [IntKind.wrap, IntKind.bits, IntKind.signed]
  omega

set_option maxHeartbeats 400000 in
theorem zig_any (v : Int) (w : World) (h1 : -9223372036854775808 ≤ v) (h2 : v ≤ 9223372036854775807) :
    Calls Try.prog 21 #[.int .i64 v] w fun e w' => e = .returned (.int .u64 (zig v : Nat)) ∧ w = w' := by
  by_cases h : v < 0
  · obtain ⟨n, hn0⟩ := Int.eq_ofNat_of_zero_le (show 0 ≤ -1 - v by omega)
    have e : ((zig v : Nat) : Int) = 2 * (n : Int) + 1 := by unfold zig; rw [if_pos h]; omega
    have hn : Go.bits .xor .i64 (-1) v = (n : Int) := by rw [not_i64 v h1 h2, hn0]
    have hnb : n ≤ 9223372036854775807 := by omega
    rw [e]
    clear e hn0
    go_enter Try.func21, Try.ntmps21
    go_wp2
    go_ret
    refine ⟨?_, rfl⟩
    show Ending.returned (Value.int IntKind.u64 (IntKind.u64.wrap (IntKind.u64.wrap (2 * IntKind.u64.wrap (n : Int)) + 1))) = _
    have e1 : IntKind.u64.wrap (IntKind.u64.wrap (2 * IntKind.u64.wrap (n : Int)) + 1) = 2 * (n : Int) + 1 := by
      rw [IntKind.wrap_u64, IntKind.wrap_u64, IntKind.wrap_u64]; omega
    rw [e1]
  · have e : ((zig v : Nat) : Int) = 2 * v := by unfold zig; rw [if_neg h]; omega
    rw [e]
    go_enter Try.func21, Try.ntmps21
    go_wp2
    go_ret
    exact ⟨rfl, rfl⟩

set_option maxHeartbeats 400000 in
theorem zag_any (u : Nat) (w : World) (hu : u < 18446744073709551616) :
    Calls Try.prog 22 #[.int .u64 (u : Int)] w fun e w' => e = .returned (.int .i64 (zag u)) ∧ w = w' := by
  by_cases h : u % 2 = 1
  · have e : zag u = -1 - (u : Int) / 2 := by unfold zag; rw [if_pos h]; omega
    have hd : ((u : Int) % 2 == 1) = true := beq_iff_eq.2 (by omega)
    have hn := not_i64 ((u : Int) / 2) (by omega) (by omega)
    rw [e]
    go_enter Try.func22, Try.ntmps22
    go_wp2
    go_ret
    exact ⟨rfl, rfl⟩
  · have e : zag u = (u : Int) / 2 := by unfold zag; rw [if_neg h]; omega
    have hd : ((u : Int) % 2 == 1) = false := beq_eq_false_iff_ne.2 (by omega)
    rw [e]
    go_enter Try.func22, Try.ntmps22
    go_wp2
    go_ret
    exact ⟨rfl, rfl⟩

set_option maxRecDepth 100000 in
set_option maxHeartbeats 400000 in
theorem vlen_any (V : Nat) (w : World) (hV : V < 18446744073709551616) :
    Calls Try.prog 11 #[.int .u64 (V : Int)] w fun e w' => e = .returned (.int .i64 ((vb V).length : Int)) ∧ w = w' := by
  have h10 := vb_ten hV
  go_enter Try.func11, Try.ntmps11
  go_wp2
  go_loop [0, 3] (fun v c => ∃ X k : Nat, X ≤ V ∧ v = .int .u64 (X : Int) ∧ c = .int .i64 (k : Int) ∧ k + (vb X).length = (vb V).length + 1) (fun v _ => (intOf v).toNat)
  case atStart => exact ⟨V, 1, Nat.le_refl _, rfl, rfl, by omega⟩
  case round =>
    obtain ⟨X, k, hX, rfl, rfl, hk⟩ := hrel
    have hk2 : k ≤ 11 := by omega
    by_cases h : 128 ≤ X
    · have HB : Hid ((vb X).length = (vb (X / 128)).length + 1) := by show _ = _; rw [vb_big h]; rfl
      have HK : Hid (k + (vb X).length = (vb V).length + 1) := hk
      clear hk h10
      go_wp2
      go_round
      case rel => exact ⟨X / 128, k + 1, by omega, by go_num, by go_num, by have := HB.out; have := HK.out; omega⟩
      case measure => simp [intOf]; omega
    · have hx : (vb X).length = 1 := by rw [vb_small (by omega)]; rfl
      have HK : Hid (k = (vb V).length) := by show _ = _; omega
      clear hk
      go_wp2
      go_ret
      exact ⟨by rw [← HK.out]; rfl, rfl⟩

theorem or_more (X : Nat) (h : X < 18446744073709551616) : Go.bits .or .u64 (X : Int) 128 = ((X ||| 128 : Nat) : Int) := by
  rw [show (128 : Int) = ((128 : Nat) : Int) from rfl, u64_or_nat X 128 h (by omega)]

set_option maxRecDepth 100000 in
set_option maxHeartbeats 1000000 in
theorem putU_any (w : World) (p g : Nat) (l : List Bool) (V : Nat) (h : Wr w p g l) (hl : l.length ≤ 4294966000) (hV : V < 18446744073709551616) :
    Calls Try.prog 9 #[.pointer (some ⟨p, 0, none⟩), .int .u64 (V : Int)] w fun e w' => e = .returned (.tuple #[]) ∧ ∃ g', Wr w' p g' (l ++ vbits V) ∧ (g' = g ∨ w.heap.size ≤ g') ∧ Fr [p, g] w w' := by
  have HL : Hid ((l ++ vbits V).length ≤ 4294966100) := by
    show _ ≤ _
    have := vb_ten hV
    rw [List.length_append, vbits_length]; omega
  go_enter Try.func9, Try.ntmps9
  go_wp2_with fail
  go_loopw [1] (fun v wr => ∃ X gk : Nat, ∃ lk, X ≤ V ∧ v = .int .u64 (X : Int) ∧ Wr wr p gk lk ∧ lk ++ vbits X = l ++ vbits V ∧ (gk = g ∨ w.heap.size ≤ gk) ∧ Fr [p, g] w wr) (fun v _ => (intOf v).toNat)
  case atStart => exact ⟨V, g, l, Nat.le_refl _, rfl, h, rfl, .inl rfl, Fr.refl _ _⟩
  case round =>
    obtain ⟨X, gk, lk, hX, rfl, hw, he, hg, hfr⟩ := hrel
    have HE : Hid (lk ++ vbits X = l ++ vbits V) := he
    have hlk : lk.length ≤ 4294966100 := by have h1 := HL.out; rw [← he, List.length_append] at h1; omega
    clear he
    have hsz := hfr.size
    by_cases h128 : 128 ≤ X
    · go_wp2_with fail
      rw [or_more X (by omega)]
      refine (put_ok wr p gk lk (X ||| 128) 8 hw (by omega) (or_lt64 (by omega)) (by omega) (by omega)).mono ?_
      rintro e w2 ⟨rfl, g2, hw2, hg2, hf2⟩
      have hf3 : Fr [p, g] w w2 := hfr.trans hf2 (by intro x hx; simp at hx; rcases hx with rfl | rfl; exact .inl (by simp); rcases hg with h | h; exact .inl (by simp [h]); exact .inr h)
      have hg3 : g2 = g ∨ w.heap.size ≤ g2 := by omega
      have HE2 : Hid ((lk ++ numBits (X ||| 128) 8) ++ vbits (X / 128) = l ++ vbits V) := by
        show _ = _
        rw [← HE.out, vbits_big h128, List.append_assoc]
      clear hw hg hfr hf2 hg2 hsz HE
      go_wp2
      go_roundw
      case rel => exact ⟨X / 128, g2, _, by omega, by go_num, hw2, HE2.out, hg3, hf3⟩
      case measure => simp [intOf]; omega
    · have hd : decide ((128 : Int) ≤ (X : Int)) = false := decide_eq_false (by omega)
      go_wp2_with fail
      refine (put_ok wr p gk lk X 8 hw (by omega) (by omega) (by omega) (by omega)).mono ?_
      rintro e w2 ⟨rfl, g2, hw2, hg2, hf2⟩
      have hf3 : Fr [p, g] w w2 := hfr.trans hf2 (by intro x hx; simp at hx; rcases hx with rfl | rfl; exact .inl (by simp); rcases hg with h | h; exact .inl (by simp [h]); exact .inr h)
      have hg3 : g2 = g ∨ w.heap.size ≤ g2 := by omega
      rw [← vbits_small (by omega), HE.out] at hw2
      clear hw hg hfr hf2 hg2 hsz HE
      go_wp2
      go_end0
      exact ⟨rfl, g2, hw2, hg3, hf3⟩

set_option maxHeartbeats 400000 in
theorem putS_any (w : World) (p g : Nat) (l : List Bool) (v : Int) (h : Wr w p g l) (hl : l.length ≤ 4294966000) (h1 : -9223372036854775808 ≤ v) (h2 : v ≤ 9223372036854775807) :
    Calls Try.prog 10 #[.pointer (some ⟨p, 0, none⟩), .int .i64 v] w fun e w' => e = .returned (.tuple #[]) ∧ ∃ g', Wr w' p g' (l ++ vbits (zig v)) ∧ (g' = g ∨ w.heap.size ≤ g') ∧ Fr [p, g] w w' := by
  go_enter Try.func10, Try.ntmps10
  go_wp2_with fail
  refine (zig_any v w h1 h2).mono ?_
  rintro e w1 ⟨rfl, rfl⟩
  go_wp2_with fail
  refine (putU_any w p g l (zig v) h hl (zig_lt h1 h2)).mono ?_
  rintro e w1 ⟨rfl, g1, hw1, hg1, hf1⟩
  go_wp2_with fail
  go_end0
  exact ⟨rfl, g1, hw1, hg1, hf1⟩
end Go.Proofs.Ytimopgapnnkbnaa
