/-
  Package stream: the writer's Put, Len, Bytes, Copy.
-/
import Derived.Test.YtkphonepblkcdaaGreatDoorBit
import Derived.Deep.RegionHeld3
import Derived.Laws.BytesString
namespace Go.Proofs.YtkphonepblkcdaaGreatDoor
open Go.RowKit Mem Bits
set_option linter.unusedSimpArgs false
set_option linter.unusedVariables false

theorem Wr.src {w : World} {g : Nat} {l : List Bool} {v : Value} (hr : Row w 5 1 v g (nbs l.length) ((pack l).map u8)) : Src w v (pack l) :=
  Src.ofRow (by rw [pack_length]; exact hr) (packN_lt _ _)

theorem Src.drew {w : World} {v : Value} {bs : List Nat} (h : Src w v bs) : Src w.drew v bs := h

set_option maxHeartbeats 400000 in
theorem len_any (w : World) (p g : Nat) (l : List Bool) (h : Wr w p g l) :
    Calls Tryz.prog 17 #[.pointer (some ⟨p, 0, none⟩)] w fun e w' => e = .returned (.int .i64 (l.length : Int)) ∧ w = w' := by
  obtain ⟨hpg, v, hp, hrow⟩ := h
  have c1 : w.cell? ⟨p, 1, none⟩ = some (.int .i64 (l.length : Int)) := by rw [cell_at hp]; rfl
  clear hp hrow
  go_enter Tryz.func17, Tryz.ntmps17
  go_wp2
  go_ret
  exact ⟨rfl, rfl⟩

set_option maxHeartbeats 400000 in
theorem bytes_any (w : World) (p g : Nat) (l : List Bool) (h : Wr w p g l) (hl : l.length ≤ 4294967296) :
    Calls Tryz.prog 22 #[.pointer (some ⟨p, 0, none⟩)] w fun e w' => ∃ g', e = .returned (.slice (some ⟨g', 0, none⟩) (nbs l.length) (nbs l.length)) ∧
      w'.heap[g']? = some (.cells ((pack l).map u8).toArray 5 (0, 0)) ∧ w.heap.size ≤ g' ∧ Fr [] w w' := by
  obtain ⟨hpg, v, hp, hrow⟩ := h
  have c0 : w.cell? ⟨p, 0, none⟩ = some v := by rw [cell_at hp]; rfl
  have c1 : w.cell? ⟨p, 1, none⟩ = some (.int .i64 (l.length : Int)) := by rw [cell_at hp]; rfl
  have hs := Wr.src hrow
  obtain ⟨cap, hv⟩ := hrow.val
  subst hv
  clear hp hrow
  go_enter Tryz.func22, Tryz.ntmps22
  go_wp2
  go_region_held3 (fun w' => w'.cell? ⟨p, 0, none⟩ = some (.slice (some ⟨g, 0, none⟩) (nbs l.length) cap) ∧ w'.cell? ⟨p, 1, none⟩ = some (.int .i64 (l.length : Int))) (go_keep) (first | (go_at_call 40; refine (first_any _ (pack l) l.length _ (Src.drew hs) (by rw [pack_length]; exact Nat.le_refl _) hl).mono ?_; rintro e w1 ⟨rfl, hg, hf, hz⟩; have k0 := hf.cell_some (p := ⟨p, 0, none⟩) (v := .slice (some ⟨g, 0, none⟩) (nbs l.length) cap) c0 (by simp); have k1 := hf.cell_some (p := ⟨p, 1, none⟩) (v := .int .i64 (l.length : Int)) c1 (by simp)))
  go_wp2
  go_ret
  rw [unpack_pack] at hg
  exact ⟨_, rfl, hg, Nat.le_refl _, ⟨hf.os, hf.tape, hf.output, hf.size, hf.block⟩⟩

theorem numBits_take (v n k : Nat) (h : k < n) : (numBits v n).take (k + 1) = (numBits v n).take k ++ [v.testBit (n - 1 - k)] := by
  rw [List.take_succ_eq_append_getElem (by simpa using h)]
  congr 2
  simp [numBits]

theorem test_of (V k : Nat) (hV : V < 18446744073709551616) : (bits .and .u64 ((V : Int) / 2 ^ k) 1 == 1) = V.testBit k := by
  rw [show ((V : Int) / 2 ^ k) = ((V / 2 ^ k : Nat) : Int) from by simp]
  have h := u64_and_nat (V / 2 ^ k) 1 (Nat.lt_of_le_of_lt (Nat.div_le_self _ _) hV) (by omega)
  rw [show (1 : Int) = ((1 : Nat) : Int) from rfl, h, Nat.testBit_eq_decide_div_mod_eq, Nat.and_one_is_mod]
  rw [Bool.eq_iff_iff, beq_iff_eq, decide_eq_true_iff]
  omega

set_option maxHeartbeats 400000 in
theorem put_bad (w : World) (p : Nat) (V : Int) (n : Int) (h : n < 1 ∨ 64 < n) :
    Calls Tryz.prog 42 #[.pointer (some ⟨p, 0, none⟩), .int .u64 V, .int .i64 n] w fun e w' => e = .returned (.tuple #[]) ∧ w = w' := by
  have hd : decide (1 ≤ n ∧ n ≤ 64) = false := decide_eq_false (by omega)
  go_enter Tryz.func42, Tryz.ntmps42
  go_wp2_with (first | (go_at_call 72; refine (right_any _ _).mono ?_; rintro e w' ⟨rfl, rfl⟩))
  exact bodyPost_ret (results_none rfl _ _ _) rfl ⟨rfl, rfl⟩

set_option maxHeartbeats 1000000 in
theorem put_ok (w : World) (p g : Nat) (l : List Bool) (V n : Nat) (h : Wr w p g l) (hl : l.length ≤ 4294967000) (hV : V < 18446744073709551616) (h1 : 1 ≤ n) (h2 : n ≤ 64) :
    Calls Tryz.prog 42 #[.pointer (some ⟨p, 0, none⟩), .int .u64 (V : Int), .int .i64 (n : Int)] w fun e w' => e = .returned (.tuple #[]) ∧ ∃ g', Wr w' p g' (l ++ numBits V n) ∧ (g' = g ∨ w.heap.size ≤ g') ∧ Fr [p, g] w w' := by
  have hd : decide (1 ≤ (n : Int) ∧ (n : Int) ≤ 64) = true := decide_eq_true (by omega)
  go_enter Tryz.func42, Tryz.ntmps42
  go_wp2_with (first
    | (go_at_call 72; refine (right_any _ _).mono ?_; rintro e w' ⟨rfl, rfl⟩))
  go_loopw [11] (fun c wr => ∃ k : Nat, k ≤ n ∧ c = .int .i64 k ∧ ∃ g', Wr wr p g' (l ++ (numBits V n).take k) ∧ (g' = g ∨ w.heap.size ≤ g') ∧ Fr [p, g] w wr) (fun c _ => n - (intOf c).toNat)
  case atStart => exact ⟨0, by omega, rfl, g, by simpa using h, .inl rfl, Fr.refl _ _⟩
  case round =>
    obtain ⟨k, hk, rfl, g', hw, hg', hfr⟩ := hrel
    by_cases hlt : k < n
    · have HT : Hid ((numBits V n).take (k + 1) = (numBits V n).take k ++ [V.testBit (n - 1 - k)]) := numBits_take V n k hlt
      have hlen : ((l ++ (numBits V n).take k)).length ≤ 4294967296 := by simp; omega
      go_wp2_with fail
      rw [test_of V _ hV]
      refine (bit_any wr p g' _ _ hw hlen).mono ?_
      rintro e w2 ⟨rfl, g2, hw2, hg2, hf2⟩
      have hsz := hfr.size
      have hw3 : Wr w2 p g2 (l ++ (numBits V n).take (k + 1)) := by rw [HT.out, ← List.append_assoc]; exact hw2
      have hf3 : Fr [p, g] w w2 := hfr.trans hf2 (by intro x hx; simp at hx; rcases hx with rfl | rfl; exact .inl (by simp); rcases hg' with h | h; exact .inl (by simp [h]); exact .inr h)
      have hg3 : g2 = g ∨ w.heap.size ≤ g2 := by omega
      clear hw hg' hfr hw2 hg2 hf2 hsz
      go_wp2
      go_roundw
      case rel => exact ⟨k + 1, by omega, by go_num, g2, hw3, hg3, hf3⟩
      case measure => simp [intOf]; omega
    · have hkn : k = n := by omega
      subst hkn
      rw [List.take_of_length_le (by simp)] at hw
      go_wp2
      go_end0
      exact ⟨rfl, g', hw, hg', hfr⟩

theorem Mem.Fr.two {p g g2 : Nat} {w wr w2 : World} (hfr : Fr [p, g] w wr) (h2 : Fr [p, g2] wr w2) (hg : g2 = g ∨ w.heap.size ≤ g2) : Fr [p, g] w w2 :=
  hfr.trans h2 (by intro x hx; simp at hx; rcases hx with rfl | rfl; exact .inl (by simp); rcases hg with h | h; exact .inl (by simp [h]); exact .inr h)
end Go.Proofs.YtkphonepblkcdaaGreatDoor
