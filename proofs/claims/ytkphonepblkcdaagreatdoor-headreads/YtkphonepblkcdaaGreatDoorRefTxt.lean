/-
  The document's own answers of layer 1 (package tidepoleref01) that later layers lean on: Text, Number, Value: bits as a text of 0 and 1. (The same declarations stand in Ref of layer 1, there beside a string of bytes of their own: never import both.)
-/
import Derived.Test.YtkphonepblkcdaaGreatDoorStr
import Derived.Laws.BytesString
namespace Go.Proofs.YtkphonepblkcdaaGreatDoor
open Go.RowKit Mem Bits
set_option linter.unusedSimpArgs false
set_option linter.unusedVariables false

/-- Bits as a text of 0 and 1. -/
def ch (b : Bool) : UInt8 := if b then 49 else 48
def txt (l : List Bool) : ByteArray := ⟨(l.map ch).toArray⟩

theorem txt_size (l : List Bool) : (txt l).size = l.length := by simp [txt, ByteArray.size]
theorem txt_append (l m : List Bool) : txt l ++ txt m = txt (l ++ m) := by
  apply ByteArray.ext
  rw [ByteArray.data_append]
  simp [txt]
theorem txt_one (b : Bool) : txt [b] = ⟨#[ch b]⟩ := rfl
theorem txt_cons (b : Bool) (l : List Bool) : (⟨#[ch b]⟩ : ByteArray) ++ txt l = txt (b :: l) := txt_append [b] l
theorem txt_snoc (b : Bool) (l : List Bool) : txt l ++ (⟨#[ch b]⟩ : ByteArray) = txt (l ++ [b]) := txt_append l [b]

set_option maxHeartbeats 1000000 in
theorem number_any (V n : Nat) (w : World) (hV : V < 18446744073709551616) (hn : n ≤ 64) :
    Calls Tryz.prog 49 #[.int .u64 (V : Int), .int .i64 (n : Int)] w fun e w' => e = .returned (.string (txt (numBits V n))) ∧ w = w' := by
  go_enter Tryz.func49, Tryz.ntmps49
  go_wp2
  go_loop [0, 5, 6] (fun v o i => ∃ k : Nat, k ≤ n ∧ i = .int .i64 k ∧ v = .int .u64 ((V / 2 ^ k : Nat) : Int) ∧ o = .string (txt (numBits V k))) (fun _ _ i => n - (intOf i).toNat)
  case atStart => exact ⟨0, by omega, rfl, by simp, rfl⟩
  case round =>
    obtain ⟨k, hk, rfl, rfl, rfl⟩ := hrel
    by_cases hlt : k < n
    · have hb : V / 2 ^ k < 18446744073709551616 := Nat.lt_of_le_of_lt (Nat.div_le_self _ _) hV
      have HB : Hid (V.testBit k = decide (V / 2 ^ k % 2 = 1)) := Nat.testBit_eq_decide_div_mod_eq
      have HS : Hid (V / 2 ^ (k + 1) = V / 2 ^ k / 2) := by show _ = _; rw [Nat.pow_succ, Nat.div_div_eq_div_mul]
      generalize V / 2 ^ k = X at *
      have hz : (txt (numBits V k)).size ≤ 64 := by rw [txt_size]; simp; omega
      by_cases h2 : X % 2 = 1
      · have h2i : ((X : Int) % 2 == 1) = true := beq_iff_eq.2 (by omega)
        go_wp2
        go_round
        case rel => exact ⟨k + 1, by omega, by go_num, by rw [HS.out]; go_num, by rw [numBits_succ, HB.out, decide_eq_true h2, ← txt_cons]; rfl⟩
        case measure => simp [intOf]; omega
      · have h2i : ((X : Int) % 2 == 1) = false := beq_eq_false_iff_ne.2 (by omega)
        go_wp2
        go_round
        case rel => exact ⟨k + 1, by omega, by go_num, by rw [HS.out]; go_num, by rw [numBits_succ, HB.out, decide_eq_false h2, ← txt_cons]; rfl⟩
        case measure => simp [intOf]; omega
    · have hkn : k = n := by omega
      subst hkn
      go_wp2
      go_ret
      exact ⟨rfl, rfl⟩

theorem txt_at (l : List Bool) (i : Nat) (h : i < (txt l).size) : (txt l)[i] = ch (l.getD i false) := by
  have hi : i < l.length := by rw [txt_size] at h; exact h
  have : (txt l)[i] = (l.map ch)[i]'(by simpa using hi) := rfl
  rw [this, List.getElem_map, List.getD_eq_getElem?_getD, List.getElem?_eq_getElem hi]; rfl

theorem ch_eq (b : Bool) : (((ch b).toNat : Int) == 49) = b := by cases b <;> rfl

set_option maxHeartbeats 1000000 in
theorem value_any (l : List Bool) (w : World) (hl : l.length ≤ 64) :
    Calls Tryz.prog 58 #[.string (txt l)] w fun e w' => e = .returned (.int .u64 ((val l : Nat) : Int)) ∧ w = w' := by
  have hz := txt_size l
  have hz2 : (txt l).size ≤ 64 := by omega
  have HZ : Hid ((txt l).size = l.length) := hz
  clear hz
  go_enter Tryz.func58, Tryz.ntmps58
  go_wp2
  go_loop [3, 4] (fun v i => ∃ k : Nat, k ≤ l.length ∧ i = .int .i64 k ∧ v = .int .u64 ((val (l.take k) : Nat) : Int)) (fun _ i => l.length - (intOf i).toNat)
  case atStart => exact ⟨0, by omega, rfl, rfl⟩
  case round =>
    obtain ⟨k, hk, rfl, rfl⟩ := hrel
    by_cases hlt : k < (txt l).size
    · have hkl : k < l.length := by rw [← HZ.out]; exact hlt
      have HT : Hid (val (l.take (k + 1)) = 2 * val (l.take k) + (l.getD k false).toNat) := by
        show _ = _
        rw [List.take_succ_eq_append_getElem hkl, val_snoc, List.getD_eq_getElem?_getD, List.getElem?_eq_getElem hkl]; rfl
      have HA : Hid ((txt l)[k] = ch (l.getD k false)) := txt_at l k hlt
      have hv : val (l.take k) ≤ 9223372036854775807 := by
        have := val_lt (l.take k)
        have : 2 ^ (l.take k).length ≤ 2 ^ 63 := Nat.pow_le_pow_right (by omega) (by simp; omega)
        omega
      generalize val (l.take k) = X at *
      have hc : ((((txt l)[k]).toNat : Int) == 49) = l.getD k false := by rw [HA.out]; exact ch_eq _
      generalize l.getD k false = b at hc HT
      cases b with
      | true =>
        go_wp2
        go_round
        case rel => exact ⟨k + 1, by omega, by go_num, by rw [HT.out]; rfl⟩
        case measure => simp [intOf]; omega
      | false =>
        go_wp2
        go_round
        case rel => exact ⟨k + 1, by omega, by go_num, by rw [HT.out]; rfl⟩
        case measure => simp [intOf]; omega
    · have hkl : k = l.length := by have := HZ.out; omega
      subst hkl
      go_wp2
      go_ret
      exact ⟨rfl, rfl⟩

theorem test8 (x k : Nat) (hx : x < 256) : (bits .and .u8 ((x : Int) / 2 ^ k) 1 == 1) = x.testBit k := by
  rw [show ((x : Int) / 2 ^ k) = ((x / 2 ^ k : Nat) : Int) from by simp]
  have h := u8_and_nat (x / 2 ^ k) 1 (Nat.lt_of_le_of_lt (Nat.div_le_self _ _) hx) (by omega)
  rw [show (1 : Int) = ((1 : Nat) : Int) from rfl, h, Nat.testBit_eq_decide_div_mod_eq, Nat.and_one_is_mod]
  rw [Bool.eq_iff_iff, beq_iff_eq, decide_eq_true_iff]
  omega

set_option maxHeartbeats 1000000 in
theorem text_any (bs : List Nat) (n : Nat) (w : World) (hb : ∀ x ∈ bs, x < 256) (hn : n ≤ 8 * bs.length) (hl : bs.length ≤ 1048576) :
    Calls Tryz.prog 27 #[.string (str bs), .int .i64 (n : Int)] w fun e w' => e = .returned (.string (txt (unpack bs n))) ∧ w = w' := by
  have hz : (str bs).size = bs.length := str_size bs
  have HZ : Hid ((str bs).size = bs.length) := hz
  have hz2 : (str bs).size ≤ 1048576 := by omega
  have hz3 : n ≤ 8 * (str bs).size := by omega
  clear hz
  go_enter Tryz.func27, Tryz.ntmps27
  go_wp2
  go_loop [5, 6] (fun o i => ∃ k : Nat, k ≤ n ∧ i = .int .i64 k ∧ o = .string (txt (unpack bs k))) (fun _ i => n - (intOf i).toNat)
  case atStart => exact ⟨0, by omega, rfl, rfl⟩
  case round =>
    obtain ⟨k, hk, rfl, rfl⟩ := hrel
    by_cases hlt : k < n
    · have hz4 : (txt (unpack bs k)).size ≤ 16777216 := by rw [txt_size]; simp; omega
      have hx : k / 8 < (str bs).size := by omega
      have HA : Hid ((str bs)[k / 8].toNat = bs.getD (k / 8) 0) := str_at bs (k / 8) hb hx
      have hc : (bits .and .u8 ((((str bs)[k / 8]).toNat : Int) / 2 ^ (7 - k % 8)) 1 == 1) = bitAt bs k := by
        rw [HA.out, test8 _ _ (getD_lt hb _)]; rfl
      have HU : Hid (unpack bs (k + 1) = unpack bs k ++ [bitAt bs k]) := by show _ = _; simp [unpack, List.range_succ]
      generalize bitAt bs k = b at hc HU
      cases b with
      | true =>
        go_wp2
        go_round
        case rel => exact ⟨k + 1, by omega, by go_num, by rw [HU.out, ← txt_snoc]; rfl⟩
        case measure => simp [intOf]; omega
      | false =>
        go_wp2
        go_round
        case rel => exact ⟨k + 1, by omega, by go_num, by rw [HU.out, ← txt_snoc]; rfl⟩
        case measure => simp [intOf]; omega
    · have hkn : k = n := by omega
      subst hkn
      go_wp2
      go_ret
      exact ⟨rfl, rfl⟩

end Go.Proofs.YtkphonepblkcdaaGreatDoor
