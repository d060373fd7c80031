/-
  The document's own answers of layer 1 (package tidepoleref01) that later layers lean on: Text, Number, Value: bits as a text of 0 and 1. (The same declarations stand in Ref of layer 1, there beside a string of bytes of their own: never import both.)
-/
import Derived.Test.YtkphonepblkcdaaDoorStr
import Derived.Laws.BytesString
namespace Go.Proofs.YtkphonepblkcdaaDoor
open Go.RowKit Mem Bits
set_option linter.unusedSimpArgs false
set_option linter.unusedVariables false

/-- Bits as a text of 0 and 1. -/
def ch (b : Bool) : UInt8 := if b then 49 else 48
def txt (l : List Bool) : ByteArray := ⟨(l.map ch).toArray⟩

theorem txt_size (l : List Bool) : (txt l).size = l.length := by simp [txt, ByteArray.size]
theorem txt_append (l m : List Bool) : txt l ++ txt m = txt (l ++ m) := by
  apply ByteArray.ext
  rw [ByteArray.data_append]
  simp [txt]
theorem txt_one (b : Bool) : txt [b] = ⟨#[ch b]⟩ := rfl
theorem txt_cons (b : Bool) (l : List Bool) : (⟨#[ch b]⟩ : ByteArray) ++ txt l = txt (b :: l) := txt_append [b] l
theorem txt_snoc (b : Bool) (l : List Bool) : txt l ++ (⟨#[ch b]⟩ : ByteArray) = txt (l ++ [b]) := txt_append l [b]


theorem txt_at (l : List Bool) (i : Nat) (h : i < (txt l).size) : (txt l)[i] = ch (l.getD i false) := by
  have hi : i < l.length := by rw [txt_size] at h; exact h
  have : (txt l)[i] = (l.map ch)[i]'(by simpa using hi) := rfl
  rw [this, List.getElem_map, List.getD_eq_getElem?_getD, List.getElem?_eq_getElem hi]; rfl

theorem ch_eq (b : Bool) : (((ch b).toNat : Int) == 49) = b := by cases b <;> rfl


theorem test8 (x k : Nat) (hx : x < 256) : (bits .and .u8 ((x : Int) / 2 ^ k) 1 == 1) = x.testBit k := by
  rw [show ((x : Int) / 2 ^ k) = ((x / 2 ^ k : Nat) : Int) from by simp]
  have h := u8_and_nat (x / 2 ^ k) 1 (Nat.lt_of_le_of_lt (Nat.div_le_self _ _) hx) (by omega)
  rw [show (1 : Int) = ((1 : Nat) : Int) from rfl, h, Nat.testBit_eq_decide_div_mod_eq, Nat.and_one_is_mod]
  rw [Bool.eq_iff_iff, beq_iff_eq, decide_eq_true_iff]
  omega

set_option maxHeartbeats 1000000 in
theorem text_any (bs : List Nat) (n : Nat) (w : World) (hb : ∀ x ∈ bs, x < 256) (hn : n ≤ 8 * bs.length) (hl : bs.length ≤ 1048576) :
    Calls Tryd.prog 13 #[.string (str bs), .int .i64 (n : Int)] w fun e w' => e = .returned (.string (txt (unpack bs n))) ∧ w = w' := by
  have hz : (str bs).size = bs.length := str_size bs
  have HZ : Hid ((str bs).size = bs.length) := hz
  have hz2 : (str bs).size ≤ 1048576 := by omega
  have hz3 : n ≤ 8 * (str bs).size := by omega
  clear hz
  go_enter Tryd.func13, Tryd.ntmps13
  go_wp2
  go_loop [5, 6] (fun o i => ∃ k : Nat, k ≤ n ∧ i = .int .i64 k ∧ o = .string (txt (unpack bs k))) (fun _ i => n - (intOf i).toNat)
  case atStart => exact ⟨0, by omega, rfl, rfl⟩
  case round =>
    obtain ⟨k, hk, rfl, rfl⟩ := hrel
    by_cases hlt : k < n
    · have hz4 : (txt (unpack bs k)).size ≤ 16777216 := by rw [txt_size]; simp; omega
      have hx : k / 8 < (str bs).size := by omega
      have HA : Hid ((str bs)[k / 8].toNat = bs.getD (k / 8) 0) := str_at bs (k / 8) hb hx
      have hc : (bits .and .u8 ((((str bs)[k / 8]).toNat : Int) / 2 ^ (7 - k % 8)) 1 == 1) = bitAt bs k := by
        rw [HA.out, test8 _ _ (getD_lt hb _)]; rfl
      have HU : Hid (unpack bs (k + 1) = unpack bs k ++ [bitAt bs k]) := by show _ = _; simp [unpack, List.range_succ]
      generalize bitAt bs k = b at hc HU
      cases b with
      | true =>
        go_wp2
        go_round
        case rel => exact ⟨k + 1, by omega, by go_num, by rw [HU.out, ← txt_snoc]; rfl⟩
        case measure => simp [intOf]; omega
      | false =>
        go_wp2
        go_round
        case rel => exact ⟨k + 1, by omega, by go_num, by rw [HU.out, ← txt_snoc]; rfl⟩
        case measure => simp [intOf]; omega
    · have hkn : k = n := by omega
      subst hkn
      go_wp2
      go_ret
      exact ⟨rfl, rfl⟩

end Go.Proofs.YtkphonepblkcdaaDoor
