/-
  The document's own answers of layer 1 (package tidepoleref01): Bytes.
-/
import Derived.Test.YtmmmjklmhabpoaaRef
import Derived.Test.YtmmmjklmhabpoaaFirst
import Derived.Laws.BytesArg
namespace Go.Proofs.Ytmmmjklmhabpoaa
open Go.RowKit Mem Bits
set_option linter.unusedSimpArgs false
set_option linter.unusedVariables false

/-- The first j bits of the byte that begins at place a. -/
def bitsFrom (l : List Bool) (a j : Nat) : List Bool := (List.range j).map (fun k => l.getD (a + k) false)
theorem bitsFrom_succ (l : List Bool) (a j : Nat) : bitsFrom l a (j + 1) = bitsFrom l a j ++ [l.getD (a + j) false] := by simp [bitsFrom, List.range_succ]
theorem bitsFrom_byte (l : List Bool) (m : Nat) : val (bitsFrom l (8 * m) 8) = byteAt l m := by
  simp only [bitsFrom, List.range, List.range.loop, List.map_cons, List.map_nil, val, List.foldl_cons, List.foldl_nil, byteAt, b8]
  omega

theorem str_append (l m : List Nat) : str l ++ str m = str (l ++ m) := by
  apply ByteArray.ext
  rw [ByteArray.data_append]
  simp [str]

/-- string(b) of a slice of bytes, wherever it lies. -/
theorem run_str {w : World} {v : Value} {bs : List Nat} (h : Src w v bs) : (convert 22 9 v).run Try.prog w = .ok (.string (str bs)) w := by
  obtain ⟨ao, cap, rfl, hc1, hc2, hcell, h256⟩ := h
  have e : strOfNums (bs.map (fun x : Nat => (x : Int))) = str bs := by
    apply ByteArray.ext
    simp [strOfNums, str]
  by_cases h0 : bs.length = 0
  · have : bs = [] := List.eq_nil_of_length_eq_zero h0
    subst this
    cases ao with
    | none => rw [run_convert_bytes_nil w 22 5 Try.underlying22 Try.underlying5 _ _ 9 Try.underlying9]; rfl
    | some a =>
      obtain ⟨b, off, spot⟩ := a
      have hl : (loadCells ⟨b, off, spot⟩ 0).run Try.prog w = .ok (([] : List Int).map (Value.int .u8)).toArray w := run_loadCells_list (P := Try.prog) w ⟨b, off, spot⟩ [] (fun j v hj => by simp at hj)
      rw [run_convert_bytes_string w 22 9 5 _ _ _ Try.underlying22 Try.underlying5 Try.underlying9]
      have := run_bytesToString (P := Try.prog) w ⟨b, off, spot⟩ 0 cap [] hl
      rw [List.length_nil, this]; rfl
  · obtain ⟨b, off, rfl, hc⟩ := hcell (by omega)
    rw [run_convert_bytes_arg w 22 5 Try.underlying22 Try.underlying5 b off bs.length cap (bs.map (fun x : Nat => (x : Int))) (by simp) (fun i hi => by rw [hc i hi]; simp [hi, u8]) 9 Try.underlying9, e]

theorem Src.one (w : World) (x : Nat) (hx : x < 256) : Src (w.alloc (.cells #[.int .u8 (x : Int)] 5)) (.slice (some ⟨w.heap.size, 0, none⟩) 1 1) [x] := by
  refine ⟨_, 1, rfl, Nat.le_refl _, by unfold maxLen; omega, fun _ => ⟨w.heap.size, 0, rfl, fun j hj => ?_⟩, by simpa using hx⟩
  have : j = 0 := by simpa using hj
  subst this
  rw [World.cell?_alloc_at _ _ _ _ rfl]; rfl

set_option maxHeartbeats 1000000 in
theorem rbytes_any (l : List Bool) (w : World) (hl : l.length ≤ 1048576) :
    Calls Try.prog 17 #[.string (txt l)] w fun e w' => e = .returned (.string (str (pack l))) ∧ Fr [] w w' := by
  have HZ : Hid ((txt l).size = l.length) := txt_size l
  have hz2 : (txt l).size ≤ 1048576 := by rw [txt_size]; exact hl
  go_enter Try.func17, Try.ntmps17
  go_wp2
  go_loopw [3, 4, 5, 6] (fun o a _ _ wr => ∃ m : Nat, m ≤ nbs l.length ∧ a = .int .i64 ((8 * m : Nat) : Int) ∧ o = .string (str (packN l m)) ∧ Fr [] w wr) (fun _ a _ _ _ => l.length + 8 - (intOf a).toNat)
  case atStart => exact ⟨0, by omega, rfl, rfl, Fr.refl _ _⟩
  case round =>
    obtain ⟨m, hm, rfl, rfl, hfr⟩ := hrel
    by_cases hlt : 8 * m < (txt l).size
    · have hml : 8 * m < l.length := by rw [← HZ.out]; exact hlt
      have hz4 : (str (packN l m)).size ≤ 1048576 := by rw [str_size]; simp; unfold nbs at hm; omega
      obtain ⟨A, hA⟩ : ∃ A, A = 8 * m := ⟨_, rfl⟩
      rw [← hA] at hlt hml ⊢
      have HA : Hid (A = 8 * m) := hA
      have hAb : A ≤ 1048576 := by omega
      clear hA
      have hd0 : decide ((A : Int) < ((txt l).size : Int)) = true := decide_eq_true (by omega)
      go_wp2
      go_loop [5, 6] (fun c k => ∃ j : Nat, j ≤ 8 ∧ k = .int .i64 j ∧ c = .int .u8 ((val (bitsFrom l A j) : Nat) : Int)) (fun _ k => 8 - (intOf k).toNat)
      case atStart => exact ⟨0, by omega, rfl, rfl⟩
      case round =>
        obtain ⟨j, hj, rfl, rfl⟩ := hrel
        by_cases hj8 : j < 8
        · have hv : val (bitsFrom l A j) ≤ 127 := by
            have := val_lt (bitsFrom l A j)
            have : 2 ^ (bitsFrom l A j).length ≤ 2 ^ 7 := Nat.pow_le_pow_right (by omega) (by simp [bitsFrom]; omega)
            omega
          have HV : Hid (val (bitsFrom l A (j + 1)) = 2 * val (bitsFrom l A j) + (l.getD (A + j) false).toNat) := by show _ = _; rw [bitsFrom_succ, val_snoc]
          generalize val (bitsFrom l A j) = X at *
          by_cases hin : A + j < (txt l).size
          · have hd : decide ((A : Int) + (j : Int) < ((txt l).size : Int)) = true := decide_eq_true (by omega)
            have hc : ((((txt l)[A + j]).toNat : Int) == 49) = l.getD (A + j) false := by rw [txt_at]; exact ch_eq _
            generalize l.getD (A + j) false = b at hc HV
            cases b with
            | true =>
              go_wp2
              go_round
              case rel => exact ⟨j + 1, by omega, by go_num, by rw [HV.out]; rfl⟩
              case measure => simp [intOf]; omega
            | false =>
              go_wp2
              go_round
              case rel => exact ⟨j + 1, by omega, by go_num, by rw [HV.out]; rfl⟩
              case measure => simp [intOf]; omega
          · have hd : decide ((A : Int) + (j : Int) < ((txt l).size : Int)) = false := decide_eq_false (by omega)
            have hb : l.getD (A + j) false = false := by
              have := HZ.out
              rw [List.getD_eq_getElem?_getD, List.getElem?_eq_none (by omega)]; rfl
            rw [hb] at HV
            go_wp2
            go_round
            case rel => exact ⟨j + 1, by omega, by go_num, by rw [HV.out]; rfl⟩
            case measure => simp [intOf]; omega
        · have hj' : j = 8 := by omega
          subst hj'
          have hX : val (bitsFrom l A 8) = byteAt l m := by rw [HA.out]; exact bitsFrom_byte l m
          have hx := byteAt_lt l m
          have HX : Hid (packN l (m + 1) = packN l m ++ [byteAt l m]) := by show _ = _; simp [packN, List.range_succ]
          rw [hX]
          clear hX
          generalize byteAt l m = X at *
          have hrun := run_str (Src.one wr X hx)
          have hz5 : (str [X]).size ≤ 1 := by rw [str_size]; simp
          go_wp2
          go_roundw
          case rel => exact ⟨m + 1, by have := HA.out; unfold nbs; omega, by have := HA.out; go_num, by rw [HX.out, ← str_append], hfr.alloc _⟩
          case measure => simp [intOf]; omega
    · have hmn : m = nbs l.length := by have := HZ.out; unfold nbs at hm ⊢; omega
      subst hmn
      have hd0 : decide (((8 * nbs l.length : Nat) : Int) < ((txt l).size : Int)) = false := decide_eq_false (by omega)
      go_wp2
      go_ret
      exact ⟨rfl, hfr⟩
end Go.Proofs.Ytmmmjklmhabpoaa
