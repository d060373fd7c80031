/-
  Package stream: the reader's Get and Bit.
-/
import Derived.Test.YtkphonepblkcdaaGreatDoorReader
import Derived.BigQuiet
import Derived.Deep.QuietTactic
namespace Go.Proofs.YtkphonepblkcdaaGreatDoor
open Go.RowKit Mem Bits
set_option linter.unusedSimpArgs false
set_option linter.unusedVariables false

theorem mask_same (n : Int) (w : World) (m : Nat) (h : n = m) (h1 : m ≤ 4611686018427387904) :
    Calls Tryz.prog 41 #[.int .i64 n] w fun e w' => e = .returned (.int .u8 (Bits.mk m : Nat)) ∧ w' = w := by
  subst h
  exact (mask_any m w h1).mono fun e w' ⟨a, b⟩ => ⟨a, b.symm⟩

set_option maxHeartbeats 400000 in
theorem get_bad (w : World) (p : Nat) (n : Int) (h : n < 1 ∨ 64 < n) :
    Calls Tryz.prog 53 #[.pointer (some ⟨p, 0, none⟩), .int .i64 n] w fun e w' => e = .returned (.int .u64 0) ∧ w = w' := by
  have hd : decide (1 ≤ n ∧ n ≤ 64) = false := decide_eq_false (by omega)
  go_enter Tryz.func53, Tryz.ntmps53
  go_wp2_with (first | (go_at_call 72; refine (right_any _ _).mono ?_; rintro e w' ⟨rfl, rfl⟩))
  go_ret
  exact ⟨rfl, rfl⟩

set_option maxHeartbeats 1000000 in
theorem get_short (w : World) (p g : Nat) (l : List Bool) (pos lim : Nat) (sh : Bool) (n : Nat) (h : Rd w p g l pos lim sh) (hb : l.length ≤ 4294967296) (h1 : 1 ≤ n) (h2 : n ≤ 64) (h3 : lim - pos < n) :
    Calls Tryz.prog 53 #[.pointer (some ⟨p, 0, none⟩), .int .i64 (n : Int)] w fun e w' => e = .returned (.int .u64 0) ∧ Rd w' p g l pos pos true ∧ Fr [p] w w' := by
  have hd : decide (1 ≤ (n : Int) ∧ (n : Int) ≤ 64) = true := decide_eq_true (by omega)
  have h0 := h
  obtain ⟨hpg, hx1, hx2, v, hp, hrow⟩ := h
  clear hp hrow
  go_enter Tryz.func53, Tryz.ntmps53
  go_wp2_with (first
    | (go_at_call 72; refine (right_any _ _).mono ?_; rintro e w' ⟨rfl, rfl⟩)
    | (go_at_call 25; refine (left_any _ p g l pos lim sh (by exact h0) hb).mono ?_; rintro e w1 ⟨rfl, hf⟩; obtain ⟨_, _, _, v, hp1, hrow1⟩ := h0.kept hf (by simp) (by simp); have c1 : w1.cell? ⟨p, 1, none⟩ = some (.int .i64 (lim : Int)) := by { rw [cell_at hp1]; rfl }; have c2 : w1.cell? ⟨p, 2, none⟩ = some (.int .i64 (pos : Int)) := by { rw [cell_at hp1]; rfl }; have c3 : w1.cell? ⟨p, 3, none⟩ = some (.bool sh) := by { rw [cell_at hp1]; rfl }; have f1 := frozen_at hp1 1; have f3 := frozen_at hp1 3; have HP : Hid (w1.heap[p]? = some (.cells #[v, .int .i64 (lim : Int), .int .i64 (pos : Int), .bool sh] 93 (0, 0))) := hp1; clear hp1))
  go_ret
  have hs : Fr [p] w1 ((w1.setCell ⟨p, 1, none⟩ (.int .i64 (pos : Int))).setCell ⟨p, 3, none⟩ (.bool true)) := ((Fr.refl [p] w1).setCell _ _ (.inl (by simp))).setCell _ _ (.inl (by simp))
  refine ⟨rfl, ⟨hpg, Nat.le_refl _, by omega, v, ?_, hrow1.kept hs (by simpa using Ne.symm hpg)⟩, (hf.nil).trans hs (by simp)⟩
  have := HP.out
  simp [World.setCell, Array.getElem?_modify, this]

theorem take_drop_snoc (l : List Bool) (pos k : Nat) (h : pos + k < l.length) : (l.drop pos).take (k + 1) = (l.drop pos).take k ++ [l.getD (pos + k) false] := by
  rw [List.take_succ_eq_append_getElem (by simp; omega)]
  congr 2
  rw [List.getElem_drop, List.getD_eq_getElem?_getD, List.getElem?_eq_getElem h]; rfl

theorem byte_of_row (l : List Bool) (i : Nat) (h : i < l.length) : ((pack l).map u8)[i / 8]? = some (.int .u8 ((byteAt l (i / 8) : Nat) : Int)) := by
  rw [List.getElem?_map]; unfold pack; rw [packN_get? _ _ _ (by unfold nbs; omega)]; rfl

theorem bit_of_byte (l : List Bool) (i : Nat) (h : i < l.length) : (byteAt l (i / 8) &&& mk i != 0) = l.getD i false := by
  rw [and_mk _ _ (byteAt_lt _ _), byteAt_bit _ _ _ (by omega)]; congr 1; omega

theorem or_one (V : Nat) (h : V ≤ 9223372036854775807) : bits .or .u64 ((V : Int) * 2) 1 = ((2 * V + 1 : Nat) : Int) := by
  have e : ((V : Int) * 2) = ((2 * V : Nat) : Int) := by omega
  rw [e, show (1 : Int) = ((1 : Nat) : Int) from rfl, u64_or_nat (2 * V) 1 (by omega) (by omega), nat_join 1 (2 * V) 1 (by omega) (by omega)]

set_option maxHeartbeats 1000000 in
theorem get_ok (w : World) (p g : Nat) (l : List Bool) (pos lim : Nat) (sh : Bool) (n : Nat) (h : Rd w p g l pos lim sh) (hb : l.length ≤ 4294967296) (h1 : 1 ≤ n) (h2 : n ≤ 64) (h3 : pos + n ≤ lim) :
    Calls Tryz.prog 53 #[.pointer (some ⟨p, 0, none⟩), .int .i64 (n : Int)] w fun e w' => e = .returned (.int .u64 ((val ((l.drop pos).take n) : Nat) : Int)) ∧ Rd w' p g l (pos + n) lim sh ∧ Fr [p] w w' := by
  have hd : decide (1 ≤ (n : Int) ∧ (n : Int) ≤ 64) = true := decide_eq_true (by omega)
  have h0 := h
  obtain ⟨hpg, hx1, hx2, v, hp, hrow⟩ := h
  clear hp hrow
  have hd2 : decide (((lim - pos : Nat) : Int) < (n : Int)) = false := decide_eq_false (by omega)
  have hd3 : decide (lim - pos < n) = false := decide_eq_false (by omega)
  go_enter Tryz.func53, Tryz.ntmps53
  go_wp2_with (first
    | (go_at_call 72; refine (right_any _ _).mono ?_; rintro e w' ⟨rfl, rfl⟩)
    | (go_at_call 25; refine (left_any _ p g l pos lim sh (by exact h0) hb).mono ?_; rintro e w1 ⟨rfl, hf⟩))
  go_loopw [5, 25] (fun a c wr => ∃ k : Nat, k ≤ n ∧ c = .int .i64 k ∧ a = .int .u64 ((val ((l.drop pos).take k) : Nat) : Int) ∧ Fr [] w wr) (fun _ c _ => n - (intOf c).toNat)
  case atStart => exact ⟨0, by omega, rfl, rfl, hf⟩
  case round =>
    obtain ⟨k, hk, rfl, rfl, hfr⟩ := hrel
    obtain ⟨_, _, _, v, hp1, hrow1⟩ := h0.kept hfr (by simp) (by simp)
    obtain ⟨cap, hv⟩ := hrow1.val
    subst hv
    have c0 : wr.cell? ⟨p, 0, none⟩ = some (.slice (some ⟨g, 0, none⟩) (nbs l.length) cap) := by rw [cell_at hp1]; rfl
    have c2 : wr.cell? ⟨p, 2, none⟩ = some (.int .i64 (pos : Int)) := by rw [cell_at hp1]; rfl
    by_cases hlt : k < n
    · have cg := (hrow1.cell ((pos + k) / 8) (by unfold nbs; omega)).trans (byte_of_row l (pos + k) (by omega))
      have hbit := bit_of_byte l (pos + k) (by omega)
      have hx := byteAt_lt l ((pos + k) / 8)
      have hvl := val_lt ((l.drop pos).take k)
      have hnb : (pos + k) / 8 < nbs l.length := by unfold nbs; omega
      generalize byteAt l ((pos + k) / 8) = X at cg hx hbit
      clear hp1 hrow1
      have hV : val ((l.drop pos).take k) ≤ 9223372036854775807 := by
        have : 2 ^ ((l.drop pos).take k).length ≤ 2 ^ 63 := Nat.pow_le_pow_right (by omega) (by simp; omega)
        omega
      have hts := take_drop_snoc l pos k (by omega)
      have HV : Hid (val ((l.drop pos).take (k + 1)) = 2 * val ((l.drop pos).take k) + (l.getD (pos + k) false).toNat) := by show _ = _; rw [hts, val_snoc]
      clear hts hvl
      generalize val ((l.drop pos).take k) = V at *
      have hand : (bits .and .u8 (X : Int) ((mk (pos + k) : Nat) : Int) != 0) = l.getD (pos + k) false := by
        rw [u8_and_nat X _ hx (mk_lt _), ← hbit]
        simp [bne]
        rw [Bool.eq_iff_iff]; simp
      have hmk := mk_lt (pos + k)
      clear hbit
      generalize l.getD (pos + k) false = bb at hand HV
      cases bb with
      | true =>
        go_wp2
        go_quiet ((go_at_call 41; exact Calls.quiet_of_same (mask_same _ _ (pos + k) (by omega) (by omega))))
        go_wp2
        go_roundw
        case rel => exact ⟨k + 1, by omega, by go_num, by rw [HV.out, or_one V hV]; rfl, hfr.drewN _⟩
        case measure => simp [intOf]; omega
      | false =>
        go_wp2
        go_quiet ((go_at_call 41; exact Calls.quiet_of_same (mask_same _ _ (pos + k) (by omega) (by omega))))
        go_wp2
        go_roundw
        case rel => exact ⟨k + 1, by omega, by go_num, by rw [HV.out]; simp; omega, hfr.drewN _⟩
        case measure => simp [intOf]; omega
    · have hkn : k = n := by omega
      subst hkn
      have f2 := frozen_at hp1 2
      have HP : Hid (wr.heap[p]? = some (.cells #[.slice (some ⟨g, 0, none⟩) (nbs l.length) cap, .int .i64 (lim : Int), .int .i64 (pos : Int), .bool sh] 93 (0, 0))) := hp1
      clear hp1
      go_wp2
      go_ret
      have hs : Fr [p] wr (wr.setCell ⟨p, 2, none⟩ (.int .i64 ((pos : Int) + (k : Int)))) := (Fr.refl [p] wr).setCell _ _ (.inl (by simp))
      refine ⟨rfl, ⟨hpg, h3, hx2, .slice (some ⟨g, 0, none⟩) (nbs l.length) cap, ?_, hrow1.kept hs (by simpa using Ne.symm hpg)⟩, (hfr.nil).trans hs (by simp)⟩
      have := HP.out
      simp [World.setCell, Array.getElem?_modify, this]

theorem take_one (l : List Bool) (pos : Nat) (h : pos < l.length) : (l.drop pos).take 1 = [l.getD pos false] := by
  have := take_drop_snoc l pos 0 (by omega)
  simpa using this

theorem val_one (b : Bool) : val [b] = b.toNat := by cases b <;> rfl

end Go.Proofs.YtkphonepblkcdaaGreatDoor
