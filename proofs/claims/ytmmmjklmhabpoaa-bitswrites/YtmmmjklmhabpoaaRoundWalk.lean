/-
  The walk of tidepolelaw01.BitsRound: it returns true, whatever it is given, and writes nothing that was there.
-/
import Derived.Test.YtmmmjklmhabpoaaOps
import Derived.Deep.RegionHeld3
namespace Go.Proofs.Ytmmmjklmhabpoaa
open Go.RowKit Mem Bits
set_option linter.unusedSimpArgs false
set_option linter.unusedVariables false

/-- The bits that one call puts. -/
def oneCall (c : Call) : List Bool := if 1 ≤ c.2.1 ∧ c.2.1 ≤ 64 then numBits c.2.2 c.2.1.toNat else []
/-- The bits that the first k calls put. -/
def putBits (z : Nat → Call) : Nat → List Bool
  | 0 => []
  | k + 1 => putBits z k ++ oneCall (z k)
theorem oneCall_length (c : Call) : (oneCall c).length ≤ 64 := by unfold oneCall; split <;> simp <;> omega
theorem putBits_length (z : Nat → Call) (k : Nat) : (putBits z k).length ≤ 64 * k := by
  induction k with
  | zero => simp [putBits]
  | succ k ih => have := oneCall_length (z k); simp only [putBits, List.length_append]; omega

theorem putBits_prefix (z : Nat → Call) (k m : Nat) : ∃ r, putBits z (k + m) = putBits z k ++ r := by
  induction m with
  | zero => exact ⟨[], by simp⟩
  | succ m ih => obtain ⟨r, hr⟩ := ih; exact ⟨r ++ oneCall (z (k + m)), by rw [← Nat.add_assoc]; simp only [putBits]; rw [hr, List.append_assoc]⟩

/-- What is read at its place is what one call put. -/
theorem putBits_read (z : Nat → Call) (k m : Nat) (h : k < m) : ((putBits z m).drop (putBits z k).length).take (oneCall (z k)).length = oneCall (z k) := by
  obtain ⟨r, hr⟩ := putBits_prefix z (k + 1) (m - (k + 1))
  rw [show k + 1 + (m - (k + 1)) = m from by omega] at hr
  rw [hr]
  simp only [putBits, List.append_assoc]
  rw [List.drop_left, List.take_left]

theorem putBits_le (z : Nat → Call) (k m : Nat) (h : k < m) : (putBits z k).length + (oneCall (z k)).length ≤ (putBits z m).length := by
  obtain ⟨r, hr⟩ := putBits_prefix z (k + 1) (m - (k + 1))
  rw [show k + 1 + (m - (k + 1)) = m from by omega] at hr
  rw [hr]
  simp only [putBits, List.length_append]
  omega

theorem put_any (w : World) (p g : Nat) (l : List Bool) (c : Call) (h : Wr w p g l) (hl : l.length ≤ 4294967000) (hV : c.2.2 < 18446744073709551616) :
    Calls Try.prog 11 #[.pointer (some ⟨p, 0, none⟩), .int .u64 (c.2.2 : Int), .int .i64 c.2.1] w fun e w' => e = .returned (.tuple #[]) ∧ ∃ g', Wr w' p g' (l ++ oneCall c) ∧ (g' = g ∨ w.heap.size ≤ g') ∧ Fr [p, g] w w' := by
  obtain ⟨K, n, V⟩ := c
  dsimp only at hV ⊢
  by_cases h1 : 1 ≤ n ∧ n ≤ 64
  · obtain ⟨m, rfl⟩ := Int.eq_ofNat_of_zero_le (show 0 ≤ n by omega)
    have e : oneCall (K, (m : Int), V) = numBits V m := by unfold oneCall; rw [if_pos h1]; simp
    rw [e]
    exact put_ok w p g l V m h hl hV (by omega) (by omega)
  · have e : oneCall (K, n, V) = [] := by unfold oneCall; rw [if_neg h1]
    rw [e, List.append_nil]
    refine (put_bad w p V n (by omega)).mono ?_
    rintro e w' ⟨rfl, rfl⟩
    exact ⟨rfl, g, h, .inl rfl, Fr.refl _ _⟩

set_option maxHeartbeats 2000000 in
theorem round_walk (a0 : Option Addr) (len0 cap0 : Nat) (z0 : Nat → Call) (w : World) (w0 : IsOps w a0 len0 cap0 z0) :
    Calls Try.prog 5 #[.slice a0 len0 cap0] w fun e w' => e = .returned (.bool true) ∧ Below w.heap.size w w' := by
  obtain ⟨b, off, ha, hcell, hbd⟩ := w0
  by_cases h1 : 60 < len0
  · go_enter Try.func5, Try.ntmps5
    go_wp2_with fail
    refine (awake_any w).mono ?_
    rintro e w' ⟨rfl, hf⟩
    go_wp2_with fail
    go_ret
    exact ⟨rfl, hf.below (Nat.le_refl _) (by simp)⟩
  go_enter Try.func5, Try.ntmps5
  go_wp2_with fail
  refine (newWriter_ok _ [] 0 w (Src.nil w) (by decide) (by decide)).mono ?_
  rintro e w1 ⟨p, g, rfl, hw1, hp, hg, hf1⟩
  have hl1 := hw1.lt
  go_wp2_with fail
  go_loopw [27] (fun c wr => ∃ k : Nat, k ≤ len0 ∧ c = .int .i64 k ∧ ∃ gk, Wr wr p gk (putBits z0 k) ∧ w.heap.size ≤ gk ∧ Fr [] w wr) (fun c _ => len0 - (intOf c).toNat)
  case atStart => exact ⟨0, by omega, rfl, g, hw1, hg, hf1⟩
  case round =>
    obtain ⟨k, hk, rfl, gk, hwk, hgk, hfr⟩ := hrel
    by_cases hlt : k < len0
    · have hae := ha (by omega)
      subst hae
      obtain ⟨c0, c1, c2⟩ := hcell k hlt
      obtain ⟨b0, b1, b2⟩ := hbd k hlt
      have d0 := hfr.cell_some c0 (by simp)
      have d1 := hfr.cell_some c1 (by simp)
      have d2 := hfr.cell_some c2 (by simp)
      clear c0 c1 c2
      have HC : Hid (putBits z0 (k + 1) = putBits z0 k ++ oneCall (z0 k)) := rfl
      have hpl := putBits_length z0 k
      generalize z0 k = zk at d0 d1 d2 b0 b1 b2 HC
      obtain ⟨K, n, V⟩ := zk
      dsimp only at d0 d1 d2 b0 b1 b2
      go_wp2_with fail
      have hwa := hwk.kept ((Fr.refl [] wr).alloc (.cells #[.int .i64 K, .int .i64 n, .int .u64 (V : Int)] 33)) (by simp) (by simp)
      have hfa := hfr.alloc (.cells #[.int .i64 K, .int .i64 n, .int .u64 (V : Int)] 33)
      generalize wr.alloc (.cells #[.int .i64 K, .int .i64 n, .int .u64 (V : Int)] 33) = wa at *
      refine (put_any wa p gk _ (K, n, V) hwa (by omega) b2).mono ?_
      rintro e w2 ⟨rfl, g2, hw2, hg2, hf2⟩
      rw [← HC.out] at hw2
      have hf3 : Fr [] w w2 := hfa.trans hf2 (by intro x hx; simp at hx; omega)
      have hg3 : w.heap.size ≤ g2 := by have := hfa.size; omega
      clear hwk hfr hwa hfa hf2 hg2 d0 d1 d2
      go_wp2_with fail
      go_roundw
      case rel => exact ⟨k + 1, by omega, by go_num, g2, hw2, hg3, hf3⟩
      case measure => simp [intOf]; omega
    · have hkn : k = len0 := by omega
      subst hkn
      have hLb : (putBits z0 k).length ≤ 64 * k := putBits_length z0 k
      have HLR : Hid (∀ j, j < k → ((putBits z0 k).drop (putBits z0 j).length).take (oneCall (z0 j)).length = oneCall (z0 j)) := fun j hj => putBits_read z0 j k hj
      have HLL : Hid (∀ j, j < k → (putBits z0 j).length + (oneCall (z0 j)).length ≤ (putBits z0 k).length) := fun j hj => putBits_le z0 j k hj
      have hbytes := bytes_any wr p gk _ hwk (by omega)
      go_wp2_with fail
      refine (bytes_any wr p gk _ hwk (by omega)).mono ?_
      rintro e w2 ⟨g2, rfl, hg2, hz2, hf2⟩
      have hw2 := hwk.kept hf2 (by simp) (by simp)
      go_wp2_with fail
      refine (len_any w2 p gk _ hw2).mono ?_
      rintro e w3 ⟨rfl, rfl⟩
      have hsrc : Src w2 (.slice (some ⟨g2, 0, none⟩) (nbs (putBits z0 k).length) (nbs (putBits z0 k).length)) (pack (putBits z0 k)) := Wr.src (Row.made hg2 (by unfold maxLen nbs; omega) (by simp))
      go_wp2_with fail
      refine (newReader_ok _ (pack (putBits z0 k)) (putBits z0 k).length w2 hsrc (by simp) (by omega)).mono ?_
      rintro e w3 ⟨q, h, rfl, hr3, hq, hh, hf3⟩
      rw [unpack_pack] at hr3
      have hf03 : Fr [] w w3 := (hfr.trans hf2 (by simp)).trans hf3 (by simp)
      have hq0 : w.heap.size ≤ q := by have := hf2.size; have := hfr.size; omega
      clear hbytes hwk hfr hg2 hf2 hw2 hsrc hf3 hw1 hf1
      have HLE : Hid ((putBits z0 k).length = (putBits z0 k).length) := rfl
      have HLE2 : ∃ L, L = putBits z0 k := ⟨_, rfl⟩
      obtain ⟨L, hL⟩ := HLE2
      rw [← hL] at hr3 hLb HLR HLL
      have HLE : Hid ((putBits z0 k).length = L.length) := by show _ = _; rw [hL]
      rw [← hL]
      clear hL
      go_wp2_with fail
      go_loopw [54] (fun c wr => ∃ j : Nat, j ≤ k ∧ c = .int .i64 j ∧ Rd wr q h L (putBits z0 j).length L.length false ∧ Fr [] w wr) (fun c _ => k - (intOf c).toNat)
      case atStart => exact ⟨0, by omega, rfl, hr3, hf03⟩
      case round =>
        obtain ⟨j, hj, rfl, hrj, hfj⟩ := hrel
        by_cases hlt2 : j < k
        · have hae := ha (by omega)
          subst hae
          obtain ⟨c0, c1, c2⟩ := hcell j hlt2
          obtain ⟨b0, b1, b2⟩ := hbd j hlt2
          have d0 := hfj.cell_some c0 (by simp)
          have d1 := hfj.cell_some c1 (by simp)
          have d2 := hfj.cell_some c2 (by simp)
          have hrd := HLR.out j hlt2
          have hle := HLL.out j hlt2
          clear c0 c1 c2
          have HC : Hid (putBits z0 (j + 1) = putBits z0 j ++ oneCall (z0 j)) := rfl
          generalize z0 j = zk at d0 d1 d2 b0 b1 b2 HC hrd hle
          obtain ⟨K, n, V⟩ := zk
          dsimp only at d0 d1 d2 b0 b1 b2
          by_cases hn : 1 ≤ n ∧ n ≤ 64
          · obtain ⟨m, rfl⟩ := Int.eq_ofNat_of_zero_le (show 0 ≤ n by omega)
            have e1 : oneCall (K, (m : Int), V) = numBits V m := by unfold oneCall; rw [if_pos hn]; simp
            rw [e1] at hrd hle HC
            rw [numBits_length] at hrd hle
            have HR1 : Hid (val ((L.drop (putBits z0 j).length).take m) = val (numBits V m)) := by show _ = _; rw [hrd]
            have hRb : val (numBits V m) < 18446744073709551616 := by rw [val_numBits]; exact Nat.lt_of_le_of_lt (Nat.mod_le _ _) b2
            have HLN : Hid ((putBits z0 (j + 1)).length = (putBits z0 j).length + m) := by show _ = _; rw [HC.out, List.length_append, numBits_length]
            have hnl : (numBits V m).length ≤ 64 := by rw [numBits_length]; omega
            have hdn : decide ((m : Int) < 1) = false := decide_eq_false (by omega)
            have hdn2 : decide ((64 : Int) < (m : Int)) = false := decide_eq_false (by omega)
            clear hrd e1
            obtain ⟨R, hR⟩ : ∃ R, R = val (numBits V m) := ⟨_, rfl⟩
            rw [← hR] at HR1 hRb
            have HR2 : Hid (val (numBits V m) = R) := hR.symm
            clear hR
            have hja := hrj.lt
            go_wp2_with fail
            have hra := hrj.kept ((Fr.refl [] wr).alloc (.cells #[.int .i64 K, .int .i64 (m : Int), .int .u64 (V : Int)] 33)) (by simp) (by simp)
            have hfa := hfj.alloc (.cells #[.int .i64 K, .int .i64 (m : Int), .int .u64 (V : Int)] 33)
            have k1 : (wr.alloc (.cells #[.int .i64 K, .int .i64 (m : Int), .int .u64 (V : Int)] 33)).cell? ⟨wr.heap.size, 1, none⟩ = some (.int .i64 (m : Int)) := by rw [World.cell?_alloc_at _ _ _ _ rfl]; rfl
            have k2 : (wr.alloc (.cells #[.int .i64 K, .int .i64 (m : Int), .int .u64 (V : Int)] 33)).cell? ⟨wr.heap.size, 2, none⟩ = some (.int .u64 (V : Int)) := by rw [World.cell?_alloc_at _ _ _ _ rfl]; rfl
            generalize wr.alloc (.cells #[.int .i64 K, .int .i64 (m : Int), .int .u64 (V : Int)] 33) = wa at *
            generalize wr.heap.size = B at *
            clear d0 d1 d2 hrj hfj
            clear hcell hbd HLR HLL HLE hr3 hf03
            go_region_held3 (fun w' => w'.cell? ⟨B, 1, none⟩ = some (.int .i64 (m : Int)) ∧ w'.cell? ⟨B, 2, none⟩ = some (.int .u64 (V : Int))) (go_keep) (first
              | (go_at_call 20; refine (get_ok _ q h L (putBits z0 j).length L.length false m ?_ (by omega) (by omega) (by omega) (by omega)).mono ?_; exact hra; rintro e w5 ⟨rfl, hr5, hf5⟩; rw [HR1.out]; have i1 := hf5.cell_some (p := ⟨B, 1, none⟩) (v := .int .i64 (m : Int)) k1 (by simp; omega); have i2 := hf5.cell_some (p := ⟨B, 2, none⟩) (v := .int .u64 (V : Int)) k2 (by simp; omega))
              | (go_at_call_of 12 (Value.int IntKind.i64 64); refine (number_any R 64 _ hRb (by omega)).mono ?_; rintro e w6 ⟨rfl, rfl⟩)
              | (go_at_call_of 12 (Value.int IntKind.i64 (m : Int)); refine (number_any V m _ b2 (by omega)).mono ?_; rintro e w6 ⟨rfl, rfl⟩)
              | (go_at_call 19; refine (value_any (numBits V m) _ hnl).mono ?_; rintro e w6 ⟨rfl, rfl⟩; rw [HR2.out]))
            all_goals go_wp2_with fail
            all_goals go_roundw
            case rel =>
              have hf6 : Fr [q] wa w5 := ⟨hf5.os, hf5.tape, hf5.output, hf5.size, hf5.block⟩
              exact ⟨j + 1, by omega, by go_num, by rw [HLN.out]; exact hr5, hfa.trans hf6 (by simp; omega)⟩
            case measure => simp [intOf]; omega
          · have e1 : oneCall (K, n, V) = [] := by unfold oneCall; rw [if_neg hn]
            rw [e1, List.append_nil] at HC
            by_cases hn1 : n < 1
            · have hdn : decide (n < 1) = true := decide_eq_true hn1
              go_wp2_with fail
              go_roundw
              case rel => exact ⟨j + 1, by omega, by go_num, by rw [HC.out]; exact hrj.kept ((Fr.refl [] wr).alloc _) (by simp) (by simp), hfj.alloc _⟩
              case measure => simp [intOf]; omega
            · have hdn : decide (n < 1) = false := decide_eq_false hn1
              have hdn2 : decide (64 < n) = true := decide_eq_true (by omega)
              go_wp2_with fail
              go_roundw
              case rel => exact ⟨j + 1, by omega, by go_num, by rw [HC.out]; exact hrj.kept ((Fr.refl [] wr).alloc _) (by simp) (by simp), hfj.alloc _⟩
              case measure => simp [intOf]; omega
        · have hjk : j = k := by omega
          subst hjk
          have HPL : (putBits z0 j).length = L.length := HLE.out
          rw [HPL] at hrj
          go_wp2_with (first
            | (go_at_call 21; refine (left_any _ q h L L.length L.length false (by exact hrj) (by omega)).mono ?_; rintro e w4 ⟨rfl, hf4⟩; have hr4 := hrj.kept hf4 (by simp) (by simp))
            | (go_at_call 23; refine (short_any _ q h L L.length L.length false (by exact hr4)).mono ?_; rintro e w' ⟨rfl, rfl⟩)
            | (go_at_call 7; refine (awake_any _).mono ?_; rintro e w9 ⟨rfl, hf9⟩))
          go_ret
          exact ⟨rfl, ((hfj.trans hf4 (by simp)).trans hf9 (by simp)).below (Nat.le_refl _) (by simp)⟩
end Go.Proofs.Ytmmmjklmhabpoaa
