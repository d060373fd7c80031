/-
  Package varbit: lowest, signed, groupU, groupS, length, LenU, LenS, put, PutU, PutS.
-/
import Derived.Test.YtkphonepblkcdaaGreatDoorRBit
import Derived.Test.YtkphonepblkcdaaGreatDoorPut
import Derived.Test.YtkphonepblkcdaaGreatDoorGroups
namespace Go.Proofs.YtkphonepblkcdaaGreatDoor
open Go.RowKit Mem Bits Groups
set_option linter.unusedSimpArgs false
set_option linter.unusedVariables false

/-- The package's table. -/
def Tab (w : World) : Prop := ∀ i, i < 9 → w.cell? ⟨0, i, none⟩ = some (.int .i64 ((bh i : Nat) : Int))
theorem Tab.kept {w w' : World} {S : List Nat} (h : Tab w) (f : Fr S w w') (hn : 0 ∉ S) : Tab w' := fun i hi => f.cell_some (h i hi) hn
theorem Tab.lt {w : World} (h : Tab w) : 0 < w.heap.size := World.block_lt_of_cell? w _ (h 0 (by omega))

theorem mask_n (V n : Nat) (hV : V < 18446744073709551616) (hn : n ≤ 64) : Go.bits .and .u64 (V : Int) (IntKind.u64.wrap (IntKind.u64.wrap (2 ^ n) - 1)) = ((V % 2 ^ n : Nat) : Int) := by
  have h2 : 2 ^ n ≤ 2 ^ 64 := Nat.pow_le_pow_right (by omega) hn
  have h0 : 0 < 2 ^ n := Nat.two_pow_pos _
  have e : IntKind.u64.wrap (IntKind.u64.wrap (2 ^ n) - 1) = ((2 ^ n - 1 : Nat) : Int) := by
    rw [IntKind.wrap_u64, IntKind.wrap_u64, show ((2 : Int) ^ n) = ((2 ^ n : Nat) : Int) from by simp]
    generalize 2 ^ n = X at *
    omega
  rw [e, u64_and_nat V _ hV (by omega), Nat.and_two_pow_sub_one_eq_mod]

set_option maxHeartbeats 400000 in
theorem lowest_any (V n : Nat) (w : World) (hV : V < 18446744073709551616) (hn : n ≤ 64) :
    Calls Tryz.prog 93 #[.int .u64 (V : Int), .int .i64 (n : Int)] w fun e w' => e = .returned (.int .u64 ((V % 2 ^ n : Nat) : Int)) ∧ w = w' := by
  have hm := mask_n V n hV hn
  go_enter Tryz.func93, Tryz.ntmps93
  go_wp2_with fail
  go_ret
  exact ⟨by show Ending.returned (Value.int .u64 ((V : Int) % 2 ^ n)) = _; simp, rfl⟩

theorem half_n (B n : Nat) (hB : B < 2 ^ n) (hn : n = 64 ∨ n ≤ 56) :
    (IntKind.u64.wrap (2 ^ n) / 2 < (B : Int) → wrap64 (IntKind.u64.wrap ((B : Int) - IntKind.u64.wrap (2 ^ n))) = sgn B n) ∧ (¬ IntKind.u64.wrap (2 ^ n) / 2 < (B : Int) → wrap64 (B : Int) = sgn B n) := by
  unfold wrap64
  rw [IntKind.wrap_u64, IntKind.wrap_u64, show ((2 : Int) ^ n) = ((2 ^ n : Nat) : Int) from by simp]
  rcases hn with rfl | hn
  · rw [sgn_last]
    have hB' : B < 18446744073709551616 := hB
    constructor <;> intro h <;> split <;> omega
  · have h2 : 2 ^ n ≤ 2 ^ 56 := Nat.pow_le_pow_right (by omega) hn
    have h3 : n = 0 ∨ 2 ^ n % 2 = 0 := by
      rcases Nat.eq_zero_or_pos n with h | h
      · exact .inl h
      · exact .inr (by rw [show n = (n - 1) + 1 from by omega, Nat.pow_succ]; omega)
    unfold sgn
    rw [if_neg (by omega)]
    rcases h3 with rfl | h3
    · simp at hB ⊢; subst hB; simp
    · generalize 2 ^ n = X at *
      constructor <;> intro h <;> split <;> omega

set_option maxHeartbeats 400000 in
theorem signed_any (B n : Nat) (w : World) (hB : B < 2 ^ n) (hn : n = 64 ∨ n ≤ 56) :
    Calls Tryz.prog 92 #[.int .u64 (B : Int), .int .i64 (n : Int)] w fun e w' => e = .returned (.int .i64 (sgn B n)) ∧ w = w' := by
  obtain ⟨h1, h2⟩ := half_n B n hB hn
  have hn64 : n ≤ 64 := by omega
  clear hB hn
  by_cases hc : IntKind.u64.wrap (2 ^ n) / 2 < (B : Int)
  · have HR : Hid (wrap64 (IntKind.u64.wrap ((B : Int) - IntKind.u64.wrap (2 ^ n))) = sgn B n) := h1 hc
    have hd : decide (IntKind.u64.wrap (2 ^ n) / 2 < (B : Int)) = true := decide_eq_true hc
    clear h1 h2 hc
    go_enter Tryz.func92, Tryz.ntmps92
    go_wp2_with fail
    go_ret
    exact ⟨by rw [← HR.out]; rfl, rfl⟩
  · have HR : Hid (wrap64 (B : Int) = sgn B n) := h2 hc
    have hd : decide (IntKind.u64.wrap (2 ^ n) / 2 < (B : Int)) = false := decide_eq_false hc
    clear h1 h2 hc
    go_enter Tryz.func92, Tryz.ntmps92
    go_wp2_with fail
    go_ret
    exact ⟨by rw [← HR.out]; rfl, rfl⟩

set_option maxRecDepth 100000 in
set_option maxHeartbeats 1000000 in
theorem groupU_any (V : Nat) (w : World) (hT : Tab w) (hV : V < 18446744073709551616) :
    Calls Tryz.prog 95 #[.int .u64 (V : Int)] w fun e w' => e = .returned (.int .i64 (gU V : Nat)) ∧ w = w' := by
  have HT : Hid (Tab w) := hT
  clear hT
  have hg8 := gU_le V
  go_enter Tryz.func95, Tryz.ntmps95
  go_wp2_with fail
  go_loop [3] (fun c => ∃ k : Nat, k ≤ gU V ∧ c = .int .i64 (k : Int)) (fun c => 8 - (intOf c).toNat)
  case atStart => exact ⟨0, by omega, rfl⟩
  case round =>
    obtain ⟨k, hk, rfl⟩ := hrel
    by_cases h8 : k < 8
    · have d8 : decide ((k : Int) < 8) = true := decide_eq_true (by omega)
      have hc := HT.out k (by omega)
      have hb := bh_le k
      have HI : Hid (V % 2 ^ bh k = V ↔ gU V = k) := low_iff V h8 hk
      go_wp2_with fail
      refine (lowest_any V (bh k) w hV hb).mono ?_
      rintro e w1 ⟨rfl, rfl⟩
      by_cases he : gU V = k
      · have e1 := HI.out.2 he
        rw [e1]
        have d1 : ((V : Int) != (V : Int)) = false := by simp
        subst he
        go_wp2_with fail
        go_ret
        exact ⟨rfl, rfl⟩
      · have d1 : (((V % 2 ^ bh k : Nat) : Int) != (V : Int)) = true := by
          rw [bne_iff_ne]; intro h; exact he (HI.out.1 (by omega))
        generalize V % 2 ^ bh k = X at *
        go_wp2_with fail
        go_round
        case rel => exact ⟨k + 1, by omega, by go_num⟩
        case measure => simp [intOf]; omega
    · have d8 : decide ((k : Int) < 8) = false := decide_eq_false (by omega)
      have he : gU V = k := by omega
      subst he
      go_wp2_with fail
      go_ret
      exact ⟨rfl, rfl⟩

theorem lowest_same (x y : Int) (w : World) (V n : Nat) (hx : x = V) (hy : y = n) (hV : V < 18446744073709551616) (hn : n ≤ 64) :
    Calls Tryz.prog 93 #[.int .u64 x, .int .i64 y] w fun e w' => e = .returned (.int .u64 ((V % 2 ^ n : Nat) : Int)) ∧ w' = w := by
  subst hx hy
  exact (lowest_any V n w hV hn).mono fun e w' ⟨a, b⟩ => ⟨a, b.symm⟩
theorem signed_same (x y : Int) (w : World) (B n : Nat) (hx : x = B) (hy : y = n) (hB : B < 2 ^ n) (hn : n = 64 ∨ n ≤ 56) :
    Calls Tryz.prog 92 #[.int .u64 x, .int .i64 y] w fun e w' => e = .returned (.int .i64 (sgn B n)) ∧ w' = w := by
  subst hx hy
  exact (signed_any B n w hB hn).mono fun e w' ⟨a, b⟩ => ⟨a, b.symm⟩
theorem wrap_tw (v : Int) : IntKind.u64.wrap v = ((tw v : Nat) : Int) := by rw [IntKind.wrap_u64]; unfold tw; omega

set_option maxRecDepth 100000 in
set_option maxHeartbeats 1000000 in
theorem groupS_any (v : Int) (w : World) (hT : Tab w) (h1 : -9223372036854775808 ≤ v) (h2 : v ≤ 9223372036854775807) :
    Calls Tryz.prog 74 #[.int .i64 v] w fun e w' => e = .returned (.int .i64 (gS v : Nat)) ∧ Fr [] w w' := by
  have HT : Hid (Tab w) := hT
  clear hT
  have hg8 := gS_le v
  go_enter Tryz.func74, Tryz.ntmps74
  go_wp2_with fail
  go_loopw [3] (fun c wr => ∃ k : Nat, k ≤ gS v ∧ c = .int .i64 (k : Int) ∧ Fr [] w wr) (fun c _ => 8 - (intOf c).toNat)
  case atStart => exact ⟨0, by omega, rfl, Fr.refl _ _⟩
  case round =>
    obtain ⟨k, hk, rfl, hf⟩ := hrel
    by_cases h8 : k < 8
    · have d8 : decide ((k : Int) < 8) = true := decide_eq_true (by omega)
      have hi1 : (0 : Int) ≤ (k : Int) := by omega
      have hi2 : (k : Int) < 9 := by omega
      have hc := HT.out.kept hf (by simp) k (by omega)
      have hb := bh_le k
      have hbs := bh_sort (Nat.le_of_lt h8)
      have hlt : tw v % 2 ^ bh k < 2 ^ bh k := Nat.mod_lt _ (Nat.two_pow_pos _)
      have HI : Hid (sgn (tw v % 2 ^ bh k) (bh k) = v ↔ gS v = k) := sgn_iff v h1 h2 h8 hk
      by_cases he : gS v = k
      · have d1 : (sgn (tw v % 2 ^ bh k) (bh k) != v) = false := by rw [HI.out.2 he]; simp
        go_wp2_with fail
        go_quiet (first | (go_at_call 93; exact Calls.quiet_of_same (lowest_same _ _ _ (tw v) (bh k) (wrap_tw v) rfl (tw_lt v) hb)) | (go_at_call 92; exact Calls.quiet_of_same (signed_same _ _ _ (tw v % 2 ^ bh k) (bh k) rfl rfl hlt hbs)))
        subst he
        go_wp2_with fail
        go_ret
        exact ⟨rfl, hf.drewN _⟩
      · have d1 : (sgn (tw v % 2 ^ bh k) (bh k) != v) = true := by rw [bne_iff_ne]; intro h; exact he (HI.out.1 h)
        go_wp2_with fail
        go_quiet (first | (go_at_call 93; exact Calls.quiet_of_same (lowest_same _ _ _ (tw v) (bh k) (wrap_tw v) rfl (tw_lt v) hb)) | (go_at_call 92; exact Calls.quiet_of_same (signed_same _ _ _ (tw v % 2 ^ bh k) (bh k) rfl rfl hlt hbs)))
        go_wp2_with fail
        go_roundw
        case rel => exact ⟨k + 1, by omega, by go_num, hf.drewN _⟩
        case measure => simp [intOf]; omega
    · have d8 : decide ((k : Int) < 8) = false := decide_eq_false (by omega)
      have he : gS v = k := by omega
      subst he
      go_wp2_with fail
      go_quiet (fail)
      go_wp2_with fail
      go_ret
      exact ⟨rfl, hf.drewN _⟩

set_option maxHeartbeats 400000 in
theorem length_any (k : Nat) (w : World) (hT : Tab w) (hk : k ≤ 8) :
    Calls Tryz.prog 77 #[.int .i64 (k : Int)] w fun e w' => e = .returned (.int .i64 ((fore k + bh k : Nat) : Int)) ∧ w = w' := by
  have hc := hT k (by omega)
  have hb := bh_le k
  clear hT
  by_cases h8 : k = 8
  · subst h8
    go_enter Tryz.func77, Tryz.ntmps77
    go_wp2_with fail
    go_ret
    exact ⟨rfl, rfl⟩
  · have d8 : ((k : Int) == 8) = false := beq_eq_false_iff_ne.2 (by omega)
    have ea : fore k = k + 1 := by unfold fore; rw [if_pos (by omega)]
    rw [ea]
    generalize bh k = B at *
    go_enter Tryz.func77, Tryz.ntmps77
    go_wp2_with fail
    go_ret
    exact ⟨rfl, rfl⟩

set_option maxHeartbeats 400000 in
theorem lenU_any (V : Nat) (w : World) (hT : Tab w) (hV : V < 18446744073709551616) :
    Calls Tryz.prog 78 #[.int .u64 (V : Int)] w fun e w' => e = .returned (.int .i64 ((ubits V).length : Int)) ∧ w = w' := by
  have e : (ubits V).length = fore (gU V) + bh (gU V) := gbits_length _ _
  rw [e]
  go_enter Tryz.func78, Tryz.ntmps78
  go_wp2_with fail
  refine (groupU_any V w hT hV).mono ?_
  rintro e w1 ⟨rfl, rfl⟩
  go_wp2_with fail
  refine (length_any (gU V) w hT (gU_le V)).mono ?_
  rintro e w1 ⟨rfl, rfl⟩
  go_wp2_with fail
  go_ret
  exact ⟨rfl, rfl⟩

set_option maxHeartbeats 400000 in
theorem lenS_any (v : Int) (w : World) (hT : Tab w) (h1 : -9223372036854775808 ≤ v) (h2 : v ≤ 9223372036854775807) :
    Calls Tryz.prog 46 #[.int .i64 v] w fun e w' => e = .returned (.int .i64 ((sbits v).length : Int)) ∧ Fr [] w w' := by
  have e : (sbits v).length = fore (gS v) + bh (gS v) := gbits_length _ _
  rw [e]
  go_enter Tryz.func46, Tryz.ntmps46
  go_wp2_with fail
  refine (groupS_any v w hT h1 h2).mono ?_
  rintro e w1 ⟨rfl, hf⟩
  go_wp2_with fail
  refine (length_any (gS v) w1 (hT.kept hf (by simp)) (gS_le v)).mono ?_
  rintro e w2 ⟨rfl, rfl⟩
  go_wp2_with fail
  go_ret
  exact ⟨rfl, hf⟩

theorem ones_snoc (k : Nat) : List.replicate k true ++ [true] = List.replicate (k + 1) true := List.replicate_succ'.symm
set_option maxRecDepth 100000 in
set_option maxHeartbeats 1000000 in
theorem vput_any (w : World) (p g : Nat) (l : List Bool) (k V : Nat) (hT : Tab w) (hp : 0 < p) (hg : 0 < g) (h : Wr w p g l) (hl : l.length ≤ 4294966000) (hk : k ≤ 8) (hV : V < 18446744073709551616) :
    Calls Tryz.prog 73 #[.pointer (some ⟨p, 0, none⟩), .int .i64 (k : Int), .int .u64 (V : Int)] w fun e w' => e = .returned (.tuple #[]) ∧ ∃ g', Wr w' p g' (l ++ gbits k V) ∧ (g' = g ∨ w.heap.size ≤ g') ∧ Fr [p, g] w w' := by
  have HT : Hid (Tab w) := hT
  have hsz := hT.lt
  clear hT
  go_enter Tryz.func73, Tryz.ntmps73
  go_wp2_with fail
  go_loopw [7] (fun c wr => ∃ j gk : Nat, j ≤ k ∧ c = .int .i64 (j : Int) ∧ Wr wr p gk (l ++ List.replicate j true) ∧ (gk = g ∨ w.heap.size ≤ gk) ∧ Fr [p, g] w wr) (fun c _ => k - (intOf c).toNat)
  case atStart => exact ⟨0, g, by omega, rfl, by simpa using h, .inl rfl, Fr.refl _ _⟩
  case round =>
    obtain ⟨j, gk, hj, rfl, hw, hgk, hfr⟩ := hrel
    by_cases hjk : j < k
    · have dj : decide ((j : Int) < (k : Int)) = true := decide_eq_true (by omega)
      go_wp2_with fail
      refine (bit_any wr p gk _ true hw (by simp; omega)).mono ?_
      rintro e w2 ⟨rfl, g2, hw2, hg2, hf2⟩
      rw [List.append_assoc, ones_snoc] at hw2
      have hf3 := hfr.two hf2 hgk
      have := hfr.size
      go_wp2_with fail
      go_roundw
      case rel => exact ⟨j + 1, g2, by omega, by go_num, hw2, by omega, hf3⟩
      case measure => simp [intOf]; omega
    · have dj : decide ((j : Int) < (k : Int)) = false := decide_eq_false (by omega)
      have ej : j = k := by omega
      subst ej
      have hz := hfr.size
      by_cases h8 : j < 8
      · have d8 : decide ((j : Int) < 8) = true := decide_eq_true (by omega)
        go_wp2_with fail
        refine (bit_any wr p gk _ false hw (by simp; omega)).mono ?_
        rintro e w2 ⟨rfl, g2, hw2, hg2, hf2⟩
        have HL : Hid (l ++ List.replicate j true ++ [false] = l ++ lead j) := by show _ = _; unfold lead; rw [if_pos h8]; simp
        rw [HL.out] at hw2
        have hf3 := hfr.two hf2 hgk
        have hz3 := hf2.size
        have hc := HT.out.kept hf3 (by simp; omega) j (by omega)
        clear hf2 hw hfr
        rcases bh_cases hk with ⟨rfl, hb⟩ | ⟨hj1, hb⟩
        · rw [hb] at hc
          go_wp2_with fail
          refine (put_bad w2 p V 0 (by omega)).mono ?_
          rintro e w3 ⟨rfl, rfl⟩
          go_wp2_with fail
          go_end0
          exact ⟨rfl, g2, by simpa [gbits, bh, numBits] using hw2, by omega, hf3⟩
        · have hb64 := bh_le j
          go_wp2_with fail
          refine (put_ok w2 p g2 _ V (bh j) hw2 (by simp [fore]; split <;> omega) hV hb hb64).mono ?_
          rintro e w3 ⟨rfl, g3, hw3, hg3, hf4⟩
          have hf5 := hf3.two hf4 (by omega)
          go_wp2_with fail
          go_end0
          exact ⟨rfl, g3, by simpa [gbits] using hw3, by omega, hf5⟩
      · have d8 : decide ((j : Int) < 8) = false := decide_eq_false (by omega)
        have ej : j = 8 := by omega
        subst ej
        have HL : Hid (l ++ List.replicate 8 true = l ++ lead 8) := by show _ = _; unfold lead; rw [if_neg h8]; simp
        rw [HL.out] at hw
        have hc := HT.out.kept hfr (by simp; omega) 8 (by omega)
        go_wp2_with fail
        refine (put_ok wr p gk _ V (bh 8) hw (by simp [fore]; omega) hV (by decide) (by decide)).mono ?_
        rintro e w3 ⟨rfl, g3, hw3, hg3, hf4⟩
        have hf5 := hfr.two hf4 (by omega)
        go_wp2_with fail
        go_end0
        exact ⟨rfl, g3, by simpa [gbits] using hw3, by omega, hf5⟩

set_option maxHeartbeats 400000 in
theorem vputU_any (w : World) (p g : Nat) (l : List Bool) (V : Nat) (hT : Tab w) (hp : 0 < p) (hg : 0 < g) (h : Wr w p g l) (hl : l.length ≤ 4294966000) (hV : V < 18446744073709551616) :
    Calls Tryz.prog 76 #[.pointer (some ⟨p, 0, none⟩), .int .u64 (V : Int)] w fun e w' => e = .returned (.tuple #[]) ∧ ∃ g', Wr w' p g' (l ++ ubits V) ∧ (g' = g ∨ w.heap.size ≤ g') ∧ Fr [p, g] w w' := by
  go_enter Tryz.func76, Tryz.ntmps76
  go_wp2_with fail
  refine (groupU_any V w hT hV).mono ?_
  rintro e w1 ⟨rfl, rfl⟩
  go_wp2_with fail
  refine (vput_any w p g l (gU V) V hT hp hg h hl (gU_le V) hV).mono ?_
  rintro e w1 ⟨rfl, g1, hw1, hg1, hf1⟩
  go_wp2_with fail
  go_end0
  exact ⟨rfl, g1, hw1, hg1, hf1⟩

set_option maxHeartbeats 400000 in
theorem vputS_any (w : World) (p g : Nat) (l : List Bool) (v : Int) (hT : Tab w) (hp : 0 < p) (hg : 0 < g) (h : Wr w p g l) (hl : l.length ≤ 4294966000) (h1 : -9223372036854775808 ≤ v) (h2 : v ≤ 9223372036854775807) :
    Calls Tryz.prog 43 #[.pointer (some ⟨p, 0, none⟩), .int .i64 v] w fun e w' => e = .returned (.tuple #[]) ∧ ∃ g', Wr w' p g' (l ++ sbits v) ∧ (g' = g ∨ w.heap.size ≤ g') ∧ Fr [p, g] w w' := by
  go_enter Tryz.func43, Tryz.ntmps43
  go_wp2_with fail
  refine (groupS_any v w hT h1 h2).mono ?_
  rintro e w1 ⟨rfl, hf⟩
  have hz := hf.size
  go_wp2_with fail
  try rw [wrap_tw]
  refine (vput_any w1 p g l (gS v) (tw v) (hT.kept hf (by simp)) hp hg (h.kept hf (by simp) (by simp)) hl (gS_le v) (tw_lt v)).mono ?_
  rintro e w2 ⟨rfl, g2, hw2, hg2, hf2⟩
  go_wp2_with fail
  go_end0
  exact ⟨rfl, g2, hw2, by omega, hf.nil.trans hf2 (by simp)⟩
end Go.Proofs.YtkphonepblkcdaaGreatDoor
