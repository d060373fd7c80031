/-
  The walk of tidepolelaw01.BitsWrites: it returns true, whatever it is given, and writes nothing that was there.
-/
import Derived.Test.YtmmmjklmhabpoaaRoundWalk
import Derived.Test.YtmmmjklmhabpoaaLater
import Derived.Deep.RegionWith
import Derived.Deep.DeepCutAuto
import Derived.Deep.CutBlock
namespace Go.Proofs.Ytmmmjklmhabpoaa
open Go.RowKit Mem Bits
set_option linter.unusedSimpArgs false
set_option linter.unusedVariables false

/-- Where the loop stands: the writer, its bits, and the text of them. -/
def WrSt (w wx : World) (m : Nat) (t7 t9 : Value) : Prop :=
  ∃ p g, ∃ l : List Bool, t7 = .pointer (some ⟨p, 0, none⟩) ∧ t9 = .string (txt l) ∧ Wr wx p g l ∧ l.length ≤ m ∧ w.heap.size ≤ p ∧ w.heap.size ≤ g ∧ Fr [] w wx

set_option maxRecDepth 100000 in
set_option maxHeartbeats 16000000 in
theorem writes_walk (a0 : Option Addr) (len0 cap0 : Nat) (z0 : List Int) (a1 : Int) (a2 : Option Addr) (len2 cap2 : Nat) (z2 : Nat → Call) (w : World) (w0 : IsRow .u8 w a0 len0 cap0 z0) (w1 : (Lit.int .i64 a1).wf = true) (w2 : IsOps w a2 len2 cap2 z2) :
    Calls Try.prog 3 #[.slice a0 len0 cap0, .int .i64 a1, .slice a2 len2 cap2] w fun e w' => e = .returned (.bool true) ∧ Below w.heap.size w w' := by
  obtain ⟨bs, hbl, hsrc⟩ := w0.src
  obtain ⟨b, off, ha2, hcell, hbd⟩ := w2
  have h1b : a1 ≤ 9223372036854775807 := by simp [Lit.wf, IntKind.min, IntKind.max, IntKind.bits, IntKind.signed] at w1; omega
  clear w0 w1
  by_cases h1 : 60 < len0
  · have hd : decide ((60 : Int) < (len0 : Int)) = true := decide_eq_true (by omega)
    go_enter Try.func3, Try.ntmps3
    go_wp2_with fail
    refine (awake_any w).mono ?_
    rintro e w' ⟨rfl, hf⟩
    go_wp2_with fail
    go_ret
    exact ⟨rfl, hf.below (Nat.le_refl _) (by simp)⟩
  have hd1 : decide ((60 : Int) < (len0 : Int)) = false := decide_eq_false (by omega)
  by_cases h2 : 30 < len2
  · have hd : decide ((30 : Int) < (len2 : Int)) = true := decide_eq_true (by omega)
    go_enter Try.func3, Try.ntmps3
    go_wp2_with fail
    refine (awake_any w).mono ?_
    rintro e w' ⟨rfl, hf⟩
    go_wp2_with fail
    go_ret
    exact ⟨rfl, hf.below (Nat.le_refl _) (by simp)⟩
  have hd2 : decide ((30 : Int) < (len2 : Int)) = false := decide_eq_false (by omega)
  by_cases h3 : ¬ (0 ≤ a1 ∧ a1 ≤ 8 * (len0 : Int))
  · have hd : decide (0 ≤ a1 ∧ a1 ≤ 8 * (len0 : Int)) = false := decide_eq_false h3
    go_enter Try.func3, Try.ntmps3
    go_wp2_with (first
      | (go_at_call 8; refine (newWriter_no _ _ _ _ _ h1b ?_).mono ?_; (by_cases h : a1 < 0; exact .inl h; exact .inr (nbs_gt (by omega))); rintro e w' ⟨rfl, rfl⟩)
      | (go_at_call 9; refine (lright_any _ _ _ _ _ (by omega)).mono ?_; rintro e w' ⟨rfl, rfl⟩; rw [hd])
      | (go_at_call 7; refine (awake_any _).mono ?_; rintro e w' ⟨rfl, hf⟩))
    go_ret
    exact ⟨rfl, hf.below (Nat.le_refl _) (by simp)⟩
  have h3 : 0 ≤ a1 ∧ a1 ≤ 8 * (len0 : Int) := Classical.not_not.1 h3
  have hd3 : decide (0 ≤ a1 ∧ a1 ≤ 8 * (len0 : Int)) = true := decide_eq_true h3
  obtain ⟨N, rfl⟩ := Int.eq_ofNat_of_zero_le h3.1
  have hN : N ≤ 8 * len0 := by omega
  have hb2 : nbs N ≤ bs.length := by rw [hbl]; exact nbs_le (by omega)
  go_enter Try.func3, Try.ntmps3
  go_wp2_with fail
  refine (newWriter_ok _ bs N w hsrc hb2 (by omega)).mono ?_
  rintro e w1 ⟨p, g, rfl, hw1, hp, hg, hf1⟩
  have hs1 := hsrc.kept hf1 (by simp)
  have hrun := run_str hs1
  have h256 : ∀ x ∈ bs, x < 256 := by obtain ⟨_, _, _, _, _, _, h⟩ := hsrc; exact h
  clear hs1 hsrc
  go_wp2_with (first
    | (go_at_call 9; refine (lright_any _ _ _ _ _ (by omega)).mono ?_; rintro e w' ⟨rfl, rfl⟩; rw [hd3])
    | (go_at_call 10; refine (text_any bs N _ h256 (by omega) (by omega)).mono ?_; rintro e w' ⟨rfl, rfl⟩))
  have hLl : (unpack bs N).length ≤ 480 := by simp; omega
  generalize unpack bs N = L at *
  clear hb2 hrun hd1 hd2 hd3 h3 h1b h256
  go_loopw [7, 9, 53] (fun t7 t9 c wr => ∃ k : Nat, k ≤ len2 ∧ c = .int .i64 k ∧ WrSt w wr (480 + 64 * k) t7 t9) (fun _ _ c _ => len2 - (intOf c).toNat)
  case atStart => exact ⟨0, by omega, rfl, p, g, L, rfl, rfl, hw1, by omega, hp, hg, hf1⟩
  case round =>
    obtain ⟨k, hk, rfl, pk, gk, l, rfl, rfl, hwk, hlk, hpk, hgk, hfr⟩ := hrel
    by_cases hlt : k < len2
    · have hae := ha2 (by omega)
      subst hae
      obtain ⟨c0, c1, c2⟩ := hcell k hlt
      obtain ⟨b0, b1, b2⟩ := hbd k hlt
      have d0 := hfr.cell_some c0 (by simp)
      have d1 := hfr.cell_some c1 (by simp)
      have d2 := hfr.cell_some c2 (by simp)
      clear c0 c1 c2 hcell hbd hw1 hf1
      generalize z2 k = zk at d0 d1 d2 b0 b1 b2
      obtain ⟨K, n, V⟩ := zk
      dsimp only at d0 d1 d2 b0 b1 b2
      go_upto_block 2 with fail
      have hwa := hwk.kept ((Fr.refl [] wr).alloc (.cells #[.int .i64 K, .int .i64 n, .int .u64 (V : Int)] 33)) (by simp) (by simp)
      have hfa := hfr.alloc (.cells #[.int .i64 K, .int .i64 n, .int .u64 (V : Int)] 33)
      have k1 : (wr.alloc (.cells #[.int .i64 K, .int .i64 n, .int .u64 (V : Int)] 33)).cell? ⟨wr.heap.size, 1, none⟩ = some (.int .i64 n) := by rw [World.cell?_alloc_at _ _ _ _ rfl]; rfl
      have k2 : (wr.alloc (.cells #[.int .i64 K, .int .i64 n, .int .u64 (V : Int)] 33)).cell? ⟨wr.heap.size, 2, none⟩ = some (.int .u64 (V : Int)) := by rw [World.cell?_alloc_at _ _ _ _ rfl]; rfl
      have hlw := hwk.lt
      have hsa : wr.heap.size < (wr.alloc (.cells #[.int .i64 K, .int .i64 n, .int .u64 (V : Int)] 33)).heap.size := by simp
      generalize wr.alloc (.cells #[.int .i64 K, .int .i64 n, .int .u64 (V : Int)] 33) = wa at *
      generalize wr.heap.size = B at *
      clear d0 d1 d2 hwk hfr
      have hzl : (txt l).size ≤ 5000 := by rw [txt_size]; omega
      have hlb : l.length ≤ 5000 := by omega
      go_cut [7, 9] (fun t7 t9 wx => WrSt w wx (480 + 64 * (k + 1)) t7 t9)
      case first =>
        by_cases hK1 : K = 1
        · have hk1 : (K == 1) = true := beq_iff_eq.2 hK1
          subst hK1
          go_wp2_with fail
          refine (put_any wa pk gk l (1, n, V) hwa (by omega) b2).mono ?_
          rintro e w2 ⟨rfl, g2, hw2, hg2, hf2⟩
          have i1 := hf2.cell_some k1 (by simp; omega)
          have i2 := hf2.cell_some k2 (by simp; omega)
          have hf3 : Fr [] w w2 := hfa.trans hf2 (by simp; omega)
          have hg3 : w.heap.size ≤ g2 := by have := hfa.size; omega
          have hol := oneCall_length (1, n, V)
          clear k1 k2 hf2 hwa hfa
          by_cases hn : 1 ≤ n ∧ n ≤ 64
          · obtain ⟨m, rfl⟩ := Int.eq_ofNat_of_zero_le (show 0 ≤ n by omega)
            have e1 : oneCall (1, (m : Int), V) = numBits V m := by unfold oneCall; rw [if_pos hn]; simp
            rw [e1] at hw2 hol
            have hzm : (txt (numBits V m)).size ≤ 64 := by rw [txt_size]; exact hol
            have hd1 : decide ((1 : Int) ≤ (m : Int)) = true := decide_eq_true hn.1
            have hd2 : decide ((m : Int) ≤ 64) = true := decide_eq_true hn.2
            go_wp2_with fail
            refine (number_any V m _ b2 (by omega)).mono ?_
            rintro e w3 ⟨rfl, rfl⟩
            go_wp2_with fail
            go_meet
            case rel => exact ⟨pk, g2, l ++ numBits V m, rfl, by rw [txt_append], hw2, by rw [List.length_append]; omega, hpk, hg3, hf3⟩
          · have e1 : oneCall (1, n, V) = [] := by unfold oneCall; rw [if_neg hn]
            rw [e1, List.append_nil] at hw2
            by_cases hn1 : 1 ≤ n
            · have hd1 : decide (1 ≤ n) = true := decide_eq_true hn1
              have hd2 : decide (n ≤ 64) = false := decide_eq_false (by omega)
              go_wp2_with fail
              go_meet
              case rel => exact ⟨pk, g2, l, rfl, rfl, hw2, by omega, hpk, hg3, hf3⟩
            · have hd1 : decide (1 ≤ n) = false := decide_eq_false hn1
              go_wp2_with fail
              go_meet
              case rel => exact ⟨pk, g2, l, rfl, rfl, hw2, by omega, hpk, hg3, hf3⟩
        have hk1 : (K == 1) = false := beq_eq_false_iff_ne.2 hK1
        by_cases hK2 : K = 2
        · have hk2 : (K == 2) = true := beq_iff_eq.2 hK2
          subst hK2
          have ho : numBits V 1 = [((V : Int) % 2 == 1)] := by
            rw [numBits_snoc]
            simp [numBits]
            rw [Bool.eq_iff_iff]; simp; omega
          go_wp2_with fail
          refine (bit_any wa pk gk l _ hwa (by omega)).mono ?_
          rintro e w2 ⟨rfl, g2, hw2, hg2, hf2⟩
          rw [← ho] at hw2
          have i2 := hf2.cell_some k2 (by simp; omega)
          have hf3 : Fr [] w w2 := hfa.trans hf2 (by simp; omega)
          have hg3 : w.heap.size ≤ g2 := by have := hfa.size; omega
          have hzm : (txt (numBits V 1)).size ≤ 64 := by rw [txt_size]; simp
          clear ho k1 k2 hf2 hwa hfa
          go_wp2_with fail
          refine (number_any V 1 _ b2 (by omega)).mono ?_
          rintro e w3 ⟨rfl, rfl⟩
          go_wp2_with fail
          go_meet
          case rel => exact ⟨pk, g2, l ++ numBits V 1, rfl, by rw [txt_append], hw2, by rw [List.length_append, numBits_length]; omega, hpk, hg3, hf3⟩
        have hk2 : (K == 2) = false := beq_eq_false_iff_ne.2 hK2
        by_cases hK3 : K = 3
        · have hk3 : (K == 3) = true := beq_iff_eq.2 hK3
          subst hK3
          go_wp2_with fail
          refine (copy_any wa pk gk l hwa (by omega)).mono ?_
          rintro e w2 ⟨p2, g2, rfl, hw2, hp2, hg2, hf2⟩
          have hwb := hwa.kept hf2 (by simp) (by simp)
          have hf3 : Fr [] w w2 := hfa.trans hf2 (by simp)
          have hla := hwa.lt
          clear k1 k2 hf2 hwa
          go_wp2_with fail
          refine (bit_any w2 pk gk l true hwb (by omega)).mono ?_
          rintro e w3 ⟨rfl, g3, hw3, hg3, hf4⟩
          have hw4 := hw2.kept hf4 (by simp; omega) (by simp; omega)
          have hf5 : Fr [] w w3 := hf3.trans hf4 (by simp; omega)
          have hza := hfa.size
          clear hwb hw2 hf3 hw3 hf4 hfa
          go_wp2_with fail
          go_meet
          case rel => exact ⟨p2, g2, l, rfl, rfl, hw4, by omega, by omega, by omega, hf5⟩
        have hk3 : (K == 3) = false := beq_eq_false_iff_ne.2 hK3
        go_wp2_with fail
        go_meet
        case rel => exact ⟨pk, gk, l, rfl, rfl, hwa, by omega, hpk, hgk, hfa⟩
      case rest =>
        obtain ⟨p2, g2, l2, hc1, hc2, hw2, hl2, hp2, hg2, hf2⟩ := hcut
        subst hc1 hc2
        clear hwa hfa k1 k2 b0 b1 b2 hzl hlb hlk
        have hlb2 : l2.length ≤ 4294967296 := by omega
        have F0 : Fr [] wc wc.drew := (Fr.refl _ _).drew
        have hne : ((l2.length : Int) != ((txt l2).size : Int)) = false := by rw [txt_size]; simp
        go_wp2_with fail
        go_region_with (first
          | (go_at_call 15; refine (len_later hw2 _ ?_).mono ?_; (first | assumption | exact F0); rintro e w7 ⟨rfl, rfl⟩)
          | (go_at_call 16; refine (bytes_later hw2 hlb2 _ ?_).mono ?_; (first | assumption | exact F0); rintro e w7 ⟨g7, rfl, hA, hB, hC, hD⟩)
          | (go_at_call 17; refine (rbytes_any l2 _ (by omega)).mono ?_; rintro e w8 ⟨rfl, hf8⟩))
        all_goals go_wp2_with fail
        all_goals
          have hx : Fr [] wc w8 := Fr.trans (by assumption) hf8 (by simp)
          exact ⟨⟨k + 1, by omega, by go_num, p2, g2, l2, rfl, rfl, hw2.kept hx (by simp) (by simp), hl2, hp2, hg2, hf2.trans hx (by simp)⟩, by simp [intOf]; omega⟩
    · go_wp2_with fail
      refine (awake_any wr).mono ?_
      rintro e w2 ⟨rfl, hf2⟩
      go_wp2_with fail
      go_ret
      exact ⟨rfl, (hfr.trans hf2 (by simp)).below (Nat.le_refl _) (by simp)⟩
end Go.Proofs.Ytmmmjklmhabpoaa
