/-
  The walk of tidepolelaw01.BitsCut: it returns true, whatever it is given, and writes nothing that was there.
-/
import Derived.Test.YtmmmjklmhabpoaaLater
import Derived.Deep.RegionWith
namespace Go.Proofs.Ytmmmjklmhabpoaa
open Go.RowKit Mem Bits
set_option linter.unusedSimpArgs false
set_option linter.unusedVariables false

theorem nbs_facts (n N : Nat) (h : n = N) (hb : N ≤ 1000) : ((n : Int) == (N : Int)) = true ∧ ((N : Int) + 7).tdiv 8 = ((nbs n : Nat) : Int) ∧ wrap64 ((N : Int) + 7) = (N : Int) + 7 ∧
    wrap64 ((nbs n : Nat) : Int) = ((nbs n : Nat) : Int) ∧ IntKind.i64.wrap ((N : Int) + 7) = (N : Int) + 7 ∧ IntKind.i64.wrap ((nbs n : Nat) : Int) = ((nbs n : Nat) : Int) := by
  subst h
  have hs : nbs n ≤ 1000 := by unfold nbs; omega
  refine ⟨by simp, ?_, ?_, ?_, ?_, ?_⟩
  · rw [Int.tdiv_eq_ediv_of_nonneg (by omega)]; unfold nbs; omega
  · exact IntWalk.wrap64_in _ ⟨by omega, by omega⟩
  · exact IntWalk.wrap64_in _ ⟨by omega, by omega⟩
  · rw [IntWalk.i64_left]; exact IntWalk.wrap64_in _ ⟨by omega, by omega⟩
  · rw [IntWalk.i64_left]; exact IntWalk.wrap64_in _ ⟨by omega, by omega⟩

set_option maxHeartbeats 16000000 in
theorem cut_walk (a0 : Option Addr) (len0 cap0 : Nat) (z0 : List Int) (a1 : Int) (a2 : Int) (w : World) (w0 : IsRow .u8 w a0 len0 cap0 z0) (w1 : (Lit.int .i64 a1).wf = true) (w2 : (Lit.int .i64 a2).wf = true) :
    Calls Try.prog 6 #[.slice a0 len0 cap0, .int .i64 a1, .int .i64 a2] w fun e w' => e = .returned (.bool true) ∧ Below w.heap.size w w' := by
  obtain ⟨bs, hbl, hsrc⟩ := w0.src
  clear w0 w1 w2
  by_cases h1 : 100 < len0
  · have hd : decide ((100 : Int) < (len0 : Int)) = true := decide_eq_true (by omega)
    go_enter Try.func6, Try.ntmps6
    go_wp2_with fail
    refine (awake_any w).mono ?_
    rintro e w' ⟨rfl, hf⟩
    go_wp2_with fail
    go_ret
    exact ⟨rfl, hf.below (Nat.le_refl _) (by simp)⟩
  have hd1 : decide ((100 : Int) < (len0 : Int)) = false := decide_eq_false (by omega)
  by_cases h2 : ¬ (0 ≤ a1 ∧ a1 ≤ 8 * (len0 : Int))
  · have hd : decide (0 ≤ a1 ∧ a1 ≤ 8 * (len0 : Int)) = false := decide_eq_false h2
    go_enter Try.func6, Try.ntmps6
    go_wp2_with (first
      | (go_at_call 9; refine (lright_any _ _ _ _ _ (by omega)).mono ?_; rintro e w' ⟨rfl, rfl⟩; rw [hd])
      | (go_at_call 7; refine (awake_any _).mono ?_; rintro e w' ⟨rfl, hf⟩))
    go_ret
    exact ⟨rfl, hf.below (Nat.le_refl _) (by simp)⟩
  have h2 : 0 ≤ a1 ∧ a1 ≤ 8 * (len0 : Int) := Classical.not_not.1 h2
  have hd2 : decide (0 ≤ a1 ∧ a1 ≤ 8 * (len0 : Int)) = true := decide_eq_true h2
  obtain ⟨N, rfl⟩ := Int.eq_ofNat_of_zero_le h2.1
  by_cases h3 : a2 < 0
  · have hd3 : decide (a2 < 0) = true := decide_eq_true h3
    go_enter Try.func6, Try.ntmps6
    go_wp2_with (first
      | (go_at_call 9; refine (lright_any _ _ _ _ _ (by omega)).mono ?_; rintro e w' ⟨rfl, rfl⟩; rw [hd2])
      | (go_at_call 7; refine (awake_any _).mono ?_; rintro e w' ⟨rfl, hf⟩))
    go_ret
    exact ⟨rfl, hf.below (Nat.le_refl _) (by simp)⟩
  have hd3 : decide (a2 < 0) = false := decide_eq_false h3
  obtain ⟨T, rfl⟩ := Int.eq_ofNat_of_zero_le (show 0 ≤ a2 by omega)
  by_cases h4 : N < T
  · have hd4 : decide ((N : Int) < (T : Int)) = true := decide_eq_true (by omega)
    go_enter Try.func6, Try.ntmps6
    go_wp2_with (first
      | (go_at_call 9; refine (lright_any _ _ _ _ _ (by omega)).mono ?_; rintro e w' ⟨rfl, rfl⟩; rw [hd2])
      | (go_at_call 7; refine (awake_any _).mono ?_; rintro e w' ⟨rfl, hf⟩))
    go_ret
    exact ⟨rfl, hf.below (Nat.le_refl _) (by simp)⟩
  have hd4 : decide ((N : Int) < (T : Int)) = false := decide_eq_false (by omega)
  have hN : N ≤ 8 * len0 := by omega
  have hb1 : nbs T ≤ bs.length := by rw [hbl]; exact nbs_le (by omega)
  have hb2 : nbs N ≤ bs.length := by rw [hbl]; exact nbs_le (by omega)
  go_enter Try.func6, Try.ntmps6
  go_wp2_with (first
    | (go_at_call 9; refine (lright_any _ _ _ _ _ (by omega)).mono ?_; rintro e w' ⟨rfl, rfl⟩; rw [hd2]))
  refine (newWriter_ok _ bs T w hsrc hb1 (by omega)).mono ?_
  rintro e w1 ⟨p, g, rfl, hw1, hp, hg, hf1⟩
  have hs1 := hsrc.kept hf1 (by simp)
  go_wp2_with fail
  refine (newReader_ok _ bs N w1 hs1 hb2 (by omega)).mono ?_
  rintro e w2 ⟨q, h, rfl, hr2, hq, hh, hf2⟩
  have hs2 := hs1.kept hf2 (by simp)
  have hw2 := hw1.kept hf2 (by simp) (by simp)
  have hf02 : Fr [] w w2 := hf1.trans hf2 (by simp)
  have hl1 := hw1.lt
  go_wp2_with fail
  refine (newWriter_ok _ bs N w2 hs2 hb2 (by omega)).mono ?_
  rintro e w3 ⟨p2, g2, rfl, hv3, hp2, hg2, hf3⟩
  have hw3 := hw2.kept hf3 (by simp) (by simp)
  have hr3 := hr2.kept hf3 (by simp) (by simp)
  have hf03 : Fr [] w w3 := hf02.trans hf3 (by simp)
  have hl2 := hr2.lt
  have hl3 := hv3.lt
  have hz1 := hf1.size
  have hz2 := hf2.size
  have hz3 := hf3.size
  clear hw1 hs1 hf1 hr2 hs2 hw2 hf02 hf2 hf3 hsrc
  rw [← unpack_take bs N T (by omega)] at hw3
  have hLl : (unpack bs N).length = N := by simp
  generalize unpack bs N = L at *
  have HL : Hid (L.length = N) := hLl
  have hLb : L.length ≤ 1000 := by omega
  clear hLl hb1 hb2
  have ht0 : (T : Int) ≤ (N : Int) := by omega
  go_wp2_with fail
  go_loopw [73] (fun c wr => ∃ k : Nat, k ≤ T ∧ c = .int .i64 k ∧ Rd wr q h L k N false ∧ Fr [q] w3 wr) (fun c _ => T - (intOf c).toNat)
  case atStart => exact ⟨0, by omega, rfl, hr3, Fr.refl _ _⟩
  case round =>
    obtain ⟨k, hk, rfl, hr, hfr⟩ := hrel
    by_cases hlt : k < T
    · go_wp2_with fail
      refine (rbit_ok wr q h L k N false hr (by omega) (by omega)).mono ?_
      rintro e w4 ⟨rfl, hr4, hf4⟩
      go_wp2_with fail
      go_roundw
      case rel => exact ⟨k + 1, by omega, by go_num, hr4, hfr.trans hf4 (by simp)⟩
      case measure => simp [intOf]; omega
    · have hkT : k = T := by omega
      subst hkT
      have hw4 := hw3.kept hfr (by simp; omega) (by simp; omega)
      have hv4 := hv3.kept hfr (by simp; omega) (by simp; omega)
      have hf4 : Fr [q, p, g] w3 wr := hfr.mono (by simp)
      have hz4 := hfr.size
      clear hw3 hv3 hr3 hfr
      go_wp2_with fail
      go_loopw [81] (fun c wx => ∃ j : Nat, j ≤ N - k ∧ c = .int .i64 j ∧ Rd wx q h L (k + j) N false ∧ ∃ gk, Wr wx p gk (L.take (k + j)) ∧ (gk = g ∨ w3.heap.size ≤ gk) ∧ Wr wx p2 g2 L ∧ Fr [q, p, g] w3 wx) (fun c _ => N - k - (intOf c).toNat)
      case atStart => exact ⟨0, by omega, rfl, hr, g, hw4, .inl rfl, hv4, hf4⟩
      case round =>
        obtain ⟨j, hj, rfl, hrj, gk, hwj, hgk, hvj, hfj⟩ := hrel
        have hzj := hfj.size
        by_cases hlt2 : j < N - k
        · go_wp2_with fail
          refine (rbit_ok wr q h L (k + j) N false hrj (by omega) (by omega)).mono ?_
          rintro e w5 ⟨rfl, hr5, hf5⟩
          have hw5 := hwj.kept hf5 (by simp; omega) (by simp; omega)
          have hv5 := hvj.kept hf5 (by simp; omega) (by simp; omega)
          have hz5 := hf5.size
          go_wp2_with fail
          refine (bit_any w5 p gk _ _ hw5 (by simp; omega)).mono ?_
          rintro e w6 ⟨rfl, g6, hw6, hg6, hf6⟩
          have hr6 := hr5.kept hf6 (by simp; omega) (by simp; omega)
          have hv6 := hv5.kept hf6 (by simp; omega) (by simp; omega)
          have HT : L.take (k + (j + 1)) = L.take (k + j) ++ [L[k + j]?.getD false] := by
            have hlen : k + j < L.length := by rw [HL.out]; omega
            rw [← Nat.add_assoc, List.take_succ_eq_append_getElem hlen, List.getElem?_eq_getElem hlen]; rfl
          rw [← HT] at hw6
          have hf7 : Fr [q, p, g] w3 w6 := (hfj.trans hf5 (by simp)).trans hf6 (by intro x hx; simp at hx; rcases hx with rfl | rfl; exact .inl (by simp); rcases hgk with h | h; exact .inl (by simp [h]); exact .inr h)
          have hg7 : g6 = g ∨ w3.heap.size ≤ g6 := by omega
          clear HT hw5 hr5 hv5 hf5 hf6 hg6 hwj hrj hvj hfj hw4 hv4 hf4
          go_wp2_with fail
          go_roundw
          case rel => exact ⟨j + 1, by omega, by go_num, hr6, g6, hw6, hg7, hv6, hf7⟩
          case measure => simp [intOf]; omega
        · have hjN : k + j = N := by omega
          rw [hjN, List.take_of_length_le (by rw [HL.out]; omega)] at hwj
          have hLb2 : L.length ≤ 4294967296 := by omega
          have F0 : Fr [] wr wr.drew := (Fr.refl _ _).drew
          obtain ⟨hn1, q2, q1, q3, q4, q5⟩ := nbs_facts L.length N HL.out (by omega)
          clear hrj hw4 hv4 hf4 hlt hk ht0 h3 hd4 h4 hd3 hr hd1 hd2
          go_wp2_with fail
          go_region_with (first
            | (go_at_call 15; refine (len_later hwj _ ?_).mono ?_; (first | assumption | exact F0); rintro e w7 ⟨rfl, rfl⟩)
            | (go_at_call_of 16 (Value.pointer (some ⟨p2, 0, none⟩)); refine (bytes_later hvj hLb2 _ ?_).mono ?_; (first | assumption | exact F0); rintro e w7 ⟨g7, rfl, hA, hB, hC, hD⟩)
            | (go_at_call_of 16 (Value.pointer (some ⟨p, 0, none⟩)); refine (bytes_later hwj hLb2 _ ?_).mono ?_; (first | assumption | exact F0); rintro e w7 ⟨g7, rfl, hA, hB, hC, hD⟩)
            | (go_at_call 7; refine (awake_any _).mono ?_; rintro e w9 ⟨rfl, hf9⟩))
          all_goals go_wp2_with fail
          all_goals go_ret
          all_goals refine ⟨by first | rfl | (simp; done), ?_⟩
          all_goals
            have hx : Fr [] wr w9 := Fr.trans (by assumption) hf9 (by simp)
            have hy : Fr [q, p, g] w3 w9 := hfj.trans hx (by simp)
            have hz : Fr [] w w9 := hf03.trans hy (by simp; omega)
            exact hz.below (Nat.le_refl _) (by simp)
end Go.Proofs.Ytmmmjklmhabpoaa
