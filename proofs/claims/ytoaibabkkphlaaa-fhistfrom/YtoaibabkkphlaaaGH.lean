/-
  Ref10F, Wholes, Ref10W.
-/
import Derived.Test.YtoaibabkkphlaaaGE
import Derived.Test.YtoaibabkkphlaaaGF
/-
  The document's Float and Whole (layer 10).
-/
namespace Go.Proofs.Ytoaibabkkphlaaa
open Go.RowKit Mem Spans Floats
set_option linter.unusedSimpArgs false
set_option linter.unusedVariables false
set_option maxRecDepth 100000

theorem shr_more {n j : Nat} (h0 : n ≠ 0) (h : j ≤ n.log2) : 1 < n / 2 ^ j ↔ j < n.log2 := by
  have a := log2_le h0
  have b := log2_gt n
  have hp := Nat.two_pow_pos j
  constructor
  · intro h1
    apply Classical.byContradiction
    intro h2
    have e : j = n.log2 := by omega
    rw [e] at h1
    have : n / 2 ^ n.log2 < 2 := (Nat.div_lt_iff_lt_mul (Nat.two_pow_pos _)).2 (by rw [Nat.pow_succ] at b; omega)
    omega
  · intro h1
    have : 2 ≤ n / 2 ^ j := (Nat.le_div_iff_mul_le hp).2 (by
      have := pow_ge (show j + 1 ≤ n.log2 from h1)
      rw [Nat.pow_succ] at this
      omega)
    omega
/-- The document's own words for a float's bits. -/
theorem flt_low {n : Nat} (h0 : n ≠ 0) (h : n.log2 ≤ 52) : flt n = (1023 + n.log2) * 4503599627370496 + (n * 2 ^ (52 - n.log2) - 4503599627370496) ∧ 4503599627370496 ≤ n * 2 ^ (52 - n.log2) ∧ n * 2 ^ (52 - n.log2) ≤ 9007199254740992 := by
  have hb := kpt_bounds h0
  have e : kpt n = n * 2 ^ (52 - n.log2) := by unfold kpt; rw [if_pos h]
  rw [e] at hb
  unfold flt
  rw [if_neg h0, e]
  omega
theorem flt_high {n : Nat} (h0 : n ≠ 0) (h : ¬ n.log2 ≤ 52) : flt n = (1023 + n.log2) * 4503599627370496 + (rnd n (n.log2 - 52) - 4503599627370496) ∧ 4503599627370496 ≤ rnd n (n.log2 - 52) ∧ rnd n (n.log2 - 52) ≤ 9007199254740992 := by
  have hb := kpt_bounds h0
  have e : kpt n = rnd n (n.log2 - 52) := by unfold kpt; rw [if_neg h]
  rw [e] at hb
  unfold flt
  rw [if_neg h0, e]
  omega
theorem wrapU (x : Nat) (h : x < 18446744073709551616) : IntKind.u64.wrap (x : Int) = (x : Int) := by rw [IntKind.wrap_u64]; omega
theorem wrapUE {z : Int} (x : Nat) (e : z = x) (h : x < 18446744073709551616) : IntKind.u64.wrap z = (x : Int) := by rw [e]; exact wrapU x h

set_option maxHeartbeats 2000000 in
theorem lfloat10_any (n : Nat) (w : World) (hn : n < 18446744073709551616) :
    Calls Try.prog 40 #[.int .u64 (n : Int)] w fun e w' => e = .returned (.int .u64 (flt n : Int)) ∧ Fr [] w w' := by
  go_enter Try.func40, Try.ntmps40
  by_cases h0 : n = 0
  · subst h0
    go_wp2
    go_ret
    exact ⟨rfl, Fr.refl _ _⟩
  have hnb : ((n : Int) == 0) = false := by simpa using h0
  have H0 : Hid (n ≠ 0) := h0
  have HN : Hid (n < 18446744073709551616) := hn
  have HK : Hid (n.log2 < 64) := (Nat.log2_lt h0).2 (by have h64 : (18446744073709551616 : Nat) = 2 ^ 64 := by decide
                                                        omega)
  clear h0 hn
  obtain ⟨K, hK⟩ : ∃ K, K = n.log2 := ⟨_, rfl⟩
  have HKE : Hid (K = n.log2) := hK
  clear hK
  go_wp2
  go_loopw [3] (fun i wr => ∃ (j : Nat), j ≤ K ∧ i = .int .u64 (j : Int) ∧ wr = w) (fun i _ => K - (intOf i).toNat)
  case atStart => exact ⟨0, by omega, rfl, rfl⟩
  case round =>
    obtain ⟨j, hj, rfl, rfl⟩ := hrel
    have hj64 : (j : Int) ≤ 64 := by have := HK.out; have := HKE.out; omega
    have hj0 : (0 : Int) ≤ (j : Int) := by omega
    obtain ⟨X, hX⟩ : ∃ X : Nat, X = n / 2 ^ j := ⟨_, rfl⟩
    have hs : (n : Int) / 2 ^ j = (X : Int) := by rw [hX]; simp
    have HX : Hid (1 < X ↔ j < K) := by rw [Hid, hX, HKE.out]; exact shr_more H0.out (by have := HKE.out; omega)
    clear hX
    by_cases hlt : j < K
    · have hx : (1 : Int) < (X : Int) := by have := HX.out.2 hlt; omega
      have hw : IntKind.u64.wrap ((j : Int) + 1) = (j : Int) + 1 := by rw [IntKind.wrap_u64]; omega
      clear HX
      go_wp2
      go_roundw
      case rel => exact ⟨j + 1, by omega, by go_num, by trivial⟩
      case measure => simp [intOf]; omega
    · have hx : ¬ (1 : Int) < (X : Int) := by have := HX.out; omega
      have hjk : j = n.log2 := by have := HKE.out; omega
      have HJ : Hid (j = n.log2) := hjk
      clear HX hlt hjk
      by_cases h52 : j ≤ 52
      · have h52i : (j : Int) ≤ 52 := by omega
        obtain ⟨hf1, hf2, hf3⟩ := flt_low H0.out (by rw [← HJ.out]; exact h52)
        rw [← HJ.out] at hf1 hf2 hf3
        obtain ⟨D, hD⟩ : ∃ D : Nat, D = 52 - j := ⟨_, rfl⟩
        rw [← hD] at hf1 hf2 hf3
        obtain ⟨E, hE⟩ : ∃ E : Nat, E = 2 ^ D := ⟨_, rfl⟩
        rw [← hE] at hf1 hf2 hf3
        have hE2 : E ≤ 4503599627370496 := by rw [hE]; exact pow_ge (show D ≤ 52 by omega)
        obtain ⟨F, hF⟩ : ∃ F : Nat, F = n * E := ⟨_, rfl⟩
        rw [← hF] at hf1 hf2 hf3
        have w1 : IntKind.u64.wrap (1023 + (j : Int)) = ((1023 + j : Nat) : Int) := wrapUE _ (by omega) (by omega)
        have w2 : IntKind.u64.wrap (((1023 + j : Nat) : Int) * 4503599627370496) = (((1023 + j) * 4503599627370496 : Nat) : Int) := wrapUE _ (by omega) (by omega)
        have w3 : IntKind.u64.wrap (52 - (j : Int)) = (D : Int) := wrapUE _ (by omega) (by omega)
        have w4 : IntKind.u64.wrap (2 ^ D) = (E : Int) := wrapUE _ (by rw [hE]; simp) (by omega)
        have w5 : IntKind.u64.wrap ((n : Int) * (E : Int)) = (F : Int) := wrapUE _ (by rw [hF]; simp) (by omega)
        have w6 : IntKind.u64.wrap ((F : Int) - 4503599627370496) = ((F - 4503599627370496 : Nat) : Int) := wrapUE _ (by omega) (by omega)
        have w7 : IntKind.u64.wrap ((((1023 + j) * 4503599627370496 : Nat) : Int) + ((F - 4503599627370496 : Nat) : Int)) = (flt n : Int) := wrapUE _ (by omega) (by omega)
        have hd0 : (0 : Int) ≤ (D : Int) := by omega
        have hd1 : (D : Int) ≤ 64 := by omega
        clear hD hE hF hf1 hf2 hf3 hE2 h52
        generalize ((1023 + j : Nat) : Int) = a1 at *
        generalize (((1023 + j) * 4503599627370496 : Nat) : Int) = a2 at *
        generalize ((F - 4503599627370496 : Nat) : Int) = a6 at *
        obtain ⟨a7, ha7⟩ : ∃ a7, a7 = (flt n : Int) := ⟨_, rfl⟩
        have HA7 : Hid (a7 = (flt n : Int)) := ha7
        rw [← ha7] at w7
        clear ha7
        go_wp2
        go_ret
        exact ⟨by rw [← HA7.out]; rfl, Fr.refl _ _⟩
      · obtain ⟨hf1, hf2, hf3⟩ := flt_high H0.out (by rw [← HJ.out]; exact h52)
        rw [← HJ.out] at hf1 hf2 hf3
        have h52i : ¬ (j : Int) ≤ 52 := by omega
        obtain ⟨D, hD⟩ : ∃ D : Nat, D = j - 52 := ⟨_, rfl⟩
        rw [← hD] at hf1 hf2 hf3
        obtain ⟨H, hH⟩ : ∃ H : Nat, H = 2 ^ (D - 1) := ⟨_, rfl⟩
        obtain ⟨E, hE⟩ : ∃ E : Nat, E = 2 ^ D := ⟨_, rfl⟩
        have hEH : E = 2 * H := by rw [hE, hH, ← Nat.pow_succ']; congr 1; omega
        have hHp : 0 < H := by rw [hH]; exact Nat.two_pow_pos _
        have hHb : H ≤ 4096 := by rw [hH]; exact pow_ge (show D - 1 ≤ 12 by have := HK.out; have := HJ.out; omega)
        obtain ⟨Q, hQ⟩ : ∃ Q : Nat, Q = n / E := ⟨_, rfl⟩
        obtain ⟨M, hM⟩ : ∃ M : Nat, M = n % E := ⟨_, rfl⟩
        have hr : rnd n D = Q + (if E < 2 * M ∨ (E = 2 * M ∧ Q % 2 = 1) then 1 else 0) := by unfold rnd; rw [← hE, ← hQ, ← hM]
        have hj63 : j < 64 := by have := HK.out; have := HJ.out; omega
        have w1 : IntKind.u64.wrap (1023 + (j : Int)) = ((1023 + j : Nat) : Int) := wrapUE _ (by omega) (by omega)
        have w2 : IntKind.u64.wrap (((1023 + j : Nat) : Int) * 4503599627370496) = (((1023 + j) * 4503599627370496 : Nat) : Int) := wrapUE _ (by omega) (by omega)
        have w3 : IntKind.u64.wrap ((j : Int) - 52) = (D : Int) := wrapUE _ (by omega) (by omega)
        have w4 : IntKind.u64.wrap (2 ^ D) = (E : Int) := wrapUE _ (by rw [hE]; simp) (by omega)
        have w5 : (n : Int).tdiv (E : Int) = (Q : Int) := by rw [hQ]; exact (Int.ofNat_tdiv n E).symm
        have w5b : (n : Int).tmod (E : Int) = (M : Int) := by rw [hM]; exact (Int.ofNat_tmod n E).symm
        have w6 : (E : Int).tdiv 2 = (H : Int) := by have := (Int.ofNat_tdiv E 2).symm; rw [show E / 2 = H by omega] at this; exact this
        obtain ⟨T, hT⟩ : ∃ T : Nat, T = Q % 2 := ⟨_, rfl⟩
        have w7 : (Q : Int).tmod 2 = (T : Int) := by rw [hT]; exact (Int.ofNat_tmod Q 2).symm
        have hQb : Q ≤ 9007199254740992 := by rw [hr] at hf3; omega
        have wQ : IntKind.u64.wrap (Q : Int) = (Q : Int) := wrapU _ (by omega)
        have wM : IntKind.u64.wrap (M : Int) = (M : Int) := wrapU _ (by have := Nat.mod_lt n (show 0 < E by omega); omega)
        have wH : IntKind.u64.wrap (H : Int) = (H : Int) := wrapU _ (by omega)
        have wT : IntKind.u64.wrap (T : Int) = (T : Int) := wrapU _ (by omega)
        have w8 : IntKind.u64.wrap ((Q : Int) + 1) = (Q : Int) + 1 := by rw [IntKind.wrap_u64]; omega
        have hd0 : (0 : Int) ≤ (D : Int) := by omega
        have hd1 : (D : Int) ≤ 64 := by omega
        have hE0 : ¬ (E : Int) = 0 := by omega
        have hEb : ((E : Int) == 0) = false := by simp; omega
        generalize ((1023 + j : Nat) : Int) = a1 at *
        obtain ⟨a2, ha2⟩ : ∃ a2 : Nat, a2 = (1023 + j) * 4503599627370496 := ⟨_, rfl⟩
        rw [← ha2] at w2 hf1
        have HF1 : Hid (flt n = a2 + (rnd n D - 4503599627370496) ∧ a2 ≤ 5000000000000000000) := ⟨hf1, by omega⟩
        have HR : Hid (rnd n D = Q + (if E < 2 * M ∨ (E = 2 * M ∧ Q % 2 = 1) then 1 else 0) ∧ 4503599627370496 ≤ rnd n D ∧ rnd n D ≤ 9007199254740992) := ⟨hr, hf2, hf3⟩
        have HEH : Hid (E = 2 * H ∧ T = Q % 2) := ⟨hEH, hT⟩
        obtain ⟨a7, ha7⟩ : ∃ a7, a7 = (flt n : Int) := ⟨_, rfl⟩
        have HA7 : Hid (a7 = (flt n : Int)) := ha7
        clear ha7 hD hE hH hQ hM hr hf1 hf2 hf3 h52 ha2 hj63 hHb hQb hEH hHp hT
        have c1d : H < M ↔ E < 2 * M := by have := HEH.out.1; omega
        have c2d : M = H ↔ E = 2 * M := by have := HEH.out.1; omega
        go_wp2_with fail
        go_quiet (fail)
        by_cases k1 : H < M
        · have k1i : (H : Int) < (M : Int) := by omega
          have k1E : Hid (E < 2 * M) := c1d.1 k1
          clear c1d c2d k1
          have HQ : Hid (rnd n D = (Q + 1)) := by rw [Hid, HR.out.1]; rw [if_pos (.inl k1E.out)]
          have w9 : IntKind.u64.wrap ((Q : Int) + 1 - 4503599627370496) = ((rnd n D - 4503599627370496 : Nat) : Int) := wrapUE _ (by have := HQ.out; have := HR.out.2; omega) (by have := HR.out.2; omega)
          have w10 : IntKind.u64.wrap ((a2 : Int) + ((rnd n D - 4503599627370496 : Nat) : Int)) = a7 := by
            rw [HA7.out, HF1.out.1]
            exact wrapUE _ (by omega) (by have := HF1.out.2; have := HR.out.2; omega)
          generalize ((rnd n D - 4503599627370496 : Nat) : Int) = b6 at *
          go_wp2
          go_ret
          exact ⟨by rw [← HA7.out]; rfl, fr_drewN _ _⟩
        · have k1i : ¬ (H : Int) < (M : Int) := by omega
          have k1E : Hid (¬ E < 2 * M) := fun h => k1 (c1d.2 h)
          by_cases k2 : M = H
          · have k2E : Hid (E = 2 * M) := c2d.1 k2
            clear c1d c2d k1
            subst k2
            by_cases k3 : T = 1
            · have k3E : Hid (Q % 2 = 1) := by have := HEH.out.2; rw [Hid]; omega
              have k3i : ((T : Int) == 1) = true := by simp; omega
              clear k3
              have HQ : Hid (rnd n D = (Q + 1)) := by rw [Hid, HR.out.1]; rw [if_pos (.inr ⟨k2E.out, k3E.out⟩)]
              have w9 : IntKind.u64.wrap ((Q : Int) + 1 - 4503599627370496) = ((rnd n D - 4503599627370496 : Nat) : Int) := wrapUE _ (by have := HQ.out; have := HR.out.2; omega) (by have := HR.out.2; omega)
              have w10 : IntKind.u64.wrap ((a2 : Int) + ((rnd n D - 4503599627370496 : Nat) : Int)) = a7 := by
                rw [HA7.out, HF1.out.1]
                exact wrapUE _ (by omega) (by have := HF1.out.2; have := HR.out.2; omega)
              generalize ((rnd n D - 4503599627370496 : Nat) : Int) = b6 at *
              go_wp2
              go_ret
              exact ⟨by rw [← HA7.out]; rfl, fr_drewN _ _⟩
            · have k3E : Hid (¬ Q % 2 = 1) := by have := HEH.out.2; rw [Hid]; omega
              have k3i : ((T : Int) == 1) = false := by simp; omega
              clear k3
              have HQ : Hid (rnd n D = Q) := by rw [Hid, HR.out.1]; rw [if_neg (fun h => h.elim k1E.out (fun h => k3E.out h.2))]; rfl
              have w9 : IntKind.u64.wrap ((Q : Int) - 4503599627370496) = ((rnd n D - 4503599627370496 : Nat) : Int) := wrapUE _ (by have := HQ.out; have := HR.out.2; omega) (by have := HR.out.2; omega)
              have w10 : IntKind.u64.wrap ((a2 : Int) + ((rnd n D - 4503599627370496 : Nat) : Int)) = a7 := by
                rw [HA7.out, HF1.out.1]
                exact wrapUE _ (by omega) (by have := HF1.out.2; have := HR.out.2; omega)
              generalize ((rnd n D - 4503599627370496 : Nat) : Int) = b6 at *
              go_wp2
              go_ret
              exact ⟨by rw [← HA7.out]; rfl, fr_drewN _ _⟩
          · have k2i : ((M : Int) == (H : Int)) = false := by simp; omega
            have k2E : Hid (¬ E = 2 * M) := fun h => k2 (c2d.2 h)
            clear c1d c2d k1 k2
            have HQ : Hid (rnd n D = Q) := by rw [Hid, HR.out.1]; rw [if_neg (fun h => h.elim k1E.out (fun h => k2E.out h.1))]; rfl
            have w9 : IntKind.u64.wrap ((Q : Int) - 4503599627370496) = ((rnd n D - 4503599627370496 : Nat) : Int) := wrapUE _ (by have := HQ.out; have := HR.out.2; omega) (by have := HR.out.2; omega)
            have w10 : IntKind.u64.wrap ((a2 : Int) + ((rnd n D - 4503599627370496 : Nat) : Int)) = a7 := by
              rw [HA7.out, HF1.out.1]
              exact wrapUE _ (by omega) (by have := HF1.out.2; have := HR.out.2; omega)
            generalize ((rnd n D - 4503599627370496 : Nat) : Int) = b6 at *
            go_wp2
            go_ret
            exact ⟨by rw [← HA7.out]; rfl, fr_drewN _ _⟩
end Go.Proofs.Ytoaibabkkphlaaa

/-
  Which float is a whole number, by its digits.
-/
namespace Go.Proofs.Ytoaibabkkphlaaa.Floats
set_option linter.unusedSimpArgs false
set_option linter.unusedVariables false

/-- A float's exponent and digits. -/
def exq (v : Nat) : Nat := v / 4503599627370496
def mnt (v : Nat) : Nat := v % 4503599627370496 + 4503599627370496
theorem v_eq (v : Nat) (h : 1 ≤ exq v) : v = (exq v - 1) * 4503599627370496 + mnt v := by unfold exq mnt at *; omega
theorem mnt_b (v : Nat) : 4503599627370496 ≤ mnt v ∧ mnt v < 9007199254740992 := by unfold mnt; omega
theorem whl_none {v : Nat} (h : ¬ (v < 4895412794951729152 ∧ flt (trn v) = v)) : whl v = none := by
  unfold whl
  split
  · rename_i h1; rw [if_neg (fun e => h ⟨h1, e⟩)]
  · rfl
theorem whl_some {v : Nat} (h : v < 4895412794951729152) (e : flt (trn v) = v) : whl v = some (trn v) := by unfold whl; rw [if_pos h, if_pos e]
theorem whl_zero : whl 0 = some 0 := by decide +kernel
theorem whl_out {v : Nat} (h0 : v ≠ 0) (h : exq v < 1023 ∨ 1086 < exq v) : whl v = none := by
  refine whl_none (fun ⟨h1, h2⟩ => ?_)
  have he : exq v < 1023 := by unfold exq at h ⊢; omega
  have ht : trn v = 0 := by
    unfold trn
    by_cases hv : v < 4503599627370496
    · rw [if_pos hv]
    · rw [if_neg hv]
      have hq : v / 4503599627370496 = exq v := rfl
      rw [hq, if_pos (by omega)]
      refine Nat.div_eq_of_lt ?_
      have : (2 : Nat) ^ 53 ≤ 2 ^ (1075 - exq v) := pow_ge (by omega)
      omega
  rw [ht] at h2
  exact h0 (by rw [← h2]; rfl)
theorem trn_low {v : Nat} (h1 : 1023 ≤ exq v) (h2 : exq v ≤ 1075) : trn v = mnt v / 2 ^ (1075 - exq v) := by
  unfold trn
  have hv : ¬ v < 4503599627370496 := by unfold exq at h1; omega
  rw [if_neg hv]
  have hq : v / 4503599627370496 = exq v := rfl
  rw [hq, if_pos h2, Nat.add_comm]; rfl
theorem trn_high {v : Nat} (h2 : 1075 < exq v) : trn v = mnt v * 2 ^ (exq v - 1075) := by
  unfold trn
  have hv : ¬ v < 4503599627370496 := by unfold exq at h2; omega
  rw [if_neg hv]
  have hq : v / 4503599627370496 = exq v := rfl
  rw [hq, if_neg (by omega), Nat.add_comm]; rfl
theorem whl_low {v : Nat} (h1 : 1023 ≤ exq v) (h2 : exq v ≤ 1075) : whl v = if mnt v % 2 ^ (1075 - exq v) = 0 then some (mnt v / 2 ^ (1075 - exq v)) else none := by
  have hb := mnt_b v
  have hv := v_eq v (by omega)
  obtain ⟨d, hd⟩ : ∃ d, d = 1075 - exq v := ⟨_, rfl⟩
  have ht := trn_low h1 h2
  rw [← hd] at ht ⊢
  obtain ⟨P, hP⟩ : ∃ P, P = 2 ^ d := ⟨_, rfl⟩
  have hPp : 0 < P := by rw [hP]; exact Nat.two_pow_pos _
  have hdm := Nat.div_add_mod (mnt v) P
  have hml := Nat.mod_lt (mnt v) hPp
  have e1 : P * 2 ^ (52 - d) = 4503599627370496 := by rw [hP, ← Nat.pow_add]; rw [show d + (52 - d) = 52 by omega]
  have hlo : 2 ^ (52 - d) ≤ mnt v / P := (Nat.le_div_iff_mul_le hPp).2 (by rw [Nat.mul_comm, e1]; exact hb.1)
  have hhi : mnt v / P < 2 ^ (52 - d + 1) := (Nat.div_lt_iff_lt_mul hPp).2 (by rw [Nat.pow_succ, Nat.mul_right_comm, Nat.mul_comm _ P, e1]; omega)
  have hl := log2_eq hlo hhi
  have hn0 : mnt v / P ≠ 0 := by have := Nat.two_pow_pos (52 - d); omega
  have hf : flt (mnt v / P) = (1022 + (52 - d)) * 4503599627370496 + mnt v / P * P := by
    unfold flt kpt
    rw [if_neg hn0, hl, if_pos (by omega), show 52 - (52 - d) = d by omega, ← hP]
  rw [← hP] at ht ⊢
  have hlt : v < 4895412794951729152 := by unfold exq at *; omega
  have hcm := Nat.mul_comm P (mnt v / P)
  by_cases hz : mnt v % P = 0
  · rw [if_pos hz, ← ht]
    refine whl_some hlt ?_
    rw [ht, hf]
    omega
  · rw [if_neg hz]
    refine whl_none (fun ⟨_, k⟩ => ?_)
    rw [ht, hf] at k
    omega
theorem whl_high {v : Nat} (h1 : 1075 < exq v) (h2 : exq v ≤ 1086) : whl v = some (mnt v * 2 ^ (exq v - 1075)) := by
  have hb := mnt_b v
  have hv := v_eq v (by omega)
  obtain ⟨s, hs⟩ : ∃ s, s = exq v - 1075 := ⟨_, rfl⟩
  have ht := trn_high h1
  rw [← hs] at ht ⊢
  have hp := Nat.two_pow_pos s
  have hlt : v < 4895412794951729152 := by unfold exq at *; omega
  have hlo : 2 ^ (52 + s) ≤ mnt v * 2 ^ s := by rw [Nat.pow_add]; exact Nat.mul_le_mul_right _ (by omega)
  have hhi : mnt v * 2 ^ s < 2 ^ (52 + s + 1) := by
    rw [show 52 + s + 1 = 53 + s by omega, Nat.pow_add]
    exact Nat.mul_lt_mul_of_pos_right (by omega) hp
  have hl := log2_eq hlo hhi
  have hn0 : mnt v * 2 ^ s ≠ 0 := by have := Nat.two_pow_pos (52 + s); omega
  rw [← ht]
  refine whl_some hlt ?_
  rw [ht]
  unfold flt kpt
  rw [if_neg hn0, hl, if_neg (by omega), show 52 + s - 52 = s by omega]
  unfold rnd
  rw [Nat.mul_div_cancel _ hp, Nat.mul_mod_left, if_neg (by omega)]
  omega
/-- Digits that are halved step by step. -/
theorem half_step {M i : Nat} (h : M % 2 ^ i = 0) : (M / 2 ^ i % 2 = 0 ↔ M % 2 ^ (i + 1) = 0) ∧ M / 2 ^ i / 2 = M / 2 ^ (i + 1) := by
  have hp := Nat.two_pow_pos i
  have hd := Nat.div_add_mod M (2 ^ i)
  rw [h, Nat.add_zero] at hd
  constructor
  · rw [Nat.pow_succ]
    generalize M / 2 ^ i = q at *
    rw [← hd, Nat.mul_mod_mul_left]
    constructor
    · intro k; rw [k, Nat.mul_zero]
    · intro k
      rcases Nat.mul_eq_zero.1 k with k | k
      · omega
      · exact k
  · rw [Nat.div_div_eq_div_mul, Nat.pow_succ]
theorem mod_pow_le {M i d : Nat} (h : i ≤ d) (k : M % 2 ^ d = 0) : M % 2 ^ i = 0 := by
  have h1 : 2 ^ i ∣ 2 ^ d := Nat.pow_dvd_pow 2 h
  exact Nat.mod_eq_zero_of_dvd (Nat.dvd_trans h1 (Nat.dvd_of_mod_eq_zero k))
end Go.Proofs.Ytoaibabkkphlaaa.Floats

/-
  The document's Whole (layer 10).
-/
namespace Go.Proofs.Ytoaibabkkphlaaa
open Go.RowKit Mem Spans Floats
set_option linter.unusedSimpArgs false
set_option linter.unusedVariables false
set_option maxRecDepth 100000

/-- The document's two answers. -/
def wh1 (v : Nat) : Int := if whb v = true then 1 else 0
theorem wh_none {v : Nat} (h : whl v = none) : whv v = 0 ∧ wh1 v = 0 := by unfold whv wh1 whb; rw [h]; exact ⟨rfl, rfl⟩
theorem wh_some {v n : Nat} (h : whl v = some n) : whv v = n ∧ wh1 v = 1 := by unfold whv wh1 whb; rw [h]; exact ⟨rfl, rfl⟩

set_option maxHeartbeats 2000000 in
theorem lwhole10_any (v : Nat) (w : World) (hn : v < 18446744073709551616) :
    Calls Try.prog 38 #[.int .u64 (v : Int)] w fun e w' => e = .returned (.tuple #[.int .u64 (whv v : Int), .int .i64 (wh1 v)]) ∧ Fr [] w w' := by
  go_enter Try.func38, Try.ntmps38
  by_cases h0 : v = 0
  · subst h0
    have HE : Hid (whv 0 = 0 ∧ wh1 0 = 1) := wh_some whl_zero
    go_wp2
    go_ret2
    exact ⟨by rw [HE.out.1, HE.out.2]; rfl, Fr.refl _ _⟩
  have hnb : ((v : Int) == 0) = false := by simpa using h0
  have H0 : Hid (v ≠ 0) := h0
  obtain ⟨E, hE⟩ : ∃ E, E = exq v := ⟨_, rfl⟩
  obtain ⟨M, hM⟩ : ∃ M, M = mnt v := ⟨_, rfl⟩
  have HEM : Hid (E = exq v ∧ M = mnt v) := ⟨hE, hM⟩
  have HMB : Hid (4503599627370496 ≤ M ∧ M < 9007199254740992) := by rw [hM]; exact mnt_b v
  have w1 : (v : Int).tdiv 4503599627370496 = (E : Int) := by rw [hE]; exact (Int.ofNat_tdiv v 4503599627370496).symm
  obtain ⟨R, hR⟩ : ∃ R, R = v % 4503599627370496 := ⟨_, rfl⟩
  have w2 : (v : Int).tmod 4503599627370496 = (R : Int) := by rw [hR]; exact (Int.ofNat_tmod v 4503599627370496).symm
  have w3 : IntKind.u64.wrap ((R : Int) + 4503599627370496) = (M : Int) := wrapUE _ (by rw [hM, hR]; unfold mnt; omega) (by have := HMB.out; omega)
  have wR : IntKind.u64.wrap (R : Int) = (R : Int) := wrapU _ (by omega)
  have wE : IntKind.u64.wrap (E : Int) = (E : Int) := wrapU _ (by rw [hE]; unfold exq; omega)
  clear h0 hE hM hR hn
  by_cases h1 : E < 1023
  · have HE : Hid (whv v = 0 ∧ wh1 v = 0) := wh_none (whl_out H0.out (.inl (by rw [← HEM.out.1]; exact h1)))
    have h1i : (E : Int) < 1023 := by omega
    go_wp2
    go_ret2
    exact ⟨by rw [HE.out.1, HE.out.2]; rfl, Fr.refl _ _⟩
  by_cases h2 : 1086 < E
  · have HE : Hid (whv v = 0 ∧ wh1 v = 0) := wh_none (whl_out H0.out (.inr (by rw [← HEM.out.1]; exact h2)))
    have h1i : ¬ (E : Int) < 1023 := by omega
    have h2i : (1086 : Int) < (E : Int) := by omega
    go_wp2
    go_ret2
    exact ⟨by rw [HE.out.1, HE.out.2]; rfl, Fr.refl _ _⟩
  have h1i : ¬ (E : Int) < 1023 := by omega
  have h2i : ¬ (1086 : Int) < (E : Int) := by omega
  have HB : Hid (1023 ≤ E ∧ E ≤ 1086) := ⟨by omega, by omega⟩
  clear h1 h2
  have HF : Hid (Fr [] w w) := Fr.refl _ _
  obtain ⟨D, hD⟩ : ∃ D, D = 1075 - E := ⟨_, rfl⟩
  have HD : Hid (D = 1075 - E) := hD
  have HDB : Hid (D ≤ 52) := by have := HB.out; rw [Hid]; omega
  clear hD
  go_wp2
  go_loopw [5, 6] (fun m i wr => ∃ (j : Nat), j ≤ D ∧ i = .int .u64 ((1075 - j : Nat) : Int) ∧ M % 2 ^ j = 0 ∧ m = .int .u64 ((M / 2 ^ j : Nat) : Int) ∧ wr = w) (fun _ i _ => (intOf i).toNat)
  case atStart => exact ⟨0, by omega, rfl, by simp [Nat.mod_one], by simp, rfl⟩
  case round =>
    obtain ⟨j, hj, rfl, hz, rfl, rfl⟩ := hrel
    have HZ : Hid (M % 2 ^ j = 0) := hz
    have HH := half_step hz
    have HHS : Hid ((M / 2 ^ j % 2 = 0 ↔ M % 2 ^ (j + 1) = 0) ∧ M / 2 ^ j / 2 = M / 2 ^ (j + 1)) := HH
    clear hz HH
    obtain ⟨X, hX⟩ : ∃ X, X = M / 2 ^ j := ⟨_, rfl⟩
    have HX : Hid (X = M / 2 ^ j) := hX
    have hXb : X < 9007199254740992 := by rw [hX]; exact Nat.lt_of_le_of_lt (Nat.div_le_self _ _) HMB.out.2
    rw [← hX]
    clear hX
    obtain ⟨I, hI⟩ : ∃ I, I = 1075 - j := ⟨_, rfl⟩
    have HI : Hid (I = 1075 - j) := hI
    rw [← hI]
    by_cases hlt : j < D
    · have hgt : (E : Int) < (I : Int) := by have := HD.out; have := HDB.out; omega
      obtain ⟨T, hT⟩ : ∃ T, T = X % 2 := ⟨_, rfl⟩
      have v1 : (X : Int).tmod 2 = (T : Int) := by rw [hT]; exact (Int.ofNat_tmod X 2).symm
      have vT : IntKind.u64.wrap (T : Int) = (T : Int) := wrapU _ (by omega)
      have HT : Hid (T = X % 2) := hT
      clear hI hT
      by_cases ht : T = 1
      · have hti : ((T : Int) == 1) = true := by simp; omega
        have HE : Hid (whv v = 0 ∧ wh1 v = 0) := by
          refine wh_none ?_
          have e1 := HEM.out.1
          have e2 := HEM.out.2
          have b := HB.out
          have d := HD.out
          rw [whl_low (by omega) (by omega), if_neg]
          rw [← e1, ← e2, ← d]
          intro k
          have k2 := mod_pow_le (show j + 1 ≤ D from hlt) k
          have := HHS.out.1.2 k2
          rw [← HX.out] at this
          have := HT.out
          omega
        go_wp2
        go_ret2
        exact ⟨by rw [HE.out.1, HE.out.2]; rfl, HF.out⟩
      · have hti : ((T : Int) == 1) = false := by simp; omega
        have HT0 : Hid (X % 2 = 0) := by have := HT.out; rw [Hid]; omega
        obtain ⟨Y, hY⟩ : ∃ Y, Y = X / 2 := ⟨_, rfl⟩
        have v2 : (X : Int).tdiv 2 = (Y : Int) := by rw [hY]; exact (Int.ofNat_tdiv X 2).symm
        have vY : IntKind.u64.wrap (Y : Int) = (Y : Int) := wrapU _ (by omega)
        have HY : Hid (Y = M / 2 ^ (j + 1)) := by rw [Hid, hY, HX.out]; exact HHS.out.2
        have HZ2 : Hid (M % 2 ^ (j + 1) = 0) := HHS.out.1.1 (by rw [← HX.out]; exact HT0.out)
        have v3 : IntKind.u64.wrap ((I : Int) - 1) = ((1075 - (j + 1) : Nat) : Int) := wrapUE _ (by have := HI.out; have := HDB.out; omega) (by omega)
        clear hY
        obtain ⟨I2, hI2⟩ : ∃ I2 : Nat, I2 = 1075 - (j + 1) := ⟨_, rfl⟩
        have HI2 : Hid (I2 = 1075 - (j + 1)) := hI2
        rw [← hI2] at v3
        clear hI2 ht
        go_wp2
        go_roundw
        case rel => exact ⟨j + 1, by omega, by rw [← HI2.out], HZ2.out, by rw [← HY.out], by trivial⟩
        case measure => have := HI.out; have := HI2.out; have := HDB.out; simp [intOf]; omega
    · have hjd : j = D := by omega
      subst hjd
      have hgt : ¬ (E : Int) < (I : Int) := by
        intro h
        have := HD.out
        have := HI.out
        have := HDB.out
        omega
      clear hlt hI HHS
      obtain ⟨U, hU⟩ : ∃ U, U = E - 1075 := ⟨_, rfl⟩
      have HU : Hid (U = E - 1075 ∧ U ≤ 11) := ⟨hU, by have := HB.out; omega⟩
      clear hU
      go_wp2
      go_loopw [5, 7] (fun m i wr2 => ∃ (q : Nat), q ≤ U ∧ i = .int .u64 ((1075 + q : Nat) : Int) ∧ m = .int .u64 ((X * 2 ^ q : Nat) : Int) ∧ wr2 = wr) (fun _ i _ => 2000 - (intOf i).toNat)
      case atStart => exact ⟨0, by omega, rfl, by simp, rfl⟩
      case round =>
        obtain ⟨q, hq, rfl, rfl, rfl⟩ := hrel
        obtain ⟨Y, hY⟩ : ∃ Y, Y = X * 2 ^ q := ⟨_, rfl⟩
        have HY : Hid (Y = X * 2 ^ q) := hY
        have hYb : Y ≤ 9007199254740992 * 2048 := by
          rw [hY]
          have h1 : (2 : Nat) ^ q ≤ 2 ^ 11 := pow_ge (by have := HU.out; omega)
          exact Nat.mul_le_mul (by omega) h1
        rw [← hY]
        clear hY
        by_cases hlt : q < U
        · have hgt2 : (1075 : Int) + (q : Int) < (E : Int) := by have := HU.out; omega
          have hY2 : Y ≤ 9007199254740991 * 1024 := by
            rw [HY.out]
            have h1 : (2 : Nat) ^ q ≤ 2 ^ 10 := pow_ge (by have := HU.out; omega)
            exact Nat.mul_le_mul (by omega) h1
          have v1 : IntKind.u64.wrap ((Y : Int) * 2) = ((X * 2 ^ (q + 1) : Nat) : Int) := wrapUE _ (by rw [Nat.pow_succ, ← Nat.mul_assoc, ← HY.out]; omega) (by rw [Nat.pow_succ, ← Nat.mul_assoc, ← HY.out]; omega)
          have v2 : IntKind.u64.wrap ((1075 : Int) + (q : Int) + 1) = ((1075 + (q + 1) : Nat) : Int) := wrapUE _ (by omega) (by have := HU.out; omega)
          have HUQ : Hid (U ≤ 11) := HU.out.2
          obtain ⟨Y3, hY3⟩ : ∃ Y3 : Nat, Y3 = X * 2 ^ (q + 1) := ⟨_, rfl⟩
          have HY3 : Hid (Y3 = X * 2 ^ (q + 1)) := hY3
          rw [← hY3] at v1
          clear hY3
          obtain ⟨J, hJ⟩ : ∃ J : Nat, J = 1075 + (q + 1) := ⟨_, rfl⟩
          have HJ : Hid (J = 1075 + (q + 1)) := hJ
          rw [← hJ] at v2
          clear hJ
          go_wp2
          go_roundw
          case rel => exact ⟨q + 1, by omega, by rw [← HJ.out], by rw [← HY3.out], by trivial⟩
          case measure => have := HJ.out; have := HUQ.out; simp [intOf]; omega
        · have hgt2 : ¬ (1075 : Int) + (q : Int) < (E : Int) := by have := HU.out; omega
          have hqU : q = U := by omega
          have HE : Hid (whv v = Y ∧ wh1 v = 1) := by
            refine wh_some ?_
            have e1 := HEM.out.1
            have e2 := HEM.out.2
            have b := HB.out
            have d := HD.out
            have u := HU.out.1
            rw [HY.out, hqU]
            by_cases hE : E ≤ 1075
            · rw [whl_low (by omega) (by omega), ← e1, ← e2, ← d, if_pos HZ.out, ← HX.out, show U = 0 by omega]
              simp
            · rw [whl_high (by omega) (by omega), ← e1, ← e2, ← u]
              have : X = M := by rw [HX.out, show j = 0 by omega]; simp
              rw [this]
          go_wp2
          go_ret2
          exact ⟨by rw [HE.out.1, HE.out.2]; rfl, HF.out⟩
end Go.Proofs.Ytoaibabkkphlaaa
