/-
  Package varint: GetU, GetS.
-/
import Derived.Test.YtimopgapnnkbnaaGet
import Derived.Test.YtimopgapnnkbnaaVPut
namespace Go.Proofs.Ytimopgapnnkbnaa
open Go.RowKit Mem Bits Sevens
set_option linter.unusedSimpArgs false
set_option linter.unusedVariables false

theorem pow_sevens (k : Nat) : 2 ^ (7 * k) = 128 ^ k := by rw [Nat.pow_mul]

theorem low7 (b : Nat) (hb : b < 256) : b &&& (18446744073709551615 - 128) = b % 128 := by
  have h : ∀ x : Fin 256, x.val &&& (18446744073709551615 - 128) = x.val % 128 := by decide +kernel
  exact h ⟨b, hb⟩

/-- Seven bits more, above those that are there. -/
theorem or_seven (acc b k : Nat) (hk : k ≤ 9) (hacc : acc < 128 ^ k) (hb : b < 256) (h9 : k = 9 → b ≤ 1) :
    Go.bits .or .u64 (acc : Int) (IntKind.u64.wrap (Go.bits .andNot .u64 (b : Int) 128 * 2 ^ (7 * k))) = ((acc + b % 128 * 128 ^ k : Nat) : Int) ∧
      acc + b % 128 * 128 ^ k < 18446744073709551616 ∧ (k ≠ 9 → acc + b % 128 * 128 ^ k < 128 ^ (k + 1)) := by
  have hkk : k = 0 ∨ k = 1 ∨ k = 2 ∨ k = 3 ∨ k = 4 ∨ k = 5 ∨ k = 6 ∨ k = 7 ∨ k = 8 ∨ k = 9 := by omega
  have hbound : acc + b % 128 * 128 ^ k < 18446744073709551616 ∧ (k ≠ 9 → acc + b % 128 * 128 ^ k < 128 ^ (k + 1)) := by
    rcases hkk with rfl | rfl | rfl | rfl | rfl | rfl | rfl | rfl | rfl | rfl <;> simp at hacc ⊢ <;> omega
  have h7 : b % 128 * 128 ^ k < 18446744073709551616 := by omega
  refine ⟨?_, hbound⟩
  have e1 : Go.bits .andNot .u64 (b : Int) 128 = ((b % 128 : Nat) : Int) := by
    rw [show (128 : Int) = ((128 : Nat) : Int) from rfl, u64_andNot_nat b 128 (by omega) (by omega), low7 b hb]
  have e2 : (((b % 128 : Nat) : Int) * 2 ^ (7 * k)) = ((b % 128 * 128 ^ k : Nat) : Int) := by
    rw [← pow_sevens]; simp
  rw [e1, e2, IntKind.wrap_u64]
  have e3 : ((b % 128 * 128 ^ k : Nat) : Int) % 18446744073709551616 = ((b % 128 * 128 ^ k : Nat) : Int) := by omega
  rw [e3, u64_or_nat acc _ (by omega) h7, Nat.or_comm, nat_join (7 * k) _ acc (by rw [pow_sevens, Nat.mul_mod_left]) (by rw [pow_sevens]; exact hacc), Nat.add_comm]

set_option maxRecDepth 100000 in
set_option maxHeartbeats 1000000 in
theorem getU_any (w : World) (p g : Nat) (l : List Bool) (pos lim : Nat) (sh : Bool) (V E U : Nat) (h : Rd w p g l pos lim sh) (hb : l.length ≤ 4294967296) (hp : parse (restBytes l pos lim) 0 0 = (V, E, U)) :
    Calls Try.prog 18 #[.pointer (some ⟨p, 0, none⟩)] w fun e w' => e = .returned (.tuple #[.int .u64 (V : Int), .int .i64 (E : Int)]) ∧ Rd w' p g l (pos + 8 * U) lim sh ∧ Fr [p] w w' := by
  have HP : Hid (parse (restBytes l pos lim) 0 0 = (V, E, U)) := hp
  clear hp
  go_enter Try.func18, Try.ntmps18
  go_wp2_with fail
  go_loopw [4, 5, 6] (fun v i _ wr => ∃ k acc : Nat, k ≤ 9 ∧ i = .int .i64 (k : Int) ∧ v = .int .u64 (acc : Int) ∧ acc < 128 ^ k ∧ Rd wr p g l (pos + 8 * k) lim sh ∧ parse (restBytes l (pos + 8 * k) lim) k acc = (V, E, U) ∧ Fr [p] w wr) (fun _ i _ _ => 10 - (intOf i).toNat)
  case atStart => exact ⟨0, 0, by omega, rfl, rfl, by omega, h, HP.out, Fr.refl _ _⟩
  case round =>
    obtain ⟨k, acc, hk, rfl, rfl, hacc, hr, hpar, hfr⟩ := hrel
    have HR : Hid (parse (restBytes l (pos + 8 * k) lim) k acc = (V, E, U)) := hpar
    have HA : Hid (acc < 128 ^ k) := hacc
    clear hpar hacc
    have hlim := hr.2.1
    have hlim2 := hr.2.2.1
    go_wp2_with fail
    refine (left_any wr p g l (pos + 8 * k) lim sh hr hb).mono ?_
    rintro e w1 ⟨rfl, hf1⟩
    have hr1 := hr.kept hf1 (by simp) (by simp)
    have hfr1 : Fr [p] w w1 := hfr.trans hf1 (by simp)
    clear hr hf1 hfr
    by_cases h8 : lim - (pos + 8 * k) < 8
    · have e0 := HR.out
      rw [restBytes_nil _ h8] at e0
      simp only [parse, Prod.mk.injEq] at e0
      obtain ⟨rfl, rfl, rfl⟩ := e0
      have hd : decide (((lim - (pos + 8 * k) : Nat) : Int) < 8) = true := decide_eq_true (by omega)
      go_wp2_with fail
      go_ret2
      exact ⟨rfl, hr1, hfr1⟩
    · have hd : decide (((lim - (pos + 8 * k) : Nat) : Int) < 8) = false := decide_eq_false (by omega)
      have e0 := HR.out
      rw [restBytes_cons _ (by omega)] at e0
      go_wp2_with fail
      refine (get_ok w1 p g l (pos + 8 * k) lim sh 8 hr1 hb (by omega) (by omega) (by omega)).mono ?_
      rintro e w2 ⟨rfl, hr2, hf2⟩
      have hfr2 : Fr [p] w w2 := hfr1.trans hf2 (by simp)
      have hblt := byte_lt l (pos + 8 * k)
      generalize val ((l.drop (pos + 8 * k)).take 8) = b at *
      rw [show pos + 8 * k + 8 = pos + 8 * (k + 1) from by omega] at hr2 e0
      have HE : Hid (parse (b :: restBytes l (pos + 8 * (k + 1)) lim) k acc = (V, E, U)) := e0
      clear HR e0 hr1 hfr1 hf2
      by_cases hbig : k = 9 ∧ 1 < b
      · have e0 := HE.out
        simp only [parse] at e0
        rw [if_pos hbig] at e0
        simp only [Prod.mk.injEq] at e0
        obtain ⟨rfl, rfl, rfl⟩ := e0
        have hd9 : ((k : Int) == 9) = true := beq_iff_eq.2 (by omega)
        have hd1 : decide ((1 : Int) < (b : Int)) = true := decide_eq_true (by omega)
        go_wp2_with fail
        go_ret2
        exact ⟨by first | rfl | trivial, hr2, hfr2⟩
      · obtain ⟨hor, hA, hA2⟩ := or_seven acc b k hk HA.out hblt (by omega)
        have HE2 : Hid ((if 128 ≤ b then parse (restBytes l (pos + 8 * (k + 1)) lim) (k + 1) (acc + b % 128 * 128 ^ k) else if b = 0 ∧ 0 < k then (0, 10, k + 1) else (acc + b % 128 * 128 ^ k, 0, k + 1)) = (V, E, U)) := by
          have e0 := HE.out
          simp only [parse] at e0
          rw [if_neg hbig] at e0
          exact e0
        have HA2 : Hid (k ≠ 9 → acc + b % 128 * 128 ^ k < 128 ^ (k + 1)) := hA2
        clear hA2 HE
        generalize acc + b % 128 * 128 ^ k = A at *
        have hcase : (((k : Int) == 9) = true ∧ decide ((1 : Int) < (b : Int)) = false) ∨ ((k : Int) == 9) = false := by
          by_cases hk9 : k = 9
          · exact .inl ⟨beq_iff_eq.2 (by omega), decide_eq_false (by omega)⟩
          · exact .inr (beq_eq_false_iff_ne.2 (by omega))
        by_cases h128 : 128 ≤ b
        · have hd128 : decide ((128 : Int) ≤ (b : Int)) = true := decide_eq_true (by omega)
          have hk9 : k ≠ 9 := by omega
          have hd9 : ((k : Int) == 9) = false := beq_eq_false_iff_ne.2 (by omega)
          have e0 := HE2.out
          rw [if_pos h128] at e0
          have HE3 : Hid (parse (restBytes l (pos + 8 * (k + 1)) lim) (k + 1) A = (V, E, U)) := e0
          clear hcase HE2 e0
          go_wp2_with fail
          go_roundw
          case rel => exact ⟨k + 1, A, by omega, by go_num, rfl, HA2.out hk9, hr2, HE3.out, hfr2⟩
          case measure => simp [intOf]; omega
        · have hd128 : decide ((128 : Int) ≤ (b : Int)) = false := decide_eq_false (by omega)
          have e0 := HE2.out
          rw [if_neg h128] at e0
          by_cases hz : b = 0 ∧ 0 < k
          · rw [if_pos hz] at e0
            simp only [Prod.mk.injEq] at e0
            obtain ⟨rfl, rfl, rfl⟩ := e0
            have hd0 : ((b : Int) == 0) = true := beq_iff_eq.2 (by omega)
            have hdk : decide ((0 : Int) < (k : Int)) = true := decide_eq_true (by omega)
            rcases hcase with ⟨hx, hy⟩ | hx
            · go_wp2_with fail
              go_ret2
              exact ⟨by first | rfl | trivial, hr2, hfr2⟩
            · go_wp2_with fail
              go_ret2
              exact ⟨by first | rfl | trivial, hr2, hfr2⟩
          · rw [if_neg hz] at e0
            simp only [Prod.mk.injEq] at e0
            obtain ⟨rfl, rfl, rfl⟩ := e0
            have hcz : (((b : Int) == 0) = true ∧ decide ((0 : Int) < (k : Int)) = false) ∨ ((b : Int) == 0) = false := by
              by_cases hb0 : b = 0
              · exact .inl ⟨beq_iff_eq.2 (by omega), decide_eq_false (by omega)⟩
              · exact .inr (beq_eq_false_iff_ne.2 (by omega))
            rcases hcase with ⟨hx, hy⟩ | hx
            · rcases hcz with ⟨ha, hc⟩ | ha
              · exfalso
                have := beq_iff_eq.1 hx
                have := of_decide_eq_false hc
                omega
              · go_wp2_with fail
                go_ret2
                exact ⟨by first | rfl | trivial, hr2, hfr2⟩
            · rcases hcz with ⟨ha, hc⟩ | ha
              · have hc2 : decide (0 < k) = false := decide_eq_false (by have := of_decide_eq_false hc; omega)
                go_wp2_with fail
                go_ret2
                exact ⟨by first | rfl | trivial, hr2, hfr2⟩
              · go_wp2_with fail
                go_ret2
                exact ⟨by first | rfl | trivial, hr2, hfr2⟩

theorem parse_lt (bs : List Nat) : ∀ (i acc V E U : Nat), parse bs i acc = (V, E, U) → i ≤ 9 → acc < 128 ^ i → (∀ x ∈ bs, x < 256) → V < 18446744073709551616 := by
  induction bs with
  | nil => intro i acc V E U h; simp [parse] at h; omega
  | cons b r ih =>
    intro i acc V E U h hi ha hb
    have hb0 := hb b (by simp)
    simp only [parse] at h
    split at h
    · simp at h; omega
    · next hbig =>
      obtain ⟨_, h1, h2⟩ := or_seven acc b i hi ha hb0 (by omega)
      split at h
      · exact ih _ _ _ _ _ h (by omega) (h2 (by omega)) (fun x hx => hb x (by simp [hx]))
      · split at h
        · simp at h; omega
        · simp only [Prod.mk.injEq] at h
          omega

theorem restBytes_lt (l : List Bool) (pos lim : Nat) : ∀ x ∈ restBytes l pos lim, x < 256 := by
  intro x hx
  simp only [restBytes, List.mem_map] at hx
  obtain ⟨i, _, rfl⟩ := hx
  exact byte_lt _ _

set_option maxHeartbeats 400000 in
theorem getS_any (w : World) (p g : Nat) (l : List Bool) (pos lim : Nat) (sh : Bool) (V E U : Nat) (h : Rd w p g l pos lim sh) (hb : l.length ≤ 4294967296) (hp : parse (restBytes l pos lim) 0 0 = (V, E, U)) :
    Calls Try.prog 19 #[.pointer (some ⟨p, 0, none⟩)] w fun e w' => e = .returned (.tuple #[.int .i64 (zag V), .int .i64 (E : Int)]) ∧ Rd w' p g l (pos + 8 * U) lim sh ∧ Fr [p] w w' := by
  have hV : V < 18446744073709551616 := parse_lt _ _ _ _ _ _ hp (by omega) (by omega) (restBytes_lt _ _ _)
  go_enter Try.func19, Try.ntmps19
  go_wp2_with fail
  refine (getU_any w p g l pos lim sh V E U h hb hp).mono ?_
  rintro e w1 ⟨rfl, hr1, hf1⟩
  go_wp2_with fail
  refine (zag_any V w1 hV).mono ?_
  rintro e w2 ⟨rfl, rfl⟩
  go_wp2_with fail
  go_ret2
  exact ⟨by first | rfl | trivial, hr1, hf1⟩
end Go.Proofs.Ytimopgapnnkbnaa
