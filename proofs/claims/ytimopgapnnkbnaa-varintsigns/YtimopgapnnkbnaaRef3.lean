/-
  The document's own answers of layer 3 (package tidepoleref03): Zig, Bytes, Parse.
-/
import Derived.Test.YtimopgapnnkbnaaStr
import Derived.Test.YtimopgapnnkbnaaVGet
import Derived.Deep.RegionWith
namespace Go.Proofs.Ytimopgapnnkbnaa
open Go.RowKit Mem Bits Sevens
set_option linter.unusedSimpArgs false
set_option linter.unusedVariables false

set_option maxHeartbeats 400000 in
theorem rzig_any (v : Int) (w : World) (h1 : -9223372036854775808 ≤ v) (h2 : v ≤ 9223372036854775807) :
    Calls Try.prog 13 #[.int .i64 v] w fun e w' => e = .returned (.int .u64 (zig v : Nat)) ∧ w = w' := by
  by_cases h : v < 0
  · have e : ((zig v : Nat) : Int) = 2 * (-1 - v) + 1 := by unfold zig; rw [if_pos h]; omega
    have hd : decide ((0 : Int) ≤ v) = false := decide_eq_false (by omega)
    rw [e]
    clear e
    go_enter Try.func13, Try.ntmps13
    go_wp2
    go_ret
    exact ⟨rfl, rfl⟩
  · have e : ((zig v : Nat) : Int) = 2 * v := by unfold zig; rw [if_neg h]; omega
    have hd : decide ((0 : Int) ≤ v) = true := decide_eq_true (by omega)
    rw [e]
    go_enter Try.func13, Try.ntmps13
    go_wp2
    go_ret
    exact ⟨rfl, rfl⟩

theorem drop_cons (bs : List Nat) (k : Nat) (h : k < bs.length) : bs.drop k = bs.getD k 0 :: bs.drop (k + 1) := by
  rw [List.drop_eq_getElem_cons h, getD_get _ _ h]

set_option maxRecDepth 100000 in
set_option maxHeartbeats 1000000 in
theorem rparse_any (bs : List Nat) (w : World) (V E U : Nat) (hb : ∀ x ∈ bs, x < 256) (hl : bs.length ≤ 1048576) (hp : parse bs 0 0 = (V, E, U)) :
    Calls Try.prog 23 #[.string (str bs)] w fun e w' => e = .returned (.tuple #[.int .u64 (V : Int), .int .i64 ((if E = 0 then U else 0 : Nat) : Int), .int .i64 (E : Int)]) ∧ w = w' := by
  have HZ : Hid ((str bs).size = bs.length) := str_size bs
  have hz2 : (str bs).size ≤ 1048576 := by rw [str_size]; exact hl
  have HP : Hid (parse bs 0 0 = (V, E, U)) := hp
  have HB : Hid (∀ x ∈ bs, x < 256) := hb
  clear hp hb
  go_enter Try.func23, Try.ntmps23
  go_wp2_with fail
  go_loop [5, 6, 7, 8] (fun v part i _ => ∃ k acc : Nat, k ≤ 9 ∧ i = .int .i64 (k : Int) ∧ v = .int .u64 (acc : Int) ∧ part = .int .u64 ((128 ^ k : Nat) : Int) ∧ k ≤ bs.length ∧ acc < 128 ^ k ∧ parse (bs.drop k) k acc = (V, E, U)) (fun _ _ i _ => 10 - (intOf i).toNat)
  case atStart => exact ⟨0, 0, by omega, rfl, rfl, rfl, by omega, by omega, HP.out⟩
  case round =>
    obtain ⟨k, acc, hk, rfl, rfl, rfl, hkl, hacc, hpar⟩ := hrel
    have HR : Hid (parse (bs.drop k) k acc = (V, E, U)) := hpar
    have HA : Hid (acc < 128 ^ k) := hacc
    clear hpar hacc
    by_cases hlt : k < (str bs).size
    · have hkb : k < bs.length := by rw [← HZ.out]; exact hlt
      have hx : (str bs)[k].toNat = bs.getD k 0 := str_at bs k HB.out hlt
      have e0 := HR.out
      rw [drop_cons bs k hkb] at e0
      have hblt := getD_lt HB.out k
      generalize bs.getD k 0 = b at *
      by_cases hbig : k = 9 ∧ 1 < b
      · simp only [parse] at e0
        rw [if_pos hbig] at e0
        simp only [Prod.mk.injEq] at e0
        obtain ⟨rfl, rfl, rfl⟩ := e0
        obtain ⟨hk9, hb1⟩ := hbig
        subst hk9
        have hd1 : decide ((1 : Int) < (b : Int)) = true := decide_eq_true (by omega)
        go_wp2_with fail
        go_ret3
        exact ⟨by first | rfl | trivial, by rfl⟩
      · obtain ⟨_, hA, hA2⟩ := or_seven acc b k hk HA.out hblt (by omega)
        simp only [parse] at e0
        rw [if_neg hbig] at e0
        have HE2 : Hid ((if 128 ≤ b then parse (bs.drop (k + 1)) (k + 1) (acc + b % 128 * 128 ^ k) else if b = 0 ∧ 0 < k then (0, 10, k + 1) else (acc + b % 128 * 128 ^ k, 0, k + 1)) = (V, E, U)) := e0
        have HA2 : Hid (k ≠ 9 → acc + b % 128 * 128 ^ k < 128 ^ (k + 1)) := hA2
        have hm : ((b : Int) % 128) * ((128 ^ k : Nat) : Int) = ((b % 128 * 128 ^ k : Nat) : Int) := by simp
        have HP1 : Hid (128 ^ (k + 1) = 128 ^ k * 128) := Nat.pow_succ ..
        have hP1 : k ≠ 9 → 128 ^ k ≤ 72057594037927936 := fun h9 => by
          have : 128 ^ k ≤ 128 ^ 8 := Nat.pow_le_pow_right (by omega) (by omega)
          simpa using this
        have hP2 : 128 ^ k ≤ 9223372036854775808 := by
          have : 128 ^ k ≤ 128 ^ 9 := Nat.pow_le_pow_right (by omega) (by omega)
          simpa using this
        clear hA2 e0
        generalize 128 ^ k = P at *
        generalize b % 128 * P = M at *
        have hcase : (((k : Int) == 9) = true ∧ decide ((1 : Int) < (b : Int)) = false) ∨ ((k : Int) == 9) = false := by
          by_cases hk9 : k = 9
          · exact .inl ⟨beq_iff_eq.2 (by omega), decide_eq_false (by omega)⟩
          · exact .inr (beq_eq_false_iff_ne.2 (by omega))
        by_cases h128 : 128 ≤ b
        · have hd128 : decide ((b : Int) < 128) = false := decide_eq_false (by omega)
          have hk9 : k ≠ 9 := by omega
          have hd9 : ((k : Int) == 9) = false := beq_eq_false_iff_ne.2 (by omega)
          have hP3 := hP1 hk9
          have e0 := HE2.out
          rw [if_pos h128] at e0
          have HE3 : Hid (parse (bs.drop (k + 1)) (k + 1) (acc + M) = (V, E, U)) := e0
          clear hcase HE2 e0 hP1
          go_wp2_with fail
          go_round
          case rel => exact ⟨k + 1, acc + M, by omega, by go_num, by go_num, by rw [HP1.out]; go_num, hkb, HA2.out hk9, HE3.out⟩
          case measure => simp [intOf]; omega
        · have hd128 : decide ((b : Int) < 128) = true := decide_eq_true (by omega)
          have e0 := HE2.out
          rw [if_neg h128] at e0
          by_cases hz : b = 0 ∧ 0 < k
          · rw [if_pos hz] at e0
            simp only [Prod.mk.injEq] at e0
            obtain ⟨rfl, rfl, rfl⟩ := e0
            have hd0 : ((b : Int) == 0) = true := beq_iff_eq.2 (by omega)
            have hdk : decide (0 < k) = true := decide_eq_true (by omega)
            clear hP1
            rcases hcase with ⟨hx1, hy⟩ | hx1
            · obtain rfl : k = 9 := by have := beq_iff_eq.1 hx1; omega
              go_wp2_with fail
              go_ret3
              exact ⟨by first | rfl | trivial, by rfl⟩
            · go_wp2_with fail
              go_ret3
              exact ⟨by first | rfl | trivial, by rfl⟩
          · rw [if_neg hz] at e0
            simp only [Prod.mk.injEq] at e0
            obtain ⟨rfl, rfl, rfl⟩ := e0
            have hcz : (((b : Int) == 0) = true ∧ decide (0 < k) = false) ∨ ((b : Int) == 0) = false := by
              by_cases hb0 : b = 0
              · exact .inl ⟨beq_iff_eq.2 (by omega), decide_eq_false (by omega)⟩
              · exact .inr (beq_eq_false_iff_ne.2 (by omega))
            clear hP1
            rcases hcase with ⟨hx1, hy⟩ | hx1
            · rcases hcz with ⟨ha, hc⟩ | ha
              · exfalso
                have := beq_iff_eq.1 hx1
                have := of_decide_eq_false hc
                omega
              · obtain rfl : k = 9 := by have := beq_iff_eq.1 hx1; omega
                go_wp2_with fail
                go_ret3
                exact ⟨by first | rfl | trivial, by rfl⟩
            · rcases hcz with ⟨ha, hc⟩ | ha
              · go_wp2_with fail
                go_ret3
                exact ⟨by first | rfl | trivial, by rfl⟩
              · go_wp2_with fail
                go_ret3
                exact ⟨by first | rfl | trivial, by rfl⟩
    · have hkn : k = bs.length := by have := HZ.out; omega
      have e0 := HR.out
      rw [hkn, List.drop_length] at e0
      simp only [parse, Prod.mk.injEq] at e0
      obtain ⟨rfl, rfl, rfl⟩ := e0
      have hd0 : decide ((k : Int) < ((str bs).size : Int)) = false := decide_eq_false (by omega)
      go_wp2_with fail
      go_ret3
      exact ⟨by first | rfl | trivial, by rfl⟩

/-- string([]byte{x}), in whatever world comes behind with nothing turned. -/
theorem one_later (x : Nat) (hx : x < 256) (wx wy : World) (h : Fr [] (wx.alloc (.cells #[.int .u8 (x : Int)] 5)) wy) :
    (convert 39 9 (.slice (some ⟨wx.heap.size, 0, none⟩) 1 1)).run Try.prog wy = .ok (.string (str [x])) wy :=
  run_str ((Src.one wx x hx).kept h (by simp))
theorem one_drew (x : Nat) (hx : x < 256) (w : World) :
    (convert 39 9 (.slice (some ⟨w.heap.size, 0, none⟩) 1 1)).run Try.prog (w.alloc (.cells #[.int .u8 (x : Int)] 5)).drew = .ok (.string (str [x])) (w.alloc (.cells #[.int .u8 (x : Int)] 5)).drew :=
  one_later x hx w _ (Fr.refl _ _).drew
theorem one_behind {x : Nat} (hx : x < 256) {w w8 : World} (h : Fr [] (w.alloc (.cells #[.int .u8 (x : Int)] 5)).drew w8) :
    (convert 39 9 (.slice (some ⟨w.heap.size, 0, none⟩) 1 1)).run Try.prog w8 = .ok (.string (str [x])) w8 ∧ Fr [] w w8 :=
  ⟨one_later x hx w _ ((Fr.refl _ _).drew.trans h (by simp)), (((Fr.refl _ _).alloc _).drew).trans h (by simp)⟩
theorem one_ahead {x : Nat} (hx : x < 256) {w w8 : World} (h : Fr [] w.drew w8) :
    (convert 39 9 (.slice (some ⟨w8.heap.size, 0, none⟩) 1 1)).run Try.prog (w8.alloc (.cells #[.int .u8 (x : Int)] 5)) = .ok (.string (str [x])) (w8.alloc (.cells #[.int .u8 (x : Int)] 5)) ∧ Fr [] w (w8.alloc (.cells #[.int .u8 (x : Int)] 5)) :=
  ⟨one_later x hx w8 _ (Fr.refl _ _), (((Fr.refl _ _).drew).trans h (by simp)).alloc _⟩

theorem on_behind {P : Prop} {x : Nat} (hx : x < 256) {w w8 : World} (h : Fr [] (w.alloc (.cells #[.int .u8 (x : Int)] 5)).drew w8)
    (k : (convert 39 9 (.slice (some ⟨w.heap.size, 0, none⟩) 1 1)).run Try.prog w8 = .ok (.string (str [x])) w8 → Fr [] w w8 → P) : P := k (one_behind hx h).1 (one_behind hx h).2
theorem on_ahead {P : Prop} {x : Nat} (hx : x < 256) {w w8 : World} (h : Fr [] w.drew w8)
    (k : (convert 39 9 (.slice (some ⟨w8.heap.size, 0, none⟩) 1 1)).run Try.prog (w8.alloc (.cells #[.int .u8 (x : Int)] 5)) = .ok (.string (str [x])) (w8.alloc (.cells #[.int .u8 (x : Int)] 5)) → Fr [] w (w8.alloc (.cells #[.int .u8 (x : Int)] 5)) → P) : P := k (one_ahead hx h).1 (one_ahead hx h).2

set_option maxRecDepth 100000 in
set_option maxHeartbeats 1000000 in
theorem rbytes_any (V : Nat) : ∀ (w : World), V < 18446744073709551616 →
    Calls Try.prog 12 #[.int .u64 (V : Int)] w fun e w' => e = .returned (.string (str (vb V))) ∧ Fr [] w w' := by
  induction V using Nat.strongRecOn with
  | ind V ih =>
    intro w hV
    by_cases h : V < 128
    · have hd : decide ((V : Int) < 128) = true := decide_eq_true (by omega)
      have hrun := run_str (Src.one w V (by omega))
      have HB : Hid (vb V = [V]) := vb_small h
      go_enter Try.func12, Try.ntmps12
      go_wp2_with fail
      go_ret
      exact ⟨by rw [HB.out]; rfl, (Fr.refl _ _).alloc _⟩
    · have hd : decide ((V : Int) < 128) = false := decide_eq_false (by omega)
      have HB : Hid (vb V = (V % 128 + 128) :: vb (V / 128)) := vb_big (by omega)
      have IH : Hid (∀ w : World, Calls Try.prog 12 #[.int .u64 ((V / 128 : Nat) : Int)] w fun e w' => e = .returned (.string (str (vb (V / 128)))) ∧ Fr [] w w') := fun w => ih (V / 128) (by omega) w (by omega)
      have hz : (str (vb (V / 128))).size ≤ 10 := by rw [str_size]; exact vb_ten (by omega)
      have hz1 : (str [V % 128 + 128]).size ≤ 1 := by rw [str_size]; simp
      obtain ⟨R, hR⟩ : ∃ R, R = V % 128 + 128 := ⟨_, rfl⟩
      obtain ⟨S, hS⟩ : ∃ S, S = V % 128 := ⟨_, rfl⟩
      obtain ⟨D, hD⟩ : ∃ D, D = V / 128 := ⟨_, rfl⟩
      rw [← hR] at HB hz1
      rw [← hD] at HB IH hz
      have q1 : (V : Int).tmod 128 = (S : Int) := by rw [Int.tmod_eq_emod_of_nonneg (by omega)]; omega
      have q2 : IntKind.u64.wrap ((S : Int) + 128) = (R : Int) := by rw [IntKind.wrap_u64]; omega
      have q3 : IntKind.u8.wrap (R : Int) = (R : Int) := by rw [IntKind.wrap_u8]; omega
      have q4 : IntKind.u64.wrap ((V : Int) / 128) = (D : Int) := by rw [IntKind.wrap_u64]; omega
      have hR256 : R < 256 := by omega
      have F1 := one_drew R hR256 w
      have HF : Hid (str [R] ++ str (vb D) = str (vb V)) := by show _ = _; rw [str_append, HB.out]; rfl
      clear ih hR hS hD
      go_enter Try.func12, Try.ntmps12
      go_wp2_with fail
      go_region_with (first
        | (go_at_call 12; refine (IH.out _).mono ?_; rintro e w8 ⟨rfl, hf8⟩; (first | (refine on_behind hR256 hf8 ?_; intro F2 F3) | (refine on_ahead hR256 hf8 ?_; intro F2 F3))))
      all_goals go_wp2_with fail
      all_goals go_ret
      all_goals exact ⟨by rw [← HF.out]; rfl, F3⟩
end Go.Proofs.Ytimopgapnnkbnaa
