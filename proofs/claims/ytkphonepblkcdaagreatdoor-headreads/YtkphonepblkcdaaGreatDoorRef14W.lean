/-
  The document's Whole and Signed: the number at the beginning of a text of bits.
-/
import Derived.Test.YtkphonepblkcdaaGreatDoorRef4P
import Derived.Test.YtkphonepblkcdaaGreatDoorRef4S
import Derived.Test.YtkphonepblkcdaaGreatDoorHdPure
import Derived.Deep.RegionHeld3
namespace Go.Proofs.YtkphonepblkcdaaGreatDoor
open Go.RowKit Mem Bits Groups
set_option linter.unusedSimpArgs false
set_option linter.unusedVariables false
set_option maxRecDepth 100000

theorem ch_inj {a b : Bool} (h : ch a = ch b) : a = b := by cases a <;> cases b <;> simp_all [ch]
theorem map_ch_inj : ∀ {a b : List Bool}, a.map ch = b.map ch → a = b
  | [], [], _ => rfl
  | [], _ :: _, h => by simp at h
  | _ :: _, [], h => by simp at h
  | x :: a, y :: b, h => by
    simp only [List.map_cons, List.cons.injEq] at h
    rw [ch_inj h.1, map_ch_inj h.2]
theorem txtH_inj {a b : List Bool} (h : txt a = txt b) : a = b := by
  have h1 := congrArg (fun x => x.data.toList) h
  simp only [txt] at h1
  exact map_ch_inj h1
theorem txtH_take (t : List Bool) (a : Nat) : (txt t).extract 0 a = txt (t.take a) := by
  apply ByteArray.ext
  simp [txt, List.map_take]
theorem txtH_drop (t : List Bool) (a : Nat) : (txt t).extract a (txt t).size = txt (t.drop a) := by
  apply ByteArray.ext
  simp [txt, List.map_drop, ByteArray.size]
  exact List.take_of_length_le (by simp)
theorem txtH_ne {a b : List Bool} (h : a ≠ b) : ((txt a).toList == (txt b).toList) = false := by
  rw [beq_eq_false_iff_ne]
  intro h0
  apply h
  rw [ByteArray.toList_eq, ByteArray.toList_eq] at h0
  exact txtH_inj (ByteArray.ext (Array.toList_inj.1 h0))

/-- What stands at the beginning, where it fits: the group's bits are those of the text. -/
theorem gbits_take {t : List Bool} (h : ¬ t.length < fore (ldn 8 t) + bh (ldn 8 t)) : t.take (fore (ldn 8 t) + bh (ldn 8 t)) = gbits (ldn 8 t) (val ((t.drop (fore (ldn 8 t))).take (bh (ldn 8 t)))) := by
  have := lead_take t 0 t.length (ldn 8 t) (lead_at t) (Nat.le_refl _) (by omega)
  simpa only [List.drop_zero, Nat.zero_add] using this
theorem size_inj {j k : Nat} (hj : j ≤ 8) (hk : k ≤ 8) (h : fore j + bh j = fore k + bh k) : j = k := by
  rcases Nat.lt_trichotomy j k with h1 | h1 | h1
  · have := size_lt h1 hk; omega
  · exact h1
  · have := size_lt h1 hj; omega

set_option maxHeartbeats 2000000 in
theorem lwhole_any (t : List Bool) (w : World) (ht : t.length ≤ 1048576) :
    Calls Tryz.prog 87 #[.string (txt t)] w fun e w' => e = .returned (.tuple #[.int .u64 ((rdU t).1 : Int), .int .i64 ((rdU t).2.1 : Int), .int .i64 (rdU t).2.2]) ∧ Fr [] w w' := by
  have HL := lead_at t
  have hk := HL.1
  have hkl := ldn_le 8 t
  have HLt := fore_le hk
  have hbl := bh_le (ldn 8 t)
  by_cases hs : t.length < fore (ldn 8 t) + bh (ldn 8 t)
  · have HR : Hid (rdU t = (0, 0, 16)) := by unfold Hid rdU; rw [if_pos hs]
    have HP : Hid (Calls Tryz.prog 86 #[.string (txt t)] w fun e w' => e = .returned (.tuple #[.int .i64 (-1), .string ⟨#[]⟩]) ∧ Fr [] w w') := rparse_any t w _ _ _ ht HL (.inr ⟨hs, rfl, rfl⟩)
    clear HL hs hkl HLt hbl hk
    go_enter Tryz.func87, Tryz.ntmps87
    go_wp2_with fail
    refine HP.out.mono ?_
    rintro e w1 ⟨rfl, hf⟩
    go_wp2_with fail
    go_ret3
    exact ⟨by rw [HR.out]; rfl, hf⟩
  have HGT := gbits_take hs
  obtain ⟨M, hM⟩ : ∃ M, M = fore (ldn 8 t) + bh (ldn 8 t) := ⟨_, rfl⟩
  obtain ⟨B, hB⟩ : ∃ B, B = (t.drop (fore (ldn 8 t))).take (bh (ldn 8 t)) := ⟨_, rfl⟩
  have hBl : B.length = bh (ldn 8 t) := by rw [hB]; simp; omega
  have HP : Hid (Calls Tryz.prog 86 #[.string (txt t)] w fun e w' => e = .returned (.tuple #[.int .i64 (M : Int), .string (txt B)]) ∧ Fr [] w w') := rparse_any t w _ _ _ ht HL (.inl ⟨by omega, by rw [hM], by rw [hB]⟩)
  have HV : Hid (∀ wx, Calls Tryz.prog 58 #[.string (txt B)] wx fun e w' => e = .returned (.int .u64 ((val B : Nat) : Int)) ∧ wx = w') := fun wx => value_any B wx (by omega)
  have hVlt : val B < 18446744073709551616 := Nat.lt_of_lt_of_le (val_lt B) (by rw [hBl]; exact pow_bh _)
  have HR : Hid (rdU t = if gU (val B) = ldn 8 t then (val B, M, 0) else (0, 0, 10)) := by unfold Hid rdU; rw [if_neg hs, ← hB, ← hM]
  rw [← hM, ← hB] at HGT
  have hMl : M ≤ t.length := by omega
  have hM64 : M ≤ 72 := by omega
  generalize val B = V at *
  have hxx : (txt t).extract 0 M = txt (gbits (ldn 8 t) V) := by rw [txtH_take, HGT]
  have hszt : (txt t).size = t.length := txt_size t
  have hM1 : (M : Int) ≤ ((txt t).size : Int) := by omega
  have hM2 : M ≤ (txt t).size := by omega
  by_cases hg : gU V = ldn 8 t
  · have HU : Hid (∀ wx, Calls Tryz.prog 82 #[.int .u64 (V : Int)] wx fun e w' => e = .returned (.string (txt (gbits (ldn 8 t) V))) ∧ Fr [] wx w') := fun wx => by
      have := U_any V wx hVlt
      unfold ubits at this
      rwa [hg] at this
    have HR2 : Hid (rdU t = (V, M, 0)) := by rw [Hid, HR.out, if_pos hg]
    clear HL hs hkl HLt hbl hk HGT hM hB hBl hVlt HR hg
    generalize gbits (ldn 8 t) V = G at *
    go_enter Tryz.func87, Tryz.ntmps87
    go_wp2_with fail
    refine HP.out.mono ?_
    rintro e w1 ⟨rfl, hf⟩
    have HF1 : Hid (Fr [] w w1) := hf
    have dM : decide ((M : Int) < 0) = false := decide_eq_false (by omega)
    clear hf
    go_wp2_with fail
    refine (HV.out _).mono ?_
    rintro e w2 ⟨rfl, rfl⟩
    go_wp2_with fail
    go_region_held3 (fun _ => True) (exact trivial) (first
      | (go_at_call 82; with_reducible refine (HU.out _).mono ?_; rintro e wz ⟨rfl, hfz⟩))
    all_goals (go_wp2)
    all_goals (go_ret3)
    all_goals exact ⟨by rw [HR2.out]; rfl, (HF1.out.drew).trans hfz (by simp)⟩
  · have HU : Hid (∀ wx, Calls Tryz.prog 82 #[.int .u64 (V : Int)] wx fun e w' => e = .returned (.string (txt (ubits V))) ∧ Fr [] wx w') := fun wx => U_any V wx hVlt
    have hne : ubits V ≠ gbits (ldn 8 t) V := by
      intro h
      have := congrArg List.length h
      unfold ubits at this
      rw [gbits_length, gbits_length] at this
      exact hg (size_inj (gU_le V) hk this)
    have hnb := txtH_ne hne
    have HR2 : Hid (rdU t = (0, 0, 10)) := by rw [Hid, HR.out, if_neg hg]
    clear HL hs hkl HLt hbl hk HGT hM hB hBl hVlt HR hg hne
    generalize gbits (ldn 8 t) V = G at *
    generalize ubits V = X at *
    go_enter Tryz.func87, Tryz.ntmps87
    go_wp2_with fail
    refine HP.out.mono ?_
    rintro e w1 ⟨rfl, hf⟩
    have HF1 : Hid (Fr [] w w1) := hf
    have dM : decide ((M : Int) < 0) = false := decide_eq_false (by omega)
    clear hf
    go_wp2_with fail
    refine (HV.out _).mono ?_
    rintro e w2 ⟨rfl, rfl⟩
    go_wp2_with fail
    go_region_held3 (fun _ => True) (exact trivial) (first
      | (go_at_call 82; with_reducible refine (HU.out _).mono ?_; rintro e wz ⟨rfl, hfz⟩))
    all_goals (go_wp2)
    all_goals (go_ret3)
    all_goals exact ⟨by rw [HR2.out]; rfl, (HF1.out.drew).trans hfz (by simp)⟩
/-- What the sum of a group's bits and their sign comes to. -/
theorem sgn_low {V n : Nat} (hn : n < 64) (hV : V < 2 ^ n) (h : ¬ 2 ^ n < 2 * V) : sgn V n = (V : Int) := by unfold sgn; rw [if_neg (by omega), if_neg h]
theorem sgn_high {V n : Nat} (hn : n < 64) (hV : V < 2 ^ n) (h : 2 ^ n < 2 * V) : sgn V n = (V : Int) - ((2 ^ n : Nat) : Int) := by unfold sgn; rw [if_neg (by omega), if_pos h]
theorem wI_eq (z : Int) : IntKind.i64.wrap z = wrap64 z := by rw [IntKind.wrap_i64]; unfold wrap64; omega
theorem sgn_w64 {V : Nat} (h : V < 18446744073709551616) : wrap64 (V : Int) = sgn V 64 := by unfold wrap64 sgn; rw [if_pos rfl]; split <;> omega
/-- The four ways of Signed. -/
theorem four {V n : Nat} (hn : n = 64 ∨ n ≤ 56) (hV : V < 2 ^ n) :
    (n = 0 ∧ V = 0 ∧ wrap64 (V : Int) = sgn V n) ∨ (n = 64 ∧ wrap64 (V : Int) = sgn V n) ∨
    (0 < n ∧ n < 64 ∧ decide (IntKind.u64.wrap (2 ^ (n - 1)) < (V : Int)) = false ∧ wrap64 (V : Int) = sgn V n) ∨
    (0 < n ∧ n < 64 ∧ decide (IntKind.u64.wrap (2 ^ (n - 1)) < (V : Int)) = true ∧ ∃ X : Nat, IntKind.u64.wrap ((V : Int) - IntKind.u64.wrap (2 ^ n)) = (X : Int) ∧ wrap64 (X : Int) = sgn V n) := by
  rcases hn with rfl | hn
  · exact .inr (.inl ⟨rfl, sgn_w64 hV⟩)
  by_cases h0 : n = 0
  · subst h0
    have : V = 0 := by simpa using hV
    subst this
    exact .inl ⟨rfl, rfl, by simp [wrap64, sgn]⟩
  have hp : 2 ^ n = 2 * 2 ^ (n - 1) := by rw [← Nat.pow_succ', show (n - 1).succ = n from by omega]
  have hb : 2 ^ n ≤ 2 ^ 56 := Nat.pow_le_pow_right (by decide) hn
  have e1 : IntKind.u64.wrap (2 ^ (n - 1)) = ((2 ^ (n - 1) : Nat) : Int) := by
    rw [show ((2 : Int) ^ (n - 1)) = ((2 ^ (n - 1) : Nat) : Int) from by simp, IntKind.wrap_u64]; omega
  have e2 : IntKind.u64.wrap (2 ^ n) = ((2 ^ n : Nat) : Int) := by
    rw [show ((2 : Int) ^ n) = ((2 ^ n : Nat) : Int) from by simp, IntKind.wrap_u64]; omega
  rw [e1, e2]
  by_cases h : 2 ^ n < 2 * V
  · refine .inr (.inr (.inr ⟨by omega, by omega, decide_eq_true (by omega), V + 18446744073709551616 - 2 ^ n, ?_, ?_⟩))
    · rw [IntKind.wrap_u64]; omega
    · rw [sgn_high (by omega) hV h]; unfold wrap64; omega
  · refine .inr (.inr (.inl ⟨by omega, by omega, decide_eq_false (by omega), ?_⟩))
    rw [sgn_low (by omega) hV h]; unfold wrap64; omega

/-- The tail of Signed: a number's own bits, or others. -/
def SignedOut (t : List Bool) (w : World) (e : Ending) (w' : World) : Prop := e = .returned (.tuple #[.int .i64 (rdS t).1, .int .i64 ((rdS t).2.1 : Int), .int .i64 (rdS t).2.2]) ∧ Fr [] w w'
set_option maxHeartbeats 8000000 in
theorem lsigned_any (t : List Bool) (w : World) (ht : t.length ≤ 1048576) :
    Calls Tryz.prog 59 #[.string (txt t)] w fun e w' => e = .returned (.tuple #[.int .i64 (rdS t).1, .int .i64 ((rdS t).2.1 : Int), .int .i64 (rdS t).2.2]) ∧ Fr [] w w' := by
  have HL := lead_at t
  have hk := HL.1
  have hkl := ldn_le 8 t
  have HLt := fore_le hk
  have hbl := bh_le (ldn 8 t)
  by_cases hs : t.length < fore (ldn 8 t) + bh (ldn 8 t)
  · have HR : Hid (rdS t = (0, 0, 16)) := by unfold Hid rdS; rw [if_pos hs]
    have HP : Hid (Calls Tryz.prog 86 #[.string (txt t)] w fun e w' => e = .returned (.tuple #[.int .i64 (-1), .string ⟨#[]⟩]) ∧ Fr [] w w') := rparse_any t w _ _ _ ht HL (.inr ⟨hs, rfl, rfl⟩)
    clear HL hs hkl HLt hbl hk
    go_enter Tryz.func59, Tryz.ntmps59
    go_wp2_with fail
    refine HP.out.mono ?_
    rintro e w1 ⟨rfl, hf⟩
    go_wp2_with fail
    go_ret3
    exact ⟨by rw [HR.out]; rfl, hf⟩
  have HGT := gbits_take hs
  obtain ⟨M, hM⟩ : ∃ M, M = fore (ldn 8 t) + bh (ldn 8 t) := ⟨_, rfl⟩
  obtain ⟨B, hB⟩ : ∃ B, B = (t.drop (fore (ldn 8 t))).take (bh (ldn 8 t)) := ⟨_, rfl⟩
  obtain ⟨n, hn⟩ : ∃ n, n = bh (ldn 8 t) := ⟨_, rfl⟩
  have hBl : B.length = n := by rw [hB, hn]; simp; omega
  have hsB : (txt B).size = n := by rw [txt_size]; exact hBl
  have HP : Hid (Calls Tryz.prog 86 #[.string (txt t)] w fun e w' => e = .returned (.tuple #[.int .i64 (M : Int), .string (txt B)]) ∧ Fr [] w w') := rparse_any t w _ _ _ ht HL (.inl ⟨by omega, by rw [hM], by rw [hB]⟩)
  have HV : Hid (∀ wx, Calls Tryz.prog 58 #[.string (txt B)] wx fun e w' => e = .returned (.int .u64 ((val B : Nat) : Int)) ∧ wx = w') := fun wx => value_any B wx (by omega)
  have hVl : val B < 2 ^ n := by rw [← hBl]; exact val_lt B
  have hn56 : n = 64 ∨ n ≤ 56 := by rw [hn]; exact bh_sort hk
  have HR : Hid (rdS t = if gS (sgn (val B) n) = ldn 8 t then (sgn (val B) n, M, 0) else (0, 0, 10)) := by unfold Hid rdS; rw [if_neg hs, ← hB, ← hM, ← hn]
  rw [← hM, ← hB] at HGT
  have hMl : M ≤ t.length := by omega
  have hM64 : M ≤ 72 := by omega
  have hsi := sgn_in hn56 hVl
  have htw : tw (sgn (val B) n) % 2 ^ n = val B := by rw [hn]; exact tw_sgn hk (by rw [← hn]; exact hVl)
  generalize val B = V at *
  have hxx : (txt t).extract 0 M = txt (gbits (ldn 8 t) V) := by rw [txtH_take, HGT]
  have hszt : (txt t).size = t.length := txt_size t
  have hM1 : (M : Int) ≤ ((txt t).size : Int) := by omega
  have hM2 : M ≤ (txt t).size := by omega
  have h4 := four hn56 hVl
  have HS : Hid (∀ wx, Calls Tryz.prog 50 #[.int .i64 (sgn V n)] wx fun e w' => e = .returned (.string (txt (sbits (sgn V n)))) ∧ Fr [] wx w') := fun wx => S_any _ wx hsi.1 hsi.2
  have dM : decide ((M : Int) < 0) = false := decide_eq_false (by omega)
  by_cases hg : gS (sgn V n) = ldn 8 t
  · have hsg : sbits (sgn V n) = gbits (ldn 8 t) V := by
      unfold sbits gbits
      rw [hg, ← hn]
      congr 1
      rw [← numBits_mod, htw]
    have HU : Hid (∀ wx, Calls Tryz.prog 50 #[.int .i64 (sgn V n)] wx fun e w' => e = .returned (.string (txt (gbits (ldn 8 t) V))) ∧ Fr [] wx w') := fun wx => by
      have := HS.out wx
      rwa [hsg] at this
    have HR2 : Hid (rdS t = (sgn V n, M, 0)) := by rw [Hid, HR.out, if_pos hg]
    clear HS hsg HL hs hkl HLt hbl hk HGT hM hB hBl hVl HR hg hn hn56 hsi htw
    generalize gbits (ldn 8 t) V = G at *
    generalize sgn V n = S at *
    have wI := wI_eq
    go_enter Tryz.func59, Tryz.ntmps59
    rcases h4 with ⟨rfl, rfl, h1⟩ | ⟨rfl, h1⟩ | ⟨h2, h3, h1', h1⟩ | ⟨h2, h3, h1', X, hX, h1⟩
    · have h1I : IntKind.i64.wrap 0 = S := (wI _).trans h1
      have h1J : wrap64 0 = S := h1
      clear wI
      go_wp2_with fail
      refine HP.out.mono ?_
      rintro e w1 ⟨rfl, hf⟩
      have HF1 : Hid (Fr [] w w1) := hf
      clear hf
      go_wp2_with fail
      refine (HV.out _).mono ?_
      rintro e w2 ⟨rfl, rfl⟩
      go_wp2_with fail
      go_region_held3 (fun _ => True) (exact trivial) (first
        | (go_at_call 50; with_reducible refine (HU.out _).mono ?_; rintro e wz ⟨rfl, hfz⟩))
      all_goals (go_wp2)
      all_goals (go_ret3)
      all_goals exact ⟨by rw [HR2.out]; rfl, (HF1.out.drew).trans hfz (by simp)⟩
    · have h1I : IntKind.i64.wrap (V : Int) = S := (wI _).trans h1
      clear wI
      go_wp2_with fail
      refine HP.out.mono ?_
      rintro e w1 ⟨rfl, hf⟩
      have HF1 : Hid (Fr [] w w1) := hf
      clear hf
      go_wp2_with fail
      refine (HV.out _).mono ?_
      rintro e w2 ⟨rfl, rfl⟩
      go_wp2_with fail
      go_region_held3 (fun _ => True) (exact trivial) (first
        | (go_at_call 50; with_reducible refine (HU.out _).mono ?_; rintro e wz ⟨rfl, hfz⟩))
      all_goals (go_wp2)
      all_goals (go_ret3)
      all_goals exact ⟨by rw [HR2.out]; rfl, (HF1.out.drew).trans hfz (by simp)⟩
    · have h1I : IntKind.i64.wrap (V : Int) = S := (wI _).trans h1
      clear wI
      go_wp2_with fail
      refine HP.out.mono ?_
      rintro e w1 ⟨rfl, hf⟩
      have HF1 : Hid (Fr [] w w1) := hf
      clear hf
      go_wp2_with fail
      refine (HV.out _).mono ?_
      rintro e w2 ⟨rfl, rfl⟩
      go_wp2_with fail
      go_region_held3 (fun _ => True) (exact trivial) (first
        | (go_at_call 50; with_reducible refine (HU.out _).mono ?_; rintro e wz ⟨rfl, hfz⟩))
      all_goals (go_wp2)
      all_goals (go_ret3)
      all_goals exact ⟨by rw [HR2.out]; rfl, (HF1.out.drew).trans hfz (by simp)⟩
    · have h1I : IntKind.i64.wrap (X : Int) = S := (wI _).trans h1
      clear wI
      go_wp2_with fail
      refine HP.out.mono ?_
      rintro e w1 ⟨rfl, hf⟩
      have HF1 : Hid (Fr [] w w1) := hf
      clear hf
      go_wp2_with fail
      refine (HV.out _).mono ?_
      rintro e w2 ⟨rfl, rfl⟩
      go_wp2_with fail
      go_region_held3 (fun _ => True) (exact trivial) (first
        | (go_at_call 50; with_reducible refine (HU.out _).mono ?_; rintro e wz ⟨rfl, hfz⟩))
      all_goals (go_wp2)
      all_goals (go_ret3)
      all_goals exact ⟨by rw [HR2.out]; rfl, (HF1.out.drew).trans hfz (by simp)⟩
  · have hne : sbits (sgn V n) ≠ gbits (ldn 8 t) V := by
      intro h
      have := congrArg List.length h
      unfold sbits at this
      rw [gbits_length, gbits_length] at this
      exact hg (size_inj (gS_le _) hk this)
    have hnb := txtH_ne hne
    have HU := HS
    have HR2 : Hid (rdS t = (0, 0, 10)) := by rw [Hid, HR.out, if_neg hg]
    clear HS hne HL hs hkl HLt hbl hk HGT hM hB hBl hVl HR hg hn hn56 hsi htw
    generalize gbits (ldn 8 t) V = G at *
    generalize sbits (sgn V n) = Y at *
    generalize sgn V n = S at *
    have wI := wI_eq
    go_enter Tryz.func59, Tryz.ntmps59
    rcases h4 with ⟨rfl, rfl, h1⟩ | ⟨rfl, h1⟩ | ⟨h2, h3, h1', h1⟩ | ⟨h2, h3, h1', X, hX, h1⟩
    · have h1I : IntKind.i64.wrap 0 = S := (wI _).trans h1
      have h1J : wrap64 0 = S := h1
      clear wI
      go_wp2_with fail
      refine HP.out.mono ?_
      rintro e w1 ⟨rfl, hf⟩
      have HF1 : Hid (Fr [] w w1) := hf
      clear hf
      go_wp2_with fail
      refine (HV.out _).mono ?_
      rintro e w2 ⟨rfl, rfl⟩
      go_wp2_with fail
      go_region_held3 (fun _ => True) (exact trivial) (first
        | (go_at_call 50; with_reducible refine (HU.out _).mono ?_; rintro e wz ⟨rfl, hfz⟩))
      all_goals (go_wp2)
      all_goals (go_ret3)
      all_goals exact ⟨by rw [HR2.out]; rfl, (HF1.out.drew).trans hfz (by simp)⟩
    · have h1I : IntKind.i64.wrap (V : Int) = S := (wI _).trans h1
      clear wI
      go_wp2_with fail
      refine HP.out.mono ?_
      rintro e w1 ⟨rfl, hf⟩
      have HF1 : Hid (Fr [] w w1) := hf
      clear hf
      go_wp2_with fail
      refine (HV.out _).mono ?_
      rintro e w2 ⟨rfl, rfl⟩
      go_wp2_with fail
      go_region_held3 (fun _ => True) (exact trivial) (first
        | (go_at_call 50; with_reducible refine (HU.out _).mono ?_; rintro e wz ⟨rfl, hfz⟩))
      all_goals (go_wp2)
      all_goals (go_ret3)
      all_goals exact ⟨by rw [HR2.out]; rfl, (HF1.out.drew).trans hfz (by simp)⟩
    · have h1I : IntKind.i64.wrap (V : Int) = S := (wI _).trans h1
      clear wI
      go_wp2_with fail
      refine HP.out.mono ?_
      rintro e w1 ⟨rfl, hf⟩
      have HF1 : Hid (Fr [] w w1) := hf
      clear hf
      go_wp2_with fail
      refine (HV.out _).mono ?_
      rintro e w2 ⟨rfl, rfl⟩
      go_wp2_with fail
      go_region_held3 (fun _ => True) (exact trivial) (first
        | (go_at_call 50; with_reducible refine (HU.out _).mono ?_; rintro e wz ⟨rfl, hfz⟩))
      all_goals (go_wp2)
      all_goals (go_ret3)
      all_goals exact ⟨by rw [HR2.out]; rfl, (HF1.out.drew).trans hfz (by simp)⟩
    · have h1I : IntKind.i64.wrap (X : Int) = S := (wI _).trans h1
      clear wI
      go_wp2_with fail
      refine HP.out.mono ?_
      rintro e w1 ⟨rfl, hf⟩
      have HF1 : Hid (Fr [] w w1) := hf
      clear hf
      go_wp2_with fail
      refine (HV.out _).mono ?_
      rintro e w2 ⟨rfl, rfl⟩
      go_wp2_with fail
      go_region_held3 (fun _ => True) (exact trivial) (first
        | (go_at_call 50; with_reducible refine (HU.out _).mono ?_; rintro e wz ⟨rfl, hfz⟩))
      all_goals (go_wp2)
      all_goals (go_ret3)
      all_goals exact ⟨by rw [HR2.out]; rfl, (HF1.out.drew).trans hfz (by simp)⟩
end Go.Proofs.YtkphonepblkcdaaGreatDoor
