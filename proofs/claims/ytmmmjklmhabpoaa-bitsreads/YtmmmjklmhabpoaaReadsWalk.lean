/-
  The walk of tidepolelaw01.BitsReads: it returns true, whatever it is given, and writes nothing that was there.
-/
import Derived.Test.YtmmmjklmhabpoaaArgs
import Derived.BigQuiet
import Derived.Deep.QuietTactic
namespace Go.Proofs.Ytmmmjklmhabpoaa
open Go.RowKit Mem Bits
set_option linter.unusedSimpArgs false
set_option linter.unusedVariables false

/-- A slice of numbers zs, wherever it lies. -/
theorem IsRow.ints {w : World} {a : Option Addr} {len cap : Nat} {zs : List Int} (h : IsRow .i64 w a len cap zs) :
    ∃ b off, (0 < len → a = some ⟨b, off, none⟩) ∧ (∀ j, j < len → w.cell? ⟨b, off + j, none⟩ = some (.int .i64 (zs.getD j 0))) ∧ (∀ j, -9223372036854775808 ≤ zs.getD j 0 ∧ zs.getD j 0 ≤ 9223372036854775807) := by
  rcases h with ⟨rfl, rfl, rfl, rfl⟩ | ⟨x, rfl, hl, hm, hz, hc, hw⟩
  · exact ⟨0, 0, fun h => by omega, fun j h => by omega, fun j => by simp⟩
  · have hbd : ∀ j, -9223372036854775808 ≤ zs.getD j 0 ∧ zs.getD j 0 ≤ 9223372036854775807 := by
      intro j
      rw [List.getD_eq_getElem?_getD]
      by_cases hj : j < zs.length
      · rw [List.getElem?_eq_getElem hj]
        have := hw _ (List.getElem_mem hj)
        simp [Lit.wf, IntKind.min, IntKind.max, IntKind.bits, IntKind.signed] at this
        simp
        omega
      · rw [List.getElem?_eq_none (by omega)]; simp
    by_cases h0 : 0 < len
    · obtain ⟨b, off, spot⟩ := x
      have hc0 := hc 0 (by omega)
      have hspot : spot = none := by simpa [Addr.add] using World.cell?_spot hc0
      subst hspot
      refine ⟨b, off, fun _ => rfl, fun j hj => ?_, hbd⟩
      have e1 : (⟨b, off, none⟩ : Addr).add j = ⟨b, off + j, none⟩ := by unfold Addr.add; split <;> simp_all
      rw [← e1, hc j (by omega)]
    · exact ⟨0, 0, fun h => by omega, fun j h => by omega, hbd⟩

theorem value_str (s : ByteArray) (l : List Bool) (w : World) (hs : s = txt l) (hl : l.length ≤ 64) :
    Calls Try.prog 19 #[.string s] w fun e w' => e = .returned (.int .u64 ((val l : Nat) : Int)) ∧ w' = w := by
  subst hs
  exact (value_any l w hl).mono fun e w' ⟨a, b⟩ => ⟨a, b.symm⟩

theorem txt_take (l : List Bool) (k : Nat) : (txt l).extract 0 k = txt (l.take k) := by
  apply ByteArray.ext
  simp [txt, List.map_take]
theorem txt_drop (l : List Bool) (k : Nat) : (txt l).extract k (txt l).size = txt (l.drop k) := by
  apply ByteArray.ext
  rw [txt_size]
  simp [txt, List.map_drop]
  exact List.take_of_length_le (by simp)

theorem rd_text (L : List Bool) (pos lim k : Nat) (h : pos + k ≤ lim) : ((L.take lim).drop pos).take k = (L.drop pos).take k := by
  rw [List.drop_take, List.take_take, Nat.min_eq_left (by omega)]

set_option maxHeartbeats 2000000 in
theorem reads_walk (a0 : Option Addr) (len0 cap0 : Nat) (z0 : List Int) (a1 : Int) (a2 : Option Addr) (len2 cap2 : Nat) (z2 : List Int) (w : World) (w0 : IsRow .u8 w a0 len0 cap0 z0) (w1 : (Lit.int .i64 a1).wf = true) (w2 : IsRow .i64 w a2 len2 cap2 z2) :
    Calls Try.prog 4 #[.slice a0 len0 cap0, .int .i64 a1, .slice a2 len2 cap2] w fun e w' => e = .returned (.bool true) ∧ Below w.heap.size w w' := by
  obtain ⟨bs, hbl, hsrc⟩ := w0.src
  obtain ⟨b, off, ha2, hcell, hzb⟩ := w2.ints
  have h1b : a1 ≤ 9223372036854775807 := by simp [Lit.wf, IntKind.min, IntKind.max, IntKind.bits, IntKind.signed] at w1; omega
  clear w0 w1 w2
  by_cases h1 : 60 < len0
  · have hd : decide ((60 : Int) < (len0 : Int)) = true := decide_eq_true (by omega)
    go_enter Try.func4, Try.ntmps4
    go_wp2_with fail
    refine (awake_any w).mono ?_
    rintro e w' ⟨rfl, hf⟩
    go_wp2_with fail
    go_ret
    exact ⟨rfl, hf.below (Nat.le_refl _) (by simp)⟩
  have hd1 : decide ((60 : Int) < (len0 : Int)) = false := decide_eq_false (by omega)
  by_cases h2 : 100 < len2
  · have hd : decide ((100 : Int) < (len2 : Int)) = true := decide_eq_true (by omega)
    go_enter Try.func4, Try.ntmps4
    go_wp2_with fail
    refine (awake_any w).mono ?_
    rintro e w' ⟨rfl, hf⟩
    go_wp2_with fail
    go_ret
    exact ⟨rfl, hf.below (Nat.le_refl _) (by simp)⟩
  have hd2 : decide ((100 : Int) < (len2 : Int)) = false := decide_eq_false (by omega)
  by_cases h3 : ¬ (0 ≤ a1 ∧ a1 ≤ 8 * (len0 : Int))
  · have hd : decide (0 ≤ a1 ∧ a1 ≤ 8 * (len0 : Int)) = false := decide_eq_false h3
    go_enter Try.func4, Try.ntmps4
    go_wp2_with (first
      | (go_at_call 18; refine (newReader_no _ _ _ _ _ h1b ?_).mono ?_; (by_cases h : a1 < 0; exact .inl h; exact .inr (nbs_gt (by omega))); rintro e w' ⟨rfl, rfl⟩)
      | (go_at_call 9; refine (lright_any _ _ _ _ _ (by omega)).mono ?_; rintro e w' ⟨rfl, rfl⟩; rw [hd])
      | (go_at_call 7; refine (awake_any _).mono ?_; rintro e w' ⟨rfl, hf⟩))
    go_ret
    exact ⟨rfl, hf.below (Nat.le_refl _) (by simp)⟩
  have h3 : 0 ≤ a1 ∧ a1 ≤ 8 * (len0 : Int) := Classical.not_not.1 h3
  have hd3 : decide (0 ≤ a1 ∧ a1 ≤ 8 * (len0 : Int)) = true := decide_eq_true h3
  obtain ⟨N, rfl⟩ := Int.eq_ofNat_of_zero_le h3.1
  have hN : N ≤ 8 * len0 := by omega
  have hb2 : nbs N ≤ bs.length := by rw [hbl]; exact nbs_le (by omega)
  go_enter Try.func4, Try.ntmps4
  go_wp2_with fail
  refine (newReader_ok _ bs N w hsrc hb2 (by omega)).mono ?_
  rintro e w1 ⟨q, h, rfl, hr1, hq, hh, hf1⟩
  have hs1 := hsrc.kept hf1 (by simp)
  have hrun := run_str hs1
  have hl1 := hr1.lt
  have h256 : ∀ x ∈ bs, x < 256 := by obtain ⟨_, _, _, _, _, _, h⟩ := hsrc; exact h
  clear hs1 hsrc
  go_wp2_with (first
    | (go_at_call 9; refine (lright_any _ _ _ _ _ (by omega)).mono ?_; rintro e w' ⟨rfl, rfl⟩; rw [hd3])
    | (go_at_call 10; refine (text_any bs N _ h256 (by omega) (by omega)).mono ?_; rintro e w' ⟨rfl, rfl⟩))
  have hLl : (unpack bs N).length = N := by simp
  generalize unpack bs N = L at *
  have HL : Hid (L.length = N) := hLl
  have hLb : L.length ≤ 1000 := by omega
  clear hLl hb2 hrun hd1 hd2 hd3 h3 h1b
  go_loopw [9, 10, 11, 55] (fun t s ps c wr => ∃ k pos lim : Nat, ∃ sh : Bool, k ≤ len2 ∧ c = .int .i64 k ∧ t = .string (txt ((L.take lim).drop pos)) ∧ s = .bool sh ∧ ps = .int .i64 (pos : Int) ∧ Rd wr q h L pos lim sh ∧ Fr [] w wr) (fun _ _ _ c _ => len2 - (intOf c).toNat)
  case atStart => exact ⟨0, 0, N, false, by omega, rfl, by rw [List.take_of_length_le (by rw [HL.out]; omega)]; rfl, rfl, rfl, hr1, hf1⟩
  case round =>
    obtain ⟨k, pos, lim, sh, hk, rfl, rfl, rfl, rfl, hr, hfr⟩ := hrel
    by_cases hlt : k < len2
    · have hae := ha2 (by omega)
      subst hae
      have hce := hfr.cell_some (hcell k hlt) (by simp)
      have hzk := hzb k
      generalize z2.getD k 0 = K at hce hzk
      have hpl : pos ≤ lim := hr.2.1
      have hll : lim ≤ L.length := hr.2.2.1
      have hsz : (txt ((L.take lim).drop pos)).size = lim - pos := by rw [txt_size]; simp; omega
      have HSZ : Hid ((txt ((L.take lim).drop pos)).size = lim - pos) := hsz
      have hszb : (txt ((L.take lim).drop pos)).size ≤ 1000 := by omega
      clear hsz
      by_cases hK : K < 1 ∨ 64 < K
      · have hb1 : decide (1 ≤ K) = false ∨ (1 ≤ K ∧ decide (K ≤ 64) = false) := by
          rcases hK with h | h
          · exact .inl (decide_eq_false (by omega))
          · by_cases h' : 1 ≤ K
            · exact .inr ⟨h', decide_eq_false (by omega)⟩
            · exact .inl (decide_eq_false h')
        have hle : ((((lim - pos : Nat) : Int)) != (((txt ((L.take lim).drop pos)).size : Nat) : Int)) = false := by rw [HSZ.out]; simp
        have fin : ∀ wz, Fr [] wr wz → (∃ k_1 pos_1 lim_1 : Nat, ∃ sh_1 : Bool, k_1 ≤ len2 ∧ Value.int IntKind.i64 ((k : Int) + 1) = .int .i64 (k_1 : Int) ∧ Value.string (txt ((L.take lim).drop pos)) = .string (txt ((L.take lim_1).drop pos_1)) ∧ Value.bool sh = .bool sh_1 ∧ Value.int IntKind.i64 (pos : Int) = .int .i64 (pos_1 : Int) ∧ Rd wz q h L pos_1 lim_1 sh_1 ∧ Fr [] w wz) := by
          intro wz hf
          exact ⟨k + 1, pos, lim, sh, by omega, by go_num, rfl, rfl, rfl, hr.kept hf (by simp) (by simp), hfr.trans hf (by simp)⟩
        rcases hb1 with hb1 | ⟨hb1, hb2⟩
        · go_wp2_with (first
            | (go_at_call 20; refine (get_bad _ q _ hK).mono ?_; rintro e w' ⟨rfl, rfl⟩)
            | (go_at_call 21; refine (left_any _ q h L pos lim sh (by exact hr) (by omega)).mono ?_; rintro e w2 ⟨rfl, hf2⟩; have hr2 := hr.kept hf2 (by simp) (by simp))
            | (go_at_call 22; refine (pos_any _ q h L pos lim sh (by exact hr2)).mono ?_; rintro e w' ⟨rfl, rfl⟩)
            | (go_at_call 23; refine (short_any _ q h L pos lim sh (by exact hr2)).mono ?_; rintro e w' ⟨rfl, rfl⟩))
          go_roundw
          case rel => exact fin _ hf2
          case measure => simp [intOf]; omega
        · go_wp2_with (first
            | (go_at_call 20; refine (get_bad _ q _ hK).mono ?_; rintro e w' ⟨rfl, rfl⟩)
            | (go_at_call 21; refine (left_any _ q h L pos lim sh (by exact hr) (by omega)).mono ?_; rintro e w2 ⟨rfl, hf2⟩; have hr2 := hr.kept hf2 (by simp) (by simp))
            | (go_at_call 22; refine (pos_any _ q h L pos lim sh (by exact hr2)).mono ?_; rintro e w' ⟨rfl, rfl⟩)
            | (go_at_call 23; refine (short_any _ q h L pos lim sh (by exact hr2)).mono ?_; rintro e w' ⟨rfl, rfl⟩))
          go_roundw
          case rel => exact fin _ hf2
          case measure => simp [intOf]; omega
      · obtain ⟨n, hn⟩ := Int.eq_ofNat_of_zero_le (show 0 ≤ K by omega)
        subst hn
        have hb1 : decide ((1 : Int) ≤ (n : Int)) = true := decide_eq_true (by omega)
        have hb2 : decide ((n : Int) ≤ (64 : Int)) = true := decide_eq_true (by omega)
        by_cases hs : lim - pos < n
        · have hd : (txt ((L.take lim).drop pos)).size < n := by rw [HSZ.out]; omega
          go_wp2_with (first
            | (go_at_call 20; refine (get_short _ q h L pos lim sh n (by exact hr) (by omega) (by omega) (by omega) hs).mono ?_; rintro e w2 ⟨rfl, hr2, hf2⟩)
            | (go_at_call 21; refine (left_any _ q h L pos pos true (by exact hr2) (by omega)).mono ?_; rintro e w3 ⟨rfl, hf3⟩; have hr3 := hr2.kept hf3 (by simp) (by simp))
            | (go_at_call 22; refine (pos_any _ q h L pos pos true (by exact hr3)).mono ?_; rintro e w' ⟨rfl, rfl⟩)
            | (go_at_call 23; refine (short_any _ q h L pos pos true (by exact hr3)).mono ?_; rintro e w' ⟨rfl, rfl⟩))
          go_roundw
          case rel =>
            have hf4 : Fr [] w w3 := (hfr.trans hf2 (by simp; omega)).trans hf3 (by simp)
            exact ⟨k + 1, pos, pos, true, by omega, by go_num, by rw [List.drop_eq_nil_of_le (by simp; omega)]; rfl, rfl, rfl, hr3, hf4⟩
          case measure => simp [intOf]; omega
        · have hd : n ≤ (txt ((L.take lim).drop pos)).size := by rw [HSZ.out]; omega
          have HE : Hid ((txt ((L.take lim).drop pos)).extract 0 n = txt ((L.drop pos).take n)) := by show _ = _; rw [txt_take, rd_text _ _ _ _ (by omega)]
          have HE2 : Hid ((txt ((L.take lim).drop pos)).extract n (txt ((L.take lim).drop pos)).size = txt ((L.take lim).drop (pos + n))) := by show _ = _; rw [txt_drop, List.drop_drop]
          have hsz2 : Hid ((txt ((L.take lim).drop (pos + n))).size = lim - (pos + n)) := by show _ = _; rw [txt_size]; simp; omega
          have hlen : ((L.drop pos).take n).length ≤ 64 := by simp; omega
          go_wp2_with fail
          go_quiet ((go_at_call 19; exact Calls.quiet_of_same (value_str _ ((L.drop pos).take n) _ HE.out hlen)))
          go_wp2_with fail
          rw [HE2.out]
          have hf2 : Fr [] wr (wr.drewN nq) := (Fr.refl _ _).drewN _
          have hr2 := hr.kept hf2 (by simp) (by simp)
          generalize wr.drewN nq = wq at *
          refine (get_ok wq q h L pos lim sh n hr2 (by omega) (by omega) (by omega) (by omega)).mono ?_
          rintro e w3 ⟨rfl, hr3, hf3⟩
          have hle : ((((lim - (pos + n) : Nat) : Int)) != (((txt ((L.take lim).drop (pos + n))).size : Nat) : Int)) = false := by rw [hsz2.out]; simp
          have hnn : (((pos + n : Nat) : Int) != (pos : Int) + (n : Int)) = false := by simp
          go_wp2_with (first
            | (go_at_call 21; refine (left_any _ q h L (pos + n) lim sh (by exact hr3) (by omega)).mono ?_; rintro e w4 ⟨rfl, hf4⟩; have hr4 := hr3.kept hf4 (by simp) (by simp))
            | (go_at_call 22; refine (pos_any _ q h L (pos + n) lim sh (by exact hr4)).mono ?_; rintro e w' ⟨rfl, rfl⟩)
            | (go_at_call 23; refine (short_any _ q h L (pos + n) lim sh (by exact hr4)).mono ?_; rintro e w' ⟨rfl, rfl⟩))
          go_roundw
          case rel =>
            have hf5 : Fr [] w w4 := ((hfr.trans hf2 (by simp)).trans hf3 (by simp; omega)).trans hf4 (by simp)
            exact ⟨k + 1, pos + n, lim, sh, by omega, by go_num, rfl, rfl, by go_num, hr4, hf5⟩
          case measure => simp [intOf]; omega
    · go_wp2_with fail
      refine (awake_any wr).mono ?_
      rintro e w2 ⟨rfl, hf2⟩
      go_wp2_with fail
      go_ret
      exact ⟨rfl, (hfr.trans hf2 (by simp)).below (Nat.le_refl _) (by simp)⟩
end Go.Proofs.Ytmmmjklmhabpoaa
