/-
  Package hist: NaN, Threshold, together.
-/
import Derived.Test.YtoaibabkkphlaaaHists
import Derived.Laws.BitsAllLaws
namespace Go.Proofs.Ytoaibabkkphlaaa
open Go.RowKit Mem Spans
set_option linter.unusedSimpArgs false
set_option linter.unusedVariables false
set_option maxRecDepth 100000

theorem andNot_top (v : Int) (hv : inu v) : bits .andNot .u64 v 9223372036854775808 = v % 9223372036854775808 := by
  unfold inu at hv
  rw [u64_andNot v 9223372036854775808 hv.1 hv.2 (by omega) (by omega)]
  rw [show (18446744073709551615 - (9223372036854775808 : Int).toNat) = 2 ^ 63 - 1 from by decide, Nat.and_two_pow_sub_one_eq_mod]
  rw [show (2 ^ 63 : Nat) = 9223372036854775808 from by decide]
  omega

set_option maxHeartbeats 400000 in
theorem nan_any (v : Int) (w : World) (hv : inu v) :
    Calls Try.prog 101 #[.int .u64 v] w fun e w' => e = .returned (.bool (nan v)) ∧ w = w' := by
  go_enter Try.func101, Try.ntmps101
  have e := andNot_top v hv
  go_wp2
  go_ret
  exact ⟨rfl, rfl⟩
theorem threshold_any (v : Int) (w : World) :
    Calls Try.prog 49 #[.int .u64 v] w fun e w' => e = .returned (.bool (decide (v < 9218868437227405312))) ∧ w = w' := by
  go_enter Try.func49, Try.ntmps49
  go_wp2
  go_ret
  exact ⟨rfl, rfl⟩

set_option maxHeartbeats 2000000 in
theorem together_any (v u : Value) (l : List Sp) (d : List Int) (w : World) (h : SSrc w v l) (h2 : ISrc w u d) :
    Calls Try.prog 90 #[v, u] w fun e w' => ∃ x, e = .returned (.tuple #[x, .int .i64 (sde l d)]) ∧ SOwn 141 w.heap.size w' x (sdl l d) ∧ Fr [] w w' := by
  have HSR : Hid (SSrc w v l) := h
  have HIR : Hid (ISrc w u d) := h2
  obtain ⟨ao, cap, rfl, hcap, hmax, _⟩ := h
  obtain ⟨bo, bcap, rfl, hbcap, hbmax, _⟩ := h2
  go_enter Try.func90, Try.ntmps90
  go_wp2_with fail
  refine (check_any _ l _ HSR.out).mono ?_
  rintro e w1 ⟨rfl, hf1⟩
  have HF1 : Hid (Fr [] w w1) := hf1
  clear hf1
  by_cases hk : chk l = 0
  · rw [hk]
    go_wp2_with fail
    refine (count_any _ l _ (HSR.out.kept HF1.out)).mono ?_
    rintro e w2 ⟨rfl, hf2⟩
    have HF2 : Hid (Fr [] w w2) := HF1.out.trans hf2 (by simp)
    rw [ctn_pls l hk]
    clear hf2 HF1
    by_cases hd : d.length = (pls l).length
    · have HD : Hid (d.length = (pls l).length) := hd
      have hdl : (d.length : Int) = ((pls l).length : Int) := by omega
      rw [← hdl]
      clear hd hdl
      go_wp2_with fail
      refine (absolute_any _ d _ (HIR.out.kept HF2.out) (by have := HD.out; have := pls_le l; omega)).mono ?_
      rintro e w3 ⟨x, rfl, hx, hf3⟩
      have HF3 : Hid (Fr [] w w3) := HF2.out.trans hf3 (by simp)
      have HX : Hid (NOwn 2 w.heap.size w3 x (abv d)) := hx.mono HF2.out.size
      clear hf3 HF2 hx
      have hrest : in64 0 := by unfold in64; omega
      by_cases ha : abe d = 0
      · rw [ha]
        have HZ : Hid (sde l d = if nng (abv d) = true then 0 else 22) := by unfold Hid sde; rw [if_pos hk, if_pos HD.out, if_pos ha]
        have HAB : Hid (∀ wx, Fr [] w3 wx → ISrc wx x (abv d)) := fun wx hx => (HX.out.src (abv_in d)).kept hx
        obtain ⟨xo, xcap, hxv, hxc, hxm, _, xb, xoff, hxa, hxcell⟩ := HAB.out w3 (Fr.refl _ _)
        have HC : Hid (∀ j s, (abv d)[j]? = some s → w3.cell? ⟨xb, xoff + j, none⟩ = some (.int .i64 s)) := hxcell
        have HA : Hid (0 < (abv d).length → xo = some ⟨xb, xoff, none⟩) := hxa
        subst hxv
        clear hxcell hxa hk ha HX
        have hxm2 : (abv d).length ≤ 9223372036854775807 := by unfold maxLen at hxm; omega
        generalize hM : (abv d).length = M at *
        have HM : Hid ((abv d).length = M) := hM
        clear hM
        go_wp2
        go_loopw [31] (fun i wr => ∃ (k : Nat), k ≤ M ∧ i = .int .i64 (k : Int) ∧ nng ((abv d).take k) = true ∧ wr = w3) (fun i _ => M - (intOf i).toNat)
        case atStart => exact ⟨0, by omega, rfl, by simp [nng], rfl⟩
        case round =>
          obtain ⟨k, hk, rfl, hn, rfl⟩ := hrel
          have HN : Hid (nng ((abv d).take k) = true) := hn
          clear hn
          by_cases hlt : k < M
          · obtain rfl := HA.out (by omega)
            obtain ⟨s, hs⟩ := at_lt (l := abv d) (k := k) (by have := HM.out; omega)
            have c0 := HC.out k s hs
            have HS : Hid ((abv d)[k]? = some s) := hs
            clear hs
            by_cases h0 : s < 0
            · have HE : Hid (sde l d = 22 ∧ sdl l d = []) := by
                have e : sde l d = 22 := by
                  rw [HZ.out, if_neg]
                  intro h
                  have := nng_iff.1 h s (List.mem_of_getElem? HS.out)
                  omega
                refine ⟨e, ?_⟩
                unfold sdl; rw [if_neg (by omega)]
              go_wp2
              go_ret2
              exact ⟨_, by rw [HE.out.1]; rfl, .inl ⟨HE.out.2, rfl⟩, HF3.out⟩
            · have HN2 : Hid (nng ((abv d).take (k + 1)) = true) := by
                rw [Hid, take_at HS.out]
                have := HN.out
                simp only [nng, List.all_append, List.all_cons, List.all_nil, Bool.and_eq_true, Bool.and_true] at this ⊢
                exact ⟨this, decide_eq_true (by omega)⟩
              go_wp2
              go_roundw
              case rel => exact ⟨k + 1, by omega, by go_num, HN2.out, trivial⟩
              case measure => simp [intOf]; omega
          · have HN2 : Hid (nng (abv d) = true) := by
              have := HN.out
              rw [List.take_of_length_le (by have := HM.out; omega)] at this
              exact this
            have HE : Hid (sde l d = 0) := by rw [Hid, HZ.out, if_pos HN2.out]
            go_wp2_with fail
            refine (zip_any _ _ l (abv d) _ (HSR.out.kept HF3.out) (HAB.out _ (Fr.refl _ _))).mono ?_
            rintro e w4 ⟨y, rfl, hy, hf4⟩
            have HF4 : Hid (Fr [] w w4) := HF3.out.trans hf4 (by simp)
            have HY : Hid (SOwn 141 w.heap.size w4 y (zpl l (abv d))) := hy.mono HF3.out.size
            clear hf4 hy
            go_wp2
            go_ret2
            exact ⟨_, by rw [HE.out, (zpl_sdl HE.out).1]; rfl, by rw [← (zpl_sdl HE.out).2]; exact HY.out, HF4.out⟩
      · have ha2 : abe d = 28 := (abe_cases d).resolve_left ha
        have HE : Hid (sde l d = 28 ∧ sdl l d = []) := by
          have e : sde l d = 28 := by unfold sde; rw [if_pos hk, if_pos HD.out, if_neg ha]
          refine ⟨e, ?_⟩
          unfold sdl; rw [if_neg (by omega)]
        rw [ha2]
        clear ha ha2 hk
        go_wp2
        go_ret2
        exact ⟨_, by rw [HE.out.1]; rfl, .inl ⟨HE.out.2, rfl⟩, HF3.out⟩
    · have HE : Hid (sde l d = 23 ∧ sdl l d = []) := by
        have e : sde l d = 23 := by unfold sde; rw [if_pos hk, if_neg hd]
        refine ⟨e, ?_⟩
        unfold sdl; rw [if_neg (by omega)]
      have hdn : ¬ (d.length : Int) = ((pls l).length : Int) := by omega
      clear hd hk
      go_wp2
      go_ret2
      exact ⟨_, by rw [HE.out.1]; rfl, .inl ⟨HE.out.2, rfl⟩, HF2.out⟩
  · have HE : Hid (sde l d = chk l ∧ sdl l d = []) := by
      have e : sde l d = chk l := by unfold sde; rw [if_neg hk]
      refine ⟨e, ?_⟩
      unfold sdl; rw [if_neg (by rw [e]; exact hk)]
    go_wp2
    go_ret2
    exact ⟨_, by rw [HE.out.1]; rfl, .inl ⟨HE.out.2, rfl⟩, HF1.out⟩
end Go.Proofs.Ytoaibabkkphlaaa
