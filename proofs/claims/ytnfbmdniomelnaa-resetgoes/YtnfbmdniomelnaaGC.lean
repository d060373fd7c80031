/-
  Hists, HMem, HAdds, HSides, HMake, HMade, HCanon, HSpread, HOver.
-/
import Derived.Test.YtnfbmdniomelnaaGB
import Derived.Laws.BitsAllLaws
import Derived.Laws.ResultCell
import Derived.Deep.DeepCutAuto
import Derived.Deep.RegionHeld3
import Derived.Lib.SliceRun
/-
  Histograms of whole counts: what is right, reckoned; how they lie in memory.
-/
namespace Go.Proofs.Ytnfbmdniomelnaa
open Go.RowKit Mem Spans
set_option linter.unusedSimpArgs false
set_option linter.unusedVariables false
set_option maxRecDepth 100000

/-- A histogram: its five numbers, both sides' spans and differences. -/
structure Hs where
  s : Int
  z : Int
  zc : Int
  c : Int
  sm : Int
  P : List Sp
  N : List Sp
  pd : List Int
  nd : List Int
def inu (z : Int) : Prop := 0 ≤ z ∧ z < 18446744073709551616
/-- A histogram as a value. -/
def HSrc (w : World) (v : Value) (h : Hs) : Prop :=
  ∃ vp vn up un, v = .agg #[.int .i64 h.s, .int .u64 h.z, .int .u64 h.zc, .int .u64 h.c, .int .u64 h.sm, vp, vn, up, un] ∧ in64 h.s ∧ (inu h.z ∧ inu h.zc ∧ inu h.c ∧ inu h.sm) ∧
    SSrc w vp h.P ∧ SSrc w vn h.N ∧ ISrc w up h.pd ∧ ISrc w un h.nd
theorem HSrc.kept {w w' : World} {v : Value} {h : Hs} (k : HSrc w v h) (f : Fr [] w w') : HSrc w' v h := by
  obtain ⟨a, b, c, d, h1, h2, h3, h4, h5, h6, h7⟩ := k
  exact ⟨a, b, c, d, h1, h2, h3, h4.kept f, h5.kept f, h6.kept f, h7.kept f⟩

theorem HSrc.opens {w : World} {v : Value} {h : Hs} (k : HSrc w v h) : ∃ po pc no nc qo qc ro rc, v = .agg #[.int .i64 h.s, .int .u64 h.z, .int .u64 h.zc, .int .u64 h.c, .int .u64 h.sm, .slice po h.P.length pc, .slice no h.N.length nc, .slice qo h.pd.length qc, .slice ro h.nd.length rc] ∧
    (in64 h.s ∧ inu h.z ∧ inu h.zc ∧ inu h.c ∧ inu h.sm) ∧ (SSrc w (.slice po h.P.length pc) h.P ∧ SSrc w (.slice no h.N.length nc) h.N ∧ ISrc w (.slice qo h.pd.length qc) h.pd ∧ ISrc w (.slice ro h.nd.length rc) h.nd) ∧ (h.P.length ≤ pc ∧ pc ≤ maxLen) ∧ (h.N.length ≤ nc ∧ nc ≤ maxLen) ∧ (h.pd.length ≤ qc ∧ qc ≤ maxLen) ∧ (h.nd.length ≤ rc ∧ rc ≤ maxLen) := by
  obtain ⟨a, b, c, d, rfl, h2, h3, h4, h5, h6, h7⟩ := k
  have k4 := h4
  have k5 := h5
  have k6 := h6
  have k7 := h7
  obtain ⟨po, pc, rfl, x1, y1, _⟩ := h4
  obtain ⟨no, nc, rfl, x2, y2, _⟩ := h5
  obtain ⟨qo, qc, rfl, x3, y3, _⟩ := h6
  obtain ⟨ro, rc, rfl, x4, y4, _⟩ := h7
  exact ⟨po, pc, no, nc, qo, qc, ro, rc, rfl, ⟨h2, h3⟩, ⟨k4, k5, k6, k7⟩, ⟨x1, y1⟩, ⟨x2, y2⟩, ⟨x3, y3⟩, ⟨x4, y4⟩⟩
/-- A cell of the block that was made last, later. -/
theorem blk {w wx : World} {cs : Array Value} {t : TypeId} (f : Fr [] (w.alloc (.cells cs t)) wx) (i : Nat) {v : Value} (h : cs[i]? = some v) : wx.cell? ⟨w.heap.size, i, none⟩ = some v :=
  f.cell_some (by rw [World.cell?_alloc_at _ _ _ _ rfl]; exact h) (by simp)
/-- No number: by its bits. -/
def nan (v : Int) : Bool := decide (9218868437227405312 < v % 9223372036854775808)
/-- No count is below 0. -/
def nng (l : List Int) : Bool := l.all fun n => decide (0 ≤ n)
/-- A side's error; its places with their counts. -/
def sde (l : List Sp) (d : List Int) : Int :=
  if chk l = 0 then (if d.length = (pls l).length then (if abe d = 0 then (if nng (abv d) = true then 0 else 22) else 28) else 23) else chk l
def sdl (l : List Sp) (d : List Int) : List Sp := if sde l d = 0 then (pls l).zip (abv d) else []
/-- What is left of a number, when all counts are taken from it. -/
def lft : Int → List Int → Option Int
  | a, [] => some a
  | a, n :: r => if n ≤ a then lft (a - n) r else none
def fts (zc c sm : Int) (p n : List Int) : Bool :=
  decide (zc ≤ c) && (match lft (c - zc) (p ++ n) with | some a => decide (a = 0) || nan sm | none => false)
/-- Schema and threshold. -/
def hde (s z : Int) : Int := if s < -4 ∨ 8 < s then 21 else if z < 9218868437227405312 then 0 else 11
/-- Check's error. -/
def che (h : Hs) : Int :=
  if hde h.s h.z = 0 then (if sde h.P h.pd = 0 then (if sde h.N h.nd = 0 then (if fts h.zc h.c h.sm (abv h.pd) (abv h.nd) = true then 0 else 22) else sde h.N h.nd) else sde h.P h.pd) else hde h.s h.z
def sdp (h : Hs) : List Sp := if che h = 0 then sdl h.P h.pd else []
def sdn (h : Hs) : List Sp := if che h = 0 then sdl h.N h.nd else []

theorem abe_cases (l : List Int) : abe l = 0 ∨ abe l = 28 := by unfold abe; split <;> simp
theorem abe_zero {l : List Int} : abe l = 0 ↔ ∃ o, absl 0 l = some o := by unfold abe; cases absl 0 l <;> simp
theorem abv_length {l : List Int} (h : abe l = 0) : (abv l).length = l.length := by
  obtain ⟨o, h1⟩ := abe_zero.1 h
  unfold abv
  rw [h1]
  exact (absl_in h1).1
theorem nng_iff {l : List Int} : nng l = true ↔ ∀ n ∈ l, 0 ≤ n := by simp [nng, List.all_eq_true]
theorem sde_zero {l : List Sp} {d : List Int} : sde l d = 0 ↔ chk l = 0 ∧ d.length = (pls l).length ∧ abe d = 0 ∧ nng (abv d) = true := by
  unfold sde
  constructor
  · intro h
    split at h
    · rename_i h1
      split at h
      · rename_i h2
        split at h
        · rename_i h3
          split at h
          · rename_i h4; exact ⟨h1, h2, h3, h4⟩
          · cases h
        · cases h
      · cases h
    · rename_i h1; exact absurd h h1
  · rintro ⟨h1, h2, h3, h4⟩
    rw [if_pos h1, if_pos h2, if_pos h3, if_pos h4]
theorem sdl_zip {l : List Sp} {d : List Int} (h : sde l d = 0) : sdl l d = (pls l).zip (abv d) ∧ fsts (sdl l d) = pls l ∧ snds (sdl l d) = abv d := by
  have hz := sde_zero.1 h
  have hl : (pls l).length = (abv d).length := by rw [abv_length hz.2.2.1]; exact hz.2.1.symm
  have e : sdl l d = (pls l).zip (abv d) := by unfold sdl; rw [if_pos h]
  refine ⟨e, ?_, ?_⟩
  · rw [e]; unfold fsts; exact List.map_fst_zip (by omega)
  · rw [e]; unfold snds; exact List.map_snd_zip (by omega)
theorem pls_in64 {l : List Sp} : ∀ z ∈ pls l, in64 z := by
  intro z hz
  unfold pls at hz
  split at hz
  · rename_i h
    have := rises_mem (ok_rising (chk_zero.1 h).2) z hz
    unfold in64; omega
  · simp at hz
theorem sdl_in (l : List Sp) (d : List Int) : ∀ x ∈ sdl l d, in64 x.1 ∧ in64 x.2 := by
  intro x hx
  by_cases h : sde l d = 0
  · obtain ⟨h1, h2, h3⟩ := sdl_zip h
    refine ⟨pls_in64 (l := l) x.1 (by rw [← h2]; exact List.mem_map.2 ⟨x, hx, rfl⟩), abv_in d x.2 (by rw [← h3]; exact List.mem_map.2 ⟨x, hx, rfl⟩)⟩
  · unfold sdl at hx; rw [if_neg h] at hx; simp at hx
theorem sdl_le (l : List Sp) (d : List Int) : (sdl l d).length ≤ 4096 := by
  by_cases h : sde l d = 0
  · have h2 := congrArg List.length (sdl_zip h).2.1
    rw [fsts_length] at h2
    rw [h2]; exact pls_le l
  · unfold sdl; rw [if_neg h]; simp
theorem che_zero {h : Hs} : che h = 0 ↔ hde h.s h.z = 0 ∧ sde h.P h.pd = 0 ∧ sde h.N h.nd = 0 ∧ fts h.zc h.c h.sm (abv h.pd) (abv h.nd) = true := by
  unfold che
  constructor
  · intro k
    split at k
    · rename_i h1
      split at k
      · rename_i h2
        split at k
        · rename_i h3
          split at k
          · rename_i h4; exact ⟨h1, h2, h3, h4⟩
          · cases k
        · rename_i h3; exact absurd k h3
      · rename_i h2; exact absurd k h2
    · rename_i h1; exact absurd k h1
  · rintro ⟨h1, h2, h3, h4⟩
    rw [if_pos h1, if_pos h2, if_pos h3, if_pos h4]
theorem sdp_in (h : Hs) : ∀ x ∈ sdp h, in64 x.1 ∧ in64 x.2 := by
  intro x hx; unfold sdp at hx; split at hx
  · exact sdl_in _ _ x hx
  · simp at hx
theorem sdn_in (h : Hs) : ∀ x ∈ sdn h, in64 x.1 ∧ in64 x.2 := by
  intro x hx; unfold sdn at hx; split at hx
  · exact sdl_in _ _ x hx
  · simp at hx
theorem sdp_le (h : Hs) : (sdp h).length ≤ 4096 := by unfold sdp; split; exact sdl_le _ _; simp
theorem sdn_le (h : Hs) : (sdn h).length ≤ 4096 := by unfold sdn; split; exact sdl_le _ _; simp

theorem zpl_sdl {l : List Sp} {d : List Int} (h : sde l d = 0) : zpe l (abv d) = 0 ∧ zpl l (abv d) = sdl l d := by
  have hz := sde_zero.1 h
  have e : zpe l (abv d) = 0 := by unfold zpe; rw [if_pos hz.1, if_pos (by rw [abv_length hz.2.2.1]; exact hz.2.1)]
  refine ⟨e, ?_⟩
  unfold zpl sdl
  rw [if_pos e, if_pos h]
end Go.Proofs.Ytnfbmdniomelnaa

/-
  Package hist: NaN, Threshold, together.
-/
namespace Go.Proofs.Ytnfbmdniomelnaa
open Go.RowKit Mem Spans
set_option linter.unusedSimpArgs false
set_option linter.unusedVariables false
set_option maxRecDepth 100000

theorem andNot_top (v : Int) (hv : inu v) : bits .andNot .u64 v 9223372036854775808 = v % 9223372036854775808 := by
  unfold inu at hv
  rw [u64_andNot v 9223372036854775808 hv.1 hv.2 (by omega) (by omega)]
  rw [show (18446744073709551615 - (9223372036854775808 : Int).toNat) = 2 ^ 63 - 1 from by decide, Nat.and_two_pow_sub_one_eq_mod]
  rw [show (2 ^ 63 : Nat) = 9223372036854775808 from by decide]
  omega

set_option maxHeartbeats 400000 in
theorem nan_any (v : Int) (w : World) (hv : inu v) :
    Calls Try.prog 68 #[.int .u64 v] w fun e w' => e = .returned (.bool (nan v)) ∧ w = w' := by
  go_enter Try.func68, Try.ntmps68
  have e := andNot_top v hv
  go_wp2
  go_ret
  exact ⟨rfl, rfl⟩
theorem threshold_any (v : Int) (w : World) :
    Calls Try.prog 56 #[.int .u64 v] w fun e w' => e = .returned (.bool (decide (v < 9218868437227405312))) ∧ w = w' := by
  go_enter Try.func56, Try.ntmps56
  go_wp2
  go_ret
  exact ⟨rfl, rfl⟩

set_option maxHeartbeats 2000000 in
theorem together_any (v u : Value) (l : List Sp) (d : List Int) (w : World) (h : SSrc w v l) (h2 : ISrc w u d) :
    Calls Try.prog 57 #[v, u] w fun e w' => ∃ x, e = .returned (.tuple #[x, .int .i64 (sde l d)]) ∧ SOwn 113 w.heap.size w' x (sdl l d) ∧ Fr [] w w' := by
  have HSR : Hid (SSrc w v l) := h
  have HIR : Hid (ISrc w u d) := h2
  obtain ⟨ao, cap, rfl, hcap, hmax, _⟩ := h
  obtain ⟨bo, bcap, rfl, hbcap, hbmax, _⟩ := h2
  go_enter Try.func57, Try.ntmps57
  go_wp2_with fail
  refine (check_any _ l _ HSR.out).mono ?_
  rintro e w1 ⟨rfl, hf1⟩
  have HF1 : Hid (Fr [] w w1) := hf1
  clear hf1
  by_cases hk : chk l = 0
  · rw [hk]
    go_wp2_with fail
    refine (count_any _ l _ (HSR.out.kept HF1.out)).mono ?_
    rintro e w2 ⟨rfl, hf2⟩
    have HF2 : Hid (Fr [] w w2) := HF1.out.trans hf2 (by simp)
    rw [ctn_pls l hk]
    clear hf2 HF1
    by_cases hd : d.length = (pls l).length
    · have HD : Hid (d.length = (pls l).length) := hd
      have hdl : (d.length : Int) = ((pls l).length : Int) := by omega
      rw [← hdl]
      clear hd hdl
      go_wp2_with fail
      refine (absolute_any _ d _ (HIR.out.kept HF2.out) (by have := HD.out; have := pls_le l; omega)).mono ?_
      rintro e w3 ⟨x, rfl, hx, hf3⟩
      have HF3 : Hid (Fr [] w w3) := HF2.out.trans hf3 (by simp)
      have HX : Hid (NOwn 2 w.heap.size w3 x (abv d)) := hx.mono HF2.out.size
      clear hf3 HF2 hx
      have hrest : in64 0 := by unfold in64; omega
      by_cases ha : abe d = 0
      · rw [ha]
        have HZ : Hid (sde l d = if nng (abv d) = true then 0 else 22) := by unfold Hid sde; rw [if_pos hk, if_pos HD.out, if_pos ha]
        have HAB : Hid (∀ wx, Fr [] w3 wx → ISrc wx x (abv d)) := fun wx hx => (HX.out.src (abv_in d)).kept hx
        obtain ⟨xo, xcap, hxv, hxc, hxm, _, xb, xoff, hxa, hxcell⟩ := HAB.out w3 (Fr.refl _ _)
        have HC : Hid (∀ j s, (abv d)[j]? = some s → w3.cell? ⟨xb, xoff + j, none⟩ = some (.int .i64 s)) := hxcell
        have HA : Hid (0 < (abv d).length → xo = some ⟨xb, xoff, none⟩) := hxa
        subst hxv
        clear hxcell hxa hk ha HX
        have hxm2 : (abv d).length ≤ 9223372036854775807 := by unfold maxLen at hxm; omega
        generalize hM : (abv d).length = M at *
        have HM : Hid ((abv d).length = M) := hM
        clear hM
        go_wp2
        go_loopw [31] (fun i wr => ∃ (k : Nat), k ≤ M ∧ i = .int .i64 (k : Int) ∧ nng ((abv d).take k) = true ∧ wr = w3) (fun i _ => M - (intOf i).toNat)
        case atStart => exact ⟨0, by omega, rfl, by simp [nng], rfl⟩
        case round =>
          obtain ⟨k, hk, rfl, hn, rfl⟩ := hrel
          have HN : Hid (nng ((abv d).take k) = true) := hn
          clear hn
          by_cases hlt : k < M
          · obtain rfl := HA.out (by omega)
            obtain ⟨s, hs⟩ := at_lt (l := abv d) (k := k) (by have := HM.out; omega)
            have c0 := HC.out k s hs
            have HS : Hid ((abv d)[k]? = some s) := hs
            clear hs
            by_cases h0 : s < 0
            · have HE : Hid (sde l d = 22 ∧ sdl l d = []) := by
                have e : sde l d = 22 := by
                  rw [HZ.out, if_neg]
                  intro h
                  have := nng_iff.1 h s (List.mem_of_getElem? HS.out)
                  omega
                refine ⟨e, ?_⟩
                unfold sdl; rw [if_neg (by omega)]
              go_wp2
              go_ret2
              exact ⟨_, by rw [HE.out.1]; rfl, .inl ⟨HE.out.2, rfl⟩, HF3.out⟩
            · have HN2 : Hid (nng ((abv d).take (k + 1)) = true) := by
                rw [Hid, take_at HS.out]
                have := HN.out
                simp only [nng, List.all_append, List.all_cons, List.all_nil, Bool.and_eq_true, Bool.and_true] at this ⊢
                exact ⟨this, decide_eq_true (by omega)⟩
              go_wp2
              go_roundw
              case rel => exact ⟨k + 1, by omega, by go_num, HN2.out, trivial⟩
              case measure => simp [intOf]; omega
          · have HN2 : Hid (nng (abv d) = true) := by
              have := HN.out
              rw [List.take_of_length_le (by have := HM.out; omega)] at this
              exact this
            have HE : Hid (sde l d = 0) := by rw [Hid, HZ.out, if_pos HN2.out]
            go_wp2_with fail
            refine (zip_any _ _ l (abv d) _ (HSR.out.kept HF3.out) (HAB.out _ (Fr.refl _ _))).mono ?_
            rintro e w4 ⟨y, rfl, hy, hf4⟩
            have HF4 : Hid (Fr [] w w4) := HF3.out.trans hf4 (by simp)
            have HY : Hid (SOwn 113 w.heap.size w4 y (zpl l (abv d))) := hy.mono HF3.out.size
            clear hf4 hy
            go_wp2
            go_ret2
            exact ⟨_, by rw [HE.out, (zpl_sdl HE.out).1]; rfl, by rw [← (zpl_sdl HE.out).2]; exact HY.out, HF4.out⟩
      · have ha2 : abe d = 28 := (abe_cases d).resolve_left ha
        have HE : Hid (sde l d = 28 ∧ sdl l d = []) := by
          have e : sde l d = 28 := by unfold sde; rw [if_pos hk, if_pos HD.out, if_neg ha]
          refine ⟨e, ?_⟩
          unfold sdl; rw [if_neg (by omega)]
        rw [ha2]
        clear ha ha2 hk
        go_wp2
        go_ret2
        exact ⟨_, by rw [HE.out.1]; rfl, .inl ⟨HE.out.2, rfl⟩, HF3.out⟩
    · have HE : Hid (sde l d = 23 ∧ sdl l d = []) := by
        have e : sde l d = 23 := by unfold sde; rw [if_pos hk, if_neg hd]
        refine ⟨e, ?_⟩
        unfold sdl; rw [if_neg (by omega)]
      have hdn : ¬ (d.length : Int) = ((pls l).length : Int) := by omega
      clear hd hk
      go_wp2
      go_ret2
      exact ⟨_, by rw [HE.out.1]; rfl, .inl ⟨HE.out.2, rfl⟩, HF2.out⟩
  · have HE : Hid (sde l d = chk l ∧ sdl l d = []) := by
      have e : sde l d = chk l := by unfold sde; rw [if_neg hk]
      refine ⟨e, ?_⟩
      unfold sdl; rw [if_neg (by rw [e]; exact hk)]
    go_wp2
    go_ret2
    exact ⟨_, by rw [HE.out.1]; rfl, .inl ⟨HE.out.2, rfl⟩, HF1.out⟩
end Go.Proofs.Ytnfbmdniomelnaa

/-
  Package hist: adds.
-/
namespace Go.Proofs.Ytnfbmdniomelnaa
open Go.RowKit Mem Spans
set_option linter.unusedSimpArgs false
set_option linter.unusedVariables false
set_option maxRecDepth 100000

theorem sub_u {a b : Int} (ha : inu a) (hb : 0 ≤ b) (h : b ≤ a) : IntKind.u64.wrap (a - b) = a - b ∧ inu (a - b) := by
  unfold inu at *; rw [IntKind.wrap_u64]; omega
theorem to_u {n : Int} (h0 : 0 ≤ n) (h : in64 n) : IntKind.u64.wrap n = n := by
  unfold in64 at h; rw [IntKind.wrap_u64]; omega
def rst (p n : List Sp) : Nat → List Int
  | 0 => snds p ++ snds n
  | 1 => snds n
  | _ => []
theorem lft_cons (a n : Int) (r : List Int) : lft a (n :: r) = if n ≤ a then lft (a - n) r else none := rfl

/-- Both sides lie in a block, the histogram in the one ahead. -/
def AB (w wr : World) (vp vn : Value) (sm : Int) : Prop :=
  Fr [] w wr ∧ wr.cell? ⟨w.heap.size + 1, 0, none⟩ = some vp ∧ wr.cell? ⟨w.heap.size + 1, 1, none⟩ = some vn ∧ wr.cell? ⟨w.heap.size, 4, none⟩ = some (.int .u64 sm)
theorem AB.kept {w wr wx : World} {vp vn : Value} {sm : Int} (h : AB w wr vp vn sm) (f : Fr [] wr wx) : AB w wx vp vn sm :=
  ⟨h.1.trans f (by simp), f.cell_some h.2.1 (by simp), f.cell_some h.2.2.1 (by simp), f.cell_some h.2.2.2 (by simp)⟩
theorem ab_start (w : World) (cs : Array Value) (t u : TypeId) (vp vn : Value) (sm : Int) (h : cs[4]? = some (.int .u64 sm)) : AB w ((w.alloc (.cells cs t)).alloc (.cells #[vp, vn] u)) vp vn sm := by
  have e : (w.alloc (.cells cs t)).heap.size = w.heap.size + 1 := World.size_alloc _ _
  refine ⟨((Fr.refl [] w).alloc _).alloc _, ?_, ?_, ?_⟩
  · rw [← e]; exact blk (Fr.refl _ _) 0 rfl
  · rw [← e]; exact blk (Fr.refl _ _) 1 rfl
  · exact blk ((Fr.refl [] _).alloc _) 4 h

set_option maxHeartbeats 2000000 in
theorem adds_any (hv vp vn : Value) (h : Hs) (p n : List Sp) (w : World) (hh : HSrc w hv h) (h1 : SSrc w vp p) (h2 : SSrc w vn n) (hp : ∀ x ∈ snds p, 0 ≤ x) (hn : ∀ x ∈ snds n, 0 ≤ x) :
    Calls Try.prog 58 #[hv, vp, vn] w fun e w' => e = .returned (.bool (fts h.zc h.c h.sm (snds p) (snds n))) ∧ Fr [] w w' := by
  obtain ⟨po, pc, no, nc, qo, qc, ro, rc, rfl, ⟨hs, hz, hzc, hc, hsm⟩, _, _, _, _, _⟩ := hh.opens
  clear hh
  obtain ⟨s, z, zc, c, sm, P, N, pd, nd⟩ := h
  simp only at hs hz hzc hc hsm ⊢
  have HU : Hid (inu zc ∧ inu c ∧ inu sm) := ⟨hzc, hc, hsm⟩
  have HP : Hid (SSrc w vp p) := h1
  have HN : Hid (SSrc w vn n) := h2
  have HPN : Hid (∀ x ∈ snds p, 0 ≤ x) := hp
  have HNN : Hid (∀ x ∈ snds n, 0 ≤ x) := hn
  obtain ⟨ao, cap, rfl, hcap, hmax, _⟩ := h1
  obtain ⟨bo, bcap, rfl, hbcap, hbmax, _⟩ := h2
  clear hs hz hzc hc hsm hp hn
  go_enter Try.func58, Try.ntmps58
  by_cases hzc : zc ≤ c
  · have hsub : IntKind.u64.wrap (c - zc) = c - zc := (sub_u HU.out.2.1 HU.out.1.1 hzc).1
    have hsu : Hid (inu (c - zc)) := (sub_u HU.out.2.1 HU.out.1.1 hzc).2
    have HFT : Hid (fts zc c sm (snds p) (snds n) = (match lft (c - zc) (snds p ++ snds n) with | some a => decide (a = 0) || nan sm | none => false)) := by unfold Hid fts; rw [decide_eq_true hzc]; rfl
    go_wp2
    go_loopw [26, 7] (fun i lf wr => ∃ (k : Nat) (a : Int), k ≤ 2 ∧ i = .int .i64 (k : Int) ∧ lf = .int .u64 a ∧ inu a ∧ lft (c - zc) (snds p ++ snds n) = lft a (rst p n k) ∧ AB w wr (.slice ao p.length cap) (.slice bo n.length bcap) sm) (fun i _ _ => 2 - (intOf i).toNat)
    case atStart => exact ⟨0, c - zc, by omega, rfl, rfl, hsu.out, rfl, ab_start w _ _ _ _ _ _ rfl⟩
    case round =>
      obtain ⟨k, a, hk, rfl, rfl, hia, hla, hf⟩ := hrel
      have HIA : Hid (inu a) := hia
      have HLA : Hid (lft (c - zc) (snds p ++ snds n) = lft a (rst p n k)) := hla
      have HF : Hid (AB w wr (.slice ao p.length cap) (.slice bo n.length bcap) sm) := hf
      clear hia hla hf
      by_cases hk2 : k < 2
      · obtain ⟨ko, kl, kcap, hkc, HKS, HKR, HKN⟩ : ∃ ko kl kcap, wr.cell? ⟨w.heap.size + 1, k, none⟩ = some (.slice ko (List.length kl) kcap) ∧ Hid (SSrc w (.slice ko (List.length kl) kcap) kl) ∧ Hid (rst p n k = snds kl ++ rst p n (k + 1)) ∧ Hid (∀ x ∈ snds kl, 0 ≤ x) := by
          obtain rfl | rfl : k = 0 ∨ k = 1 := by omega
          · exact ⟨ao, p, cap, HF.out.2.1, HP.out, rfl, HPN.out⟩
          · exact ⟨bo, n, bcap, HF.out.2.2.1, HN.out, by simp [Hid, rst], HNN.out⟩
        obtain ⟨_, _, hv1, hkcap, hkmax, hk64, kb, koff, hka, hkcell⟩ := HKS.out
        simp only [Value.slice.injEq, true_and] at hv1
        obtain ⟨rfl, rfl⟩ := hv1
        have HKC : Hid (∀ j s, kl[j]? = some s → w.cell? ⟨kb, koff + j * 2, none⟩ = some (.int .i64 s.1) ∧ w.cell? ⟨kb, koff + j * 2 + 1, none⟩ = some (.int .i64 s.2)) := hkcell
        have HKA : Hid (0 < kl.length → ko = some ⟨kb, koff, none⟩) := hka
        have HK6 : Hid (∀ s ∈ kl, in64 s.1 ∧ in64 s.2) := hk64
        have hkm : kl.length ≤ 9223372036854775807 := by unfold maxLen at hkmax; omega
        clear hkcell hka hk64
        have hkz : (k : Int) < 2 := by omega
        go_wp2
        go_loopw [32, 7] (fun i lf wx => ∃ (m : Nat) (b : Int), m ≤ kl.length ∧ i = .int .i64 (m : Int) ∧ lf = .int .u64 b ∧ inu b ∧ lft a (rst p n k) = lft b (snds (kl.drop m) ++ rst p n (k + 1)) ∧ AB w wx (.slice ao p.length cap) (.slice bo n.length bcap) sm) (fun i _ _ => kl.length - (intOf i).toNat)
        case atStart => exact ⟨0, a, by omega, rfl, rfl, HIA.out, by rw [HKR.out]; simp, HF.out⟩
        case round =>
          obtain ⟨m, b, hm, rfl, rfl, hib, hlb, hf⟩ := hrel
          have HIB : Hid (inu b) := hib
          have HLB : Hid (lft a (rst p n k) = lft b (snds (kl.drop m) ++ rst p n (k + 1))) := hlb
          have HF2 : Hid (AB w wr (.slice ao p.length cap) (.slice bo n.length bcap) sm) := hf
          clear hib hlb hf
          by_cases hml : m < kl.length
          · obtain rfl := HKA.out (by omega)
            obtain ⟨x, hx⟩ := at_lt hml
            have c0 : wr.cell? ⟨kb, koff + m * 2, none⟩ = some (.int .i64 x.1) := HF2.out.1.cell_some (HKC.out m x hx).1 (by simp)
            have c1 : wr.cell? ⟨kb, koff + m * 2 + 1, none⟩ = some (.int .i64 x.2) := HF2.out.1.cell_some (HKC.out m x hx).2 (by simp)
            have HX6 := (HK6.out x (List.mem_of_getElem? hx)).2
            have HX0 : 0 ≤ x.2 := HKN.out x.2 (List.mem_map.2 ⟨x, List.mem_of_getElem? hx, rfl⟩)
            have HLB2 : Hid (lft a (rst p n k) = lft b (x.2 :: (snds (kl.drop (m + 1)) ++ rst p n (k + 1)))) := by
              rw [Hid, HLB.out, drop_at hx]; rfl
            clear hx HLB
            obtain ⟨o, q⟩ := x
            simp only at c0 c1 HX6 HX0
            have HF3 : Hid (AB w (wr.alloc (.cells #[.int .i64 o, .int .i64 q] 113)) (.slice ao p.length cap) (.slice bo n.length bcap) sm) := HF2.out.kept ((Fr.refl [] _).alloc _)
            have hq : IntKind.u64.wrap q = q := to_u HX0 HX6
            clear HX6
            by_cases hle : q ≤ b
            · have hs1 : IntKind.u64.wrap (b - q) = b - q := (sub_u HIB.out HX0 hle).1
              have HIB2 : Hid (inu (b - q)) := (sub_u HIB.out HX0 hle).2
              have HLB3 : Hid (lft a (rst p n k) = lft (b - q) (snds (kl.drop (m + 1)) ++ rst p n (k + 1))) := by rw [Hid, HLB2.out, lft_cons, if_pos hle]
              clear HX0
              go_wp2
              go_roundw
              case rel => exact ⟨m + 1, b - q, by omega, by go_num, rfl, HIB2.out, HLB3.out, HF3.out⟩
              case measure => simp [intOf]; omega
            · have HE : Hid (fts zc c sm (snds p) (snds n) = false) := by
                rw [Hid, HFT.out, HLA.out, HLB2.out, lft_cons, if_neg hle]
              have hlt : b < q := by omega
              clear HX0
              go_wp2
              go_ret
              exact ⟨by rw [HE.out]; rfl, HF3.out.1⟩
          · have HLB2 : Hid (lft (c - zc) (snds p ++ snds n) = lft b (rst p n (k + 1))) := by
              rw [Hid, HLA.out, HLB.out, List.drop_eq_nil_of_le (by omega)]; rfl
            go_wp2
            go_roundw
            case rel => exact ⟨k + 1, b, by omega, by go_num, rfl, HIB.out, HLB2.out, HF2.out⟩
            case measure => simp [intOf]; omega
      · obtain rfl : k = 2 := by omega
        have HE : Hid (fts zc c sm (snds p) (snds n) = (decide (a = 0) || nan sm)) := by rw [Hid, HFT.out, HLA.out]; rfl
        have c4 := HF.out.2.2.2
        by_cases ha : a = 0
        · subst ha
          go_wp2
          go_ret
          exact ⟨by rw [HE.out]; rfl, HF.out.1⟩
        · have hb : (a == 0) = false := by simpa using ha
          go_wp2_with fail
          refine (nan_any sm _ HU.out.2.2).mono ?_
          rintro e w3 ⟨rfl, rfl⟩
          go_wp2
          go_ret
          exact ⟨by rw [HE.out, decide_eq_false ha]; rfl, HF.out.1⟩
  · have HE : Hid (fts zc c sm (snds p) (snds n) = false) := by unfold Hid fts; rw [decide_eq_false hzc]; rfl
    have hlt : c < zc := by omega
    go_wp2
    go_ret
    exact ⟨by rw [HE.out]; rfl, (Fr.refl _ _).alloc _⟩
end Go.Proofs.Ytnfbmdniomelnaa

/-
  Package hist: sides, Check, Pairs.
-/
namespace Go.Proofs.Ytnfbmdniomelnaa
open Go.RowKit Mem Spans
set_option linter.unusedSimpArgs false
set_option linter.unusedVariables false
set_option maxRecDepth 100000

/-- A histogram's block. -/
def Nine (w : World) (b : Nat) (cs : Array Value) : Prop := w.heap[b]? = some (.cells cs 26 (0, 0))
theorem Nine.kept {w w' : World} {b : Nat} {cs : Array Value} {S : List Nat} (h : Nine w b cs) (f : Fr S w w') (hb : b ∉ S) : Nine w' b cs := f.heap h hb
theorem Nine.new (w : World) (cs : Array Value) : Nine (w.alloc (.cells cs 26)) w.heap.size cs := heap_alloc_new _ _
theorem Nine.cell {w : World} {b : Nat} {cs : Array Value} (h : Nine w b cs) (i : Nat) {v : Value} (hv : cs[i]? = some v) : w.cell? ⟨b, i, none⟩ = some v := by rw [cell_at h]; exact hv
theorem Nine.lt {w : World} {b : Nat} {cs : Array Value} (h : Nine w b cs) : b < w.heap.size := lt_of_heap h

theorem che_head {h : Hs} (k : hde h.s h.z ≠ 0) : che h = hde h.s h.z := by unfold che; rw [if_neg k]
theorem che_pos {h : Hs} (k : hde h.s h.z = 0) (k2 : sde h.P h.pd ≠ 0) : che h = sde h.P h.pd := by unfold che; rw [if_pos k, if_neg k2]
theorem che_neg {h : Hs} (k : hde h.s h.z = 0) (k2 : sde h.P h.pd = 0) (k3 : sde h.N h.nd ≠ 0) : che h = sde h.N h.nd := by unfold che; rw [if_pos k, if_pos k2, if_neg k3]
theorem che_fts {h : Hs} (k : hde h.s h.z = 0) (k2 : sde h.P h.pd = 0) (k3 : sde h.N h.nd = 0) : che h = if fts h.zc h.c h.sm (abv h.pd) (abv h.nd) = true then 0 else 22 := by unfold che; rw [if_pos k, if_pos k2, if_pos k3]
theorem sd_nil {h : Hs} (k : che h ≠ 0) : sdp h = [] ∧ sdn h = [] := by unfold sdp sdn; rw [if_neg k, if_neg k]; exact ⟨rfl, rfl⟩
theorem snds_sdl {l : List Sp} {d : List Int} (h : sde l d = 0) : snds (sdl l d) = abv d := (sdl_zip h).2.2

set_option maxHeartbeats 4000000 in
theorem sides_any (v : Value) (h : Hs) (w : World) (hh : HSrc w v h) :
    Calls Try.prog 41 #[v] w fun e w' => ∃ x y, e = .returned (.tuple #[x, y, .int .i64 (che h)]) ∧ SOwn 113 w.heap.size w' x (sdp h) ∧ SOwn 113 w.heap.size w' y (sdn h) ∧ Fr [] w w' := by
  have HH : Hid (∀ wx, Fr [] w wx → HSrc wx v h) := fun wx hx => hh.kept hx
  obtain ⟨po, pc, no, nc, qo, qc, ro, rc, rfl, hin, hsr, _, _, _, _⟩ := hh.opens
  have HIN : Hid (in64 h.s ∧ inu h.z ∧ inu h.zc ∧ inu h.c ∧ inu h.sm) := hin
  have HSR : Hid (SSrc w (.slice po h.P.length pc) h.P ∧ SSrc w (.slice no h.N.length nc) h.N ∧ ISrc w (.slice qo h.pd.length qc) h.pd ∧ ISrc w (.slice ro h.nd.length rc) h.nd) := hsr
  clear hh hin hsr
  obtain ⟨s, z, zc, c, sm, P, N, pd, nd⟩ := h
  simp only at HIN HSR ⊢
  go_enter Try.func41, Try.ntmps41
  have HN0 : Hid (Nine (w.alloc (.cells #[.int .i64 s, .int .u64 z, .int .u64 zc, .int .u64 c, .int .u64 sm, .slice po P.length pc, .slice no N.length nc, .slice qo pd.length qc, .slice ro nd.length rc] 26)) w.heap.size #[.int .i64 s, .int .u64 z, .int .u64 zc, .int .u64 c, .int .u64 sm, .slice po P.length pc, .slice no N.length nc, .slice qo pd.length qc, .slice ro nd.length rc]) := Nine.new _ _
  have HF0 : Hid (Fr [] w (w.alloc (.cells #[.int .i64 s, .int .u64 z, .int .u64 zc, .int .u64 c, .int .u64 sm, .slice po P.length pc, .slice no N.length nc, .slice qo pd.length qc, .slice ro nd.length rc] 26))) := (Fr.refl [] w).alloc _
  by_cases h1 : s < -4
  · have HE : Hid (hde s z = 21) := by unfold Hid hde; rw [if_pos (.inl h1)]
    have HC : Hid (che ⟨s, z, zc, c, sm, P, N, pd, nd⟩ = 21) := by rw [Hid, che_head (by simp only [HE.out]; decide)]; exact HE.out
    go_wp2
    go_ret3
    exact ⟨_, _, by rw [HC.out]; rfl, .inl ⟨(sd_nil (by rw [HC.out]; decide)).1, rfl⟩, .inl ⟨(sd_nil (by rw [HC.out]; decide)).2, rfl⟩, HF0.out⟩
  by_cases h2 : 8 < s
  · have HE : Hid (hde s z = 21) := by unfold Hid hde; rw [if_pos (.inr h2)]
    have HC : Hid (che ⟨s, z, zc, c, sm, P, N, pd, nd⟩ = 21) := by rw [Hid, che_head (by simp only [HE.out]; decide)]; exact HE.out
    go_wp2
    go_ret3
    exact ⟨_, _, by rw [HC.out]; rfl, .inl ⟨(sd_nil (by rw [HC.out]; decide)).1, rfl⟩, .inl ⟨(sd_nil (by rw [HC.out]; decide)).2, rfl⟩, HF0.out⟩
  go_wp2_with fail
  refine (threshold_any z _).mono ?_
  rintro e w1 ⟨rfl, rfl⟩
  by_cases hz : z < 9218868437227405312
  · have HE : Hid (hde s z = 0) := by unfold Hid hde; rw [if_neg (by omega), if_pos hz]
    rw [decide_eq_true hz]
    clear hz h1 h2
    go_wp2_with fail
    refine (together_any _ _ P pd _ (HSR.out.1.kept HF0.out) (HSR.out.2.2.1.kept HF0.out)).mono ?_
    rintro e w1 ⟨x, rfl, hx, hf1⟩
    have HF1 : Hid (Fr [] w w1) := HF0.out.trans hf1 (by simp)
    have HX : Hid (SOwn 113 w.heap.size w1 x (sdl P pd)) := hx.mono HF0.out.size
    have HN1 := HN0.out.kept hf1 (by simp)
    have c6 := HN1.cell 6 rfl
    have c8 := HN1.cell 8 rfl
    have HN1h : Hid (Nine w1 w.heap.size _) := HN1
    clear hx hf1 HN1 HN0 HF0
    by_cases hp : sde P pd = 0
    · have HP : Hid (sde P pd = 0) := hp
      rw [hp]
      clear hp
      go_wp2_with fail
      refine (together_any _ _ N nd _ (HSR.out.2.1.kept HF1.out) (HSR.out.2.2.2.kept HF1.out)).mono ?_
      rintro e w2 ⟨y, rfl, hy, hf2⟩
      have HF2 : Hid (Fr [] w w2) := HF1.out.trans hf2 (by simp)
      have HX2 : Hid (SOwn 113 w.heap.size w2 x (sdl P pd)) := HX.out.kept hf2
      have HY : Hid (SOwn 113 w.heap.size w2 y (sdl N nd)) := hy.mono HF1.out.size
      have HN2 := HN1h.out.kept hf2 (by simp)
      have c0 := HN2.cell 0 rfl
      have c1 := HN2.cell 1 rfl
      have c2 := HN2.cell 2 rfl
      have c3 := HN2.cell 3 rfl
      have c4 := HN2.cell 4 rfl
      have c5 := HN2.cell 5 rfl
      have c6 := HN2.cell 6 rfl
      have c7 := HN2.cell 7 rfl
      have c8 := HN2.cell 8 rfl
      clear hy hf2 HN2 HN1h HX HF1
      by_cases hn : sde N nd = 0
      · have HN : Hid (sde N nd = 0) := hn
        rw [hn]
        clear hn
        go_wp2_with fail
        refine (adds_any _ x y ⟨s, z, zc, c, sm, P, N, pd, nd⟩ (sdl P pd) (sdl N nd) w2 (HH.out _ HF2.out) (HX2.out.src (sdl_in P pd)) (HY.out.src (sdl_in N nd)) (by rw [snds_sdl HP.out]; exact nng_iff.1 (sde_zero.1 HP.out).2.2.2) (by rw [snds_sdl HN.out]; exact nng_iff.1 (sde_zero.1 HN.out).2.2.2)).mono ?_
        rintro e w3 ⟨rfl, hf3⟩
        rw [snds_sdl HP.out, snds_sdl HN.out]
        have HF3 : Hid (Fr [] w w3) := HF2.out.trans hf3 (by simp)
        have HX3 : Hid (SOwn 113 w.heap.size w3 x (sdl P pd)) := HX2.out.kept hf3
        have HY3 : Hid (SOwn 113 w.heap.size w3 y (sdl N nd)) := HY.out.kept hf3
        clear hf3 HX2 HY
        by_cases hb : fts zc c sm (abv pd) (abv nd) = true
        · have HC : Hid (che ⟨s, z, zc, c, sm, P, N, pd, nd⟩ = 0) := by rw [Hid, che_fts HE.out HP.out HN.out, if_pos hb]
          have HD : Hid (sdp ⟨s, z, zc, c, sm, P, N, pd, nd⟩ = sdl P pd ∧ sdn ⟨s, z, zc, c, sm, P, N, pd, nd⟩ = sdl N nd) := by unfold Hid sdp sdn; rw [if_pos HC.out, if_pos HC.out]; exact ⟨rfl, rfl⟩
          simp only [hb]
          clear hb
          go_wp2
          go_ret3
          exact ⟨_, _, by rw [HC.out]; rfl, by rw [HD.out.1]; exact HX3.out, by rw [HD.out.2]; exact HY3.out, HF3.out⟩
        · have HC : Hid (che ⟨s, z, zc, c, sm, P, N, pd, nd⟩ = 22) := by rw [Hid, che_fts HE.out HP.out HN.out, if_neg hb]
          have hb2 : fts zc c sm (abv pd) (abv nd) = false := by simpa using hb
          simp only [hb2]
          clear hb hb2
          go_wp2
          go_ret3
          exact ⟨_, _, by rw [HC.out]; rfl, .inl ⟨(sd_nil (by rw [HC.out]; decide)).1, rfl⟩, .inl ⟨(sd_nil (by rw [HC.out]; decide)).2, rfl⟩, HF3.out⟩
      · have HC : Hid (che ⟨s, z, zc, c, sm, P, N, pd, nd⟩ = sde N nd) := che_neg HE.out HP.out hn
        have HCN : Hid (che ⟨s, z, zc, c, sm, P, N, pd, nd⟩ ≠ 0) := by rw [Hid, HC.out]; exact hn
        go_wp2
        go_ret3
        exact ⟨_, _, by rw [HC.out]; rfl, .inl ⟨(sd_nil HCN.out).1, rfl⟩, .inl ⟨(sd_nil HCN.out).2, rfl⟩, HF2.out⟩
    · have HC : Hid (che ⟨s, z, zc, c, sm, P, N, pd, nd⟩ = sde P pd) := che_pos HE.out hp
      have HCN : Hid (che ⟨s, z, zc, c, sm, P, N, pd, nd⟩ ≠ 0) := by rw [Hid, HC.out]; exact hp
      go_wp2
      go_ret3
      exact ⟨_, _, by rw [HC.out]; rfl, .inl ⟨(sd_nil HCN.out).1, rfl⟩, .inl ⟨(sd_nil HCN.out).2, rfl⟩, HF1.out⟩
  · have HE : Hid (hde s z = 11) := by unfold Hid hde; rw [if_neg (by omega), if_neg hz]
    have HC : Hid (che ⟨s, z, zc, c, sm, P, N, pd, nd⟩ = 11) := by rw [Hid, che_head (by simp only [HE.out]; decide)]; exact HE.out
    rw [decide_eq_false hz]
    go_wp2
    go_ret3
    exact ⟨_, _, by rw [HC.out]; rfl, .inl ⟨(sd_nil (by rw [HC.out]; decide)).1, rfl⟩, .inl ⟨(sd_nil (by rw [HC.out]; decide)).2, rfl⟩, HF0.out⟩

set_option maxHeartbeats 1000000 in
theorem hcheck_any (v : Value) (h : Hs) (w : World) (hh : HSrc w v h) :
    Calls Try.prog 21 #[v] w fun e w' => e = .returned (.int .i64 (che h)) ∧ Fr [] w w' := by
  have HH : Hid (∀ wx, Fr [] w wx → HSrc wx v h) := fun wx hx => hh.kept hx
  obtain ⟨po, pc, no, nc, qo, qc, ro, rc, rfl, _⟩ := hh.opens
  clear hh
  go_enter Try.func21, Try.ntmps21
  go_wp2_with fail
  refine (sides_any _ h _ (HH.out _ ((Fr.refl [] w).alloc _))).mono ?_
  rintro e w1 ⟨x, y, rfl, _, _, hf1⟩
  have HF1 : Hid (Fr [] w w1) := ((Fr.refl [] w).alloc _).trans hf1 (by simp)
  clear hf1
  go_wp2
  go_ret
  exact ⟨rfl, HF1.out⟩

/-- Pairs' answers. -/
def pre (h : Hs) (d : Int) : Int := if d = 0 ∨ d = 1 then che h else 11
def prl (h : Hs) (d : Int) : List Sp := if d = 0 then sdp h else if d = 1 then sdn h else []
set_option maxHeartbeats 1000000 in
theorem hpairs_any (v : Value) (h : Hs) (d : Int) (w : World) (hh : HSrc w v h) :
    Calls Try.prog 47 #[v, .int .i64 d] w fun e w' => ∃ x, e = .returned (.tuple #[x, .int .i64 (pre h d)]) ∧ SOwn 113 w.heap.size w' x (prl h d) ∧ Fr [] w w' := by
  have HH : Hid (∀ wx, Fr [] w wx → HSrc wx v h) := fun wx hx => hh.kept hx
  obtain ⟨po, pc, no, nc, qo, qc, ro, rc, rfl, _⟩ := hh.opens
  clear hh
  go_enter Try.func47, Try.ntmps47
  by_cases h0 : d = 0
  · have HP : Hid (pre h d = che h ∧ prl h d = sdp h) := by unfold Hid pre prl; rw [if_pos (.inl h0), if_pos h0]; exact ⟨rfl, rfl⟩
    subst h0
    go_wp2_with fail
    refine (sides_any _ h _ (HH.out _ ((Fr.refl [] w).alloc _))).mono ?_
    rintro e w1 ⟨x, y, rfl, hx, hy, hf1⟩
    have HF1 : Hid (Fr [] w w1) := ((Fr.refl [] w).alloc _).trans hf1 (by simp)
    have HX : Hid (SOwn 113 w.heap.size w1 x (sdp h)) := hx.mono (by simp)
    clear hf1 hx hy
    go_wp2
    go_ret2
    exact ⟨_, by rw [HP.out.1]; rfl, by rw [HP.out.2]; exact HX.out, HF1.out⟩
  by_cases h1 : d = 1
  · have HP : Hid (pre h d = che h ∧ prl h d = sdn h) := by unfold Hid pre prl; rw [if_pos (.inr h1), if_neg h0, if_pos h1]; exact ⟨rfl, rfl⟩
    subst h1
    go_wp2_with fail
    refine (sides_any _ h _ (HH.out _ ((Fr.refl [] w).alloc _))).mono ?_
    rintro e w1 ⟨x, y, rfl, hx, hy, hf1⟩
    have HF1 : Hid (Fr [] w w1) := ((Fr.refl [] w).alloc _).trans hf1 (by simp)
    have HY : Hid (SOwn 113 w.heap.size w1 y (sdn h)) := hy.mono (by simp)
    clear hf1 hx hy
    go_wp2
    go_ret2
    exact ⟨_, by rw [HP.out.1]; rfl, by rw [HP.out.2]; exact HY.out, HF1.out⟩
  · have HP : Hid (pre h d = 11 ∧ prl h d = []) := by unfold Hid pre prl; rw [if_neg (by omega), if_neg h0, if_neg h1]; exact ⟨rfl, rfl⟩
    have d0 : (d != 0) = true := by simpa using h0
    have d1 : (d != 1) = true := by simpa using h1
    go_wp2
    go_ret2
    exact ⟨_, by rw [HP.out.1]; rfl, .inl ⟨HP.out.2, rfl⟩, (Fr.refl [] w).alloc _⟩
end Go.Proofs.Ytnfbmdniomelnaa

/-
  Package hist: apart, Make.
-/
namespace Go.Proofs.Ytnfbmdniomelnaa
open Go.RowKit Mem Spans
set_option linter.unusedSimpArgs false
set_option linter.unusedVariables false
set_option maxRecDepth 100000

/-- A side's own spans and differences: their error, they. -/
def ape (l : List Sp) : Int := if frm (fsts l) = 0 then dle (snds l) else frm (fsts l)
def aps (l : List Sp) : List Sp := if ape l = 0 then rns 0 (fsts l) else []
def apd (l : List Sp) : List Int := if ape l = 0 then dlv (snds l) else []
theorem dle_cases (l : List Int) : dle l = 0 ∨ dle l = 28 := by unfold dle; split <;> simp
theorem ape_zero {l : List Sp} : ape l = 0 ↔ frm (fsts l) = 0 ∧ dle (snds l) = 0 := by
  unfold ape
  constructor
  · intro h
    split at h
    · rename_i h1; exact ⟨h1, h⟩
    · rename_i h1; exact absurd h h1
  · rintro ⟨h1, h2⟩; rw [if_pos h1]; exact h2

set_option maxHeartbeats 1000000 in
theorem apart_any (v : Value) (l : List Sp) (w : World) (h : SSrc w v l) (hl : l.length ≤ 1000000) :
    Calls Try.prog 59 #[v] w fun e w' => ∃ u x, e = .returned (.tuple #[u, x, .int .i64 (ape l)]) ∧ SOwn 63 w.heap.size w' u (aps l) ∧ NOwn 2 w.heap.size w' x (apd l) ∧ Fr [] w w' := by
  have HS : Hid (SSrc w v l) := h
  have H64 : Hid (∀ z ∈ snds l, in64 z) := by
    obtain ⟨_, _, _, _, _, h64, _⟩ := h
    intro z hz
    obtain ⟨s, hs, rfl⟩ := List.mem_map.1 hz
    exact (h64 s hs).2
  obtain ⟨ao, cap, rfl, _⟩ := h
  go_enter Try.func59, Try.ntmps59
  go_wp2_with fail
  refine (unzip_any _ l _ HS.out hl).mono ?_
  rintro e w1 ⟨u, x, rfl, hu, hx, hf1⟩
  have HU : Hid (SOwn 63 w.heap.size w1 u (frl (fsts l))) := hu
  have HX : Hid (NOwn 2 w.heap.size w1 x (uzv l)) := hx
  have HF1 : Hid (Fr [] w w1) := hf1
  clear hu hx hf1
  by_cases h0 : frm (fsts l) = 0
  · have HV : Hid (uzv l = snds l ∧ frl (fsts l) = rns 0 (fsts l) ∧ frm (fsts l) = 0) := by unfold Hid uzv frl; rw [if_pos h0, if_pos h0]; exact ⟨rfl, rfl, h0⟩
    rw [h0]
    clear h0
    go_wp2_with fail
    refine (deltas_any _ (snds l) _ (by have := HX.out; rw [HV.out.1] at this; exact this.src H64.out) (by rw [snds_length]; exact hl)).mono ?_
    rintro e w2 ⟨y, rfl, hy, hf2⟩
    have HF2 : Hid (Fr [] w w2) := HF1.out.trans hf2 (by simp)
    have HU2 : Hid (SOwn 63 w.heap.size w2 u (frl (fsts l))) := HU.out.kept hf2
    have HY : Hid (NOwn 2 w.heap.size w2 y (dlv (snds l))) := hy.mono HF1.out.size
    clear hf2 hy HU HX
    by_cases hd : dle (snds l) = 0
    · have HA : Hid (ape l = 0 ∧ aps l = rns 0 (fsts l) ∧ apd l = dlv (snds l)) := by
        have e : ape l = 0 := ape_zero.2 ⟨HV.out.2.2, hd⟩
        unfold Hid aps apd; rw [if_pos e, if_pos e]; exact ⟨e, rfl, rfl⟩
      rw [hd]
      clear hd
      go_wp2
      go_ret3
      exact ⟨_, _, by rw [HA.out.1]; rfl, by rw [HA.out.2.1, ← HV.out.2.1]; exact HU2.out, by rw [HA.out.2.2]; exact HY.out, HF2.out⟩
    · have hd2 := (dle_cases (snds l)).resolve_left hd
      have HA : Hid (ape l = 28 ∧ aps l = [] ∧ apd l = []) := by
        have e : ape l = 28 := by unfold ape; rw [if_pos HV.out.2.2]; exact hd2
        unfold Hid aps apd; rw [if_neg (by omega), if_neg (by omega)]; exact ⟨e, rfl, rfl⟩
      rw [hd2]
      clear hd hd2
      go_wp2
      go_ret3
      exact ⟨_, _, by rw [HA.out.1]; rfl, .inl ⟨HA.out.2.1, rfl⟩, .inl ⟨HA.out.2.2, rfl⟩, HF2.out⟩
  · have HA : Hid (ape l = frm (fsts l) ∧ aps l = [] ∧ apd l = []) := by
      have e : ape l = frm (fsts l) := by unfold ape; rw [if_neg h0]
      unfold Hid aps apd; rw [if_neg (by rw [e]; exact h0), if_neg (by rw [e]; exact h0)]; exact ⟨e, rfl, rfl⟩
    go_wp2
    go_ret3
    exact ⟨_, _, by rw [HA.out.1]; rfl, .inl ⟨HA.out.2.1, rfl⟩, .inl ⟨HA.out.2.2, rfl⟩, HF1.out⟩

/-- Make's error; what it makes. -/
def mks (h : Hs) (p n : List Sp) : Hs := ⟨h.s, h.z, h.zc, h.c, h.sm, aps p, aps n, apd p, apd n⟩
def mke (h : Hs) (p n : List Sp) : Int := if ape p = 0 then (if ape n = 0 then che (mks h p n) else ape n) else ape p
def hzero : Hs := ⟨0, 0, 0, 0, 0, [], [], [], []⟩
def mkh (h : Hs) (p n : List Sp) : Hs := if mke h p n = 0 then mks h p n else hzero
/-- A histogram of the call's own. -/
def HOwn (B : Nat) (w : World) (v : Value) (h : Hs) : Prop :=
  ∃ vp vn up un, v = .agg #[.int .i64 h.s, .int .u64 h.z, .int .u64 h.zc, .int .u64 h.c, .int .u64 h.sm, vp, vn, up, un] ∧ in64 h.s ∧ (inu h.z ∧ inu h.zc ∧ inu h.c ∧ inu h.sm) ∧
    SOwn 63 B w vp h.P ∧ SOwn 63 B w vn h.N ∧ NOwn 2 B w up h.pd ∧ NOwn 2 B w un h.nd
theorem HOwn.kept {B : Nat} {w w' : World} {v : Value} {h : Hs} (k : HOwn B w v h) (f : Fr [] w w') : HOwn B w' v h := by
  obtain ⟨a, b, c, d, h1, h2, h3, h4, h5, h6, h7⟩ := k
  exact ⟨a, b, c, d, h1, h2, h3, h4.kept f, h5.kept f, h6.kept f, h7.kept f⟩
theorem HOwn.mono {B C : Nat} {w : World} {v : Value} {h : Hs} (k : HOwn B w v h) (hc : C ≤ B) : HOwn C w v h := by
  obtain ⟨a, b, c, d, h1, h2, h3, h4, h5, h6, h7⟩ := k
  exact ⟨a, b, c, d, h1, h2, h3, h4.mono hc, h5.mono hc, h6.mono hc, h7.mono hc⟩
/-- All that a histogram has fits. -/
def hin (h : Hs) : Prop := (∀ s ∈ h.P, in64 s.1 ∧ in64 s.2) ∧ (∀ s ∈ h.N, in64 s.1 ∧ in64 s.2) ∧ (∀ z ∈ h.pd, in64 z) ∧ (∀ z ∈ h.nd, in64 z)
theorem HOwn.src {B : Nat} {w : World} {v : Value} {h : Hs} (k : HOwn B w v h) (i : hin h) : HSrc w v h := by
  obtain ⟨a, b, c, d, h1, h2, h3, h4, h5, h6, h7⟩ := k
  exact ⟨a, b, c, d, h1, h2, h3, h4.src i.1, h5.src i.2.1, h6.src i.2.2.1, h7.src i.2.2.2⟩
theorem aps_in (l : List Sp) : ∀ s ∈ aps l, in64 s.1 ∧ in64 s.2 := by
  intro s hs
  unfold aps at hs
  split at hs
  · rename_i h
    have e : frl (fsts l) = rns 0 (fsts l) := by unfold frl; rw [if_pos (ape_zero.1 h).1]
    exact frl_in (fsts l) s (by rw [e]; exact hs)
  · simp at hs
theorem apd_in (l : List Sp) : ∀ z ∈ apd l, in64 z := by
  intro z hz
  unfold apd at hz
  split at hz
  · exact dlv_in _ z hz
  · simp at hz
theorem mks_in (h : Hs) (p n : List Sp) : hin (mks h p n) := ⟨aps_in p, aps_in n, apd_in p, apd_in n⟩
theorem mkh_in (h : Hs) (p n : List Sp) : hin (mkh h p n) := by
  unfold mkh; split
  · exact mks_in h p n
  · unfold hin hzero; simp
theorem hzero_own (B : Nat) (w : World) : HOwn B w (.agg #[.int .i64 0, .int .u64 0, .int .u64 0, .int .u64 0, .int .u64 0, .slice none 0 0, .slice none 0 0, .slice none 0 0, .slice none 0 0]) hzero :=
  ⟨_, _, _, _, rfl, by unfold in64 hzero; decide, by unfold inu hzero; decide, .inl ⟨rfl, rfl⟩, .inl ⟨rfl, rfl⟩, .inl ⟨rfl, rfl⟩, .inl ⟨rfl, rfl⟩⟩

theorem Try.sizeOf26 : (Try.prog.info? 26).map (·.size) = some 9 := by kernel_rfl
theorem hist_res {fn : Func} {p u : Tmp} (h : fn.results = #[.cell p 26, .tmp u]) (tmps : Array Value) (w : World) (g : Nat) (a0 a1 a2 a3 a4 a5 a6 a7 a8 : Value)
    (hp : tmps.getD p undef = .pointer (some ⟨g, 0, none⟩)) (hg : Nine w g #[a0, a1, a2, a3, a4, a5, a6, a7, a8]) : (results fn tmps).run Try.prog w = .ok (.tuple #[.agg #[a0, a1, a2, a3, a4, a5, a6, a7, a8], tmps.getD u undef]) w := by
  rw [results_cell_tmp h tmps, hp]
  have := run_loadVar_row (P := Try.prog) w g 26 26 #[a0, a1, a2, a3, a4, a5, a6, a7, a8] (0, 0) _ hg Try.underlying26 rfl Try.sizeOf26
  simp [asAddr, this]
end Go.Proofs.Ytnfbmdniomelnaa

/-
  Package hist: Make.
-/
namespace Go.Proofs.Ytnfbmdniomelnaa
open Go.RowKit Mem Spans
set_option linter.unusedSimpArgs false
set_option linter.unusedVariables false
set_option maxRecDepth 100000

/-- A histogram's block, written anew. -/
abbrev set9 (w : World) (g : Nat) (u0 u1 u2 u3 u4 u5 u6 u7 u8 : Value) : World :=
  ((((((((w.setCell ⟨g, 0, none⟩ u0).setCell ⟨g, 1, none⟩ u1).setCell ⟨g, 2, none⟩ u2).setCell ⟨g, 3, none⟩ u3).setCell ⟨g, 4, none⟩ u4).setCell ⟨g, 5, none⟩ u5).setCell ⟨g, 6, none⟩ u6).setCell ⟨g, 7, none⟩ u7).setCell ⟨g, 8, none⟩ u8
theorem set9_fr {S : List Nat} {a b : World} {g : Nat} (h : Fr S a b) (hg : g ∈ S ∨ a.heap.size ≤ g) (u0 u1 u2 u3 u4 u5 u6 u7 u8 : Value) : Fr S a (set9 b g u0 u1 u2 u3 u4 u5 u6 u7 u8) :=
  ((((((((h.setCell _ _ hg).setCell _ _ hg).setCell _ _ hg).setCell _ _ hg).setCell _ _ hg).setCell _ _ hg).setCell _ _ hg).setCell _ _ hg).setCell _ _ hg
theorem set9_nine {w : World} {g : Nat} {a0 a1 a2 a3 a4 a5 a6 a7 a8 : Value} (h : Nine w g #[a0, a1, a2, a3, a4, a5, a6, a7, a8]) (u0 u1 u2 u3 u4 u5 u6 u7 u8 : Value) : Nine (set9 w g u0 u1 u2 u3 u4 u5 u6 u7 u8) g #[u0, u1, u2, u3, u4, u5, u6, u7, u8] := by
  unfold Nine at h ⊢
  simp [set9, World.setCell, Array.getElem?_modify, h]
theorem Nine.set57 {w : World} {g : Nat} {a0 a1 a2 a3 a4 a5 a6 a7 a8 : Value} (h : Nine w g #[a0, a1, a2, a3, a4, a5, a6, a7, a8]) (u x : Value) : Nine ((w.setCell ⟨g, 5, none⟩ u).setCell ⟨g, 7, none⟩ x) g #[a0, a1, a2, a3, a4, u, a6, x, a8] := by
  unfold Nine at h ⊢
  simp [World.setCell, Array.getElem?_modify, h]
theorem Nine.set68 {w : World} {g : Nat} {a0 a1 a2 a3 a4 a5 a6 a7 a8 : Value} (h : Nine w g #[a0, a1, a2, a3, a4, a5, a6, a7, a8]) (u x : Value) : Nine ((w.setCell ⟨g, 6, none⟩ u).setCell ⟨g, 8, none⟩ x) g #[a0, a1, a2, a3, a4, a5, u, a7, x] := by
  unfold Nine at h ⊢
  simp [World.setCell, Array.getElem?_modify, h]
theorem Nine.other {w : World} {b : Nat} {cs : Array Value} (h : Nine w b cs) {g i : Nat} {v : Value} (hn : b ≠ g) : Nine (w.setCell ⟨g, i, none⟩ v) b cs := by
  unfold Nine at h ⊢
  simp [World.setCell, Array.getElem?_modify, h, Ne.symm hn]
theorem Nine.frozen {w : World} {b : Nat} {cs : Array Value} (h : Nine w b cs) (i : Nat) : w.frozen? ⟨b, i, none⟩ = false := frozen_at h i
theorem nine_mid (w : World) (cs : Array Value) (o : Obj) : Nine ((w.alloc (.cells cs 26)).alloc o) w.heap.size cs := (Nine.new w cs).kept ((Fr.refl [] _).alloc _) (by simp)
theorem nine_top (w : World) (o : Obj) (cs : Array Value) : Nine ((w.alloc o).alloc (.cells cs 26)) (w.heap.size + 1) cs := by
  have := Nine.new (w.alloc o) cs
  rwa [World.size_alloc] at this

theorem SOwn.keptS {e : TypeId} {B : Nat} {w w' : World} {v : Value} {l : List Sp} {S : List Nat} (h : SOwn e B w v l) (f : Fr S w w') (hs : ∀ y ∈ S, y < B) : SOwn e B w' v l := by
  rcases h with h | ⟨g, h1, h2, h3⟩
  · exact .inl h
  · exact .inr ⟨g, h1, h2, h3.kept f (fun hg => by have := hs g hg; omega)⟩
theorem NOwn.keptS {e : TypeId} {B : Nat} {w w' : World} {v : Value} {l : List Int} {S : List Nat} (h : NOwn e B w v l) (f : Fr S w w') (hs : ∀ y ∈ S, y < B) : NOwn e B w' v l := by
  rcases h with h | ⟨g, h1, h2, h3⟩
  · exact .inl h
  · exact .inr ⟨g, h1, h2, h3.kept f (fun hg => by have := hs g hg; omega)⟩

theorem HOwn.keptS {B : Nat} {w w' : World} {v : Value} {h : Hs} {S : List Nat} (k : HOwn B w v h) (f : Fr S w w') (hs : ∀ y ∈ S, y < B) : HOwn B w' v h := by
  obtain ⟨a, b, c, d, h1, h2, h3, h4, h5, h6, h7⟩ := k
  exact ⟨a, b, c, d, h1, h2, h3, h4.keptS f hs, h5.keptS f hs, h6.keptS f hs, h7.keptS f hs⟩

set_option maxHeartbeats 4000000 in
theorem make_any (v vp vn : Value) (h : Hs) (p n : List Sp) (w : World) (hh : HSrc w v h) (hp : SSrc w vp p) (hn : SSrc w vn n) (hlp : p.length ≤ 1000000) (hln : n.length ≤ 1000000) :
    Calls Try.prog 42 #[v, vp, vn] w fun e w' => ∃ u, e = .returned (.tuple #[u, .int .i64 (mke h p n)]) ∧ HOwn w.heap.size w' u (mkh h p n) ∧ Fr [] w w' := by
  have HP : Hid (SSrc w vp p) := hp
  have HN : Hid (SSrc w vn n) := hn
  have HL : Hid (p.length ≤ 1000000 ∧ n.length ≤ 1000000) := ⟨hlp, hln⟩
  obtain ⟨po, pc, no, nc, qo, qc, ro, rc, rfl, hin, _⟩ := hh.opens
  have HIN : Hid (in64 h.s ∧ inu h.z ∧ inu h.zc ∧ inu h.c ∧ inu h.sm) := hin
  clear hh hin
  obtain ⟨ao, ac, rfl, _⟩ := hp
  obtain ⟨bo, bc, rfl, _⟩ := hn
  clear hlp hln
  go_enter Try.func42, Try.ntmps42
  obtain ⟨cs, hcs⟩ : ∃ cs : Array Value, cs = #[.int .i64 h.s, .int .u64 h.z, .int .u64 h.zc, .int .u64 h.c, .int .u64 h.sm, .slice po h.P.length pc, .slice no h.N.length nc, .slice qo h.pd.length qc, .slice ro h.nd.length rc] := ⟨_, rfl⟩
  have HA : Hid (∀ z, Nine ((w.alloc (.cells cs 26)).alloc (.cells z 26)) w.heap.size cs ∧ Nine ((w.alloc (.cells cs 26)).alloc (.cells z 26)) (w.heap.size + 1) z ∧ Fr [] w ((w.alloc (.cells cs 26)).alloc (.cells z 26))) := fun z => ⟨nine_mid _ _ _, nine_top _ _ _, ((Fr.refl [] w).alloc _).alloc _⟩
  subst hcs
  go_wp2_with fail
  obtain ⟨hA3, hA6, hAF⟩ := HA.out #[.int .i64 0, .int .u64 0, .int .u64 0, .int .u64 0, .int .u64 0, .slice none 0 0, .slice none 0 0, .slice none 0 0, .slice none 0 0]
  clear HA
  generalize (w.alloc (.cells _ _)).alloc (.cells _ _) = wA at hA3 hA6 hAF ⊢
  have HSZ : Hid (w.heap.size + 1 < wA.heap.size) := hA6.lt
  refine (apart_any _ p wA (HP.out.kept hAF) HL.out.1).mono ?_
  rintro e w1 ⟨u, x, rfl, hu, hx, hf1⟩
  have HU : Hid (SOwn 63 wA.heap.size w1 u (aps p)) := hu
  have HX : Hid (NOwn 2 wA.heap.size w1 x (apd p)) := hx
  obtain ⟨ua, uc, rfl⟩ := HU.out.val
  obtain ⟨xa, xc, rfl⟩ := HX.out.val
  have HF1 : Hid (Fr [] w w1) := hAF.trans hf1 (by simp)
  have HS1 : Hid (wA.heap.size ≤ w1.heap.size) := hf1.size
  have h3 := hA3.kept hf1 (by simp)
  have h6 := hA6.kept hf1 (by simp)
  clear hu hx hf1 hA3 hA6 hAF
  have c5 := h3.cell 5 rfl
  have c7 := h3.cell 7 rfl
  have f5 := h3.frozen 5
  have f7 := h3.frozen 7
  have H3 : Hid (Nine ((w1.setCell ⟨w.heap.size, 5, none⟩ (.slice ua (aps p).length uc)).setCell ⟨w.heap.size, 7, none⟩ (.slice xa (apd p).length xc)) w.heap.size _) := h3.set57 (.slice ua (aps p).length uc) (.slice xa (apd p).length xc)
  have H6 : Hid (Nine ((w1.setCell ⟨w.heap.size, 5, none⟩ (.slice ua (aps p).length uc)).setCell ⟨w.heap.size, 7, none⟩ (.slice xa (apd p).length xc)) (w.heap.size + 1) _) := (h6.other (i := 5) (v := (.slice ua (aps p).length uc)) (by omega)).other (i := 7) (v := (.slice xa (apd p).length xc)) (by omega)
  have HFS : Hid (Fr [w.heap.size] w1 ((w1.setCell ⟨w.heap.size, 5, none⟩ (.slice ua (aps p).length uc)).setCell ⟨w.heap.size, 7, none⟩ (.slice xa (apd p).length xc))) := ((Fr.refl _ _).setCell _ _ (.inl (by simp))).setCell _ _ (.inl (by simp))
  clear h3 h6
  go_upto_region 3 with fail
  clear c5 c7 f5 f7
  generalize (w1.setCell ⟨w.heap.size, 5, none⟩ (.slice ua (aps p).length uc)).setCell ⟨w.heap.size, 7, none⟩ (.slice xa (apd p).length xc) = wB at H3 H6 HFS ⊢
  have HUB : Hid (SOwn 63 wA.heap.size wB (.slice ua (aps p).length uc) (aps p)) := HU.out.keptS HFS.out (by have := HSZ.out; simp; omega)
  have HXB : Hid (NOwn 2 wA.heap.size wB (.slice xa (apd p).length xc) (apd p)) := HX.out.keptS HFS.out (by have := HSZ.out; simp; omega)
  have HFB : Hid (Fr [] w wB) := HF1.out.trans HFS.out (by simp)
  have HSB : Hid (wA.heap.size ≤ wB.heap.size) := Nat.le_trans HS1.out HFS.out.size
  clear HU HX HF1 HFS HS1
  by_cases h0 : ape p = 0
  · have HA : Hid (ape p = 0) := h0
    rw [h0]
    clear h0
    go_wp2_with fail
    refine (apart_any _ n wB (HN.out.kept HFB.out) HL.out.2).mono ?_
    rintro e w2 ⟨u2, x2, rfl, hu, hx, hf2⟩
    have HU : Hid (SOwn 63 wA.heap.size w2 u2 (aps n)) := hu.mono HSB.out
    have HX : Hid (NOwn 2 wA.heap.size w2 x2 (apd n)) := hx.mono HSB.out
    obtain ⟨ua2, uc2, rfl⟩ := HU.out.val
    obtain ⟨xa2, xc2, rfl⟩ := HX.out.val
    have HF2 : Hid (Fr [] w w2) := HFB.out.trans hf2 (by simp)
    have HU1 : Hid (SOwn 63 wA.heap.size w2 (.slice ua (aps p).length uc) (aps p)) := HUB.out.kept hf2
    have HX1 : Hid (NOwn 2 wA.heap.size w2 (.slice xa (apd p).length xc) (apd p)) := HXB.out.kept hf2
    have HS2 : Hid (wA.heap.size ≤ w2.heap.size) := Nat.le_trans HSB.out hf2.size
    have h3 := H3.out.kept hf2 (by simp)
    have h6 := H6.out.kept hf2 (by simp)
    clear hu hx hf2 H3 H6 HUB HXB HFB HSB
    have c6 := h3.cell 6 rfl
    have c8 := h3.cell 8 rfl
    have f6 := h3.frozen 6
    have f8 := h3.frozen 8
    have H3 : Hid (Nine ((w2.setCell ⟨w.heap.size, 6, none⟩ (.slice ua2 (aps n).length uc2)).setCell ⟨w.heap.size, 8, none⟩ (.slice xa2 (apd n).length xc2)) w.heap.size _) := h3.set68 (.slice ua2 (aps n).length uc2) (.slice xa2 (apd n).length xc2)
    have H6 : Hid (Nine ((w2.setCell ⟨w.heap.size, 6, none⟩ (.slice ua2 (aps n).length uc2)).setCell ⟨w.heap.size, 8, none⟩ (.slice xa2 (apd n).length xc2)) (w.heap.size + 1) _) := (h6.other (i := 6) (v := (.slice ua2 (aps n).length uc2)) (by omega)).other (i := 8) (v := (.slice xa2 (apd n).length xc2)) (by omega)
    have HFS : Hid (Fr [w.heap.size] w2 ((w2.setCell ⟨w.heap.size, 6, none⟩ (.slice ua2 (aps n).length uc2)).setCell ⟨w.heap.size, 8, none⟩ (.slice xa2 (apd n).length xc2))) := ((Fr.refl _ _).setCell _ _ (.inl (by simp))).setCell _ _ (.inl (by simp))
    clear h3 h6
    go_upto_region 6 with fail
    clear c6 c8 f6 f8
    generalize (w2.setCell ⟨w.heap.size, 6, none⟩ (.slice ua2 (aps n).length uc2)).setCell ⟨w.heap.size, 8, none⟩ (.slice xa2 (apd n).length xc2) = wC at H3 H6 HFS ⊢
    have hb : ∀ y ∈ [w.heap.size], y < wA.heap.size := by have := HSZ.out; simp; omega
    have HU2 : Hid (SOwn 63 wA.heap.size wC (.slice ua2 (aps n).length uc2) (aps n)) := HU.out.keptS HFS.out hb
    have HX2 : Hid (NOwn 2 wA.heap.size wC (.slice xa2 (apd n).length xc2) (apd n)) := HX.out.keptS HFS.out hb
    have HU3 : Hid (SOwn 63 wA.heap.size wC (.slice ua (aps p).length uc) (aps p)) := HU1.out.keptS HFS.out hb
    have HX3 : Hid (NOwn 2 wA.heap.size wC (.slice xa (apd p).length xc) (apd p)) := HX1.out.keptS HFS.out hb
    have HFC : Hid (Fr [] w wC) := HF2.out.trans HFS.out (by simp)
    have HSC : Hid (wA.heap.size ≤ wC.heap.size) := Nat.le_trans HS2.out HFS.out.size
    clear HU HX HU1 HX1 HF2 HFS HS2 hb
    by_cases h0 : ape n = 0
    · have HA2 : Hid (ape n = 0) := h0
      rw [h0]
      clear h0
      have HM : Hid (HOwn wA.heap.size wC (.agg #[.int .i64 h.s, .int .u64 h.z, .int .u64 h.zc, .int .u64 h.c, .int .u64 h.sm, .slice ua (aps p).length uc, .slice ua2 (aps n).length uc2, .slice xa (apd p).length xc, .slice xa2 (apd n).length xc2]) (mks h p n)) := ⟨_, _, _, _, rfl, HIN.out.1, HIN.out.2, HU3.out, HU2.out, HX3.out, HX2.out⟩
      clear HU3 HU2 HX3 HX2
      have c0 := H3.out.cell 0 rfl
      have c1 := H3.out.cell 1 rfl
      have c2 := H3.out.cell 2 rfl
      have c3 := H3.out.cell 3 rfl
      have c4 := H3.out.cell 4 rfl
      have c5 := H3.out.cell 5 rfl
      have c6 := H3.out.cell 6 rfl
      have c7 := H3.out.cell 7 rfl
      have c8 := H3.out.cell 8 rfl
      go_wp2_with fail
      refine (hcheck_any _ (mks h p n) wC (HM.out.src (mks_in h p n))).mono ?_
      rintro e w3 ⟨rfl, hf3⟩
      have HF3 : Hid (Fr [] w w3) := HFC.out.trans hf3 (by simp)
      have HM3 : Hid (HOwn wA.heap.size w3 _ (mks h p n)) := HM.out.kept hf3
      have h3 := H3.out.kept hf3 (by simp)
      have h6 := H6.out.kept hf3 (by simp)
      have HS3 : Hid (wA.heap.size ≤ w3.heap.size) := Nat.le_trans HSC.out hf3.size
      clear c0 c1 c2 c3 c4 c5 c6 c7 c8 hf3 H3 H6 HM HFC HSC
      by_cases h0 : che (mks h p n) = 0
      · have HE : Hid (mke h p n = 0 ∧ mkh h p n = mks h p n) := by
          have e : mke h p n = 0 := by unfold mke; rw [if_pos HA.out, if_pos HA2.out]; exact h0
          unfold Hid mkh; rw [if_pos e]; exact ⟨e, rfl⟩
        rw [h0]
        clear h0
        have c0 := h3.cell 0 rfl
        have c1 := h3.cell 1 rfl
        have c2 := h3.cell 2 rfl
        have c3 := h3.cell 3 rfl
        have c4 := h3.cell 4 rfl
        have c5 := h3.cell 5 rfl
        have c6 := h3.cell 6 rfl
        have c7 := h3.cell 7 rfl
        have c8 := h3.cell 8 rfl
        have d0 := h6.cell 0 rfl
        have d1 := h6.cell 1 rfl
        have d2 := h6.cell 2 rfl
        have d3 := h6.cell 3 rfl
        have d4 := h6.cell 4 rfl
        have d5 := h6.cell 5 rfl
        have d6 := h6.cell 6 rfl
        have d7 := h6.cell 7 rfl
        have d8 := h6.cell 8 rfl
        have f0 := h6.frozen 0
        have f1 := h6.frozen 1
        have f2 := h6.frozen 2
        have f3 := h6.frozen 3
        have f4 := h6.frozen 4
        have f5 := h6.frozen 5
        have f6 := h6.frozen 6
        have f7 := h6.frozen 7
        have f8 := h6.frozen 8
        have H6 : Hid (Nine w3 (w.heap.size + 1) _) := h6
        clear h3 h6
        go_wp2
        refine bodyPost_ret (hist_res rfl _ _ (w.heap.size + 1) _ _ _ _ _ _ _ _ _ rfl (set9_nine H6.out _ _ _ _ _ _ _ _ _)) rfl ?_
        refine ⟨_, by rw [HE.out.1]; rfl, ?_, set9_fr HF3.out (.inr (by simp)) _ _ _ _ _ _ _ _ _⟩
        rw [HE.out.2]
        have hs9 := set9_fr (S := [w.heap.size + 1]) (g := w.heap.size + 1) (Fr.refl _ w3) (.inl (by simp)) (.int .i64 h.s) (.int .u64 h.z) (.int .u64 h.zc) (.int .u64 h.c) (.int .u64 h.sm) (.slice ua (aps p).length uc) (.slice ua2 (aps n).length uc2) (.slice xa (apd p).length xc) (.slice xa2 (apd n).length xc2)
        exact (HM3.out.keptS hs9 (by have := HSZ.out; simp; omega)).mono (by have := HSZ.out; omega)
      · have HE : Hid (mke h p n = che (mks h p n) ∧ mkh h p n = hzero) := by
          have e : mke h p n = che (mks h p n) := by unfold mke; rw [if_pos HA.out, if_pos HA2.out]
          unfold Hid mkh; rw [if_neg (by rw [e]; exact h0)]; exact ⟨e, rfl⟩
        have H6 : Hid (Nine w3 (w.heap.size + 1) _) := h6
        clear h3 h6
        have d0 := H6.out.cell 0 rfl
        have d1 := H6.out.cell 1 rfl
        have d2 := H6.out.cell 2 rfl
        have d3 := H6.out.cell 3 rfl
        have d4 := H6.out.cell 4 rfl
        have d5 := H6.out.cell 5 rfl
        have d6 := H6.out.cell 6 rfl
        have d7 := H6.out.cell 7 rfl
        have d8 := H6.out.cell 8 rfl
        have f0 := H6.out.frozen 0
        have f1 := H6.out.frozen 1
        have f2 := H6.out.frozen 2
        have f3 := H6.out.frozen 3
        have f4 := H6.out.frozen 4
        have f5 := H6.out.frozen 5
        have f6 := H6.out.frozen 6
        have f7 := H6.out.frozen 7
        have f8 := H6.out.frozen 8
        go_wp2
        refine bodyPost_ret (hist_res rfl _ _ (w.heap.size + 1) _ _ _ _ _ _ _ _ _ rfl (set9_nine H6.out (.int .i64 0) (.int .u64 0) (.int .u64 0) (.int .u64 0) (.int .u64 0) (.slice none 0 0) (.slice none 0 0) (.slice none 0 0) (.slice none 0 0))) rfl ?_
        exact ⟨_, by rw [HE.out.1]; rfl, by rw [HE.out.2]; exact hzero_own _ _, set9_fr HF3.out (.inr (by simp)) (.int .i64 0) (.int .u64 0) (.int .u64 0) (.int .u64 0) (.int .u64 0) (.slice none 0 0) (.slice none 0 0) (.slice none 0 0) (.slice none 0 0)⟩
    · have HE : Hid (mke h p n = ape n ∧ mkh h p n = hzero) := by
        have e : mke h p n = ape n := by unfold mke; rw [if_pos HA.out, if_neg h0]
        unfold Hid mkh; rw [if_neg (by rw [e]; exact h0)]; exact ⟨e, rfl⟩
      have d0 := H6.out.cell 0 rfl
      have d1 := H6.out.cell 1 rfl
      have d2 := H6.out.cell 2 rfl
      have d3 := H6.out.cell 3 rfl
      have d4 := H6.out.cell 4 rfl
      have d5 := H6.out.cell 5 rfl
      have d6 := H6.out.cell 6 rfl
      have d7 := H6.out.cell 7 rfl
      have d8 := H6.out.cell 8 rfl
      have f0 := H6.out.frozen 0
      have f1 := H6.out.frozen 1
      have f2 := H6.out.frozen 2
      have f3 := H6.out.frozen 3
      have f4 := H6.out.frozen 4
      have f5 := H6.out.frozen 5
      have f6 := H6.out.frozen 6
      have f7 := H6.out.frozen 7
      have f8 := H6.out.frozen 8
      go_wp2
      refine bodyPost_ret (hist_res rfl _ _ (w.heap.size + 1) _ _ _ _ _ _ _ _ _ rfl (set9_nine H6.out (.int .i64 0) (.int .u64 0) (.int .u64 0) (.int .u64 0) (.int .u64 0) (.slice none 0 0) (.slice none 0 0) (.slice none 0 0) (.slice none 0 0))) rfl ?_
      exact ⟨_, by rw [HE.out.1]; rfl, by rw [HE.out.2]; exact hzero_own _ _, set9_fr HFC.out (.inr (by simp)) (.int .i64 0) (.int .u64 0) (.int .u64 0) (.int .u64 0) (.int .u64 0) (.slice none 0 0) (.slice none 0 0) (.slice none 0 0) (.slice none 0 0)⟩
  · have HE : Hid (mke h p n = ape p ∧ mkh h p n = hzero) := by
      have e : mke h p n = ape p := by unfold mke; rw [if_neg h0]
      unfold Hid mkh; rw [if_neg (by rw [e]; exact h0)]; exact ⟨e, rfl⟩
    have d0 := H6.out.cell 0 rfl
    have d1 := H6.out.cell 1 rfl
    have d2 := H6.out.cell 2 rfl
    have d3 := H6.out.cell 3 rfl
    have d4 := H6.out.cell 4 rfl
    have d5 := H6.out.cell 5 rfl
    have d6 := H6.out.cell 6 rfl
    have d7 := H6.out.cell 7 rfl
    have d8 := H6.out.cell 8 rfl
    have f0 := H6.out.frozen 0
    have f1 := H6.out.frozen 1
    have f2 := H6.out.frozen 2
    have f3 := H6.out.frozen 3
    have f4 := H6.out.frozen 4
    have f5 := H6.out.frozen 5
    have f6 := H6.out.frozen 6
    have f7 := H6.out.frozen 7
    have f8 := H6.out.frozen 8
    go_wp2
    refine bodyPost_ret (hist_res rfl _ _ (w.heap.size + 1) _ _ _ _ _ _ _ _ _ rfl (set9_nine H6.out (.int .i64 0) (.int .u64 0) (.int .u64 0) (.int .u64 0) (.int .u64 0) (.slice none 0 0) (.slice none 0 0) (.slice none 0 0) (.slice none 0 0))) rfl ?_
    exact ⟨_, by rw [HE.out.1]; rfl, by rw [HE.out.2]; exact hzero_own _ _, set9_fr HFB.out (.inr (by simp)) (.int .i64 0) (.int .u64 0) (.int .u64 0) (.int .u64 0) (.int .u64 0) (.slice none 0 0) (.slice none 0 0) (.slice none 0 0) (.slice none 0 0)⟩
end Go.Proofs.Ytnfbmdniomelnaa

/-
  Package hist: Canon, Equal.
-/
namespace Go.Proofs.Ytnfbmdniomelnaa
open Go.RowKit Mem Spans
set_option linter.unusedSimpArgs false
set_option linter.unusedVariables false
set_option maxRecDepth 100000

theorem HOwn.form {B : Nat} {w : World} {v : Value} {h : Hs} (k : HOwn B w v h) : ∃ a1 c1 a2 c2 a3 c3 a4 c4, v = .agg #[.int .i64 h.s, .int .u64 h.z, .int .u64 h.zc, .int .u64 h.c, .int .u64 h.sm, .slice a1 h.P.length c1, .slice a2 h.N.length c2, .slice a3 h.pd.length c3, .slice a4 h.nd.length c4] := by
  obtain ⟨a, b, c, d, rfl, h2, h3, h4, h5, h6, h7⟩ := k
  obtain ⟨_, _, rfl⟩ := h4.val
  obtain ⟨_, _, rfl⟩ := h5.val
  obtain ⟨_, _, rfl⟩ := h6.val
  obtain ⟨_, _, rfl⟩ := h7.val
  exact ⟨_, _, _, _, _, _, _, _, rfl⟩
theorem wio_mem {l : List Sp} {z : Int} {s : Sp} : s ∈ wio l z ↔ s ∈ l ∧ s.2 ≠ z := by unfold wio; simp
theorem wio_le (l : List Sp) (z : Int) : (wio l z).length ≤ l.length := List.length_filter_le _ _
theorem wio_in {l : List Sp} {z : Int} (h : ∀ s ∈ l, in64 s.1 ∧ in64 s.2) : ∀ s ∈ wio l z, in64 s.1 ∧ in64 s.2 := fun s hs => h s (wio_mem.1 hs).1
/-- Canon's error; what it tells. -/
def cae (h : Hs) : Int := if che h = 0 then mke h (wio (sdp h) 0) (wio (sdn h) 0) else che h
def cah (h : Hs) : Hs := if che h = 0 then mkh h (wio (sdp h) 0) (wio (sdn h) 0) else hzero

set_option maxHeartbeats 4000000 in
theorem hcanon_any (v : Value) (h : Hs) (w : World) (hh : HSrc w v h) :
    Calls Try.prog 22 #[v] w fun e w' => ∃ u, e = .returned (.tuple #[u, .int .i64 (cae h)]) ∧ HOwn w.heap.size w' u (cah h) ∧ Fr [] w w' := by
  have HH : Hid (∀ wx, Fr [] w wx → HSrc wx v h) := fun wx hx => hh.kept hx
  obtain ⟨po, pc, no, nc, qo, qc, ro, rc, rfl, _⟩ := hh.opens
  clear hh
  go_enter Try.func22, Try.ntmps22
  obtain ⟨cs, hcs⟩ : ∃ cs : Array Value, cs = #[.int .i64 h.s, .int .u64 h.z, .int .u64 h.zc, .int .u64 h.c, .int .u64 h.sm, .slice po h.P.length pc, .slice no h.N.length nc, .slice qo h.pd.length qc, .slice ro h.nd.length rc] := ⟨_, rfl⟩
  have HA : Hid (∀ z, Nine ((w.alloc (.cells cs 26)).alloc (.cells z 26)) w.heap.size cs ∧ Nine ((w.alloc (.cells cs 26)).alloc (.cells z 26)) (w.heap.size + 1) z ∧ Fr [] w ((w.alloc (.cells cs 26)).alloc (.cells z 26))) := fun z => ⟨nine_mid _ _ _, nine_top _ _ _, ((Fr.refl [] w).alloc _).alloc _⟩
  subst hcs
  go_wp2_with fail
  obtain ⟨hA3, hA6, hAF⟩ := HA.out #[.int .i64 0, .int .u64 0, .int .u64 0, .int .u64 0, .int .u64 0, .slice none 0 0, .slice none 0 0, .slice none 0 0, .slice none 0 0]
  clear HA
  generalize (w.alloc (.cells _ _)).alloc (.cells _ _) = wA at hA3 hA6 hAF ⊢
  have HSZ : Hid (w.heap.size + 1 < wA.heap.size) := hA6.lt
  refine (sides_any _ h wA (HH.out _ hAF)).mono ?_
  rintro e w1 ⟨x, y, rfl, hx, hy, hf1⟩
  have HX : Hid (SOwn 113 wA.heap.size w1 x (sdp h)) := hx
  have HY : Hid (SOwn 113 wA.heap.size w1 y (sdn h)) := hy
  have HF1 : Hid (Fr [] w w1) := hAF.trans hf1 (by simp)
  have HS1 : Hid (wA.heap.size ≤ w1.heap.size) := hf1.size
  have H3 : Hid (Nine w1 w.heap.size _) := hA3.kept hf1 (by simp)
  have H6 : Hid (Nine w1 (w.heap.size + 1) _) := hA6.kept hf1 (by simp)
  clear hx hy hf1 hA3 hA6 hAF
  obtain ⟨xa, xc, rfl⟩ := HX.out.val
  obtain ⟨ya, yc, rfl⟩ := HY.out.val
  by_cases h0 : che h = 0
  · have HC : Hid (cae h = mke h (wio (sdp h) 0) (wio (sdn h) 0) ∧ cah h = mkh h (wio (sdp h) 0) (wio (sdn h) 0)) := by unfold Hid cae cah; rw [if_pos h0, if_pos h0]; exact ⟨rfl, rfl⟩
    rw [h0]
    clear h0
    have HWA : Hid (∀ wx, Fr [] w1 wx → Calls Try.prog 43 #[.slice xa (sdp h).length xc, .int .i64 0] wx fun e w' => ∃ u, e = .returned u ∧ SOwn 113 wA.heap.size w' u (wio (sdp h) 0) ∧ Fr [] w1 w') := by
      intro wx hf
      refine (without_any _ (sdp h) 0 wx ((HX.out.src (sdp_in h)).kept hf) (by have := sdp_le h; omega)).mono ?_
      rintro e w' ⟨u, rfl, hu, hf'⟩
      exact ⟨u, rfl, hu.mono (Nat.le_trans HS1.out hf.size), hf.trans hf' (by simp)⟩
    have HWB : Hid (∀ wx, Fr [] w1 wx → Calls Try.prog 43 #[.slice ya (sdn h).length yc, .int .i64 0] wx fun e w' => ∃ u, e = .returned u ∧ SOwn 113 wA.heap.size w' u (wio (sdn h) 0) ∧ Fr [] w1 w' ∧ Fr [] wx w') := by
      intro wx hf
      refine (without_any _ (sdn h) 0 wx ((HY.out.src (sdn_in h)).kept hf) (by have := sdn_le h; omega)).mono ?_
      rintro e w' ⟨u, rfl, hu, hf'⟩
      exact ⟨u, rfl, hu.mono (Nat.le_trans HS1.out hf.size), hf.trans hf' (by simp), hf'⟩
    have HMK : Hid (∀ wx ua ub, Fr [] w1 wx → SOwn 113 wA.heap.size wx ua (wio (sdp h) 0) → SOwn 113 wA.heap.size wx ub (wio (sdn h) 0) → Calls Try.prog 42 #[.agg #[.int .i64 h.s, .int .u64 h.z, .int .u64 h.zc, .int .u64 h.c, .int .u64 h.sm, .slice po h.P.length pc, .slice no h.N.length nc, .slice qo h.pd.length qc, .slice ro h.nd.length rc], ua, ub] wx fun e w' => ∃ u, e = .returned (.tuple #[u, .int .i64 (mke h (wio (sdp h) 0) (wio (sdn h) 0))]) ∧ HOwn wA.heap.size w' u (mkh h (wio (sdp h) 0) (wio (sdn h) 0)) ∧ Fr [] w1 w') := by
      intro wx ua ub hf h1 h2
      refine (make_any _ ua ub h _ _ wx (HH.out _ (HF1.out.trans hf (by simp))) (h1.src (wio_in (sdp_in h))) (h2.src (wio_in (sdn_in h))) (by have := sdp_le h; have := wio_le (sdp h) 0; omega) (by have := sdn_le h; have := wio_le (sdn h) 0; omega)).mono ?_
      rintro e w' ⟨u, rfl, hu, hf'⟩
      exact ⟨u, rfl, hu.mono (Nat.le_trans HS1.out hf.size), hf.trans hf' (by simp)⟩
    have F0 : Fr [] w1 w1.drew := (Fr.refl _ _).drew
    have c0 := H3.out.cell 0 rfl
    have c1 := H3.out.cell 1 rfl
    have c2 := H3.out.cell 2 rfl
    have c3 := H3.out.cell 3 rfl
    have c4 := H3.out.cell 4 rfl
    have c5 := H3.out.cell 5 rfl
    have c6 := H3.out.cell 6 rfl
    have c7 := H3.out.cell 7 rfl
    have c8 := H3.out.cell 8 rfl
    go_wp2_with fail
    go_region_held3 (fun w' => w'.cell? ⟨w.heap.size, 0, none⟩ = some (.int .i64 h.s) ∧ w'.cell? ⟨w.heap.size, 1, none⟩ = some (.int .u64 h.z) ∧ w'.cell? ⟨w.heap.size, 2, none⟩ = some (.int .u64 h.zc) ∧ w'.cell? ⟨w.heap.size, 3, none⟩ = some (.int .u64 h.c) ∧ w'.cell? ⟨w.heap.size, 4, none⟩ = some (.int .u64 h.sm) ∧ w'.cell? ⟨w.heap.size, 5, none⟩ = some (.slice po h.P.length pc) ∧ w'.cell? ⟨w.heap.size, 6, none⟩ = some (.slice no h.N.length nc) ∧ w'.cell? ⟨w.heap.size, 7, none⟩ = some (.slice qo h.pd.length qc) ∧ w'.cell? ⟨w.heap.size, 8, none⟩ = some (.slice ro h.nd.length rc)) (go_keep) (first
      | (go_at_call 43; with_reducible refine (HWA.out _ F0).mono ?_; rintro e wa ⟨ua, rfl, hua, hfa⟩; have ka0 := hfa.cell_some c0 (by simp); have ka1 := hfa.cell_some c1 (by simp); have ka2 := hfa.cell_some c2 (by simp); have ka3 := hfa.cell_some c3 (by simp); have ka4 := hfa.cell_some c4 (by simp); have ka5 := hfa.cell_some c5 (by simp); have ka6 := hfa.cell_some c6 (by simp); have ka7 := hfa.cell_some c7 (by simp); have ka8 := hfa.cell_some c8 (by simp))
      | (go_at_call 43; with_reducible refine (HWB.out _ hfa).mono ?_; rintro e wb ⟨ub, rfl, hub, hfb, hfab⟩; have kb0 := hfb.cell_some c0 (by simp); have kb1 := hfb.cell_some c1 (by simp); have kb2 := hfb.cell_some c2 (by simp); have kb3 := hfb.cell_some c3 (by simp); have kb4 := hfb.cell_some c4 (by simp); have kb5 := hfb.cell_some c5 (by simp); have kb6 := hfb.cell_some c6 (by simp); have kb7 := hfb.cell_some c7 (by simp); have kb8 := hfb.cell_some c8 (by simp))
      | (go_at_call 42; with_reducible refine (HMK.out _ _ _ hfb (hua.kept hfab) hub).mono ?_; rintro e wc ⟨u, rfl, hu, hfc⟩; have kc0 := hfc.cell_some c0 (by simp); have kc1 := hfc.cell_some c1 (by simp); have kc2 := hfc.cell_some c2 (by simp); have kc3 := hfc.cell_some c3 (by simp); have kc4 := hfc.cell_some c4 (by simp); have kc5 := hfc.cell_some c5 (by simp); have kc6 := hfc.cell_some c6 (by simp); have kc7 := hfc.cell_some c7 (by simp); have kc8 := hfc.cell_some c8 (by simp); have h6 := H6.out.kept hfc (by simp); have d0 := h6.cell 0 rfl; have d1 := h6.cell 1 rfl; have d2 := h6.cell 2 rfl; have d3 := h6.cell 3 rfl; have d4 := h6.cell 4 rfl; have d5 := h6.cell 5 rfl; have d6 := h6.cell 6 rfl; have d7 := h6.cell 7 rfl; have d8 := h6.cell 8 rfl; have f0 := h6.frozen 0; have f1 := h6.frozen 1; have f2 := h6.frozen 2; have f3 := h6.frozen 3; have f4 := h6.frozen 4; have f5 := h6.frozen 5; have f6 := h6.frozen 6; have f7 := h6.frozen 7; have f8 := h6.frozen 8; obtain ⟨a1, c1, a2, c2, a3, c3, a4, c4, rfl⟩ := hu.form))
    have H6c : Hid (Nine wc (w.heap.size + 1) _) := h6
    have HUc : Hid (HOwn wA.heap.size wc _ (mkh h (wio (sdp h) 0) (wio (sdn h) 0))) := hu
    have HFc : Hid (Fr [] w wc) := HF1.out.trans hfc (by simp)
    clear h6 hu hfc
    go_wp2
    refine bodyPost_ret (hist_res rfl _ _ (w.heap.size + 1) _ _ _ _ _ _ _ _ _ rfl (set9_nine H6c.out _ _ _ _ _ _ _ _ _)) rfl ?_
    refine ⟨_, by rw [HC.out.1]; rfl, ?_, set9_fr HFc.out (.inr (by simp)) _ _ _ _ _ _ _ _ _⟩
    rw [HC.out.2]
    exact (HUc.out.keptS (set9_fr (S := [w.heap.size + 1]) (g := w.heap.size + 1) (Fr.refl _ wc) (.inl (by simp)) _ _ _ _ _ _ _ _ _) (by have := HSZ.out; simp; omega)).mono (by have := HSZ.out; omega)
  · have HC : Hid (cae h = che h ∧ cah h = hzero) := by unfold Hid cae cah; rw [if_neg h0, if_neg h0]; exact ⟨rfl, rfl⟩
    have d0 := H6.out.cell 0 rfl
    have d1 := H6.out.cell 1 rfl
    have d2 := H6.out.cell 2 rfl
    have d3 := H6.out.cell 3 rfl
    have d4 := H6.out.cell 4 rfl
    have d5 := H6.out.cell 5 rfl
    have d6 := H6.out.cell 6 rfl
    have d7 := H6.out.cell 7 rfl
    have d8 := H6.out.cell 8 rfl
    have f0 := H6.out.frozen 0
    have f1 := H6.out.frozen 1
    have f2 := H6.out.frozen 2
    have f3 := H6.out.frozen 3
    have f4 := H6.out.frozen 4
    have f5 := H6.out.frozen 5
    have f6 := H6.out.frozen 6
    have f7 := H6.out.frozen 7
    have f8 := H6.out.frozen 8
    go_wp2
    refine bodyPost_ret (hist_res rfl _ _ (w.heap.size + 1) _ _ _ _ _ _ _ _ _ rfl (set9_nine H6.out (.int .i64 0) (.int .u64 0) (.int .u64 0) (.int .u64 0) (.int .u64 0) (.slice none 0 0) (.slice none 0 0) (.slice none 0 0) (.slice none 0 0))) rfl ?_
    exact ⟨_, by rw [HC.out.1]; rfl, by rw [HC.out.2]; exact hzero_own _ _, set9_fr HF1.out (.inr (by simp)) (.int .i64 0) (.int .u64 0) (.int .u64 0) (.int .u64 0) (.int .u64 0) (.slice none 0 0) (.slice none 0 0) (.slice none 0 0) (.slice none 0 0)⟩
/-- Do both count the same? -/
def heq (a b : Hs) : Bool := decide (che a = 0 ∧ che b = 0 ∧ a.s = b.s ∧ a.z = b.z ∧ a.zc = b.zc ∧ a.c = b.c ∧ a.sm = b.sm ∧ wio (sdp a) 0 = wio (sdp b) 0 ∧ wio (sdn a) 0 = wio (sdn b) 0)

end Go.Proofs.Ytnfbmdniomelnaa

/-
  Package hist: spread.
-/
namespace Go.Proofs.Ytnfbmdniomelnaa
open Go.RowKit Go.Shelf Mem Spans
set_option linter.unusedSimpArgs false
set_option linter.unusedVariables false
set_option maxRecDepth 100000
attribute [local go_sem] Oper.semAt_some

/-- What spread has behind a place: how many of its own were met, the counts. -/
def spt (o : List Sp) (st : Nat × List Int) (p : Int) : Nat × List Int :=
  match o[st.1]? with
  | some s => if s.1 = p then (st.1 + 1, st.2 ++ [s.2]) else (st.1, st.2 ++ [0])
  | none => (st.1, st.2 ++ [0])
def sps (o : List Sp) (ps : List Int) : Nat × List Int := ps.foldl (spt o) (0, [])
theorem sps_snoc (o : List Sp) (ps : List Int) (p : Int) : sps o (ps ++ [p]) = spt o (sps o ps) p := by simp [sps, List.foldl_append]
theorem spt_hit {o : List Sp} {st : Nat × List Int} {p : Int} {s : Sp} (h : o[st.1]? = some s) (e : s.1 = p) : spt o st p = (st.1 + 1, st.2 ++ [s.2]) := by unfold spt; rw [h]; simp only; rw [if_pos e]
theorem spt_miss {o : List Sp} {st : Nat × List Int} {p : Int} (h : ∀ s, o[st.1]? = some s → s.1 ≠ p) : spt o st p = (st.1, st.2 ++ [0]) := by
  unfold spt
  split
  · rename_i s hs; rw [if_neg (h s hs)]
  · rfl
theorem sps_from (o : List Sp) (ps : List Int) (st : Nat × List Int) : (ps.foldl (spt o) st).2.length = st.2.length + ps.length ∧ (st.1 ≤ o.length → (ps.foldl (spt o) st).1 ≤ o.length) := by
  induction ps generalizing st with
  | nil => simp
  | cons p r ih =>
    have k := ih (spt o st p)
    rw [List.foldl_cons]
    by_cases h : ∃ s, o[st.1]? = some s ∧ s.1 = p
    · obtain ⟨s, h1, h2⟩ := h
      have := (List.getElem?_eq_some_iff.1 h1).1
      rw [spt_hit h1 h2] at k ⊢
      simp only [List.length_append, List.length_cons, List.length_nil] at k ⊢
      exact ⟨by omega, fun _ => k.2 (by omega)⟩
    · rw [spt_miss (fun s h1 h2 => h ⟨s, h1, h2⟩)] at k ⊢
      simp only [List.length_append, List.length_cons, List.length_nil] at k ⊢
      exact ⟨by omega, k.2⟩
theorem sps_length (o : List Sp) (ps : List Int) : (sps o ps).2.length = ps.length ∧ (sps o ps).1 ≤ o.length := by
  have := sps_from o ps (0, [])
  unfold sps
  simp only [List.length_nil, Nat.zero_le, Nat.zero_add, forall_const] at this
  exact this
theorem sps_in_from {o : List Sp} (ho : ∀ s ∈ o, in64 s.1 ∧ in64 s.2) (ps : List Int) (st : Nat × List Int) (h : ∀ z ∈ st.2, in64 z) : ∀ z ∈ (ps.foldl (spt o) st).2, in64 z := by
  induction ps generalizing st with
  | nil => exact h
  | cons p r ih =>
    rw [List.foldl_cons]
    refine ih _ ?_
    by_cases k : ∃ s, o[st.1]? = some s ∧ s.1 = p
    · obtain ⟨s, h1, h2⟩ := k
      rw [spt_hit h1 h2]
      intro z hz
      rcases List.mem_append.1 hz with h3 | h3
      · exact h z h3
      · rw [List.mem_singleton.1 h3]; exact (ho s (List.mem_of_getElem? h1)).2
    · rw [spt_miss (fun s h1 h2 => k ⟨s, h1, h2⟩)]
      intro z hz
      rcases List.mem_append.1 hz with h3 | h3
      · exact h z h3
      · rw [List.mem_singleton.1 h3]; unfold in64; omega
theorem sps_in {o : List Sp} (ho : ∀ s ∈ o, in64 s.1 ∧ in64 s.2) (ps : List Int) : ∀ z ∈ (sps o ps).2, in64 z := sps_in_from ho ps _ (by simp)
theorem cell_one_at (w : World) (g : Nat) (x : Int) (t : TypeId) (hg : w.heap.size = g) : ∀ j u, [Value.int .i64 x][j]? = some u → (w.alloc (.cells #[.int .i64 x] t)).cell? ((⟨g, 0, none⟩ : Addr).add j) = some u := by
  subst hg
  intro j u hj
  have e : (⟨w.heap.size, 0, none⟩ : Addr).add j = ⟨w.heap.size, j, none⟩ := by unfold Addr.add; split <;> simp_all
  rw [e, World.cell?_alloc_at _ _ _ _ rfl]
  simpa using hj

/-- The boxes of the counts, of what came in and of the number, the counts' row. -/
def SPI (B : Nat) (w : World) (ov : Value) (A : Nat) (ls : List Int) (W : World) : Prop :=
  (((∃ v, Boxed W (B + 1) 24 v ∧ W.ownsRow B 2 1 v ls.length (inCells ls) ∧ (v = .slice none 0 0 ↔ ls = [])) ∧ Below B w W) ∧ Boxed W B 64 ov) ∧ Boxed W (B + 1 + 1) 3 (.int .i64 (A : Nat))
theorem spi_at {B : Nat} {w : World} {ov : Value} {A : Nat} {ls : List Int} {W : World} (h : SPI B w ov A ls W) :
    KeepsOthers W (W.setCell ⟨B + 1 + 1, 0, none⟩ (.int .i64 ((A : Int) + 1))) ∧ Below B W (W.setCell ⟨B + 1 + 1, 0, none⟩ (.int .i64 ((A : Int) + 1))) ∧ SPI B w ov (A + 1) ls (W.setCell ⟨B + 1 + 1, 0, none⟩ (.int .i64 ((A : Int) + 1))) := by
  obtain ⟨⟨⟨⟨v, hv, hr, hn⟩, hb⟩, hp⟩, ha⟩ := h
  have hbl : Below B W (W.setCell ⟨B + 1 + 1, 0, none⟩ (.int .i64 ((A : Int) + 1))) := (Below.refl B W).setCell (p := ⟨B + 1 + 1, 0, none⟩) (by simp only; omega) _
  refine ⟨KeepsOthers.setCell _ _ _, hbl, ⟨⟨⟨v, hv.other (by omega) _, hr.kept (grownBy_setCell' _ _ _) (.inr (ha.not_row (by decide) hr).symm), hn⟩, hb.trans hbl⟩, hp.other (by omega) _⟩, ?_⟩
  rw [show (((A + 1 : Nat)) : Int) = (A : Int) + 1 from by omega]
  exact ha.set _
theorem spi_app {B : Nat} {w : World} {ov v v' : Value} {A : Nat} {ls : List Int} {s : Int} {W w3 : World} {tmp : Obj} (h : SPI B w ov A ls W) (hv : Boxed W (B + 1) 24 v)
    (hown : w3.ownsRow B 2 1 v' (ls.length + 1) (inCells (ls ++ [s]))) (hgrow : (W.alloc tmp).grownBy w3 v.ownBlock) :
    Boxed w3 (B + 1) 24 v ∧ KeepsOthers W (w3.setCell ⟨B + 1, 0, none⟩ v') ∧ Below B W (w3.setCell ⟨B + 1, 0, none⟩ v') ∧ SPI B w ov A (ls ++ [s]) (w3.setCell ⟨B + 1, 0, none⟩ v') := by
  obtain ⟨⟨⟨⟨v0, hv', hr, hn⟩, hb⟩, hp⟩, ha⟩ := h
  have e : v0 = v := by
    have h1 := hv'.cell
    rw [hv.cell] at h1
    exact (Option.some.inj h1).symm
  subst e
  obtain ⟨hv1, hv2, hr2, hk2, hb2⟩ := hv.appended (by decide) hr (by have := hv.lt; omega) (by omega) hown hgrow
  refine ⟨hv1, hk2, hb2, ⟨⟨⟨_, hv2, by rw [List.length_append]; exact hr2, ?_⟩, hb.trans hb2⟩, ((hp.alloc _).kept hgrow (hp.not_row (by decide) hr)).other (by omega) _⟩, ((ha.alloc _).kept hgrow (ha.not_row (by decide) hr)).other (by omega) _⟩
  obtain ⟨g', cap', rfl⟩ := ownsRow_succ hown
  simp

theorem NOwn.put {e : TypeId} {B D : Nat} {w : World} {v : Value} {zs : List Int} {x : Option (List Deferred)} (h : NOwn e B w v zs) (hK : w.heap[D]? = some (Obj.deferred x)) : NOwn e B (w.putObj D (.deferred none)) v zs := by
  have hn : v = .slice none 0 0 ↔ zs = [] := by
    rcases h with ⟨rfl, rfl⟩ | ⟨g, _, h0, hr⟩
    · simp
    · obtain ⟨c, rfl⟩ := hr.val
      constructor
      · intro h; simp at h
      · intro h; subst h; simp at h0
  exact NOwn.of_owns (ownsRow_putObj h.owns _ hK rfl) hn
end Go.Proofs.Ytnfbmdniomelnaa

/-
  Package hist: Over (and the library's Clone of spans).
-/
namespace Go.Proofs.Ytnfbmdniomelnaa
open Go.RowKit Mem Spans
set_option linter.unusedSimpArgs false
set_option linter.unusedVariables false
set_option maxRecDepth 100000

theorem ssrc_cells {w : World} {ad : Addr} {c : Nat} {ys : List Sp} (h : SSrc w (.slice (some ad) ys.length c) ys) : ∀ (j : Nat) (x : Value), (spCells ys)[j]? = some x → w.cell? (ad.add j) = some x := by
  obtain ⟨ao, cc, hv, hc1, hc2, h64, b, off, ha, hc⟩ := h
  simp only [Value.slice.injEq] at hv
  obtain ⟨rfl, _, rfl⟩ := hv
  intro j x hj
  have hjl : j < (spCells ys).length := (List.getElem?_eq_some_iff.1 hj).1
  rw [spCells_length] at hjl
  have hlen : 0 < ys.length := by omega
  have := ha hlen
  simp only [Option.some.injEq] at this
  subst this
  have e : (⟨b, off, none⟩ : Addr).add j = ⟨b, off + j, none⟩ := by unfold Addr.add; split <;> simp_all
  rw [e]
  obtain ⟨s, hs⟩ := at_lt (l := ys) (k := j / 2) (by omega)
  have h1 := spCells_at ys (j / 2) s hs
  have h2 := hc (j / 2) s hs
  by_cases hp : j % 2 = 0
  · have ej : j / 2 * 2 = j := by omega
    rw [ej] at h1 h2
    rw [h2.1, ← h1.1, hj]
  · have ej : j / 2 * 2 + 1 = j := by omega
    rw [Nat.add_assoc, ej] at h2
    rw [ej] at h1
    rw [h2.2, ← h1.2, hj]
theorem ssrc_of_owns {w : World} {B : Nat} {e : TypeId} {v : Value} {l : List Sp} (h : w.ownsRow B e 2 v l.length (spCells l)) (hz : ∀ s ∈ l, in64 s.1 ∧ in64 s.2) : ∃ ao cap, v = .slice ao l.length cap ∧ SSrc w v l := by
  rcases h.2 with ⟨rfl, h0⟩ | ⟨g, cap, cur, rfl, _, hg, hn, hm, hs, ht⟩
  · have := List.eq_nil_of_length_eq_zero h0
    subst this
    exact ⟨none, 0, rfl, SSrc.nil w⟩
  · refine ⟨_, _, rfl, _, cap, rfl, hn, hm, hz, g, 0, fun _ => rfl, fun j x hj => ?_⟩
    have hjl := (List.getElem?_eq_some_iff.1 hj).1
    have hq := spCells_at l j x hj
    have hcur : ∀ i, i < l.length * 2 → w.cell? ⟨g, i, none⟩ = (spCells l)[i]? := by
      intro i hi
      rw [cell_at hg, ← ht, List.getElem?_take, if_pos hi, Array.getElem?_toList]
    rw [show 0 + j * 2 = j * 2 from by omega, hcur _ (by omega), hcur _ (by omega)]
    exact hq
section
variable (w : World)
theorem wpList_append_lit {ops : Array Oper} {rest : List Oper} {o : Oper} {a : Act} {Q : Exit → Act → World → Prop} (hgd : o.guard = none) (sx x : Operand) (t : TypeId)
    (ho : o.op = .call { callee := .builtin .append, args := #[sx, x], argTypes := #[t, t] })
    {e : TypeId} {i0 : TypeInfo} (ht : Try.prog.underlying t = some (.slice e)) (hi : SInfo e i0)
    {B c : Nat} {v : Value} {ad : Addr} {ys : List Sp} (hB : B ≤ w.heap.size) (hs : a.eval sx = v) (hx : a.eval x = .slice (some ad) ys.length c) (h1 : w.ownsRow B e 2 v 0 []) (h2 : SSrc w (.slice (some ad) ys.length c) ys) (hl : ys.length ≤ 1000000)
    (h : ∀ v' w', w'.ownsRow B e 2 v' ys.length (spCells ys) → w.grownBy w' v.ownBlock → wpList Try.prog ops Q rest (a.put o.dst v') w') : wpList Try.prog ops Q (o :: rest) a w := by
  refine wpList_plain hgd fun _ hK => ?_
  obtain ⟨v', w', hr, h3, h4, _⟩ := run_append_own w B t o.type e i0 _ 2 16 ht hi.1 hi.2.1 hi.2.2.1 hi.2.2.2 rfl (by decide) v 0 [] h1 ad ys.length c (spCells ys) (by rw [spCells_length]) (ssrc_cells h2)
    (fun x hx => by
      obtain ⟨s, _, hs⟩ := List.mem_flatMap.1 hx
      simp at hs
      rcases hs with rfl | rfl <;> rfl) (by unfold maxLen; omega) (by omega) hB
  unfold Oper.wp execOp
  simp only [ho, resolve, invoke, builtin, Sem.run_bind, Sem.run_pure, Result.andThen_ok, List.map_toArray, List.map_cons, List.map_nil, hs, hx, hr]
  exact hK _ _ (h v' w' (by simpa using h3) h4)
end

theorem ownsRow_keptS {w w' : World} {B n size : Nat} {e : TypeId} {v : Value} {xs : List Value} {S : List Nat} (h : w.ownsRow B e size v n xs) (f : Fr S w w') (hs : ∀ y ∈ S, y < B) : w'.ownsRow B e size v n xs := by
  refine ⟨h.1, ?_⟩
  rcases h.2 with h | ⟨g, cap, cur, h1, h2, h3, h4⟩
  · exact .inl h
  · exact .inr ⟨g, cap, cur, h1, h2, f.heap h3 (fun hg => by have := hs g hg; omega), h4⟩
theorem ownsRow_mono {w : World} {B C n size : Nat} {e : TypeId} {v : Value} {xs : List Value} (h : w.ownsRow B e size v n xs) (hc : C ≤ B) : w.ownsRow C e size v n xs := by
  refine ⟨h.1, ?_⟩
  rcases h.2 with h | ⟨g, cap, cur, h1, h2, h3⟩
  · exact .inl h
  · exact .inr ⟨g, cap, cur, h1, by omega, h3⟩
set_option maxHeartbeats 1000000 in
theorem clone_any (v : Value) (l : List Sp) (w : World) (h : SSrc w v l) (hl : l.length ≤ 1000000) :
    Calls Try.prog 45 #[v] w fun e w' => ∃ ao cap, e = .returned (.slice ao l.length cap) ∧ w'.ownsRow w.heap.size 63 2 (.slice ao l.length cap) l.length (spCells l) ∧ Fr [] w w' := by
  have HS : Hid (SSrc w v l) := h
  obtain ⟨ao, cap, rfl, hcap, hmax, _⟩ := h
  have q23 : ∀ (w : World) (a : Option Addr) (n c : Nat), (binOp .eql 23 (.slice a n c) (.slice none 0 0)).run Try.prog w = .ok (.bool a.isNone) w := fun w a n c => Lib.run_eql_slice_nil w _ _ _ _ _ _ _ Try.underlying23
  obtain ⟨i0, hi⟩ := info_span
  have HI : Hid (SInfo 63 i0) := hi
  clear hi
  go_enter Try.func45, Try.ntmps45
  cases ao with
  | none =>
    have h0 : l = [] := by
      obtain ⟨_, _, hv, _, _, _, b, off, ha, _⟩ := HS.out
      simp only [Value.slice.injEq] at hv
      obtain ⟨rfl, _, rfl⟩ := hv
      by_cases hy : 0 < l.length
      · have := ha hy; cases this
      · exact List.eq_nil_of_length_eq_zero (by omega)
    subst h0
    go_wp2
    go_ret
    exact ⟨_, _, rfl, World.ownsRow_nil _ _ _ _, Fr.refl _ _⟩
  | some ad =>
    have HM : Hid (World.ownsRow (w.alloc (.cells #[] 63)) w.heap.size 63 2 (.slice (some ⟨w.heap.size, 0, none⟩) 0 0) 0 []) := World.ownsRow_made w #[] 0 (Nat.le_refl _) (by unfold maxLen; omega) (by simp)
    have HIN : Hid (∀ s ∈ l, in64 s.1 ∧ in64 s.2) := by obtain ⟨_, _, _, _, _, h64, _⟩ := HS.out; exact h64
    go_wp2_with (at_builtin; refine wpList_append_lit _ rfl _ _ 23 rfl Try.underlying23 HI.out (B := w.heap.size) (v := .slice (some ⟨w.heap.size, 0, none⟩) 0 0) (ys := l) (by simp) rfl rfl HM.out (HS.out.kept ((Fr.refl [] w).alloc _)) hl ?_; intro v' w3 hown hgr; obtain ⟨ao3, cap3, rfl, hs3⟩ := ssrc_of_owns hown HIN.out; have HS3 : Hid (w3.ownsRow w.heap.size 63 2 _ l.length (spCells l)) := hown; have HF3 : Hid (Fr [] w w3) := ((Fr.refl [] w).alloc _).grown hgr (fun k hk => .inr (by simp [Value.ownBlock] at hk; omega)); clear hown hgr hs3)
    go_ret
    exact ⟨_, _, rfl, HS3.out, HF3.out⟩

/-- Has a side all places? Over's error; what it tells. -/
def spb (o : List Sp) (l : List Sp) : Bool := decide ((sps o (pls l)).1 = o.length)
def ove (h : Hs) (p n : List Sp) : Int :=
  if che h = 0 then (if chk p = 0 then (if chk n = 0 then (if spb (sdp h) p = true then (if spb (sdn h) n = true then 0 else 23) else 23) else chk n) else chk p) else che h
def ovs (h : Hs) (p n : List Sp) : Hs := ⟨h.s, h.z, h.zc, h.c, h.sm, p, n, dlv (sps (sdp h) (pls p)).2, dlv (sps (sdn h) (pls n)).2⟩
def ovh (h : Hs) (p n : List Sp) : Hs := if ove h p n = 0 then ovs h p n else hzero
theorem hzero_src (w : World) : HSrc w (.agg #[.int .i64 0, .int .u64 0, .int .u64 0, .int .u64 0, .int .u64 0, .slice none 0 0, .slice none 0 0, .slice none 0 0, .slice none 0 0]) hzero := (hzero_own 0 w).src (by unfold hin hzero; simp)
/-- A histogram that lies apart from all blocks below B. -/
def HKeep (B : Nat) (w : World) (v : Value) (h : Hs) : Prop := ∀ (S : List Nat) (w' : World), Fr S w w' → (∀ y ∈ S, y < B) → HSrc w' v h
theorem HKeep.src {B : Nat} {w : World} {v : Value} {h : Hs} (k : HKeep B w v h) : HSrc w v h := k [] w (Fr.refl _ _) (by simp)
theorem hzero_keep (B : Nat) (w : World) : HKeep B w (.agg #[.int .i64 0, .int .u64 0, .int .u64 0, .int .u64 0, .int .u64 0, .slice none 0 0, .slice none 0 0, .slice none 0 0, .slice none 0 0]) hzero := fun _ w' _ _ => hzero_src w'
theorem chk_len {l : List Sp} (h : chk l = 0) : l.length ≤ 1000000 := by have := (chk_zero.1 h).1; omega

end Go.Proofs.Ytnfbmdniomelnaa
