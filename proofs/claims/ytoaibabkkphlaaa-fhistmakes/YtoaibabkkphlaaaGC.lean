/-
  Hists, HMem, HAdds, HSides, HMake, HMade, HCanon, HSpread, HOver.
-/
import Derived.Test.YtoaibabkkphlaaaGB
import Derived.Laws.BitsAllLaws
import Derived.Laws.ResultCell
import Derived.Deep.DeepCutAuto
import Derived.Deep.RegionHeld3
import Derived.Lib.SliceRun
/-
  Histograms of whole counts: what is right, reckoned; how they lie in memory.
-/
namespace Go.Proofs.Ytoaibabkkphlaaa
open Go.RowKit Mem Spans
set_option linter.unusedSimpArgs false
set_option linter.unusedVariables false
set_option maxRecDepth 100000

/-- A histogram: its five numbers, both sides' spans and differences. -/
structure Hs where
  s : Int
  z : Int
  zc : Int
  c : Int
  sm : Int
  P : List Sp
  N : List Sp
  pd : List Int
  nd : List Int
def inu (z : Int) : Prop := 0 ≤ z ∧ z < 18446744073709551616
/-- A histogram as a value. -/
def HSrc (w : World) (v : Value) (h : Hs) : Prop :=
  ∃ vp vn up un, v = .agg #[.int .i64 h.s, .int .u64 h.z, .int .u64 h.zc, .int .u64 h.c, .int .u64 h.sm, vp, vn, up, un] ∧ in64 h.s ∧ (inu h.z ∧ inu h.zc ∧ inu h.c ∧ inu h.sm) ∧
    SSrc w vp h.P ∧ SSrc w vn h.N ∧ ISrc w up h.pd ∧ ISrc w un h.nd
theorem HSrc.kept {w w' : World} {v : Value} {h : Hs} (k : HSrc w v h) (f : Fr [] w w') : HSrc w' v h := by
  obtain ⟨a, b, c, d, h1, h2, h3, h4, h5, h6, h7⟩ := k
  exact ⟨a, b, c, d, h1, h2, h3, h4.kept f, h5.kept f, h6.kept f, h7.kept f⟩

theorem HSrc.opens {w : World} {v : Value} {h : Hs} (k : HSrc w v h) : ∃ po pc no nc qo qc ro rc, v = .agg #[.int .i64 h.s, .int .u64 h.z, .int .u64 h.zc, .int .u64 h.c, .int .u64 h.sm, .slice po h.P.length pc, .slice no h.N.length nc, .slice qo h.pd.length qc, .slice ro h.nd.length rc] ∧
    (in64 h.s ∧ inu h.z ∧ inu h.zc ∧ inu h.c ∧ inu h.sm) ∧ (SSrc w (.slice po h.P.length pc) h.P ∧ SSrc w (.slice no h.N.length nc) h.N ∧ ISrc w (.slice qo h.pd.length qc) h.pd ∧ ISrc w (.slice ro h.nd.length rc) h.nd) ∧ (h.P.length ≤ pc ∧ pc ≤ maxLen) ∧ (h.N.length ≤ nc ∧ nc ≤ maxLen) ∧ (h.pd.length ≤ qc ∧ qc ≤ maxLen) ∧ (h.nd.length ≤ rc ∧ rc ≤ maxLen) := by
  obtain ⟨a, b, c, d, rfl, h2, h3, h4, h5, h6, h7⟩ := k
  have k4 := h4
  have k5 := h5
  have k6 := h6
  have k7 := h7
  obtain ⟨po, pc, rfl, x1, y1, _⟩ := h4
  obtain ⟨no, nc, rfl, x2, y2, _⟩ := h5
  obtain ⟨qo, qc, rfl, x3, y3, _⟩ := h6
  obtain ⟨ro, rc, rfl, x4, y4, _⟩ := h7
  exact ⟨po, pc, no, nc, qo, qc, ro, rc, rfl, ⟨h2, h3⟩, ⟨k4, k5, k6, k7⟩, ⟨x1, y1⟩, ⟨x2, y2⟩, ⟨x3, y3⟩, ⟨x4, y4⟩⟩
/-- A cell of the block that was made last, later. -/
theorem blk {w wx : World} {cs : Array Value} {t : TypeId} (f : Fr [] (w.alloc (.cells cs t)) wx) (i : Nat) {v : Value} (h : cs[i]? = some v) : wx.cell? ⟨w.heap.size, i, none⟩ = some v :=
  f.cell_some (by rw [World.cell?_alloc_at _ _ _ _ rfl]; exact h) (by simp)
/-- No number: by its bits. -/
def nan (v : Int) : Bool := decide (9218868437227405312 < v % 9223372036854775808)
/-- No count is below 0. -/
def nng (l : List Int) : Bool := l.all fun n => decide (0 ≤ n)
/-- A side's error; its places with their counts. -/
def sde (l : List Sp) (d : List Int) : Int :=
  if chk l = 0 then (if d.length = (pls l).length then (if abe d = 0 then (if nng (abv d) = true then 0 else 22) else 28) else 23) else chk l
def sdl (l : List Sp) (d : List Int) : List Sp := if sde l d = 0 then (pls l).zip (abv d) else []
/-- What is left of a number, when all counts are taken from it. -/
def lft : Int → List Int → Option Int
  | a, [] => some a
  | a, n :: r => if n ≤ a then lft (a - n) r else none
def fts (zc c sm : Int) (p n : List Int) : Bool :=
  decide (zc ≤ c) && (match lft (c - zc) (p ++ n) with | some a => decide (a = 0) || nan sm | none => false)
/-- Schema and threshold. -/
def hde (s z : Int) : Int := if s < -4 ∨ 8 < s then 21 else if z < 9218868437227405312 then 0 else 11
/-- Check's error. -/
def che (h : Hs) : Int :=
  if hde h.s h.z = 0 then (if sde h.P h.pd = 0 then (if sde h.N h.nd = 0 then (if fts h.zc h.c h.sm (abv h.pd) (abv h.nd) = true then 0 else 22) else sde h.N h.nd) else sde h.P h.pd) else hde h.s h.z
def sdp (h : Hs) : List Sp := if che h = 0 then sdl h.P h.pd else []
def sdn (h : Hs) : List Sp := if che h = 0 then sdl h.N h.nd else []

theorem abe_cases (l : List Int) : abe l = 0 ∨ abe l = 28 := by unfold abe; split <;> simp
theorem abe_zero {l : List Int} : abe l = 0 ↔ ∃ o, absl 0 l = some o := by unfold abe; cases absl 0 l <;> simp
theorem abv_length {l : List Int} (h : abe l = 0) : (abv l).length = l.length := by
  obtain ⟨o, h1⟩ := abe_zero.1 h
  unfold abv
  rw [h1]
  exact (absl_in h1).1
theorem nng_iff {l : List Int} : nng l = true ↔ ∀ n ∈ l, 0 ≤ n := by simp [nng, List.all_eq_true]
theorem sde_zero {l : List Sp} {d : List Int} : sde l d = 0 ↔ chk l = 0 ∧ d.length = (pls l).length ∧ abe d = 0 ∧ nng (abv d) = true := by
  unfold sde
  constructor
  · intro h
    split at h
    · rename_i h1
      split at h
      · rename_i h2
        split at h
        · rename_i h3
          split at h
          · rename_i h4; exact ⟨h1, h2, h3, h4⟩
          · cases h
        · cases h
      · cases h
    · rename_i h1; exact absurd h h1
  · rintro ⟨h1, h2, h3, h4⟩
    rw [if_pos h1, if_pos h2, if_pos h3, if_pos h4]
theorem sdl_zip {l : List Sp} {d : List Int} (h : sde l d = 0) : sdl l d = (pls l).zip (abv d) ∧ fsts (sdl l d) = pls l ∧ snds (sdl l d) = abv d := by
  have hz := sde_zero.1 h
  have hl : (pls l).length = (abv d).length := by rw [abv_length hz.2.2.1]; exact hz.2.1.symm
  have e : sdl l d = (pls l).zip (abv d) := by unfold sdl; rw [if_pos h]
  refine ⟨e, ?_, ?_⟩
  · rw [e]; unfold fsts; exact List.map_fst_zip (by omega)
  · rw [e]; unfold snds; exact List.map_snd_zip (by omega)
theorem pls_in64 {l : List Sp} : ∀ z ∈ pls l, in64 z := by
  intro z hz
  unfold pls at hz
  split at hz
  · rename_i h
    have := rises_mem (ok_rising (chk_zero.1 h).2) z hz
    unfold in64; omega
  · simp at hz
theorem sdl_in (l : List Sp) (d : List Int) : ∀ x ∈ sdl l d, in64 x.1 ∧ in64 x.2 := by
  intro x hx
  by_cases h : sde l d = 0
  · obtain ⟨h1, h2, h3⟩ := sdl_zip h
    refine ⟨pls_in64 (l := l) x.1 (by rw [← h2]; exact List.mem_map.2 ⟨x, hx, rfl⟩), abv_in d x.2 (by rw [← h3]; exact List.mem_map.2 ⟨x, hx, rfl⟩)⟩
  · unfold sdl at hx; rw [if_neg h] at hx; simp at hx
theorem sdl_le (l : List Sp) (d : List Int) : (sdl l d).length ≤ 4096 := by
  by_cases h : sde l d = 0
  · have h2 := congrArg List.length (sdl_zip h).2.1
    rw [fsts_length] at h2
    rw [h2]; exact pls_le l
  · unfold sdl; rw [if_neg h]; simp
theorem che_zero {h : Hs} : che h = 0 ↔ hde h.s h.z = 0 ∧ sde h.P h.pd = 0 ∧ sde h.N h.nd = 0 ∧ fts h.zc h.c h.sm (abv h.pd) (abv h.nd) = true := by
  unfold che
  constructor
  · intro k
    split at k
    · rename_i h1
      split at k
      · rename_i h2
        split at k
        · rename_i h3
          split at k
          · rename_i h4; exact ⟨h1, h2, h3, h4⟩
          · cases k
        · rename_i h3; exact absurd k h3
      · rename_i h2; exact absurd k h2
    · rename_i h1; exact absurd k h1
  · rintro ⟨h1, h2, h3, h4⟩
    rw [if_pos h1, if_pos h2, if_pos h3, if_pos h4]
theorem sdp_in (h : Hs) : ∀ x ∈ sdp h, in64 x.1 ∧ in64 x.2 := by
  intro x hx; unfold sdp at hx; split at hx
  · exact sdl_in _ _ x hx
  · simp at hx
theorem sdn_in (h : Hs) : ∀ x ∈ sdn h, in64 x.1 ∧ in64 x.2 := by
  intro x hx; unfold sdn at hx; split at hx
  · exact sdl_in _ _ x hx
  · simp at hx
theorem sdp_le (h : Hs) : (sdp h).length ≤ 4096 := by unfold sdp; split; exact sdl_le _ _; simp
theorem sdn_le (h : Hs) : (sdn h).length ≤ 4096 := by unfold sdn; split; exact sdl_le _ _; simp

theorem zpl_sdl {l : List Sp} {d : List Int} (h : sde l d = 0) : zpe l (abv d) = 0 ∧ zpl l (abv d) = sdl l d := by
  have hz := sde_zero.1 h
  have e : zpe l (abv d) = 0 := by unfold zpe; rw [if_pos hz.1, if_pos (by rw [abv_length hz.2.2.1]; exact hz.2.1)]
  refine ⟨e, ?_⟩
  unfold zpl sdl
  rw [if_pos e, if_pos h]
end Go.Proofs.Ytoaibabkkphlaaa

/-
  Package hist: NaN, Threshold, together.
-/
namespace Go.Proofs.Ytoaibabkkphlaaa
open Go.RowKit Mem Spans
set_option linter.unusedSimpArgs false
set_option linter.unusedVariables false
set_option maxRecDepth 100000

theorem andNot_top (v : Int) (hv : inu v) : bits .andNot .u64 v 9223372036854775808 = v % 9223372036854775808 := by
  unfold inu at hv
  rw [u64_andNot v 9223372036854775808 hv.1 hv.2 (by omega) (by omega)]
  rw [show (18446744073709551615 - (9223372036854775808 : Int).toNat) = 2 ^ 63 - 1 from by decide, Nat.and_two_pow_sub_one_eq_mod]
  rw [show (2 ^ 63 : Nat) = 9223372036854775808 from by decide]
  omega

set_option maxHeartbeats 400000 in
theorem nan_any (v : Int) (w : World) (hv : inu v) :
    Calls Try.prog 101 #[.int .u64 v] w fun e w' => e = .returned (.bool (nan v)) ∧ w = w' := by
  go_enter Try.func101, Try.ntmps101
  have e := andNot_top v hv
  go_wp2
  go_ret
  exact ⟨rfl, rfl⟩
theorem threshold_any (v : Int) (w : World) :
    Calls Try.prog 49 #[.int .u64 v] w fun e w' => e = .returned (.bool (decide (v < 9218868437227405312))) ∧ w = w' := by
  go_enter Try.func49, Try.ntmps49
  go_wp2
  go_ret
  exact ⟨rfl, rfl⟩

set_option maxHeartbeats 2000000 in
theorem together_any (v u : Value) (l : List Sp) (d : List Int) (w : World) (h : SSrc w v l) (h2 : ISrc w u d) :
    Calls Try.prog 90 #[v, u] w fun e w' => ∃ x, e = .returned (.tuple #[x, .int .i64 (sde l d)]) ∧ SOwn 141 w.heap.size w' x (sdl l d) ∧ Fr [] w w' := by
  have HSR : Hid (SSrc w v l) := h
  have HIR : Hid (ISrc w u d) := h2
  obtain ⟨ao, cap, rfl, hcap, hmax, _⟩ := h
  obtain ⟨bo, bcap, rfl, hbcap, hbmax, _⟩ := h2
  go_enter Try.func90, Try.ntmps90
  go_wp2_with fail
  refine (check_any _ l _ HSR.out).mono ?_
  rintro e w1 ⟨rfl, hf1⟩
  have HF1 : Hid (Fr [] w w1) := hf1
  clear hf1
  by_cases hk : chk l = 0
  · rw [hk]
    go_wp2_with fail
    refine (count_any _ l _ (HSR.out.kept HF1.out)).mono ?_
    rintro e w2 ⟨rfl, hf2⟩
    have HF2 : Hid (Fr [] w w2) := HF1.out.trans hf2 (by simp)
    rw [ctn_pls l hk]
    clear hf2 HF1
    by_cases hd : d.length = (pls l).length
    · have HD : Hid (d.length = (pls l).length) := hd
      have hdl : (d.length : Int) = ((pls l).length : Int) := by omega
      rw [← hdl]
      clear hd hdl
      go_wp2_with fail
      refine (absolute_any _ d _ (HIR.out.kept HF2.out) (by have := HD.out; have := pls_le l; omega)).mono ?_
      rintro e w3 ⟨x, rfl, hx, hf3⟩
      have HF3 : Hid (Fr [] w w3) := HF2.out.trans hf3 (by simp)
      have HX : Hid (NOwn 2 w.heap.size w3 x (abv d)) := hx.mono HF2.out.size
      clear hf3 HF2 hx
      have hrest : in64 0 := by unfold in64; omega
      by_cases ha : abe d = 0
      · rw [ha]
        have HZ : Hid (sde l d = if nng (abv d) = true then 0 else 22) := by unfold Hid sde; rw [if_pos hk, if_pos HD.out, if_pos ha]
        have HAB : Hid (∀ wx, Fr [] w3 wx → ISrc wx x (abv d)) := fun wx hx => (HX.out.src (abv_in d)).kept hx
        obtain ⟨xo, xcap, hxv, hxc, hxm, _, xb, xoff, hxa, hxcell⟩ := HAB.out w3 (Fr.refl _ _)
        have HC : Hid (∀ j s, (abv d)[j]? = some s → w3.cell? ⟨xb, xoff + j, none⟩ = some (.int .i64 s)) := hxcell
        have HA : Hid (0 < (abv d).length → xo = some ⟨xb, xoff, none⟩) := hxa
        subst hxv
        clear hxcell hxa hk ha HX
        have hxm2 : (abv d).length ≤ 9223372036854775807 := by unfold maxLen at hxm; omega
        generalize hM : (abv d).length = M at *
        have HM : Hid ((abv d).length = M) := hM
        clear hM
        go_wp2
        go_loopw [31] (fun i wr => ∃ (k : Nat), k ≤ M ∧ i = .int .i64 (k : Int) ∧ nng ((abv d).take k) = true ∧ wr = w3) (fun i _ => M - (intOf i).toNat)
        case atStart => exact ⟨0, by omega, rfl, by simp [nng], rfl⟩
        case round =>
          obtain ⟨k, hk, rfl, hn, rfl⟩ := hrel
          have HN : Hid (nng ((abv d).take k) = true) := hn
          clear hn
          by_cases hlt : k < M
          · obtain rfl := HA.out (by omega)
            obtain ⟨s, hs⟩ := at_lt (l := abv d) (k := k) (by have := HM.out; omega)
            have c0 := HC.out k s hs
            have HS : Hid ((abv d)[k]? = some s) := hs
            clear hs
            by_cases h0 : s < 0
            · have HE : Hid (sde l d = 22 ∧ sdl l d = []) := by
                have e : sde l d = 22 := by
                  rw [HZ.out, if_neg]
                  intro h
                  have := nng_iff.1 h s (List.mem_of_getElem? HS.out)
                  omega
                refine ⟨e, ?_⟩
                unfold sdl; rw [if_neg (by omega)]
              go_wp2
              go_ret2
              exact ⟨_, by rw [HE.out.1]; rfl, .inl ⟨HE.out.2, rfl⟩, HF3.out⟩
            · have HN2 : Hid (nng ((abv d).take (k + 1)) = true) := by
                rw [Hid, take_at HS.out]
                have := HN.out
                simp only [nng, List.all_append, List.all_cons, List.all_nil, Bool.and_eq_true, Bool.and_true] at this ⊢
                exact ⟨this, decide_eq_true (by omega)⟩
              go_wp2
              go_roundw
              case rel => exact ⟨k + 1, by omega, by go_num, HN2.out, trivial⟩
              case measure => simp [intOf]; omega
          · have HN2 : Hid (nng (abv d) = true) := by
              have := HN.out
              rw [List.take_of_length_le (by have := HM.out; omega)] at this
              exact this
            have HE : Hid (sde l d = 0) := by rw [Hid, HZ.out, if_pos HN2.out]
            go_wp2_with fail
            refine (zip_any _ _ l (abv d) _ (HSR.out.kept HF3.out) (HAB.out _ (Fr.refl _ _))).mono ?_
            rintro e w4 ⟨y, rfl, hy, hf4⟩
            have HF4 : Hid (Fr [] w w4) := HF3.out.trans hf4 (by simp)
            have HY : Hid (SOwn 141 w.heap.size w4 y (zpl l (abv d))) := hy.mono HF3.out.size
            clear hf4 hy
            go_wp2
            go_ret2
            exact ⟨_, by rw [HE.out, (zpl_sdl HE.out).1]; rfl, by rw [← (zpl_sdl HE.out).2]; exact HY.out, HF4.out⟩
      · have ha2 : abe d = 28 := (abe_cases d).resolve_left ha
        have HE : Hid (sde l d = 28 ∧ sdl l d = []) := by
          have e : sde l d = 28 := by unfold sde; rw [if_pos hk, if_pos HD.out, if_neg ha]
          refine ⟨e, ?_⟩
          unfold sdl; rw [if_neg (by omega)]
        rw [ha2]
        clear ha ha2 hk
        go_wp2
        go_ret2
        exact ⟨_, by rw [HE.out.1]; rfl, .inl ⟨HE.out.2, rfl⟩, HF3.out⟩
    · have HE : Hid (sde l d = 23 ∧ sdl l d = []) := by
        have e : sde l d = 23 := by unfold sde; rw [if_pos hk, if_neg hd]
        refine ⟨e, ?_⟩
        unfold sdl; rw [if_neg (by omega)]
      have hdn : ¬ (d.length : Int) = ((pls l).length : Int) := by omega
      clear hd hk
      go_wp2
      go_ret2
      exact ⟨_, by rw [HE.out.1]; rfl, .inl ⟨HE.out.2, rfl⟩, HF2.out⟩
  · have HE : Hid (sde l d = chk l ∧ sdl l d = []) := by
      have e : sde l d = chk l := by unfold sde; rw [if_neg hk]
      refine ⟨e, ?_⟩
      unfold sdl; rw [if_neg (by rw [e]; exact hk)]
    go_wp2
    go_ret2
    exact ⟨_, by rw [HE.out.1]; rfl, .inl ⟨HE.out.2, rfl⟩, HF1.out⟩
end Go.Proofs.Ytoaibabkkphlaaa

/-
  Package hist: adds.
-/
namespace Go.Proofs.Ytoaibabkkphlaaa
open Go.RowKit Mem Spans
set_option linter.unusedSimpArgs false
set_option linter.unusedVariables false
set_option maxRecDepth 100000

theorem sub_u {a b : Int} (ha : inu a) (hb : 0 ≤ b) (h : b ≤ a) : IntKind.u64.wrap (a - b) = a - b ∧ inu (a - b) := by
  unfold inu at *; rw [IntKind.wrap_u64]; omega
theorem to_u {n : Int} (h0 : 0 ≤ n) (h : in64 n) : IntKind.u64.wrap n = n := by
  unfold in64 at h; rw [IntKind.wrap_u64]; omega
def rst (p n : List Sp) : Nat → List Int
  | 0 => snds p ++ snds n
  | 1 => snds n
  | _ => []
theorem lft_cons (a n : Int) (r : List Int) : lft a (n :: r) = if n ≤ a then lft (a - n) r else none := rfl

/-- Both sides lie in a block, the histogram in the one ahead. -/
def AB (w wr : World) (vp vn : Value) (sm : Int) : Prop :=
  Fr [] w wr ∧ wr.cell? ⟨w.heap.size + 1, 0, none⟩ = some vp ∧ wr.cell? ⟨w.heap.size + 1, 1, none⟩ = some vn ∧ wr.cell? ⟨w.heap.size, 4, none⟩ = some (.int .u64 sm)
theorem AB.kept {w wr wx : World} {vp vn : Value} {sm : Int} (h : AB w wr vp vn sm) (f : Fr [] wr wx) : AB w wx vp vn sm :=
  ⟨h.1.trans f (by simp), f.cell_some h.2.1 (by simp), f.cell_some h.2.2.1 (by simp), f.cell_some h.2.2.2 (by simp)⟩
theorem ab_start (w : World) (cs : Array Value) (t u : TypeId) (vp vn : Value) (sm : Int) (h : cs[4]? = some (.int .u64 sm)) : AB w ((w.alloc (.cells cs t)).alloc (.cells #[vp, vn] u)) vp vn sm := by
  have e : (w.alloc (.cells cs t)).heap.size = w.heap.size + 1 := World.size_alloc _ _
  refine ⟨((Fr.refl [] w).alloc _).alloc _, ?_, ?_, ?_⟩
  · rw [← e]; exact blk (Fr.refl _ _) 0 rfl
  · rw [← e]; exact blk (Fr.refl _ _) 1 rfl
  · exact blk ((Fr.refl [] _).alloc _) 4 h

set_option maxHeartbeats 2000000 in
theorem adds_any (hv vp vn : Value) (h : Hs) (p n : List Sp) (w : World) (hh : HSrc w hv h) (h1 : SSrc w vp p) (h2 : SSrc w vn n) (hp : ∀ x ∈ snds p, 0 ≤ x) (hn : ∀ x ∈ snds n, 0 ≤ x) :
    Calls Try.prog 91 #[hv, vp, vn] w fun e w' => e = .returned (.bool (fts h.zc h.c h.sm (snds p) (snds n))) ∧ Fr [] w w' := by
  obtain ⟨po, pc, no, nc, qo, qc, ro, rc, rfl, ⟨hs, hz, hzc, hc, hsm⟩, _, _, _, _, _⟩ := hh.opens
  clear hh
  obtain ⟨s, z, zc, c, sm, P, N, pd, nd⟩ := h
  simp only at hs hz hzc hc hsm ⊢
  have HU : Hid (inu zc ∧ inu c ∧ inu sm) := ⟨hzc, hc, hsm⟩
  have HP : Hid (SSrc w vp p) := h1
  have HN : Hid (SSrc w vn n) := h2
  have HPN : Hid (∀ x ∈ snds p, 0 ≤ x) := hp
  have HNN : Hid (∀ x ∈ snds n, 0 ≤ x) := hn
  obtain ⟨ao, cap, rfl, hcap, hmax, _⟩ := h1
  obtain ⟨bo, bcap, rfl, hbcap, hbmax, _⟩ := h2
  clear hs hz hzc hc hsm hp hn
  go_enter Try.func91, Try.ntmps91
  by_cases hzc : zc ≤ c
  · have hsub : IntKind.u64.wrap (c - zc) = c - zc := (sub_u HU.out.2.1 HU.out.1.1 hzc).1
    have hsu : Hid (inu (c - zc)) := (sub_u HU.out.2.1 HU.out.1.1 hzc).2
    have HFT : Hid (fts zc c sm (snds p) (snds n) = (match lft (c - zc) (snds p ++ snds n) with | some a => decide (a = 0) || nan sm | none => false)) := by unfold Hid fts; rw [decide_eq_true hzc]; rfl
    go_wp2
    go_loopw [26, 7] (fun i lf wr => ∃ (k : Nat) (a : Int), k ≤ 2 ∧ i = .int .i64 (k : Int) ∧ lf = .int .u64 a ∧ inu a ∧ lft (c - zc) (snds p ++ snds n) = lft a (rst p n k) ∧ AB w wr (.slice ao p.length cap) (.slice bo n.length bcap) sm) (fun i _ _ => 2 - (intOf i).toNat)
    case atStart => exact ⟨0, c - zc, by omega, rfl, rfl, hsu.out, rfl, ab_start w _ _ _ _ _ _ rfl⟩
    case round =>
      obtain ⟨k, a, hk, rfl, rfl, hia, hla, hf⟩ := hrel
      have HIA : Hid (inu a) := hia
      have HLA : Hid (lft (c - zc) (snds p ++ snds n) = lft a (rst p n k)) := hla
      have HF : Hid (AB w wr (.slice ao p.length cap) (.slice bo n.length bcap) sm) := hf
      clear hia hla hf
      by_cases hk2 : k < 2
      · obtain ⟨ko, kl, kcap, hkc, HKS, HKR, HKN⟩ : ∃ ko kl kcap, wr.cell? ⟨w.heap.size + 1, k, none⟩ = some (.slice ko (List.length kl) kcap) ∧ Hid (SSrc w (.slice ko (List.length kl) kcap) kl) ∧ Hid (rst p n k = snds kl ++ rst p n (k + 1)) ∧ Hid (∀ x ∈ snds kl, 0 ≤ x) := by
          obtain rfl | rfl : k = 0 ∨ k = 1 := by omega
          · exact ⟨ao, p, cap, HF.out.2.1, HP.out, rfl, HPN.out⟩
          · exact ⟨bo, n, bcap, HF.out.2.2.1, HN.out, by simp [Hid, rst], HNN.out⟩
        obtain ⟨_, _, hv1, hkcap, hkmax, hk64, kb, koff, hka, hkcell⟩ := HKS.out
        simp only [Value.slice.injEq, true_and] at hv1
        obtain ⟨rfl, rfl⟩ := hv1
        have HKC : Hid (∀ j s, kl[j]? = some s → w.cell? ⟨kb, koff + j * 2, none⟩ = some (.int .i64 s.1) ∧ w.cell? ⟨kb, koff + j * 2 + 1, none⟩ = some (.int .i64 s.2)) := hkcell
        have HKA : Hid (0 < kl.length → ko = some ⟨kb, koff, none⟩) := hka
        have HK6 : Hid (∀ s ∈ kl, in64 s.1 ∧ in64 s.2) := hk64
        have hkm : kl.length ≤ 9223372036854775807 := by unfold maxLen at hkmax; omega
        clear hkcell hka hk64
        have hkz : (k : Int) < 2 := by omega
        go_wp2
        go_loopw [32, 7] (fun i lf wx => ∃ (m : Nat) (b : Int), m ≤ kl.length ∧ i = .int .i64 (m : Int) ∧ lf = .int .u64 b ∧ inu b ∧ lft a (rst p n k) = lft b (snds (kl.drop m) ++ rst p n (k + 1)) ∧ AB w wx (.slice ao p.length cap) (.slice bo n.length bcap) sm) (fun i _ _ => kl.length - (intOf i).toNat)
        case atStart => exact ⟨0, a, by omega, rfl, rfl, HIA.out, by rw [HKR.out]; simp, HF.out⟩
        case round =>
          obtain ⟨m, b, hm, rfl, rfl, hib, hlb, hf⟩ := hrel
          have HIB : Hid (inu b) := hib
          have HLB : Hid (lft a (rst p n k) = lft b (snds (kl.drop m) ++ rst p n (k + 1))) := hlb
          have HF2 : Hid (AB w wr (.slice ao p.length cap) (.slice bo n.length bcap) sm) := hf
          clear hib hlb hf
          by_cases hml : m < kl.length
          · obtain rfl := HKA.out (by omega)
            obtain ⟨x, hx⟩ := at_lt hml
            have c0 : wr.cell? ⟨kb, koff + m * 2, none⟩ = some (.int .i64 x.1) := HF2.out.1.cell_some (HKC.out m x hx).1 (by simp)
            have c1 : wr.cell? ⟨kb, koff + m * 2 + 1, none⟩ = some (.int .i64 x.2) := HF2.out.1.cell_some (HKC.out m x hx).2 (by simp)
            have HX6 := (HK6.out x (List.mem_of_getElem? hx)).2
            have HX0 : 0 ≤ x.2 := HKN.out x.2 (List.mem_map.2 ⟨x, List.mem_of_getElem? hx, rfl⟩)
            have HLB2 : Hid (lft a (rst p n k) = lft b (x.2 :: (snds (kl.drop (m + 1)) ++ rst p n (k + 1)))) := by
              rw [Hid, HLB.out, drop_at hx]; rfl
            clear hx HLB
            obtain ⟨o, q⟩ := x
            simp only at c0 c1 HX6 HX0
            have HF3 : Hid (AB w (wr.alloc (.cells #[.int .i64 o, .int .i64 q] 141)) (.slice ao p.length cap) (.slice bo n.length bcap) sm) := HF2.out.kept ((Fr.refl [] _).alloc _)
            have hq : IntKind.u64.wrap q = q := to_u HX0 HX6
            clear HX6
            by_cases hle : q ≤ b
            · have hs1 : IntKind.u64.wrap (b - q) = b - q := (sub_u HIB.out HX0 hle).1
              have HIB2 : Hid (inu (b - q)) := (sub_u HIB.out HX0 hle).2
              have HLB3 : Hid (lft a (rst p n k) = lft (b - q) (snds (kl.drop (m + 1)) ++ rst p n (k + 1))) := by rw [Hid, HLB2.out, lft_cons, if_pos hle]
              clear HX0
              go_wp2
              go_roundw
              case rel => exact ⟨m + 1, b - q, by omega, by go_num, rfl, HIB2.out, HLB3.out, HF3.out⟩
              case measure => simp [intOf]; omega
            · have HE : Hid (fts zc c sm (snds p) (snds n) = false) := by
                rw [Hid, HFT.out, HLA.out, HLB2.out, lft_cons, if_neg hle]
              have hlt : b < q := by omega
              clear HX0
              go_wp2
              go_ret
              exact ⟨by rw [HE.out]; rfl, HF3.out.1⟩
          · have HLB2 : Hid (lft (c - zc) (snds p ++ snds n) = lft b (rst p n (k + 1))) := by
              rw [Hid, HLA.out, HLB.out, List.drop_eq_nil_of_le (by omega)]; rfl
            go_wp2
            go_roundw
            case rel => exact ⟨k + 1, b, by omega, by go_num, rfl, HIB.out, HLB2.out, HF2.out⟩
            case measure => simp [intOf]; omega
      · obtain rfl : k = 2 := by omega
        have HE : Hid (fts zc c sm (snds p) (snds n) = (decide (a = 0) || nan sm)) := by rw [Hid, HFT.out, HLA.out]; rfl
        have c4 := HF.out.2.2.2
        by_cases ha : a = 0
        · subst ha
          go_wp2
          go_ret
          exact ⟨by rw [HE.out]; rfl, HF.out.1⟩
        · have hb : (a == 0) = false := by simpa using ha
          go_wp2_with fail
          refine (nan_any sm _ HU.out.2.2).mono ?_
          rintro e w3 ⟨rfl, rfl⟩
          go_wp2
          go_ret
          exact ⟨by rw [HE.out, decide_eq_false ha]; rfl, HF.out.1⟩
  · have HE : Hid (fts zc c sm (snds p) (snds n) = false) := by unfold Hid fts; rw [decide_eq_false hzc]; rfl
    have hlt : c < zc := by omega
    go_wp2
    go_ret
    exact ⟨by rw [HE.out]; rfl, (Fr.refl _ _).alloc _⟩
end Go.Proofs.Ytoaibabkkphlaaa

/-
  Package hist: sides, Check, Pairs.
-/
namespace Go.Proofs.Ytoaibabkkphlaaa
open Go.RowKit Mem Spans
set_option linter.unusedSimpArgs false
set_option linter.unusedVariables false
set_option maxRecDepth 100000

/-- A histogram's block. -/
def Nine (w : World) (b : Nat) (cs : Array Value) : Prop := w.heap[b]? = some (.cells cs 70 (0, 0))
theorem Nine.kept {w w' : World} {b : Nat} {cs : Array Value} {S : List Nat} (h : Nine w b cs) (f : Fr S w w') (hb : b ∉ S) : Nine w' b cs := f.heap h hb
theorem Nine.new (w : World) (cs : Array Value) : Nine (w.alloc (.cells cs 70)) w.heap.size cs := heap_alloc_new _ _
theorem Nine.cell {w : World} {b : Nat} {cs : Array Value} (h : Nine w b cs) (i : Nat) {v : Value} (hv : cs[i]? = some v) : w.cell? ⟨b, i, none⟩ = some v := by rw [cell_at h]; exact hv
theorem Nine.lt {w : World} {b : Nat} {cs : Array Value} (h : Nine w b cs) : b < w.heap.size := lt_of_heap h

theorem che_head {h : Hs} (k : hde h.s h.z ≠ 0) : che h = hde h.s h.z := by unfold che; rw [if_neg k]
theorem che_pos {h : Hs} (k : hde h.s h.z = 0) (k2 : sde h.P h.pd ≠ 0) : che h = sde h.P h.pd := by unfold che; rw [if_pos k, if_neg k2]
theorem che_neg {h : Hs} (k : hde h.s h.z = 0) (k2 : sde h.P h.pd = 0) (k3 : sde h.N h.nd ≠ 0) : che h = sde h.N h.nd := by unfold che; rw [if_pos k, if_pos k2, if_neg k3]
theorem che_fts {h : Hs} (k : hde h.s h.z = 0) (k2 : sde h.P h.pd = 0) (k3 : sde h.N h.nd = 0) : che h = if fts h.zc h.c h.sm (abv h.pd) (abv h.nd) = true then 0 else 22 := by unfold che; rw [if_pos k, if_pos k2, if_pos k3]
theorem sd_nil {h : Hs} (k : che h ≠ 0) : sdp h = [] ∧ sdn h = [] := by unfold sdp sdn; rw [if_neg k, if_neg k]; exact ⟨rfl, rfl⟩
theorem snds_sdl {l : List Sp} {d : List Int} (h : sde l d = 0) : snds (sdl l d) = abv d := (sdl_zip h).2.2

set_option maxHeartbeats 4000000 in
theorem sides_any (v : Value) (h : Hs) (w : World) (hh : HSrc w v h) :
    Calls Try.prog 75 #[v] w fun e w' => ∃ x y, e = .returned (.tuple #[x, y, .int .i64 (che h)]) ∧ SOwn 141 w.heap.size w' x (sdp h) ∧ SOwn 141 w.heap.size w' y (sdn h) ∧ Fr [] w w' := by
  have HH : Hid (∀ wx, Fr [] w wx → HSrc wx v h) := fun wx hx => hh.kept hx
  obtain ⟨po, pc, no, nc, qo, qc, ro, rc, rfl, hin, hsr, _, _, _, _⟩ := hh.opens
  have HIN : Hid (in64 h.s ∧ inu h.z ∧ inu h.zc ∧ inu h.c ∧ inu h.sm) := hin
  have HSR : Hid (SSrc w (.slice po h.P.length pc) h.P ∧ SSrc w (.slice no h.N.length nc) h.N ∧ ISrc w (.slice qo h.pd.length qc) h.pd ∧ ISrc w (.slice ro h.nd.length rc) h.nd) := hsr
  clear hh hin hsr
  obtain ⟨s, z, zc, c, sm, P, N, pd, nd⟩ := h
  simp only at HIN HSR ⊢
  go_enter Try.func75, Try.ntmps75
  have HN0 : Hid (Nine (w.alloc (.cells #[.int .i64 s, .int .u64 z, .int .u64 zc, .int .u64 c, .int .u64 sm, .slice po P.length pc, .slice no N.length nc, .slice qo pd.length qc, .slice ro nd.length rc] 70)) w.heap.size #[.int .i64 s, .int .u64 z, .int .u64 zc, .int .u64 c, .int .u64 sm, .slice po P.length pc, .slice no N.length nc, .slice qo pd.length qc, .slice ro nd.length rc]) := Nine.new _ _
  have HF0 : Hid (Fr [] w (w.alloc (.cells #[.int .i64 s, .int .u64 z, .int .u64 zc, .int .u64 c, .int .u64 sm, .slice po P.length pc, .slice no N.length nc, .slice qo pd.length qc, .slice ro nd.length rc] 70))) := (Fr.refl [] w).alloc _
  by_cases h1 : s < -4
  · have HE : Hid (hde s z = 21) := by unfold Hid hde; rw [if_pos (.inl h1)]
    have HC : Hid (che ⟨s, z, zc, c, sm, P, N, pd, nd⟩ = 21) := by rw [Hid, che_head (by simp only [HE.out]; decide)]; exact HE.out
    go_wp2
    go_ret3
    exact ⟨_, _, by rw [HC.out]; rfl, .inl ⟨(sd_nil (by rw [HC.out]; decide)).1, rfl⟩, .inl ⟨(sd_nil (by rw [HC.out]; decide)).2, rfl⟩, HF0.out⟩
  by_cases h2 : 8 < s
  · have HE : Hid (hde s z = 21) := by unfold Hid hde; rw [if_pos (.inr h2)]
    have HC : Hid (che ⟨s, z, zc, c, sm, P, N, pd, nd⟩ = 21) := by rw [Hid, che_head (by simp only [HE.out]; decide)]; exact HE.out
    go_wp2
    go_ret3
    exact ⟨_, _, by rw [HC.out]; rfl, .inl ⟨(sd_nil (by rw [HC.out]; decide)).1, rfl⟩, .inl ⟨(sd_nil (by rw [HC.out]; decide)).2, rfl⟩, HF0.out⟩
  go_wp2_with fail
  refine (threshold_any z _).mono ?_
  rintro e w1 ⟨rfl, rfl⟩
  by_cases hz : z < 9218868437227405312
  · have HE : Hid (hde s z = 0) := by unfold Hid hde; rw [if_neg (by omega), if_pos hz]
    rw [decide_eq_true hz]
    clear hz h1 h2
    go_wp2_with fail
    refine (together_any _ _ P pd _ (HSR.out.1.kept HF0.out) (HSR.out.2.2.1.kept HF0.out)).mono ?_
    rintro e w1 ⟨x, rfl, hx, hf1⟩
    have HF1 : Hid (Fr [] w w1) := HF0.out.trans hf1 (by simp)
    have HX : Hid (SOwn 141 w.heap.size w1 x (sdl P pd)) := hx.mono HF0.out.size
    have HN1 := HN0.out.kept hf1 (by simp)
    have c6 := HN1.cell 6 rfl
    have c8 := HN1.cell 8 rfl
    have HN1h : Hid (Nine w1 w.heap.size _) := HN1
    clear hx hf1 HN1 HN0 HF0
    by_cases hp : sde P pd = 0
    · have HP : Hid (sde P pd = 0) := hp
      rw [hp]
      clear hp
      go_wp2_with fail
      refine (together_any _ _ N nd _ (HSR.out.2.1.kept HF1.out) (HSR.out.2.2.2.kept HF1.out)).mono ?_
      rintro e w2 ⟨y, rfl, hy, hf2⟩
      have HF2 : Hid (Fr [] w w2) := HF1.out.trans hf2 (by simp)
      have HX2 : Hid (SOwn 141 w.heap.size w2 x (sdl P pd)) := HX.out.kept hf2
      have HY : Hid (SOwn 141 w.heap.size w2 y (sdl N nd)) := hy.mono HF1.out.size
      have HN2 := HN1h.out.kept hf2 (by simp)
      have c0 := HN2.cell 0 rfl
      have c1 := HN2.cell 1 rfl
      have c2 := HN2.cell 2 rfl
      have c3 := HN2.cell 3 rfl
      have c4 := HN2.cell 4 rfl
      have c5 := HN2.cell 5 rfl
      have c6 := HN2.cell 6 rfl
      have c7 := HN2.cell 7 rfl
      have c8 := HN2.cell 8 rfl
      clear hy hf2 HN2 HN1h HX HF1
      by_cases hn : sde N nd = 0
      · have HN : Hid (sde N nd = 0) := hn
        rw [hn]
        clear hn
        go_wp2_with fail
        refine (adds_any _ x y ⟨s, z, zc, c, sm, P, N, pd, nd⟩ (sdl P pd) (sdl N nd) w2 (HH.out _ HF2.out) (HX2.out.src (sdl_in P pd)) (HY.out.src (sdl_in N nd)) (by rw [snds_sdl HP.out]; exact nng_iff.1 (sde_zero.1 HP.out).2.2.2) (by rw [snds_sdl HN.out]; exact nng_iff.1 (sde_zero.1 HN.out).2.2.2)).mono ?_
        rintro e w3 ⟨rfl, hf3⟩
        rw [snds_sdl HP.out, snds_sdl HN.out]
        have HF3 : Hid (Fr [] w w3) := HF2.out.trans hf3 (by simp)
        have HX3 : Hid (SOwn 141 w.heap.size w3 x (sdl P pd)) := HX2.out.kept hf3
        have HY3 : Hid (SOwn 141 w.heap.size w3 y (sdl N nd)) := HY.out.kept hf3
        clear hf3 HX2 HY
        by_cases hb : fts zc c sm (abv pd) (abv nd) = true
        · have HC : Hid (che ⟨s, z, zc, c, sm, P, N, pd, nd⟩ = 0) := by rw [Hid, che_fts HE.out HP.out HN.out, if_pos hb]
          have HD : Hid (sdp ⟨s, z, zc, c, sm, P, N, pd, nd⟩ = sdl P pd ∧ sdn ⟨s, z, zc, c, sm, P, N, pd, nd⟩ = sdl N nd) := by unfold Hid sdp sdn; rw [if_pos HC.out, if_pos HC.out]; exact ⟨rfl, rfl⟩
          simp only [hb]
          clear hb
          go_wp2
          go_ret3
          exact ⟨_, _, by rw [HC.out]; rfl, by rw [HD.out.1]; exact HX3.out, by rw [HD.out.2]; exact HY3.out, HF3.out⟩
        · have HC : Hid (che ⟨s, z, zc, c, sm, P, N, pd, nd⟩ = 22) := by rw [Hid, che_fts HE.out HP.out HN.out, if_neg hb]
          have hb2 : fts zc c sm (abv pd) (abv nd) = false := by simpa using hb
          simp only [hb2]
          clear hb hb2
          go_wp2
          go_ret3
          exact ⟨_, _, by rw [HC.out]; rfl, .inl ⟨(sd_nil (by rw [HC.out]; decide)).1, rfl⟩, .inl ⟨(sd_nil (by rw [HC.out]; decide)).2, rfl⟩, HF3.out⟩
      · have HC : Hid (che ⟨s, z, zc, c, sm, P, N, pd, nd⟩ = sde N nd) := che_neg HE.out HP.out hn
        have HCN : Hid (che ⟨s, z, zc, c, sm, P, N, pd, nd⟩ ≠ 0) := by rw [Hid, HC.out]; exact hn
        go_wp2
        go_ret3
        exact ⟨_, _, by rw [HC.out]; rfl, .inl ⟨(sd_nil HCN.out).1, rfl⟩, .inl ⟨(sd_nil HCN.out).2, rfl⟩, HF2.out⟩
    · have HC : Hid (che ⟨s, z, zc, c, sm, P, N, pd, nd⟩ = sde P pd) := che_pos HE.out hp
      have HCN : Hid (che ⟨s, z, zc, c, sm, P, N, pd, nd⟩ ≠ 0) := by rw [Hid, HC.out]; exact hp
      go_wp2
      go_ret3
      exact ⟨_, _, by rw [HC.out]; rfl, .inl ⟨(sd_nil HCN.out).1, rfl⟩, .inl ⟨(sd_nil HCN.out).2, rfl⟩, HF1.out⟩
  · have HE : Hid (hde s z = 11) := by unfold Hid hde; rw [if_neg (by omega), if_neg hz]
    have HC : Hid (che ⟨s, z, zc, c, sm, P, N, pd, nd⟩ = 11) := by rw [Hid, che_head (by simp only [HE.out]; decide)]; exact HE.out
    rw [decide_eq_false hz]
    go_wp2
    go_ret3
    exact ⟨_, _, by rw [HC.out]; rfl, .inl ⟨(sd_nil (by rw [HC.out]; decide)).1, rfl⟩, .inl ⟨(sd_nil (by rw [HC.out]; decide)).2, rfl⟩, HF0.out⟩

set_option maxHeartbeats 1000000 in
theorem hcheck_any (v : Value) (h : Hs) (w : World) (hh : HSrc w v h) :
    Calls Try.prog 67 #[v] w fun e w' => e = .returned (.int .i64 (che h)) ∧ Fr [] w w' := by
  have HH : Hid (∀ wx, Fr [] w wx → HSrc wx v h) := fun wx hx => hh.kept hx
  obtain ⟨po, pc, no, nc, qo, qc, ro, rc, rfl, _⟩ := hh.opens
  clear hh
  go_enter Try.func67, Try.ntmps67
  go_wp2_with fail
  refine (sides_any _ h _ (HH.out _ ((Fr.refl [] w).alloc _))).mono ?_
  rintro e w1 ⟨x, y, rfl, _, _, hf1⟩
  have HF1 : Hid (Fr [] w w1) := ((Fr.refl [] w).alloc _).trans hf1 (by simp)
  clear hf1
  go_wp2
  go_ret
  exact ⟨rfl, HF1.out⟩

/-- Pairs' answers. -/
def pre (h : Hs) (d : Int) : Int := if d = 0 ∨ d = 1 then che h else 11
def prl (h : Hs) (d : Int) : List Sp := if d = 0 then sdp h else if d = 1 then sdn h else []
end Go.Proofs.Ytoaibabkkphlaaa

/-
  Package hist: apart, Make.
-/
namespace Go.Proofs.Ytoaibabkkphlaaa
open Go.RowKit Mem Spans
set_option linter.unusedSimpArgs false
set_option linter.unusedVariables false
set_option maxRecDepth 100000

/-- A side's own spans and differences: their error, they. -/
def ape (l : List Sp) : Int := if frm (fsts l) = 0 then dle (snds l) else frm (fsts l)
def aps (l : List Sp) : List Sp := if ape l = 0 then rns 0 (fsts l) else []
def apd (l : List Sp) : List Int := if ape l = 0 then dlv (snds l) else []
theorem dle_cases (l : List Int) : dle l = 0 ∨ dle l = 28 := by unfold dle; split <;> simp
theorem ape_zero {l : List Sp} : ape l = 0 ↔ frm (fsts l) = 0 ∧ dle (snds l) = 0 := by
  unfold ape
  constructor
  · intro h
    split at h
    · rename_i h1; exact ⟨h1, h⟩
    · rename_i h1; exact absurd h h1
  · rintro ⟨h1, h2⟩; rw [if_pos h1]; exact h2


/-- Make's error; what it makes. -/
def mks (h : Hs) (p n : List Sp) : Hs := ⟨h.s, h.z, h.zc, h.c, h.sm, aps p, aps n, apd p, apd n⟩
def mke (h : Hs) (p n : List Sp) : Int := if ape p = 0 then (if ape n = 0 then che (mks h p n) else ape n) else ape p
def hzero : Hs := ⟨0, 0, 0, 0, 0, [], [], [], []⟩
def mkh (h : Hs) (p n : List Sp) : Hs := if mke h p n = 0 then mks h p n else hzero
/-- A histogram of the call's own. -/
def HOwn (B : Nat) (w : World) (v : Value) (h : Hs) : Prop :=
  ∃ vp vn up un, v = .agg #[.int .i64 h.s, .int .u64 h.z, .int .u64 h.zc, .int .u64 h.c, .int .u64 h.sm, vp, vn, up, un] ∧ in64 h.s ∧ (inu h.z ∧ inu h.zc ∧ inu h.c ∧ inu h.sm) ∧
    SOwn 95 B w vp h.P ∧ SOwn 95 B w vn h.N ∧ NOwn 2 B w up h.pd ∧ NOwn 2 B w un h.nd
theorem HOwn.kept {B : Nat} {w w' : World} {v : Value} {h : Hs} (k : HOwn B w v h) (f : Fr [] w w') : HOwn B w' v h := by
  obtain ⟨a, b, c, d, h1, h2, h3, h4, h5, h6, h7⟩ := k
  exact ⟨a, b, c, d, h1, h2, h3, h4.kept f, h5.kept f, h6.kept f, h7.kept f⟩
theorem HOwn.mono {B C : Nat} {w : World} {v : Value} {h : Hs} (k : HOwn B w v h) (hc : C ≤ B) : HOwn C w v h := by
  obtain ⟨a, b, c, d, h1, h2, h3, h4, h5, h6, h7⟩ := k
  exact ⟨a, b, c, d, h1, h2, h3, h4.mono hc, h5.mono hc, h6.mono hc, h7.mono hc⟩
/-- All that a histogram has fits. -/
def hin (h : Hs) : Prop := (∀ s ∈ h.P, in64 s.1 ∧ in64 s.2) ∧ (∀ s ∈ h.N, in64 s.1 ∧ in64 s.2) ∧ (∀ z ∈ h.pd, in64 z) ∧ (∀ z ∈ h.nd, in64 z)
theorem HOwn.src {B : Nat} {w : World} {v : Value} {h : Hs} (k : HOwn B w v h) (i : hin h) : HSrc w v h := by
  obtain ⟨a, b, c, d, h1, h2, h3, h4, h5, h6, h7⟩ := k
  exact ⟨a, b, c, d, h1, h2, h3, h4.src i.1, h5.src i.2.1, h6.src i.2.2.1, h7.src i.2.2.2⟩
theorem aps_in (l : List Sp) : ∀ s ∈ aps l, in64 s.1 ∧ in64 s.2 := by
  intro s hs
  unfold aps at hs
  split at hs
  · rename_i h
    have e : frl (fsts l) = rns 0 (fsts l) := by unfold frl; rw [if_pos (ape_zero.1 h).1]
    exact frl_in (fsts l) s (by rw [e]; exact hs)
  · simp at hs
theorem apd_in (l : List Sp) : ∀ z ∈ apd l, in64 z := by
  intro z hz
  unfold apd at hz
  split at hz
  · exact dlv_in _ z hz
  · simp at hz
theorem mks_in (h : Hs) (p n : List Sp) : hin (mks h p n) := ⟨aps_in p, aps_in n, apd_in p, apd_in n⟩
theorem mkh_in (h : Hs) (p n : List Sp) : hin (mkh h p n) := by
  unfold mkh; split
  · exact mks_in h p n
  · unfold hin hzero; simp
theorem hzero_own (B : Nat) (w : World) : HOwn B w (.agg #[.int .i64 0, .int .u64 0, .int .u64 0, .int .u64 0, .int .u64 0, .slice none 0 0, .slice none 0 0, .slice none 0 0, .slice none 0 0]) hzero :=
  ⟨_, _, _, _, rfl, by unfold in64 hzero; decide, by unfold inu hzero; decide, .inl ⟨rfl, rfl⟩, .inl ⟨rfl, rfl⟩, .inl ⟨rfl, rfl⟩, .inl ⟨rfl, rfl⟩⟩

theorem Try.sizeOf70 : (Try.prog.info? 70).map (·.size) = some 9 := by kernel_rfl
theorem hist_res {fn : Func} {p u : Tmp} (h : fn.results = #[.cell p 70, .tmp u]) (tmps : Array Value) (w : World) (g : Nat) (a0 a1 a2 a3 a4 a5 a6 a7 a8 : Value)
    (hp : tmps.getD p undef = .pointer (some ⟨g, 0, none⟩)) (hg : Nine w g #[a0, a1, a2, a3, a4, a5, a6, a7, a8]) : (results fn tmps).run Try.prog w = .ok (.tuple #[.agg #[a0, a1, a2, a3, a4, a5, a6, a7, a8], tmps.getD u undef]) w := by
  rw [results_cell_tmp h tmps, hp]
  have := run_loadVar_row (P := Try.prog) w g 70 70 #[a0, a1, a2, a3, a4, a5, a6, a7, a8] (0, 0) _ hg Try.underlying70 rfl Try.sizeOf70
  simp [asAddr, this]
end Go.Proofs.Ytoaibabkkphlaaa

/-
  Package hist: Make.
-/
namespace Go.Proofs.Ytoaibabkkphlaaa
open Go.RowKit Mem Spans
set_option linter.unusedSimpArgs false
set_option linter.unusedVariables false
set_option maxRecDepth 100000

/-- A histogram's block, written anew. -/
abbrev set9 (w : World) (g : Nat) (u0 u1 u2 u3 u4 u5 u6 u7 u8 : Value) : World :=
  ((((((((w.setCell ⟨g, 0, none⟩ u0).setCell ⟨g, 1, none⟩ u1).setCell ⟨g, 2, none⟩ u2).setCell ⟨g, 3, none⟩ u3).setCell ⟨g, 4, none⟩ u4).setCell ⟨g, 5, none⟩ u5).setCell ⟨g, 6, none⟩ u6).setCell ⟨g, 7, none⟩ u7).setCell ⟨g, 8, none⟩ u8
theorem set9_fr {S : List Nat} {a b : World} {g : Nat} (h : Fr S a b) (hg : g ∈ S ∨ a.heap.size ≤ g) (u0 u1 u2 u3 u4 u5 u6 u7 u8 : Value) : Fr S a (set9 b g u0 u1 u2 u3 u4 u5 u6 u7 u8) :=
  ((((((((h.setCell _ _ hg).setCell _ _ hg).setCell _ _ hg).setCell _ _ hg).setCell _ _ hg).setCell _ _ hg).setCell _ _ hg).setCell _ _ hg).setCell _ _ hg
theorem set9_nine {w : World} {g : Nat} {a0 a1 a2 a3 a4 a5 a6 a7 a8 : Value} (h : Nine w g #[a0, a1, a2, a3, a4, a5, a6, a7, a8]) (u0 u1 u2 u3 u4 u5 u6 u7 u8 : Value) : Nine (set9 w g u0 u1 u2 u3 u4 u5 u6 u7 u8) g #[u0, u1, u2, u3, u4, u5, u6, u7, u8] := by
  unfold Nine at h ⊢
  simp [set9, World.setCell, Array.getElem?_modify, h]
theorem Nine.set57 {w : World} {g : Nat} {a0 a1 a2 a3 a4 a5 a6 a7 a8 : Value} (h : Nine w g #[a0, a1, a2, a3, a4, a5, a6, a7, a8]) (u x : Value) : Nine ((w.setCell ⟨g, 5, none⟩ u).setCell ⟨g, 7, none⟩ x) g #[a0, a1, a2, a3, a4, u, a6, x, a8] := by
  unfold Nine at h ⊢
  simp [World.setCell, Array.getElem?_modify, h]
theorem Nine.set68 {w : World} {g : Nat} {a0 a1 a2 a3 a4 a5 a6 a7 a8 : Value} (h : Nine w g #[a0, a1, a2, a3, a4, a5, a6, a7, a8]) (u x : Value) : Nine ((w.setCell ⟨g, 6, none⟩ u).setCell ⟨g, 8, none⟩ x) g #[a0, a1, a2, a3, a4, a5, u, a7, x] := by
  unfold Nine at h ⊢
  simp [World.setCell, Array.getElem?_modify, h]
theorem Nine.other {w : World} {b : Nat} {cs : Array Value} (h : Nine w b cs) {g i : Nat} {v : Value} (hn : b ≠ g) : Nine (w.setCell ⟨g, i, none⟩ v) b cs := by
  unfold Nine at h ⊢
  simp [World.setCell, Array.getElem?_modify, h, Ne.symm hn]
theorem Nine.frozen {w : World} {b : Nat} {cs : Array Value} (h : Nine w b cs) (i : Nat) : w.frozen? ⟨b, i, none⟩ = false := frozen_at h i
theorem nine_mid (w : World) (cs : Array Value) (o : Obj) : Nine ((w.alloc (.cells cs 70)).alloc o) w.heap.size cs := (Nine.new w cs).kept ((Fr.refl [] _).alloc _) (by simp)
theorem nine_top (w : World) (o : Obj) (cs : Array Value) : Nine ((w.alloc o).alloc (.cells cs 70)) (w.heap.size + 1) cs := by
  have := Nine.new (w.alloc o) cs
  rwa [World.size_alloc] at this

theorem SOwn.keptS {e : TypeId} {B : Nat} {w w' : World} {v : Value} {l : List Sp} {S : List Nat} (h : SOwn e B w v l) (f : Fr S w w') (hs : ∀ y ∈ S, y < B) : SOwn e B w' v l := by
  rcases h with h | ⟨g, h1, h2, h3⟩
  · exact .inl h
  · exact .inr ⟨g, h1, h2, h3.kept f (fun hg => by have := hs g hg; omega)⟩
theorem NOwn.keptS {e : TypeId} {B : Nat} {w w' : World} {v : Value} {l : List Int} {S : List Nat} (h : NOwn e B w v l) (f : Fr S w w') (hs : ∀ y ∈ S, y < B) : NOwn e B w' v l := by
  rcases h with h | ⟨g, h1, h2, h3⟩
  · exact .inl h
  · exact .inr ⟨g, h1, h2, h3.kept f (fun hg => by have := hs g hg; omega)⟩

theorem HOwn.keptS {B : Nat} {w w' : World} {v : Value} {h : Hs} {S : List Nat} (k : HOwn B w v h) (f : Fr S w w') (hs : ∀ y ∈ S, y < B) : HOwn B w' v h := by
  obtain ⟨a, b, c, d, h1, h2, h3, h4, h5, h6, h7⟩ := k
  exact ⟨a, b, c, d, h1, h2, h3, h4.keptS f hs, h5.keptS f hs, h6.keptS f hs, h7.keptS f hs⟩

end Go.Proofs.Ytoaibabkkphlaaa

/-
  Package hist: Canon, Equal.
-/
namespace Go.Proofs.Ytoaibabkkphlaaa
open Go.RowKit Mem Spans
set_option linter.unusedSimpArgs false
set_option linter.unusedVariables false
set_option maxRecDepth 100000

theorem HOwn.form {B : Nat} {w : World} {v : Value} {h : Hs} (k : HOwn B w v h) : ∃ a1 c1 a2 c2 a3 c3 a4 c4, v = .agg #[.int .i64 h.s, .int .u64 h.z, .int .u64 h.zc, .int .u64 h.c, .int .u64 h.sm, .slice a1 h.P.length c1, .slice a2 h.N.length c2, .slice a3 h.pd.length c3, .slice a4 h.nd.length c4] := by
  obtain ⟨a, b, c, d, rfl, h2, h3, h4, h5, h6, h7⟩ := k
  obtain ⟨_, _, rfl⟩ := h4.val
  obtain ⟨_, _, rfl⟩ := h5.val
  obtain ⟨_, _, rfl⟩ := h6.val
  obtain ⟨_, _, rfl⟩ := h7.val
  exact ⟨_, _, _, _, _, _, _, _, rfl⟩
theorem wio_mem {l : List Sp} {z : Int} {s : Sp} : s ∈ wio l z ↔ s ∈ l ∧ s.2 ≠ z := by unfold wio; simp
theorem wio_le (l : List Sp) (z : Int) : (wio l z).length ≤ l.length := List.length_filter_le _ _
theorem wio_in {l : List Sp} {z : Int} (h : ∀ s ∈ l, in64 s.1 ∧ in64 s.2) : ∀ s ∈ wio l z, in64 s.1 ∧ in64 s.2 := fun s hs => h s (wio_mem.1 hs).1
/-- Canon's error; what it tells. -/
def cae (h : Hs) : Int := if che h = 0 then mke h (wio (sdp h) 0) (wio (sdn h) 0) else che h
def cah (h : Hs) : Hs := if che h = 0 then mkh h (wio (sdp h) 0) (wio (sdn h) 0) else hzero

/-- Do both count the same? -/
def heq (a b : Hs) : Bool := decide (che a = 0 ∧ che b = 0 ∧ a.s = b.s ∧ a.z = b.z ∧ a.zc = b.zc ∧ a.c = b.c ∧ a.sm = b.sm ∧ wio (sdp a) 0 = wio (sdp b) 0 ∧ wio (sdn a) 0 = wio (sdn b) 0)

set_option maxHeartbeats 4000000 in
theorem hequal_any (v u : Value) (a b : Hs) (w : World) (h1 : HSrc w v a) (h2 : HSrc w u b) :
    Calls Try.prog 47 #[v, u] w fun e w' => e = .returned (.bool (heq a b)) ∧ Fr [] w w' := by
  have H1 : Hid (∀ wx, Fr [] w wx → HSrc wx v a) := fun wx hx => h1.kept hx
  have H2 : Hid (∀ wx, Fr [] w wx → HSrc wx u b) := fun wx hx => h2.kept hx
  obtain ⟨po, pc, no, nc, qo, qc, ro, rc, rfl, _⟩ := h1.opens
  obtain ⟨po2, pc2, no2, nc2, qo2, qc2, ro2, rc2, rfl, _⟩ := h2.opens
  clear h1 h2
  go_enter Try.func47, Try.ntmps47
  have HA : Hid (Nine ((w.alloc (.cells #[.int .i64 a.s, .int .u64 a.z, .int .u64 a.zc, .int .u64 a.c, .int .u64 a.sm, .slice po a.P.length pc, .slice no a.N.length nc, .slice qo a.pd.length qc, .slice ro a.nd.length rc] 70)).alloc (.cells #[.int .i64 b.s, .int .u64 b.z, .int .u64 b.zc, .int .u64 b.c, .int .u64 b.sm, .slice po2 b.P.length pc2, .slice no2 b.N.length nc2, .slice qo2 b.pd.length qc2, .slice ro2 b.nd.length rc2] 70)) w.heap.size #[.int .i64 a.s, .int .u64 a.z, .int .u64 a.zc, .int .u64 a.c, .int .u64 a.sm, .slice po a.P.length pc, .slice no a.N.length nc, .slice qo a.pd.length qc, .slice ro a.nd.length rc] ∧ Nine ((w.alloc (.cells #[.int .i64 a.s, .int .u64 a.z, .int .u64 a.zc, .int .u64 a.c, .int .u64 a.sm, .slice po a.P.length pc, .slice no a.N.length nc, .slice qo a.pd.length qc, .slice ro a.nd.length rc] 70)).alloc (.cells #[.int .i64 b.s, .int .u64 b.z, .int .u64 b.zc, .int .u64 b.c, .int .u64 b.sm, .slice po2 b.P.length pc2, .slice no2 b.N.length nc2, .slice qo2 b.pd.length qc2, .slice ro2 b.nd.length rc2] 70)) (w.heap.size + 1) #[.int .i64 b.s, .int .u64 b.z, .int .u64 b.zc, .int .u64 b.c, .int .u64 b.sm, .slice po2 b.P.length pc2, .slice no2 b.N.length nc2, .slice qo2 b.pd.length qc2, .slice ro2 b.nd.length rc2] ∧ Fr [] w ((w.alloc (.cells #[.int .i64 a.s, .int .u64 a.z, .int .u64 a.zc, .int .u64 a.c, .int .u64 a.sm, .slice po a.P.length pc, .slice no a.N.length nc, .slice qo a.pd.length qc, .slice ro a.nd.length rc] 70)).alloc (.cells #[.int .i64 b.s, .int .u64 b.z, .int .u64 b.zc, .int .u64 b.c, .int .u64 b.sm, .slice po2 b.P.length pc2, .slice no2 b.N.length nc2, .slice qo2 b.pd.length qc2, .slice ro2 b.nd.length rc2] 70))) := ⟨nine_mid _ _ _, nine_top _ _ _, ((Fr.refl [] w).alloc _).alloc _⟩
  go_wp2_with fail
  obtain ⟨hA3, hA6, hAF⟩ := HA.out
  clear HA
  generalize (w.alloc (.cells _ _)).alloc (.cells _ _) = wA at hA3 hA6 hAF ⊢
  refine (sides_any _ a wA (H1.out _ hAF)).mono ?_
  rintro e w1 ⟨x, y, rfl, hx, hy, hf1⟩
  have HX : Hid (SSrc w1 x (sdp a)) := hx.src (sdp_in a)
  have HY : Hid (SSrc w1 y (sdn a)) := hy.src (sdn_in a)
  have HF1 : Hid (Fr [] w w1) := hAF.trans hf1 (by simp)
  have H3 : Hid (Nine w1 w.heap.size _) := hA3.kept hf1 (by simp)
  have H6 : Hid (Nine w1 (w.heap.size + 1) _) := hA6.kept hf1 (by simp)
  clear hx hy hf1 hA3 hA6 hAF
  by_cases h0 : che a = 0
  · have HC0 : Hid (che a = 0) := h0
    rw [h0]
    clear h0
    have d0 := H6.out.cell 0 rfl
    have d1 := H6.out.cell 1 rfl
    have d2 := H6.out.cell 2 rfl
    have d3 := H6.out.cell 3 rfl
    have d4 := H6.out.cell 4 rfl
    have d5 := H6.out.cell 5 rfl
    have d6 := H6.out.cell 6 rfl
    have d7 := H6.out.cell 7 rfl
    have d8 := H6.out.cell 8 rfl
    go_wp2_with fail
    refine (sides_any _ b w1 (H2.out _ HF1.out)).mono ?_
    rintro e w2 ⟨x2, y2, rfl, hx, hy, hf2⟩
    have HX2 : Hid (SSrc w2 x2 (sdp b)) := hx.src (sdp_in b)
    have HY2 : Hid (SSrc w2 y2 (sdn b)) := hy.src (sdn_in b)
    have HX1 : Hid (SSrc w2 x (sdp a)) := HX.out.kept hf2
    have HY1 : Hid (SSrc w2 y (sdn a)) := HY.out.kept hf2
    have HF2 : Hid (Fr [] w w2) := HF1.out.trans hf2 (by simp)
    have h3 := H3.out.kept hf2 (by simp)
    have h6 := H6.out.kept hf2 (by simp)
    clear hx hy hf2 HX HY HF1 H3 H6 d0 d1 d2 d3 d4 d5 d6 d7 d8
    by_cases h0 : che b = 0
    · have HC1 : Hid (che b = 0) := h0
      rw [h0]
      clear h0
      have c0 := h3.cell 0 rfl
      have c1 := h3.cell 1 rfl
      have c2 := h3.cell 2 rfl
      have c3 := h3.cell 3 rfl
      have c4 := h3.cell 4 rfl
      have d0 := h6.cell 0 rfl
      have d1 := h6.cell 1 rfl
      have d2 := h6.cell 2 rfl
      have d3 := h6.cell 3 rfl
      have d4 := h6.cell 4 rfl
      clear h3 h6
      have HNO : Hid (¬ (a.s = b.s ∧ a.z = b.z ∧ a.zc = b.zc ∧ a.c = b.c ∧ a.sm = b.sm ∧ wio (sdp a) 0 = wio (sdp b) 0 ∧ wio (sdn a) 0 = wio (sdn b) 0) → heq a b = false) := fun h => decide_eq_false (fun k => h k.2.2)
      have HYES : Hid (a.s = b.s → a.z = b.z → a.zc = b.zc → a.c = b.c → a.sm = b.sm → wio (sdp a) 0 = wio (sdp b) 0 → wio (sdn a) 0 = wio (sdn b) 0 → heq a b = true) := fun k1 k2 k3 k4 k5 k6 k7 => decide_eq_true ⟨HC0.out, HC1.out, k1, k2, k3, k4, k5, k6, k7⟩
      have HWP : Hid (∀ wx, Fr [] w2 wx → ∀ t l, SSrc w2 t l → l.length ≤ 4096 → Calls Try.prog 77 #[t, .int .i64 0] wx fun e w' => ∃ u, e = .returned u ∧ SOwn 141 wx.heap.size w' u (wio l 0) ∧ Fr [] wx w' ∧ Fr [] w2 w') := by
        intro wx hf t l ht hl
        refine (without_any _ l 0 wx (ht.kept hf) (by omega)).mono ?_
        rintro e w' ⟨u, rfl, hu, hf'⟩
        exact ⟨u, rfl, hu, hf', hf.trans hf' (by simp)⟩
      have HI : Hid ((∀ s ∈ sdp a, in64 s.1 ∧ in64 s.2) ∧ (∀ s ∈ sdn a, in64 s.1 ∧ in64 s.2) ∧ (∀ s ∈ sdp b, in64 s.1 ∧ in64 s.2) ∧ (∀ s ∈ sdn b, in64 s.1 ∧ in64 s.2)) := ⟨sdp_in a, sdn_in a, sdp_in b, sdn_in b⟩
      have HL : Hid ((sdp a).length ≤ 4096 ∧ (sdn a).length ≤ 4096 ∧ (sdp b).length ≤ 4096 ∧ (sdn b).length ≤ 4096) := ⟨sdp_le a, sdn_le a, sdp_le b, sdn_le b⟩
      generalize sdp a = PA at *
      generalize sdn a = NA at *
      generalize sdp b = PB at *
      generalize sdn b = NB at *
      obtain ⟨R, hqq⟩ : ∃ R, heq a b = R := ⟨_, rfl⟩
      have HQ : Hid (heq a b = R) := hqq
      rw [hqq] at HNO HYES
      clear hqq
      obtain ⟨s, z, zc, c, sm, P, N, pd, nd⟩ := a
      obtain ⟨s2, z2, zc2, c2', sm2, P2, N2, pd2, nd2⟩ := b
      simp only at *
      by_cases k0 : s = s2
      case neg =>
        have HE := HNO.out (fun k => k0 k.1)
        have HE2 : Hid (R = false) := HE
        clear HE
        have kb : (s == s2) = false := by simpa using k0
        go_wp2
        go_ret
        exact ⟨by rw [HQ.out, HE2.out]; rfl, HF2.out⟩
      subst k0
      by_cases k1 : z = z2
      case neg =>
        have HE := HNO.out (fun k => k1 k.2.1)
        have HE2 : Hid (R = false) := HE
        clear HE
        have kb : (z == z2) = false := by simpa using k1
        go_wp2
        go_ret
        exact ⟨by rw [HQ.out, HE2.out]; rfl, HF2.out⟩
      subst k1
      by_cases k2 : zc = zc2
      case neg =>
        have HE := HNO.out (fun k => k2 k.2.2.1)
        have HE2 : Hid (R = false) := HE
        clear HE
        have kb : (zc == zc2) = false := by simpa using k2
        go_wp2
        go_ret
        exact ⟨by rw [HQ.out, HE2.out]; rfl, HF2.out⟩
      subst k2
      by_cases k3 : c = c2'
      case neg =>
        have HE := HNO.out (fun k => k3 k.2.2.2.1)
        have HE2 : Hid (R = false) := HE
        clear HE
        have kb : (c == c2') = false := by simpa using k3
        go_wp2
        go_ret
        exact ⟨by rw [HQ.out, HE2.out]; rfl, HF2.out⟩
      subst k3
      by_cases k4 : sm = sm2
      case neg =>
        have HE := HNO.out (fun k => k4 k.2.2.2.2.1)
        have HE2 : Hid (R = false) := HE
        clear HE
        have kb : (sm == sm2) = false := by simpa using k4
        go_wp2
        go_ret
        exact ⟨by rw [HQ.out, HE2.out]; rfl, HF2.out⟩
      subst k4
      go_wp2_with fail
      refine (HWP.out w2 (Fr.refl _ _) x PA HX1.out HL.out.1).mono ?_
      rintro e w3 ⟨t3, rfl, ht3, _, hf3⟩
      have HT3 : Hid (SSrc w3 t3 (wio PA 0)) := ht3.src (wio_in HI.out.1)
      have HF3 : Hid (Fr [] w2 w3) := hf3
      clear ht3 hf3
      go_wp2_with fail
      refine (HWP.out w3 HF3.out x2 PB HX2.out HL.out.2.2.1).mono ?_
      rintro e w4 ⟨t4, rfl, ht4, hf34, hf4⟩
      have HT4 : Hid (SSrc w4 t4 (wio PB 0)) := ht4.src (wio_in HI.out.2.2.1)
      have HT34 : Hid (SSrc w4 t3 (wio PA 0)) := HT3.out.kept hf34
      have HF4 : Hid (Fr [] w2 w4) := hf4
      clear ht4 hf34 hf4 HT3 HF3
      go_wp2_with fail
      refine (pequal_any t3 t4 _ _ w4 HT34.out HT4.out).mono ?_
      rintro e w5 ⟨rfl, hf5⟩
      have HF5 : Hid (Fr [] w2 w5) := HF4.out.trans hf5 (by simp)
      clear hf5 HT34 HT4 HF4
      by_cases k5 : wio PA 0 = wio PB 0
      case neg =>
        have HE2 : Hid (R = false) := HNO.out (fun k => k5 k.2.2.2.2.2.1)
        rw [decide_eq_false k5]
        go_wp2
        go_ret
        exact ⟨by rw [HQ.out, HE2.out]; rfl, HF2.out.trans HF5.out (by simp)⟩
      have HK5 : Hid (wio PA 0 = wio PB 0) := k5
      rw [decide_eq_true k5]
      clear k5
      go_wp2_with fail
      refine (HWP.out w5 HF5.out y NA HY1.out HL.out.2.1).mono ?_
      rintro e w6 ⟨t6, rfl, ht6, _, hf6⟩
      have HT6 : Hid (SSrc w6 t6 (wio NA 0)) := ht6.src (wio_in HI.out.2.1)
      have HF6 : Hid (Fr [] w2 w6) := hf6
      clear ht6 hf6
      go_wp2_with fail
      refine (HWP.out w6 HF6.out y2 NB HY2.out HL.out.2.2.2).mono ?_
      rintro e w7 ⟨t7, rfl, ht7, hf67, hf7⟩
      have HT7 : Hid (SSrc w7 t7 (wio NB 0)) := ht7.src (wio_in HI.out.2.2.2)
      have HT67 : Hid (SSrc w7 t6 (wio NA 0)) := HT6.out.kept hf67
      have HF7 : Hid (Fr [] w2 w7) := hf7
      clear ht7 hf67 hf7 HT6 HF6
      go_wp2_with fail
      refine (pequal_any t6 t7 _ _ w7 HT67.out HT7.out).mono ?_
      rintro e w8 ⟨rfl, hf8⟩
      have HF8 : Hid (Fr [] w w8) := HF2.out.trans (HF7.out.trans hf8 (by simp)) (by simp)
      have HR : Hid (R = decide (wio NA 0 = wio NB 0)) := by
        by_cases k6 : wio NA 0 = wio NB 0
        · rw [Hid, decide_eq_true k6]; exact HYES.out (by trivial) (by trivial) (by trivial) (by trivial) (by trivial) HK5.out k6
        · rw [Hid, decide_eq_false k6]; exact HNO.out (fun k => k6 k.2.2.2.2.2.2)
      clear hf8
      generalize decide (wio NA 0 = wio NB 0) = RR at *
      go_wp2
      go_ret
      exact ⟨by rw [HQ.out, HR.out]; rfl, HF8.out⟩
    · have HE : Hid (heq a b = false) := decide_eq_false (fun k => h0 k.2.1)
      clear h3 h6
      go_wp2
      go_ret
      exact ⟨by rw [HE.out]; rfl, HF2.out⟩
  · have HE : Hid (heq a b = false) := decide_eq_false (fun k => h0 k.1)
    go_wp2
    go_ret
    exact ⟨by rw [HE.out]; rfl, HF1.out⟩
end Go.Proofs.Ytoaibabkkphlaaa

/-
  Package hist: spread.
-/
namespace Go.Proofs.Ytoaibabkkphlaaa
open Go.RowKit Go.Shelf Mem Spans
set_option linter.unusedSimpArgs false
set_option linter.unusedVariables false
set_option maxRecDepth 100000
attribute [local go_sem] Oper.semAt_some

/-- What spread has behind a place: how many of its own were met, the counts. -/
def spt (o : List Sp) (st : Nat × List Int) (p : Int) : Nat × List Int :=
  match o[st.1]? with
  | some s => if s.1 = p then (st.1 + 1, st.2 ++ [s.2]) else (st.1, st.2 ++ [0])
  | none => (st.1, st.2 ++ [0])
def sps (o : List Sp) (ps : List Int) : Nat × List Int := ps.foldl (spt o) (0, [])
theorem sps_snoc (o : List Sp) (ps : List Int) (p : Int) : sps o (ps ++ [p]) = spt o (sps o ps) p := by simp [sps, List.foldl_append]
theorem spt_hit {o : List Sp} {st : Nat × List Int} {p : Int} {s : Sp} (h : o[st.1]? = some s) (e : s.1 = p) : spt o st p = (st.1 + 1, st.2 ++ [s.2]) := by unfold spt; rw [h]; simp only; rw [if_pos e]
theorem spt_miss {o : List Sp} {st : Nat × List Int} {p : Int} (h : ∀ s, o[st.1]? = some s → s.1 ≠ p) : spt o st p = (st.1, st.2 ++ [0]) := by
  unfold spt
  split
  · rename_i s hs; rw [if_neg (h s hs)]
  · rfl
theorem sps_from (o : List Sp) (ps : List Int) (st : Nat × List Int) : (ps.foldl (spt o) st).2.length = st.2.length + ps.length ∧ (st.1 ≤ o.length → (ps.foldl (spt o) st).1 ≤ o.length) := by
  induction ps generalizing st with
  | nil => simp
  | cons p r ih =>
    have k := ih (spt o st p)
    rw [List.foldl_cons]
    by_cases h : ∃ s, o[st.1]? = some s ∧ s.1 = p
    · obtain ⟨s, h1, h2⟩ := h
      have := (List.getElem?_eq_some_iff.1 h1).1
      rw [spt_hit h1 h2] at k ⊢
      simp only [List.length_append, List.length_cons, List.length_nil] at k ⊢
      exact ⟨by omega, fun _ => k.2 (by omega)⟩
    · rw [spt_miss (fun s h1 h2 => h ⟨s, h1, h2⟩)] at k ⊢
      simp only [List.length_append, List.length_cons, List.length_nil] at k ⊢
      exact ⟨by omega, k.2⟩
theorem sps_length (o : List Sp) (ps : List Int) : (sps o ps).2.length = ps.length ∧ (sps o ps).1 ≤ o.length := by
  have := sps_from o ps (0, [])
  unfold sps
  simp only [List.length_nil, Nat.zero_le, Nat.zero_add, forall_const] at this
  exact this
theorem sps_in_from {o : List Sp} (ho : ∀ s ∈ o, in64 s.1 ∧ in64 s.2) (ps : List Int) (st : Nat × List Int) (h : ∀ z ∈ st.2, in64 z) : ∀ z ∈ (ps.foldl (spt o) st).2, in64 z := by
  induction ps generalizing st with
  | nil => exact h
  | cons p r ih =>
    rw [List.foldl_cons]
    refine ih _ ?_
    by_cases k : ∃ s, o[st.1]? = some s ∧ s.1 = p
    · obtain ⟨s, h1, h2⟩ := k
      rw [spt_hit h1 h2]
      intro z hz
      rcases List.mem_append.1 hz with h3 | h3
      · exact h z h3
      · rw [List.mem_singleton.1 h3]; exact (ho s (List.mem_of_getElem? h1)).2
    · rw [spt_miss (fun s h1 h2 => k ⟨s, h1, h2⟩)]
      intro z hz
      rcases List.mem_append.1 hz with h3 | h3
      · exact h z h3
      · rw [List.mem_singleton.1 h3]; unfold in64; omega
theorem sps_in {o : List Sp} (ho : ∀ s ∈ o, in64 s.1 ∧ in64 s.2) (ps : List Int) : ∀ z ∈ (sps o ps).2, in64 z := sps_in_from ho ps _ (by simp)
theorem cell_one_at (w : World) (g : Nat) (x : Int) (t : TypeId) (hg : w.heap.size = g) : ∀ j u, [Value.int .i64 x][j]? = some u → (w.alloc (.cells #[.int .i64 x] t)).cell? ((⟨g, 0, none⟩ : Addr).add j) = some u := by
  subst hg
  intro j u hj
  have e : (⟨w.heap.size, 0, none⟩ : Addr).add j = ⟨w.heap.size, j, none⟩ := by unfold Addr.add; split <;> simp_all
  rw [e, World.cell?_alloc_at _ _ _ _ rfl]
  simpa using hj

/-- The boxes of the counts, of what came in and of the number, the counts' row. -/
def SPI (B : Nat) (w : World) (ov : Value) (A : Nat) (ls : List Int) (W : World) : Prop :=
  (((∃ v, Boxed W (B + 1) 68 v ∧ W.ownsRow B 2 1 v ls.length (inCells ls) ∧ (v = .slice none 0 0 ↔ ls = [])) ∧ Below B w W) ∧ Boxed W B 118 ov) ∧ Boxed W (B + 1 + 1) 3 (.int .i64 (A : Nat))
theorem spi_at {B : Nat} {w : World} {ov : Value} {A : Nat} {ls : List Int} {W : World} (h : SPI B w ov A ls W) :
    KeepsOthers W (W.setCell ⟨B + 1 + 1, 0, none⟩ (.int .i64 ((A : Int) + 1))) ∧ Below B W (W.setCell ⟨B + 1 + 1, 0, none⟩ (.int .i64 ((A : Int) + 1))) ∧ SPI B w ov (A + 1) ls (W.setCell ⟨B + 1 + 1, 0, none⟩ (.int .i64 ((A : Int) + 1))) := by
  obtain ⟨⟨⟨⟨v, hv, hr, hn⟩, hb⟩, hp⟩, ha⟩ := h
  have hbl : Below B W (W.setCell ⟨B + 1 + 1, 0, none⟩ (.int .i64 ((A : Int) + 1))) := (Below.refl B W).setCell (p := ⟨B + 1 + 1, 0, none⟩) (by simp only; omega) _
  refine ⟨KeepsOthers.setCell _ _ _, hbl, ⟨⟨⟨v, hv.other (by omega) _, hr.kept (grownBy_setCell' _ _ _) (.inr (ha.not_row (by decide) hr).symm), hn⟩, hb.trans hbl⟩, hp.other (by omega) _⟩, ?_⟩
  rw [show (((A + 1 : Nat)) : Int) = (A : Int) + 1 from by omega]
  exact ha.set _
theorem spi_app {B : Nat} {w : World} {ov v v' : Value} {A : Nat} {ls : List Int} {s : Int} {W w3 : World} {tmp : Obj} (h : SPI B w ov A ls W) (hv : Boxed W (B + 1) 68 v)
    (hown : w3.ownsRow B 2 1 v' (ls.length + 1) (inCells (ls ++ [s]))) (hgrow : (W.alloc tmp).grownBy w3 v.ownBlock) :
    Boxed w3 (B + 1) 68 v ∧ KeepsOthers W (w3.setCell ⟨B + 1, 0, none⟩ v') ∧ Below B W (w3.setCell ⟨B + 1, 0, none⟩ v') ∧ SPI B w ov A (ls ++ [s]) (w3.setCell ⟨B + 1, 0, none⟩ v') := by
  obtain ⟨⟨⟨⟨v0, hv', hr, hn⟩, hb⟩, hp⟩, ha⟩ := h
  have e : v0 = v := by
    have h1 := hv'.cell
    rw [hv.cell] at h1
    exact (Option.some.inj h1).symm
  subst e
  obtain ⟨hv1, hv2, hr2, hk2, hb2⟩ := hv.appended (by decide) hr (by have := hv.lt; omega) (by omega) hown hgrow
  refine ⟨hv1, hk2, hb2, ⟨⟨⟨_, hv2, by rw [List.length_append]; exact hr2, ?_⟩, hb.trans hb2⟩, ((hp.alloc _).kept hgrow (hp.not_row (by decide) hr)).other (by omega) _⟩, ((ha.alloc _).kept hgrow (ha.not_row (by decide) hr)).other (by omega) _⟩
  obtain ⟨g', cap', rfl⟩ := ownsRow_succ hown
  simp

theorem NOwn.put {e : TypeId} {B D : Nat} {w : World} {v : Value} {zs : List Int} {x : Option (List Deferred)} (h : NOwn e B w v zs) (hK : w.heap[D]? = some (Obj.deferred x)) : NOwn e B (w.putObj D (.deferred none)) v zs := by
  have hn : v = .slice none 0 0 ↔ zs = [] := by
    rcases h with ⟨rfl, rfl⟩ | ⟨g, _, h0, hr⟩
    · simp
    · obtain ⟨c, rfl⟩ := hr.val
      constructor
      · intro h; simp at h
      · intro h; subst h; simp at h0
  exact NOwn.of_owns (ownsRow_putObj h.owns _ hK rfl) hn
end Go.Proofs.Ytoaibabkkphlaaa

/-
  Package hist: Over (and the library's Clone of spans).
-/
namespace Go.Proofs.Ytoaibabkkphlaaa
open Go.RowKit Mem Spans
set_option linter.unusedSimpArgs false
set_option linter.unusedVariables false
set_option maxRecDepth 100000

theorem ssrc_cells {w : World} {ad : Addr} {c : Nat} {ys : List Sp} (h : SSrc w (.slice (some ad) ys.length c) ys) : ∀ (j : Nat) (x : Value), (spCells ys)[j]? = some x → w.cell? (ad.add j) = some x := by
  obtain ⟨ao, cc, hv, hc1, hc2, h64, b, off, ha, hc⟩ := h
  simp only [Value.slice.injEq] at hv
  obtain ⟨rfl, _, rfl⟩ := hv
  intro j x hj
  have hjl : j < (spCells ys).length := (List.getElem?_eq_some_iff.1 hj).1
  rw [spCells_length] at hjl
  have hlen : 0 < ys.length := by omega
  have := ha hlen
  simp only [Option.some.injEq] at this
  subst this
  have e : (⟨b, off, none⟩ : Addr).add j = ⟨b, off + j, none⟩ := by unfold Addr.add; split <;> simp_all
  rw [e]
  obtain ⟨s, hs⟩ := at_lt (l := ys) (k := j / 2) (by omega)
  have h1 := spCells_at ys (j / 2) s hs
  have h2 := hc (j / 2) s hs
  by_cases hp : j % 2 = 0
  · have ej : j / 2 * 2 = j := by omega
    rw [ej] at h1 h2
    rw [h2.1, ← h1.1, hj]
  · have ej : j / 2 * 2 + 1 = j := by omega
    rw [Nat.add_assoc, ej] at h2
    rw [ej] at h1
    rw [h2.2, ← h1.2, hj]
theorem ssrc_of_owns {w : World} {B : Nat} {e : TypeId} {v : Value} {l : List Sp} (h : w.ownsRow B e 2 v l.length (spCells l)) (hz : ∀ s ∈ l, in64 s.1 ∧ in64 s.2) : ∃ ao cap, v = .slice ao l.length cap ∧ SSrc w v l := by
  rcases h.2 with ⟨rfl, h0⟩ | ⟨g, cap, cur, rfl, _, hg, hn, hm, hs, ht⟩
  · have := List.eq_nil_of_length_eq_zero h0
    subst this
    exact ⟨none, 0, rfl, SSrc.nil w⟩
  · refine ⟨_, _, rfl, _, cap, rfl, hn, hm, hz, g, 0, fun _ => rfl, fun j x hj => ?_⟩
    have hjl := (List.getElem?_eq_some_iff.1 hj).1
    have hq := spCells_at l j x hj
    have hcur : ∀ i, i < l.length * 2 → w.cell? ⟨g, i, none⟩ = (spCells l)[i]? := by
      intro i hi
      rw [cell_at hg, ← ht, List.getElem?_take, if_pos hi, Array.getElem?_toList]
    rw [show 0 + j * 2 = j * 2 from by omega, hcur _ (by omega), hcur _ (by omega)]
    exact hq
section
variable (w : World)
theorem wpList_append_lit {ops : Array Oper} {rest : List Oper} {o : Oper} {a : Act} {Q : Exit → Act → World → Prop} (hgd : o.guard = none) (sx x : Operand) (t : TypeId)
    (ho : o.op = .call { callee := .builtin .append, args := #[sx, x], argTypes := #[t, t] })
    {e : TypeId} {i0 : TypeInfo} (ht : Try.prog.underlying t = some (.slice e)) (hi : SInfo e i0)
    {B c : Nat} {v : Value} {ad : Addr} {ys : List Sp} (hB : B ≤ w.heap.size) (hs : a.eval sx = v) (hx : a.eval x = .slice (some ad) ys.length c) (h1 : w.ownsRow B e 2 v 0 []) (h2 : SSrc w (.slice (some ad) ys.length c) ys) (hl : ys.length ≤ 1000000)
    (h : ∀ v' w', w'.ownsRow B e 2 v' ys.length (spCells ys) → w.grownBy w' v.ownBlock → wpList Try.prog ops Q rest (a.put o.dst v') w') : wpList Try.prog ops Q (o :: rest) a w := by
  refine wpList_plain hgd fun _ hK => ?_
  obtain ⟨v', w', hr, h3, h4, _⟩ := run_append_own w B t o.type e i0 _ 2 16 ht hi.1 hi.2.1 hi.2.2.1 hi.2.2.2 rfl (by decide) v 0 [] h1 ad ys.length c (spCells ys) (by rw [spCells_length]) (ssrc_cells h2)
    (fun x hx => by
      obtain ⟨s, _, hs⟩ := List.mem_flatMap.1 hx
      simp at hs
      rcases hs with rfl | rfl <;> rfl) (by unfold maxLen; omega) (by omega) hB
  unfold Oper.wp execOp
  simp only [ho, resolve, invoke, builtin, Sem.run_bind, Sem.run_pure, Result.andThen_ok, List.map_toArray, List.map_cons, List.map_nil, hs, hx, hr]
  exact hK _ _ (h v' w' (by simpa using h3) h4)
end

theorem ownsRow_keptS {w w' : World} {B n size : Nat} {e : TypeId} {v : Value} {xs : List Value} {S : List Nat} (h : w.ownsRow B e size v n xs) (f : Fr S w w') (hs : ∀ y ∈ S, y < B) : w'.ownsRow B e size v n xs := by
  refine ⟨h.1, ?_⟩
  rcases h.2 with h | ⟨g, cap, cur, h1, h2, h3, h4⟩
  · exact .inl h
  · exact .inr ⟨g, cap, cur, h1, h2, f.heap h3 (fun hg => by have := hs g hg; omega), h4⟩
theorem ownsRow_mono {w : World} {B C n size : Nat} {e : TypeId} {v : Value} {xs : List Value} (h : w.ownsRow B e size v n xs) (hc : C ≤ B) : w.ownsRow C e size v n xs := by
  refine ⟨h.1, ?_⟩
  rcases h.2 with h | ⟨g, cap, cur, h1, h2, h3⟩
  · exact .inl h
  · exact .inr ⟨g, cap, cur, h1, by omega, h3⟩
set_option maxHeartbeats 1000000 in
theorem clone_any (v : Value) (l : List Sp) (w : World) (h : SSrc w v l) (hl : l.length ≤ 1000000) :
    Calls Try.prog 63 #[v] w fun e w' => ∃ ao cap, e = .returned (.slice ao l.length cap) ∧ w'.ownsRow w.heap.size 95 2 (.slice ao l.length cap) l.length (spCells l) ∧ Fr [] w w' := by
  have HS : Hid (SSrc w v l) := h
  obtain ⟨ao, cap, rfl, hcap, hmax, _⟩ := h
  have q23 : ∀ (w : World) (a : Option Addr) (n c : Nat), (binOp .eql 23 (.slice a n c) (.slice none 0 0)).run Try.prog w = .ok (.bool a.isNone) w := fun w a n c => Lib.run_eql_slice_nil w _ _ _ _ _ _ _ Try.underlying23
  obtain ⟨i0, hi⟩ := info_span
  have HI : Hid (SInfo 95 i0) := hi
  clear hi
  go_enter Try.func63, Try.ntmps63
  cases ao with
  | none =>
    have h0 : l = [] := by
      obtain ⟨_, _, hv, _, _, _, b, off, ha, _⟩ := HS.out
      simp only [Value.slice.injEq] at hv
      obtain ⟨rfl, _, rfl⟩ := hv
      by_cases hy : 0 < l.length
      · have := ha hy; cases this
      · exact List.eq_nil_of_length_eq_zero (by omega)
    subst h0
    go_wp2
    go_ret
    exact ⟨_, _, rfl, World.ownsRow_nil _ _ _ _, Fr.refl _ _⟩
  | some ad =>
    have HM : Hid (World.ownsRow (w.alloc (.cells #[] 95)) w.heap.size 95 2 (.slice (some ⟨w.heap.size, 0, none⟩) 0 0) 0 []) := World.ownsRow_made w #[] 0 (Nat.le_refl _) (by unfold maxLen; omega) (by simp)
    have HIN : Hid (∀ s ∈ l, in64 s.1 ∧ in64 s.2) := by obtain ⟨_, _, _, _, _, h64, _⟩ := HS.out; exact h64
    go_wp2_with (at_builtin; refine wpList_append_lit _ rfl _ _ 23 rfl Try.underlying23 HI.out (B := w.heap.size) (v := .slice (some ⟨w.heap.size, 0, none⟩) 0 0) (ys := l) (by simp) rfl rfl HM.out (HS.out.kept ((Fr.refl [] w).alloc _)) hl ?_; intro v' w3 hown hgr; obtain ⟨ao3, cap3, rfl, hs3⟩ := ssrc_of_owns hown HIN.out; have HS3 : Hid (w3.ownsRow w.heap.size 95 2 _ l.length (spCells l)) := hown; have HF3 : Hid (Fr [] w w3) := ((Fr.refl [] w).alloc _).grown hgr (fun k hk => .inr (by simp [Value.ownBlock] at hk; omega)); clear hown hgr hs3)
    go_ret
    exact ⟨_, _, rfl, HS3.out, HF3.out⟩

/-- Has a side all places? Over's error; what it tells. -/
def spb (o : List Sp) (l : List Sp) : Bool := decide ((sps o (pls l)).1 = o.length)
def ove (h : Hs) (p n : List Sp) : Int :=
  if che h = 0 then (if chk p = 0 then (if chk n = 0 then (if spb (sdp h) p = true then (if spb (sdn h) n = true then 0 else 23) else 23) else chk n) else chk p) else che h
def ovs (h : Hs) (p n : List Sp) : Hs := ⟨h.s, h.z, h.zc, h.c, h.sm, p, n, dlv (sps (sdp h) (pls p)).2, dlv (sps (sdn h) (pls n)).2⟩
def ovh (h : Hs) (p n : List Sp) : Hs := if ove h p n = 0 then ovs h p n else hzero
theorem hzero_src (w : World) : HSrc w (.agg #[.int .i64 0, .int .u64 0, .int .u64 0, .int .u64 0, .int .u64 0, .slice none 0 0, .slice none 0 0, .slice none 0 0, .slice none 0 0]) hzero := (hzero_own 0 w).src (by unfold hin hzero; simp)
/-- A histogram that lies apart from all blocks below B. -/
def HKeep (B : Nat) (w : World) (v : Value) (h : Hs) : Prop := ∀ (S : List Nat) (w' : World), Fr S w w' → (∀ y ∈ S, y < B) → HSrc w' v h
theorem HKeep.src {B : Nat} {w : World} {v : Value} {h : Hs} (k : HKeep B w v h) : HSrc w v h := k [] w (Fr.refl _ _) (by simp)
theorem hzero_keep (B : Nat) (w : World) : HKeep B w (.agg #[.int .i64 0, .int .u64 0, .int .u64 0, .int .u64 0, .int .u64 0, .slice none 0 0, .slice none 0 0, .slice none 0 0, .slice none 0 0]) hzero := fun _ w' _ _ => hzero_src w'
theorem chk_len {l : List Sp} (h : chk l = 0) : l.length ≤ 1000000 := by have := (chk_zero.1 h).1; omega

end Go.Proofs.Ytoaibabkkphlaaa
