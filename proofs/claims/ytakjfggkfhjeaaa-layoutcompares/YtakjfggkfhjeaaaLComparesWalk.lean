/-
  LayoutCompares: whatever lists, the law returns true, and nothing is turned that was there.
-/
import Derived.Test.YtakjfggkfhjeaaaAwake8
import Derived.Test.YtakjfggkfhjeaaaRefX8
import Derived.Test.YtakjfggkfhjeaaaLCover
namespace Go.Proofs.Ytakjfggkfhjeaaa
open Go.RowKit Mem Spans
open Classical
set_option linter.unusedSimpArgs false
set_option linter.unusedVariables false
set_option maxRecDepth 100000

theorem asc_N {a n : Int} {l : List Sp} (h : asc a n l) : ∀ s ∈ l, 0 ≤ s.2 ∧ s.2 ≤ smN l := by
  induction l generalizing a with
  | nil => simp
  | cons t r ih =>
    intro s hs
    have h0 := smN_nonneg h.2.2.2
    have h1 := h.2.2.1
    rcases List.mem_cons.1 hs with rfl | hs
    · simp only [smN]; omega
    · have := ih h.2.2.2 s hs
      simp only [smN]; omega
/-- What Compare's inserts of one side are. -/
theorem side_ok {own all : List Int} (ho : own.Pairwise (· < ·)) (ha : all.Pairwise (· < ·)) (hsub : ∀ x ∈ own, x ∈ all) (hlen : all.length ≤ 4096) :
    own.length ≤ all.length ∧ rgtB (-1) 4096 own.length (mis own all) = true ∧ smN (mis own all) = (all.length : Int) - (own.length : Int) ∧ (∀ s ∈ mis own all, 0 ≤ s.2 ∧ in64 s.1 ∧ in64 s.2) ∧
      ∀ vs : List Int, vs.length = own.length → exf 0 vs 0 (mis own all) = all.map (lvl 0 own vs) := by
  have key : ∀ vs : List Int, vs.length = own.length → (mss own all).1 = own.length ∧ exf 0 vs 0 (mis own all) = all.map (lvl 0 own vs) := fun vs hv =>
    mss_ok ho ha hsub 0 vs hv (lvl 0 own vs) (fun k p x h1 h2 => lvl_at ho h1 h2) (fun p hp => lvl_not hp)
  have h1 := (key (List.replicate own.length 0) (by simp)).1
  obtain ⟨_, h3, h4, _⟩ := mss_frame own all
  rw [h1] at h3 h4
  have h5 := smN_nonneg h3
  have h3' : asc (-1) own.length (mis own all) := h3
  have h4' : smN (mis own all) + (own.length : Int) = all.length := h4
  have h5' : 0 ≤ smN (mis own all) := h5
  refine ⟨by omega, (rgtB_iff (by omega)).2 ⟨h3', by omega⟩, by omega, fun s hs => ?_, fun vs hv => (key vs hv).2⟩
  have i1 := asc_N h3' s hs
  have i2 := asc_le h3' s hs
  unfold in64
  omega
theorem unl_length {a b : List Sp} (h : une a b = 0) : (unl a b).length ≤ 1024 := (chk_zero.1 (unl_ok h).2.2.2.1).1
theorem lvl_in {v : Int} {os xs : List Int} {p : Int} (hv : in64 v) (hx : ∀ x ∈ xs, in64 x) : in64 (lvl v os xs p) := by
  induction os generalizing v xs with
  | nil => exact hv
  | cons o os ih =>
    cases xs with
    | nil => exact hv
    | cons x xs =>
      simp only [lvl]
      refine ih ?_ (fun y hy => hx y (by simp [hy]))
      split
      · exact hx x (by simp)
      · exact hv

set_option maxHeartbeats 4000000 in
theorem lcompares_walk (a0 : Option Addr) (len0 cap0 : Nat) (z0 : List Sp) (a1 : Option Addr) (len1 cap1 : Nat) (z1 : List Sp) (n : Int) (w : World) (w0 : IsSpans w a0 len0 cap0 z0) (w1 : IsSpans w a1 len1 cap1 z1) (hn : (Lit.int .i64 n).wf = true) :
    Calls Try.prog 3 #[.slice a0 len0 cap0, .slice a1 len1 cap1, .int .i64 n] w fun e w' => e = .returned (.bool true) ∧ Below w.heap.size w w' := by
  obtain ⟨rfl, hs0⟩ := w0
  obtain ⟨rfl, hs1⟩ := w1
  have HA : Hid (SSrc w (.slice a0 z0.length cap0) z0) := hs0
  have HB : Hid (SSrc w (.slice a1 z1.length cap1) z1) := hs1
  have HNN : Hid (in64 n) := by simp [Lit.wf, IntKind.min, IntKind.max, IntKind.bits, IntKind.signed] at hn; unfold Hid in64; omega
  clear hs0 hs1 hn
  have HAW : Hid (∀ wx : World, Fr [] w wx → Calls Try.prog 8 #[] wx fun e w' => e = .returned (.bool true) ∧ Below w.heap.size w w') := by
    intro wx hf
    refine (awake8_any wx).mono ?_
    rintro e w' ⟨rfl, hf'⟩
    exact ⟨rfl, (hf.trans hf' (by simp)).below (Nat.le_refl _) (by simp)⟩
  go_enter Try.func3, Try.ntmps3
  go_wp2_with fail
  refine (small8_any _ z0 w HA.out).mono ?_
  rintro e w1 ⟨r, rfl, hr, hf1⟩
  have HF1 : Hid (Fr [] w w1) := hf1
  clear hf1
  cases r with
  | false =>
    clear hr
    go_wp2_with fail
    refine (HAW.out _ HF1.out).mono ?_
    rintro e w2 ⟨rfl, hb⟩
    have HBL : Hid (Below w.heap.size w w2) := hb
    clear hb
    go_wp2
    go_ret
    exact ⟨rfl, HBL.out⟩
  | true =>
    have HL0 : Hid (z0.length ≤ 300) := hr rfl
    clear hr
    go_wp2_with fail
    refine (small8_any _ z1 w1 (HB.out.kept HF1.out)).mono ?_
    rintro e w2 ⟨r, rfl, hr, hf2⟩
    have HF2 : Hid (Fr [] w w2) := HF1.out.trans hf2 (by simp)
    clear hf2 HF1
    cases r with
    | false =>
      clear hr
      go_wp2_with fail
      refine (HAW.out _ HF2.out).mono ?_
      rintro e w3 ⟨rfl, hb⟩
      have HBL : Hid (Below w.heap.size w w3) := hb
      clear hb
      go_wp2
      go_ret
      exact ⟨rfl, HBL.out⟩
    | true =>
      have HL1 : Hid (z1.length ≤ 300) := hr rfl
      clear hr
      go_wp2_with fail
      refine (compare_any _ _ z0 z1 w2 (HA.out.kept HF2.out) (HB.out.kept HF2.out)).mono ?_
      rintro e w3 ⟨f, g, rfl, hf, hg, hf3⟩
      have HF3 : Hid (Fr [] w w3) := HF2.out.trans hf3 (by simp)
      have Hf3 : Hid (SOwn 47 0 w3 f (cmp z0 z1 z0)) := hf.mono (Nat.zero_le _)
      have Hg3 : Hid (SOwn 47 0 w3 g (cmp z0 z1 z1)) := hg.mono (Nat.zero_le _)
      clear hf3 HF2 hf hg
      go_wp2_with fail
      refine (union_any _ _ z0 z1 w3 (HA.out.kept HF3.out) (HB.out.kept HF3.out)).mono ?_
      rintro e w4 ⟨u, rfl, hu, hf4⟩
      have HF4 : Hid (Fr [] w w4) := HF3.out.trans hf4 (by simp)
      have Hf4 : Hid (SOwn 47 0 w4 f (cmp z0 z1 z0)) := Hf3.out.kept hf4
      have Hg4 : Hid (SOwn 47 0 w4 g (cmp z0 z1 z1)) := Hg3.out.kept hf4
      have HU4 : Hid (SSrc w4 u (unl z0 z1)) := hu.src (unl_in z0 z1)
      clear hu hf4 HF3 Hf3 Hg3
      by_cases hh : une z0 z1 = 0
      · obtain ⟨hc0, hc1, _, hc2, hpl⟩ := unl_ok hh
        have HC0 : Hid (chk z0 = 0) := hc0
        have HC1 : Hid (chk z1 = 0) := hc1
        have HC2 : Hid (chk (unl z0 z1) = 0) := hc2
        have HUL : Hid ((unl z0 z1).length ≤ 1024) := unl_length hh
        have hs0 := side_ok (own := pls z0) (all := pls (unl z0 z1)) (pls_pair z0) (pls_pair _) (by intro x hx; rw [hpl, uni_mem]; exact .inl hx) (pls_le _)
        have hs1 := side_ok (own := pls z1) (all := pls (unl z0 z1)) (pls_pair z1) (pls_pair _) (by intro x hx; rw [hpl, uni_mem]; exact .inr hx) (pls_le _)
        have ef : cmp z0 z1 z0 = mis (pls z0) (pls (unl z0 z1)) := by unfold cmp; rw [if_pos hh]
        have eg : cmp z0 z1 z1 = mis (pls z1) (pls (unl z0 z1)) := by unfold cmp; rw [if_pos hh]
        have HCV : Hid (cvr z0 z1 = true ↔ ∀ x ∈ pls z1, x ∈ pls z0) := by
          rw [Hid, cvr_iff]
          exact ⟨fun h => h.2.2, fun h => ⟨hc0, hc1, h⟩⟩
        rw [ef] at Hf4
        rw [eg] at Hg4
        rw [hh]
        generalize hX : pls z0 = X at hs0 Hf4 HCV
        generalize hY : pls z1 = Y at hs1 Hg4 HCV
        generalize hU : pls (unl z0 z1) = U at hs0 hs1 Hf4 Hg4
        have HX : Hid (pls z0 = X ∧ X.length ≤ 4096 ∧ ∀ x ∈ X, in64 x) := ⟨hX, by rw [← hX]; exact pls_le _, by rw [← hX]; exact pls_in z0⟩
        have HY : Hid (pls z1 = Y ∧ Y.length ≤ 4096 ∧ ∀ x ∈ Y, in64 x) := ⟨hY, by rw [← hY]; exact pls_le _, by rw [← hY]; exact pls_in z1⟩
        have HU : Hid (pls (unl z0 z1) = U ∧ U.length ≤ 4096 ∧ ∀ x ∈ U, in64 x) := ⟨hU, by rw [← hU]; exact pls_le _, by rw [← hU]; exact pls_in _⟩
        generalize hfl : mis X U = fl at hs0 Hf4
        generalize hgl : mis Y U = gl at hs1 Hg4
        have HS0 : Hid (X.length ≤ U.length ∧ rgtB (-1) 4096 X.length fl = true ∧ smN fl = (U.length : Int) - (X.length : Int) ∧ (∀ s ∈ fl, 0 ≤ s.2 ∧ in64 s.1 ∧ in64 s.2) ∧ ∀ vs : List Int, vs.length = X.length → exf 0 vs 0 fl = U.map (lvl 0 X vs)) := hs0
        have HS1 : Hid (Y.length ≤ U.length ∧ rgtB (-1) 4096 Y.length gl = true ∧ smN gl = (U.length : Int) - (Y.length : Int) ∧ (∀ s ∈ gl, 0 ≤ s.2 ∧ in64 s.1 ∧ in64 s.2) ∧ ∀ vs : List Int, vs.length = Y.length → exf 0 vs 0 gl = U.map (lvl 0 Y vs)) := hs1
        clear hh hc0 hc1 hc2 hpl hs0 hs1 ef eg hX hY hU hfl hgl
        go_wp2_with fail
        refine (lref8_any _ z0 w4 (HA.out.kept HF4.out) (by have := HL0.out; omega)).mono ?_
        rintro e w5 ⟨t5, rfl, ht, hf5⟩
        have HF5 : Hid (Fr [] w w5) := HF4.out.trans hf5 (by simp)
        have Hf5 : Hid (SOwn 47 0 w5 f fl) := Hf4.out.kept hf5
        have Hg5 : Hid (SOwn 47 0 w5 g gl) := Hg4.out.kept hf5
        have HU5 : Hid (SSrc w5 u (unl z0 z1)) := HU4.out.kept hf5
        have HT5 : Hid (SSrc w5 t5 z0) := ht.src (by obtain ⟨_, _, _, _, _, h, _⟩ := HA.out; exact h)
        clear ht hf5 HF4 Hf4 Hg4 HU4
        go_wp2_with fail
        refine (lplaces_any _ z0 w5 HT5.out HC0.out).mono ?_
        rintro e w6 ⟨x6, rfl, hx, hf6⟩
        rw [HX.out.1] at hx
        have HF6 : Hid (Fr [] w w6) := HF5.out.trans hf6 (by simp)
        have Hf6 : Hid (SOwn 47 0 w6 f fl) := Hf5.out.kept hf6
        have Hg6 : Hid (SOwn 47 0 w6 g gl) := Hg5.out.kept hf6
        have HU6 : Hid (SSrc w6 u (unl z0 z1)) := HU5.out.kept hf6
        have HX6 : Hid (ISrc w6 x6 X) := hx.src HX.out.2.2
        clear hx hf6 HF5 Hf5 Hg5 HU5 HT5
        go_wp2_with fail
        refine (lref8_any _ z1 w6 (HB.out.kept HF6.out) (by have := HL1.out; omega)).mono ?_
        rintro e w7 ⟨t7, rfl, ht, hf7⟩
        have HF7 : Hid (Fr [] w w7) := HF6.out.trans hf7 (by simp)
        have Hf7 : Hid (SOwn 47 0 w7 f fl) := Hf6.out.kept hf7
        have Hg7 : Hid (SOwn 47 0 w7 g gl) := Hg6.out.kept hf7
        have HU7 : Hid (SSrc w7 u (unl z0 z1)) := HU6.out.kept hf7
        have HX7 : Hid (ISrc w7 x6 X) := HX6.out.kept hf7
        have HT7 : Hid (SSrc w7 t7 z1) := ht.src (by obtain ⟨_, _, _, _, _, h, _⟩ := HB.out; exact h)
        clear ht hf7 HF6 Hf6 Hg6 HU6 HX6
        go_wp2_with fail
        refine (lplaces_any _ z1 w7 HT7.out HC1.out).mono ?_
        rintro e w8 ⟨y8, rfl, hy, hf8⟩
        rw [HY.out.1] at hy
        have HF8 : Hid (Fr [] w w8) := HF7.out.trans hf8 (by simp)
        have Hf8 : Hid (SOwn 47 0 w8 f fl) := Hf7.out.kept hf8
        have Hg8 : Hid (SOwn 47 0 w8 g gl) := Hg7.out.kept hf8
        have HU8 : Hid (SSrc w8 u (unl z0 z1)) := HU7.out.kept hf8
        have HX8 : Hid (ISrc w8 x6 X) := HX7.out.kept hf8
        have HY8 : Hid (ISrc w8 y8 Y) := hy.src HY.out.2.2
        clear hy hf8 HF7 Hf7 Hg7 HU7 HX7 HT7
        go_wp2_with fail
        refine (lref8_any _ (unl z0 z1) w8 HU8.out HUL.out).mono ?_
        rintro e w9 ⟨t9, rfl, ht, hf9⟩
        have HF9 : Hid (Fr [] w w9) := HF8.out.trans hf9 (by simp)
        have Hf9 : Hid (SOwn 47 0 w9 f fl) := Hf8.out.kept hf9
        have Hg9 : Hid (SOwn 47 0 w9 g gl) := Hg8.out.kept hf9
        have HX9 : Hid (ISrc w9 x6 X) := HX8.out.kept hf9
        have HY9 : Hid (ISrc w9 y8 Y) := HY8.out.kept hf9
        have HT9 : Hid (SSrc w9 t9 (unl z0 z1)) := ht.src (unl_in z0 z1)
        clear ht hf9 HF8 Hf8 Hg8 HU8 HX8 HY8
        go_wp2_with fail
        refine (lplaces_any _ (unl z0 z1) w9 HT9.out HC2.out).mono ?_
        rintro e wa ⟨ua, rfl, hy, hfa⟩
        rw [HU.out.1] at hy
        have HFa : Hid (Fr [] w wa) := HF9.out.trans hfa (by simp)
        have Hfa : Hid (SOwn 47 0 wa f fl) := Hf9.out.kept hfa
        have Hga : Hid (SOwn 47 0 wa g gl) := Hg9.out.kept hfa
        have HXa : Hid (ISrc wa x6 X) := HX9.out.kept hfa
        have HYa : Hid (ISrc wa y8 Y) := HY9.out.kept hfa
        have HUa : Hid (ISrc wa ua U) := hy.src HU.out.2.2
        clear hy hfa HF9 Hf9 Hg9 HX9 HY9 HT9
        obtain ⟨xo, xcap, rfl, hxc, _⟩ := HXa.out
        obtain ⟨yo, ycap, rfl, hyc, _⟩ := HYa.out
        obtain ⟨uo, ucap, rfl, huc, _⟩ := HUa.out
        go_wp2_with fail
        refine (numbers_any X.length n wa (by have := HX.out.2.1; omega) HNN.out).mono ?_
        rintro e wb ⟨vb, V, rfl, hVl, hVi, hV, hfb⟩
        have HFb : Hid (Fr [] w wb) := HFa.out.trans hfb (by simp)
        have Hfb : Hid (SOwn 47 0 wb f fl) := Hfa.out.kept hfb
        have Hgb : Hid (SOwn 47 0 wb g gl) := Hga.out.kept hfb
        have HXb : Hid (ISrc wb (.slice xo X.length xcap) X) := HXa.out.kept hfb
        have HYb : Hid (ISrc wb (.slice yo Y.length ycap) Y) := HYa.out.kept hfb
        have HUb : Hid (ISrc wb (.slice uo U.length ucap) U) := HUa.out.kept hfb
        have HVL : Hid (V.length = X.length ∧ ∀ x ∈ V, in64 x) := ⟨hVl, hVi⟩
        have HVb : Hid (ISrc wb vb V) := hV.src hVi
        clear hVl hVi hV hfb HFa Hfa Hga HXa HYa HUa
        go_wp2_with fail
        refine (numbers_any Y.length n wb (by have := HY.out.2.1; omega) HNN.out).mono ?_
        rintro e wc ⟨qc, Q, rfl, hVl, hVi, hV, hfc⟩
        have HFc : Hid (Fr [] w wc) := HFb.out.trans hfc (by simp)
        have Hfc : Hid (SOwn 47 0 wc f fl) := Hfb.out.kept hfc
        have Hgc : Hid (SOwn 47 0 wc g gl) := Hgb.out.kept hfc
        have HXc : Hid (ISrc wc (.slice xo X.length xcap) X) := HXb.out.kept hfc
        have HYc : Hid (ISrc wc (.slice yo Y.length ycap) Y) := HYb.out.kept hfc
        have HUc : Hid (ISrc wc (.slice uo U.length ucap) U) := HUb.out.kept hfc
        have HVc : Hid (ISrc wc vb V) := HVb.out.kept hfc
        have HQL : Hid (Q.length = Y.length ∧ ∀ x ∈ Q, in64 x) := ⟨hVl, hVi⟩
        have HQc : Hid (ISrc wc qc Q) := hV.src hVi
        clear hVl hVi hV hfc HFb Hfb Hgb HXb HYb HUb HVb
        go_wp2_with fail
        refine (expand_any _ _ V fl 0 wc HVc.out (Hfc.out.src (fun s hs => (HS0.out.2.2.2.1 s hs).2)) (by have := HVL.out.1; have := HX.out.2.1; omega) (by unfold in64; omega)).mono ?_
        rintro e wd ⟨pd, rfl, hp, hfd⟩
        have hep : exe V fl = 0 := by unfold exe; rw [HVL.out.1, if_pos HS0.out.2.1]
        have hev : exv 0 V fl = U.map (lvl 0 X V) := by unfold exv; rw [HVL.out.1, if_pos HS0.out.2.1, HS0.out.2.2.2.2 V HVL.out.1]
        rw [hep]
        rw [hev] at hp
        have HFd : Hid (Fr [] w wd) := HFc.out.trans hfd (by simp)
        have Hfd : Hid (SOwn 47 0 wd f fl) := Hfc.out.kept hfd
        have Hgd : Hid (SOwn 47 0 wd g gl) := Hgc.out.kept hfd
        have HXd : Hid (ISrc wd (.slice xo X.length xcap) X) := HXc.out.kept hfd
        have HYd : Hid (ISrc wd (.slice yo Y.length ycap) Y) := HYc.out.kept hfd
        have HUd : Hid (ISrc wd (.slice uo U.length ucap) U) := HUc.out.kept hfd
        have HVd : Hid (ISrc wd vb V) := HVc.out.kept hfd
        have HQd : Hid (ISrc wd qc Q) := HQc.out.kept hfd
        have HPI : Hid (∀ x ∈ U.map (lvl 0 X V), in64 x) := by intro x hx; obtain ⟨p, _, rfl⟩ := List.mem_map.1 hx; exact lvl_in (by unfold in64; omega) HVL.out.2
        have HPd : Hid (ISrc wd pd (U.map (lvl 0 X V))) := hp.src HPI.out
        clear hp hfd hep hev HFc Hfc Hgc HXc HYc HUc HVc HQc
        go_wp2_with fail
        refine (expand_any _ _ Q gl 0 wd HQd.out (Hgd.out.src (fun s hs => (HS1.out.2.2.2.1 s hs).2)) (by have := HQL.out.1; have := HY.out.2.1; omega) (by unfold in64; omega)).mono ?_
        rintro e we ⟨re, rfl, hp, hfe⟩
        have hep : exe Q gl = 0 := by unfold exe; rw [HQL.out.1, if_pos HS1.out.2.1]
        have hev : exv 0 Q gl = U.map (lvl 0 Y Q) := by unfold exv; rw [HQL.out.1, if_pos HS1.out.2.1, HS1.out.2.2.2.2 Q HQL.out.1]
        rw [hep]
        rw [hev] at hp
        have HFe : Hid (Fr [] w we) := HFd.out.trans hfe (by simp)
        have Hfe : Hid (SOwn 47 0 we f fl) := Hfd.out.kept hfe
        have Hge : Hid (SOwn 47 0 we g gl) := Hgd.out.kept hfe
        have HXe : Hid (ISrc we (.slice xo X.length xcap) X) := HXd.out.kept hfe
        have HYe : Hid (ISrc we (.slice yo Y.length ycap) Y) := HYd.out.kept hfe
        have HUe : Hid (ISrc we (.slice uo U.length ucap) U) := HUd.out.kept hfe
        have HVe : Hid (ISrc we vb V) := HVd.out.kept hfe
        have HQe : Hid (ISrc we qc Q) := HQd.out.kept hfe
        have HPe : Hid (ISrc we pd (U.map (lvl 0 X V))) := HPd.out.kept hfe
        have HRI : Hid (∀ x ∈ U.map (lvl 0 Y Q), in64 x) := by intro x hx; obtain ⟨p, _, rfl⟩ := List.mem_map.1 hx; exact lvl_in (by unfold in64; omega) HQL.out.2
        have HRe : Hid (ISrc we re (U.map (lvl 0 Y Q))) := hp.src HRI.out
        clear hp hfe hep hev HFd Hfd Hgd HXd HYd HUd HVd HQd HPd
        obtain ⟨_, _, hvy, _, _, _, by_, offy, hay, hcy⟩ := HYe.out
        simp only [Value.slice.injEq] at hvy
        obtain ⟨rfl, _, rfl⟩ := hvy
        have HCY : Hid (∀ j x, Y[j]? = some x → we.cell? ⟨by_, offy + j, none⟩ = some (.int .i64 x)) := hcy
        have HAY : Hid (0 < Y.length → yo = some ⟨by_, offy, none⟩) := hay
        have hYb : Y.length ≤ 4096 := HY.out.2.1
        have hXb : X.length ≤ 4096 := HX.out.2.1
        have hUb : U.length ≤ 4096 := HU.out.2.1
        clear hay hcy
        go_wp2
        go_loopw [21, 101] (fun c i wr => ∃ (k : Nat) (C : Bool), k ≤ Y.length ∧ i = .int .i64 (k : Int) ∧ c = .bool C ∧ (C = true ↔ ∀ x ∈ Y.take k, x ∈ X) ∧ Fr [] we wr) (fun _ i _ => Y.length - (intOf i).toNat)
        case atStart => exact ⟨0, true, by omega, rfl, rfl, by simp, Fr.refl _ _⟩
        case round =>
          obtain ⟨k, C, hk, rfl, rfl, hC, hf⟩ := hrel
          have HFR : Hid (Fr [] we wr) := hf
          have HC : Hid (C = true ↔ ∀ x ∈ Y.take k, x ∈ X) := hC
          clear hf hC
          by_cases hlt : k < Y.length
          · obtain rfl := HAY.out (by omega)
            obtain ⟨y, hy⟩ := at_lt hlt
            have c0 : wr.cell? ⟨by_, offy + k, none⟩ = some (.int .i64 y) := HFR.out.cell_some (HCY.out k y hy) (by simp)
            have HT : Hid (Y.take (k + 1) = Y.take k ++ [y]) := take_at hy
            clear hy
            cases C with
            | false =>
              have HC2 : Hid (false = true ↔ ∀ x ∈ Y.take (k + 1), x ∈ X) := by
                rw [Hid, HT.out]
                constructor
                · intro h; cases h
                · intro h; exact HC.out.2 (fun x hx => h x (by simp [hx]))
              clear HC
              go_wp2
              go_roundw
              case rel => exact ⟨k + 1, false, by omega, by go_num, rfl, HC2.out, HFR.out⟩
              case measure => simp [intOf]; omega
            | true =>
              go_wp2_with fail
              refine (rhas_any _ X y wr (HXe.out.kept HFR.out)).mono ?_
              rintro e w6 ⟨rfl, hf6⟩
              have HF6 : Hid (Fr [] we w6) := HFR.out.trans hf6 (by simp)
              have HC2 : Hid (decide (y ∈ X) = true ↔ ∀ x ∈ Y.take (k + 1), x ∈ X) := by
                rw [Hid, HT.out, decide_eq_true_iff]
                constructor
                · intro h x hx
                  rcases List.mem_append.1 hx with h1 | h1
                  · exact HC.out.1 (by simp) x h1
                  · have : x = y := by simpa using h1
                    rw [this]; exact h
                · intro h; exact h y (by simp)
              clear hf6 HC
              generalize decide (y ∈ X) = D at HC2 ⊢
              go_wp2
              go_roundw
              case rel => exact ⟨k + 1, D, by omega, by go_num, rfl, HC2.out, HF6.out⟩
              case measure => simp [intOf]; omega
          · have HCE : Hid (cvr z0 z1 = C) := by
              have h1 := HC.out
              rw [List.take_of_length_le (by omega)] at h1
              rw [Hid, Bool.eq_iff_iff, HCV.out, h1]
            clear HC HCV
            have HFW : Hid (Fr [] w wr) := HFe.out.trans HFR.out (by simp)
            have Hff : Hid (SOwn 47 0 wr f fl) := Hfe.out.kept HFR.out
            have Hgf : Hid (SOwn 47 0 wr g gl) := Hge.out.kept HFR.out
            have HXf : Hid (ISrc wr (.slice xo X.length xcap) X) := HXe.out.kept HFR.out
            have HYf : Hid (ISrc wr (.slice yo Y.length ycap) Y) := HYe.out.kept HFR.out
            have HUf : Hid (ISrc wr (.slice uo U.length ucap) U) := HUe.out.kept HFR.out
            have HVf : Hid (ISrc wr vb V) := HVe.out.kept HFR.out
            have HQf : Hid (ISrc wr qc Q) := HQe.out.kept HFR.out
            have HPf : Hid (ISrc wr pd (U.map (lvl 0 X V))) := HPe.out.kept HFR.out
            have HRf : Hid (ISrc wr re (U.map (lvl 0 Y Q))) := HRe.out.kept HFR.out
            clear HFR HFe Hfe Hge HXe HYe HUe HVe HQe HPe HRe
            go_wp2_with fail
            refine (rexpand_any _ _ _ V X U wr HVf.out HXf.out HUf.out HVL.out.1 (by omega)).mono ?_
            rintro e wg ⟨tg, rfl, ht, hfg⟩
            have HFg : Hid (Fr [] w wg) := HFW.out.trans hfg (by simp)
            have Hfg : Hid (SOwn 47 0 wg f fl) := Hff.out.kept hfg
            have Hgg : Hid (SOwn 47 0 wg g gl) := Hgf.out.kept hfg
            have HYg : Hid (ISrc wg (.slice yo Y.length ycap) Y) := HYf.out.kept hfg
            have HUg : Hid (ISrc wg (.slice uo U.length ucap) U) := HUf.out.kept hfg
            have HQg : Hid (ISrc wg qc Q) := HQf.out.kept hfg
            have HPg : Hid (ISrc wg pd (U.map (lvl 0 X V))) := HPf.out.kept hfg
            have HRg : Hid (ISrc wg re (U.map (lvl 0 Y Q))) := HRf.out.kept hfg
            have HTg : Hid (ISrc wg tg (U.map (lvl 0 X V))) := ht.src HPI.out
            clear ht hfg HFW Hff Hgf HXf HYf HUf HVf HQf HPf HRf
            go_wp2_with fail
            refine (lsame8_any _ _ _ _ wg HPg.out HTg.out).mono ?_
            rintro e wh ⟨rfl, hfh⟩
            rw [show decide (U.map (lvl 0 X V) = U.map (lvl 0 X V)) = true from by simp]
            have HFh : Hid (Fr [] w wh) := HFg.out.trans hfh (by simp)
            have Hfh : Hid (SOwn 47 0 wh f fl) := Hfg.out.kept hfh
            have Hgh : Hid (SOwn 47 0 wh g gl) := Hgg.out.kept hfh
            have HYh : Hid (ISrc wh (.slice yo Y.length ycap) Y) := HYg.out.kept hfh
            have HUh : Hid (ISrc wh (.slice uo U.length ucap) U) := HUg.out.kept hfh
            have HQh : Hid (ISrc wh qc Q) := HQg.out.kept hfh
            have HRh : Hid (ISrc wh re (U.map (lvl 0 Y Q))) := HRg.out.kept hfh
            clear hfh HFg Hfg Hgg HYg HUg HQg HPg HRg HTg
            go_wp2_with fail
            refine (rexpand_any _ _ _ Q Y U wh HQh.out HYh.out HUh.out HQL.out.1 (by omega)).mono ?_
            rintro e wi ⟨ti, rfl, ht, hfi⟩
            have HFi : Hid (Fr [] w wi) := HFh.out.trans hfi (by simp)
            have Hfi : Hid (SOwn 47 0 wi f fl) := Hfh.out.kept hfi
            have Hgi : Hid (SOwn 47 0 wi g gl) := Hgh.out.kept hfi
            have HRi : Hid (ISrc wi re (U.map (lvl 0 Y Q))) := HRh.out.kept hfi
            have HTi : Hid (ISrc wi ti (U.map (lvl 0 Y Q))) := ht.src HRI.out
            clear ht hfi HFh Hfh Hgh HYh HUh HQh HRh
            go_wp2_with fail
            refine (lsame8_any _ _ _ _ wi HRi.out HTi.out).mono ?_
            rintro e wj ⟨rfl, hfj⟩
            rw [show decide (U.map (lvl 0 Y Q) = U.map (lvl 0 Y Q)) = true from by simp]
            have HFj : Hid (Fr [] w wj) := HFi.out.trans hfj (by simp)
            have Hfj : Hid (SOwn 47 0 wj f fl) := Hfi.out.kept hfj
            have Hgj : Hid (SOwn 47 0 wj g gl) := Hgi.out.kept hfj
            clear hfj HFi Hfi Hgi HRi HTi
            go_wp2_with fail
            refine (many_any _ fl wj (Hfj.out.src (fun s hs => (HS0.out.2.2.2.1 s hs).2)) (fun s hs => (HS0.out.2.2.2.1 s hs).1) (by rw [HS0.out.2.2.1]; omega)).mono ?_
            rintro e wk ⟨rfl, hfk⟩
            rw [HS0.out.2.2.1]
            have HFk : Hid (Fr [] w wk) := HFj.out.trans hfk (by simp)
            have Hfk : Hid (SOwn 47 0 wk f fl) := Hfj.out.kept hfk
            have Hgk : Hid (SOwn 47 0 wk g gl) := Hgj.out.kept hfk
            clear hfk HFj Hfj Hgj
            go_wp2_with fail
            refine (many_any _ gl wk (Hgk.out.src (fun s hs => (HS1.out.2.2.2.1 s hs).2)) (fun s hs => (HS1.out.2.2.2.1 s hs).1) (by rw [HS1.out.2.2.1]; omega)).mono ?_
            rintro e wl ⟨rfl, hfl⟩
            rw [HS1.out.2.2.1]
            have HFl : Hid (Fr [] w wl) := HFk.out.trans hfl (by simp)
            have Hfl : Hid (SOwn 47 0 wl f fl) := Hfk.out.kept hfl
            clear hfl HFk Hfk Hgk
            go_wp2_with fail
            refine (right_any _ fl X.length wl (Hfl.out.src (fun s hs => (HS0.out.2.2.2.1 s hs).2)) (by omega)).mono ?_
            rintro e wm ⟨rfl, hfm⟩
            rw [HS0.out.2.1]
            have HFm : Hid (Fr [] w wm) := HFl.out.trans hfm (by simp)
            clear hfm HFl Hfl
            go_wp2_with fail
            refine (covers_any _ _ z0 z1 wm (HA.out.kept HFm.out) (HB.out.kept HFm.out)).mono ?_
            rintro e wn ⟨rfl, hfn⟩
            rw [HCE.out]
            have HFn : Hid (Fr [] w wn) := HFm.out.trans hfn (by simp)
            clear hfn HFm
            cases C
            all_goals go_wp2_with fail
            all_goals refine (HAW.out _ HFn.out).mono ?_
            all_goals rintro e wo ⟨rfl, hb⟩
            all_goals have HBL : Hid (Below w.heap.size w wo) := hb
            all_goals clear hb
            all_goals go_wp2
            all_goals go_ret
            all_goals exact ⟨rfl, HBL.out⟩
      · have ef : f = .slice none 0 0 := by
          have := Hf4.out
          rw [show cmp z0 z1 z0 = [] from by unfold cmp; rw [if_neg hh]] at this
          exact this.nil
        have eg : g = .slice none 0 0 := by
          have := Hg4.out
          rw [show cmp z0 z1 z1 = [] from by unfold cmp; rw [if_neg hh]] at this
          exact this.nil
        have HCV : Hid (cvr z0 z1 = false) := by unfold Hid cvr; simp [hh]
        subst ef eg
        clear Hf4 Hg4
        go_wp2_with fail
        refine (covers_any _ _ z0 z1 w4 (HA.out.kept HF4.out) (HB.out.kept HF4.out)).mono ?_
        rintro e w5 ⟨rfl, hf5⟩
        rw [HCV.out]
        have HF5 : Hid (Fr [] w w5) := HF4.out.trans hf5 (by simp)
        clear hf5
        go_wp2_with fail
        refine (HAW.out _ HF5.out).mono ?_
        rintro e w6 ⟨rfl, hb⟩
        have HBL : Hid (Below w.heap.size w w6) := hb
        clear hb
        go_wp2
        go_ret
        exact ⟨rfl, HBL.out⟩
end Go.Proofs.Ytakjfggkfhjeaaa
