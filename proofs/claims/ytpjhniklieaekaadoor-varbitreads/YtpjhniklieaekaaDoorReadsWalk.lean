/-
  The walk of tidepolelaw04.VarbitReads: it returns true, whatever it is given, and writes nothing that was there.
-/
import Derived.Test.YtpjhniklieaekaaDoorShorter
import Derived.Test.YtpjhniklieaekaaDoorRef4P
namespace Go.Proofs.YtpjhniklieaekaaDoor
open Go.RowKit Mem Bits Groups
set_option linter.unusedSimpArgs false
set_option linter.unusedVariables false

theorem txt_take (l : List Bool) (k : Nat) : (txt l).extract 0 k = txt (l.take k) := by
  apply ByteArray.ext
  simp [txt, List.map_take]
theorem txt_inj {a b : List Bool} (h : txt a = txt b) : a.length = b.length := by
  rw [← txt_size a, ← txt_size b, h]

/-- Both readings of bits that are there. -/
theorem vgetS_fits (w : World) (p g : Nat) (l : List Bool) (pos lim : Nat) (sh : Bool) (k : Nat) (hT : Tab w) (hp : 0 < p) (h : Rd w p g l pos lim sh) (hb : l.length ≤ 4294967296) (hL : LeadIs l pos lim k) (hs : pos + (fore k + bh k) ≤ lim) (V : Nat) (hV : val ((l.drop (pos + fore k)).take (bh k)) = V) :
    Calls Tryd.prog 18 #[.pointer (some ⟨p, 0, none⟩)] w fun e w' => ∃ (sv : Int) (sg : Int), e = .returned (.tuple #[.int .i64 sv, .int .i64 sg]) ∧ ((gS (sgn V (bh k)) = k ∧ sv = sgn V (bh k) ∧ sg = 0) ∨ (gS (sgn V (bh k)) < k ∧ sv = 0 ∧ sg = 10)) ∧ Rd w' p g l (pos + (fore k + bh k)) lim sh ∧ Fr [p] w w' := by
  have hle : gS (sgn V (bh k)) ≤ k := gS_of hL.1 (by rw [← hV]; exact behind_lt _ _ _)
  by_cases hg : gS (sgn V (bh k)) = k
  · exact (vgetS_ok w p g l pos lim sh k hT hp h hb hL hs V hV hg).mono fun e w' ⟨a, b⟩ => ⟨_, _, a, .inl ⟨hg, rfl, rfl⟩, b⟩
  · exact (vgetS_form w p g l pos lim sh k hT hp h hb hL hs V hV (by omega)).mono fun e w' ⟨a, b⟩ => ⟨_, _, a, .inr ⟨by omega, rfl, rfl⟩, b⟩
theorem vgetU_fits (w : World) (p g : Nat) (l : List Bool) (pos lim : Nat) (sh : Bool) (k : Nat) (hT : Tab w) (hp : 0 < p) (h : Rd w p g l pos lim sh) (hb : l.length ≤ 4294967296) (hL : LeadIs l pos lim k) (hs : pos + (fore k + bh k) ≤ lim) (V : Nat) (hV : val ((l.drop (pos + fore k)).take (bh k)) = V) :
    Calls Tryd.prog 19 #[.pointer (some ⟨p, 0, none⟩)] w fun e w' => ∃ (uv : Int) (ug : Int), e = .returned (.tuple #[.int .u64 uv, .int .i64 ug]) ∧ ((gU V = k ∧ uv = (V : Int) ∧ ug = 0) ∨ (gU V < k ∧ uv = 0 ∧ ug = 10)) ∧ Rd w' p g l (pos + (fore k + bh k)) lim sh ∧ Fr [p] w w' := by
  have hle : gU V ≤ k := gU_of hL.1 (by rw [← hV]; exact behind_lt _ _ _)
  by_cases hg : gU V = k
  · exact (vgetU_ok w p g l pos lim sh k hT hp h hb hL hs V hV hg).mono fun e w' ⟨a, b⟩ => ⟨_, _, a, .inl ⟨hg, rfl, rfl⟩, b⟩
  · exact (vgetU_form w p g l pos lim sh k hT hp h hb hL hs V hV (by omega)).mono fun e w' ⟨a, b⟩ => ⟨_, _, a, .inr ⟨by omega, rfl, rfl⟩, b⟩

/-- The law's premises on its input, all but the good case: the fixed answer alone. -/
def BadIn (len : Nat) (n : Int) : Prop := 40 < len ∨ n < 0 ∨ 8 * (len : Int) < n

set_option maxRecDepth 100000 in
set_option maxHeartbeats 2000000 in
theorem reads_bad (a0 : Option Addr) (len0 cap0 : Nat) (a1 : Int) (w : World) (hT : Tab w) (hb : BadIn len0 a1) (hm : len0 ≤ maxLen) :
    Calls Tryd.prog 4 #[.slice a0 len0 cap0, .int .i64 a1] w fun e w' => e = .returned (.bool true) ∧ Fr [] w w' := by
  have hout : (decide (40 < (len0 : Int)) = true) ∨ (decide (40 < (len0 : Int)) = false ∧ decide (a1 < 0) = true) ∨ (decide (40 < (len0 : Int)) = false ∧ decide (a1 < 0) = false ∧ decide (8 * (len0 : Int) < a1) = true ∧ len0 ≤ 40) := by
    unfold BadIn at hb
    by_cases h1 : 40 < len0
    · exact .inl (decide_eq_true (by omega))
    · by_cases h2 : a1 < 0
      · exact .inr (.inl ⟨decide_eq_false (by omega), decide_eq_true h2⟩)
      · exact .inr (.inr ⟨decide_eq_false (by omega), decide_eq_false h2, decide_eq_true (by omega), by omega⟩)
  have HT : Hid (Tab w) := hT
  clear hT hb hm
  rcases hout with h1 | ⟨h1, h2⟩ | ⟨h1, h2, h3, h4⟩
  all_goals
    go_enter Tryd.func4, Tryd.ntmps4
    go_wp2_with fail
    refine (awake_any w HT.out).mono ?_
    rintro e w' ⟨rfl, hf⟩
    go_wp2_with fail
    go_ret
    exact ⟨by first | rfl | trivial, hf⟩

set_option maxRecDepth 100000 in
set_option maxHeartbeats 4000000 in
theorem reads_good (a0 : Option Addr) (cap0 : Nat) (bs : List Nat) (n : Nat) (w : World) (hT : Tab w) (hsrc : Src w (.slice a0 bs.length cap0) bs) (hlen : bs.length ≤ 40) (hn : n ≤ 8 * bs.length) :
    Calls Tryd.prog 4 #[.slice a0 bs.length cap0, .int .i64 (n : Int)] w fun e w' => e = .returned (.bool true) ∧ Fr [] w w' := by
  have hsz := hT.lt
  have HT : Hid (Tab w) := hT
  have h256 : ∀ x ∈ bs, x < 256 := by obtain ⟨_, _, _, _, _, _, h⟩ := hsrc; exact h
  have H256 : Hid (∀ x ∈ bs, x < 256) := h256
  clear hT h256
  have hrun := run_str hsrc
  have HSRC : Hid (Src w (.slice a0 bs.length cap0) bs) := hsrc
  clear hsrc
  have d1 : decide (40 < (bs.length : Int)) = false := decide_eq_false (by omega)
  have d2 : decide ((n : Int) < 0) = false := decide_eq_false (by omega)
  have d3 : decide (8 * (bs.length : Int) < (n : Int)) = false := decide_eq_false (by omega)
  have hn320 : n ≤ 320 := by omega
  have hnb : nbs n ≤ bs.length := nbs_le hn
  have HTX : Hid (∀ w : World, Calls Tryd.prog 22 #[.string (str bs), .int .i64 (n : Int)] w fun e w' => e = .returned (.string (txt (unpack bs n))) ∧ w = w') := fun w => text_any bs n w H256.out hn (by omega)
  obtain ⟨T, hTT⟩ : ∃ T, T = unpack bs n := ⟨_, rfl⟩
  have hTl : T.length = n := by rw [hTT]; simp
  rw [← hTT] at HTX
  obtain ⟨k, hk⟩ := lead_is T 0 n (by omega)
  have HLD : Hid (LeadIs T 0 n k) := hk
  have hk8 : k ≤ 8 := hk.1
  clear hk
  have HTT : Hid (T = unpack bs n) := hTT
  clear hTT
  go_enter Tryd.func4, Tryd.ntmps4
  go_wp2_with fail
  refine (HTX.out w).mono ?_
  rintro e w' ⟨rfl, rfl⟩
  clear hrun
  go_wp2_with fail
  refine (newReader_ok _ bs n w HSRC.out hnb (by omega)).mono ?_
  rintro e w1 ⟨q, h, rfl, hr1, hq, hh, hf1⟩
  rw [← HTT.out] at hr1
  have hz1 := hf1.size
  have hl1 := hr1.lt
  go_wp2_with fail
  refine (newReader_ok _ bs n w1 (HSRC.out.kept hf1 (by simp)) hnb (by omega)).mono ?_
  rintro e w2 ⟨q2, h2, rfl, hs2, hq2, hh2, hf2⟩
  rw [← HTT.out] at hs2
  have hr2 := hr1.kept hf2 (by simp) (by simp)
  have hf02 : Fr [] w w2 := hf1.trans hf2 (by simp)
  have hz2 := hf2.size
  clear hr1 hf1 hf2
  by_cases hfit : fore k + bh k ≤ n
  · -- the bits are there
    obtain ⟨B, hB⟩ : ∃ B, B = (T.drop (fore k)).take (bh k) := ⟨_, rfl⟩
    have hBl : B.length = bh k := by rw [hB]; simp; omega
    obtain ⟨V, hV⟩ : ∃ V, V = val B := ⟨_, rfl⟩
    have hVT : val ((T.drop (0 + fore k)).take (bh k)) = V := by rw [Nat.zero_add, ← hB, hV]
    have hVlt : V < 2 ^ bh k := by rw [hV, ← hBl]; exact val_lt B
    have hV64 : V < 18446744073709551616 := Nat.lt_of_lt_of_le hVlt (pow_bh k)
    obtain ⟨hsi1, hsi2⟩ := sgn_in (bh_sort hk8) hVlt
    obtain ⟨M, hM⟩ : ∃ M, M = fore k + bh k := ⟨_, rfl⟩
    obtain ⟨G, hG⟩ : ∃ G, G = gbits k V := ⟨_, rfl⟩
    have hGT : T.take M = G := by
      have := lead_take T 0 n k HLD.out (by omega) (by omega)
      rw [hVT] at this
      rw [hM, hG, ← this]; simp
    have HX : Hid ((txt T).extract 0 M = txt G) := by show _ = _; rw [txt_take, hGT]
    have hGl : G.length = M := by rw [hG, gbits_length, hM]
    have hxx : (txt T).extract 0 M = txt G := HX.out
    have hzT : (txt T).size = n := by rw [txt_size, hTl]
    have hMn : M ≤ n := by omega
    have hM0 : (0 : Int) ≤ (M : Int) := by omega
    have hM1 : (M : Int) ≤ ((txt T).size : Int) := by rw [hzT]; omega
    have HRP : Hid (∀ w : World, Calls Tryd.prog 23 #[.string (txt T)] w fun e w' => e = .returned (.tuple #[.int .i64 (M : Int), .string (txt B)]) ∧ Fr [] w w') := fun w =>
      rparse_any T w k _ _ (by omega) (by rw [hTl]; exact HLD.out) (.inl ⟨by omega, by rw [hM], by rw [hB]⟩)
    have hMu : (fore k + bh k) = M := hM.symm
    have HVAL : Hid (∀ w : World, Calls Tryd.prog 25 #[.string (txt B)] w fun e w' => e = .returned (.int .u64 (V : Int)) ∧ w = w') := fun w => by rw [hV]; exact value_any B w (by rw [hBl]; exact bh_le k)
    have HUALL : Hid (∀ w : World, Calls Tryd.prog 12 #[.int .u64 (V : Int)] w fun e w' => e = .returned (.string (txt (ubits V))) ∧ Fr [] w w') := fun w => U_any V w hV64
    have HSALL : Hid (∀ w : World, Calls Tryd.prog 11 #[.int .i64 (sgn V (bh k))] w fun e w' => e = .returned (.string (txt (sbits (sgn V (bh k))))) ∧ Fr [] w w') := fun w => S_any _ w hsi1 hsi2
    have HUE : Hid (gU V = k → ubits V = G) := fun e => by unfold ubits; rw [e, hG]
    have HUN : Hid (gU V < k → (ubits V).length < M) := fun e => by unfold ubits; rw [gbits_length, hM]; exact size_lt e hk8
    have HSE : Hid (gS (sgn V (bh k)) = k → sbits (sgn V (bh k)) = G) := fun e => by
      unfold sbits; rw [e, hG]; unfold gbits
      have := tw_sgn hk8 hVlt
      rw [← numBits_mod, this]
    have HSHall : Hid (gS (sgn V (bh k)) < k → Hid (∀ wx, Calls Tryd.prog 26 #[.string (txt B), .int .i64 (M : Int)] wx fun e w' => e = .returned (.bool true) ∧ Fr [] wx w')) := fun e wx => by
      have h1 := shorter_any B M wx (by rw [hBl]; exact bh_sort hk8) (by omega)
      rw [← hV, hBl] at h1
      have h2 : (sbits (sgn V (bh k))).length < M := by unfold sbits; rw [gbits_length, hM]; exact size_lt e hk8
      rw [decide_eq_true h2] at h1
      exact h1
    have HTL : Hid (T.length ≤ 4294967296) := by show _ ≤ _; omega
    have hfit0 : 0 + (fore k + bh k) ≤ n := by omega
    go_wp2_with fail
    refine (vgetS_fits w2 q h T 0 n false k (HT.out.kept hf02 (by simp)) (by omega) hr2 HTL.out HLD.out hfit0 V hVT).mono ?_
    rintro e w3 ⟨sv, sg, rfl, hsor, hr3, hf3⟩
    have hs3 := hs2.kept hf3 (by simp; omega) (by simp; omega)
    have hf03 : Fr [] w w3 := hf02.trans hf3 (by simp; omega)
    have hz3 := hf3.size
    rw [Nat.zero_add, hMu] at hr3
    have hl3 := hr3.lt
    clear hr2 hs2 hf02 hf3
    go_wp2_with fail
    refine (vgetU_fits w3 q2 h2 T 0 n false k (HT.out.kept hf03 (by simp)) (by omega) hs3 HTL.out HLD.out hfit0 V hVT).mono ?_
    rintro e w4 ⟨uv, ug, rfl, huor, hs4, hf4⟩
    have hr4 := hr3.kept hf4 (by simp; omega) (by simp; omega)
    have hf04 : Fr [] w w4 := hf03.trans hf4 (by simp; omega)
    rw [Nat.zero_add, hMu] at hs4
    clear hr3 hs3 hf03 hf4
    go_wp2_with fail
    refine (HRP.out w4).mono ?_
    rintro e wP ⟨rfl, hfP'⟩
    have hrP := hr4.kept hfP' (by simp) (by simp)
    have hsP := hs4.kept hfP' (by simp) (by simp)
    have hfP : Fr [] w wP := hf04.trans hfP' (by simp)
    clear hr4 hs4 hf04 hfP'
    have HPR : Hid (∀ wx, Fr [] wP wx → Calls Tryd.prog 24 #[.pointer (some ⟨q, 0, none⟩)] wx fun e w' => e = .returned (.int .i64 (M : Int)) ∧ wx = w') := fun wx hx => pos_any wx q h T M n false (hrP.kept hx (by simp) (by simp))
    have HPS : Hid (∀ wx, Fr [] wP wx → Calls Tryd.prog 24 #[.pointer (some ⟨q2, 0, none⟩)] wx fun e w' => e = .returned (.int .i64 (M : Int)) ∧ wx = w') := fun wx hx => pos_any wx q2 h2 T M n false (hsP.kept hx (by simp) (by simp))
    have HAW : Hid (∀ wx, Fr [] wP wx → Calls Tryd.prog 21 #[] wx fun e w' => e = .returned (.bool true) ∧ Fr [] wP w') := fun wx hx => (awake_any wx (HT.out.kept (hfP.trans hx (by simp)) (by simp))).mono fun e w' ⟨a, b⟩ => ⟨a, hx.trans b (by simp)⟩
    have HSall : Hid (gS (sgn V (bh k)) = k → Hid (∀ wx, Fr [] wP wx → Calls Tryd.prog 11 #[.int .i64 (sgn V (bh k))] wx fun e w' => e = .returned (.string (txt G)) ∧ Fr [] wP w')) := fun e wx hx => (HSALL.out wx).mono fun e' w' ⟨a, b⟩ => ⟨by rw [a, HSE.out e], hx.trans b (by simp)⟩
    have F0 : Fr [] wP wP.drew := (Fr.refl _ _).drew
    have F1 : Fr [] wP wP := Fr.refl _ _
    have dM : decide ((M : Int) < 0) = false := decide_eq_false (by omega)
    have HGl : Hid (G.length = M) := hGl
    clear HSALL HSE HRP hrP hsP hGT hVT hV hB hBl hM hG hVlt hMu hfit0 HX HLD hGl HTL HTX
    rcases huor with ⟨hgu, rfl, rfl⟩ | ⟨hgu, rfl, rfl⟩
    · have HU : Hid (∀ wx, Fr [] wP wx → Calls Tryd.prog 12 #[.int .u64 (V : Int)] wx fun e w' => e = .returned (.string (txt G)) ∧ Fr [] wP w') := fun wx hx => (HUALL.out wx).mono fun e' w' ⟨a, b⟩ => ⟨by rw [a, HUE.out hgu], hx.trans b (by simp)⟩
      clear HUALL HUE HUN HVAL
      go_wp2_with fail
      go_region_held3 (fun _ => True) (exact trivial) (first
        | (go_at_call 12; refine (HU.out _ ?_).mono ?_; (first | assumption | exact F0); rintro e wz ⟨rfl, hfz⟩)
        | (go_at_call 24; refine (HPS.out _ ?_).mono ?_; (first | assumption | exact F0); rintro e wt ⟨rfl, rfl⟩))
      have Fz : Fr [] wP wz.drew := hfz.drew
      rcases hsor with ⟨hgs, rfl, rfl⟩ | ⟨hgs, rfl, rfl⟩
      · have HS : Hid (∀ wx, Fr [] wP wx → Calls Tryd.prog 11 #[.int .i64 (sgn V (bh k))] wx fun e w' => e = .returned (.string (txt G)) ∧ Fr [] wP w') := HSall.out hgs
        clear HSHall HSall
        go_wp2_with fail
        go_region_held3 (fun _ => True) (exact trivial) (first
          | (go_at_call 11; refine (HS.out _ ?_).mono ?_; (first | assumption | exact Fz); rintro e ws ⟨rfl, hfs⟩)
          | (go_at_call 24; refine (HPR.out _ ?_).mono ?_; (first | assumption | exact Fz); rintro e wt ⟨rfl, rfl⟩)
          | (go_at_call 21; refine (HAW.out _ ?_).mono ?_; (first | assumption | exact Fz); rintro e wa ⟨rfl, hfa⟩))
        go_wp2_with fail
        go_ret
        exact ⟨by first | rfl | trivial, hfP.trans hfa (by simp)⟩
      · have HSH : Hid (∀ wx, Calls Tryd.prog 26 #[.string (txt B), .int .i64 (M : Int)] wx fun e w' => e = .returned (.bool true) ∧ Fr [] wx w') := HSHall.out hgs
        clear HSHall HSall
        go_wp2_with fail
        refine (HSH.out wz).mono ?_
        rintro e ws ⟨rfl, hfs'⟩
        have hfs : Fr [] wP ws := Fr.trans (S' := []) (by assumption) hfs' (by simp)
        go_wp2_with fail
        refine (HAW.out ws hfs).mono ?_
        rintro e wa ⟨rfl, hfa⟩
        go_wp2_with fail
        go_ret
        exact ⟨by first | rfl | trivial, hfP.trans hfa (by simp)⟩
    · have hne : txt (ubits V) ≠ txt G := fun e => by have h1 := txt_inj e; have h2 := HUN.out hgu; have h3 := HGl.out; omega
      have HNE : Hid (txt (ubits V) ≠ txt G) := hne
      have hnb1 : ((txt (ubits V)).toList == (txt G).toList) = false := by
        rw [beq_eq_false_iff_ne]; intro h0; apply hne; rw [ByteArray.toList_eq, ByteArray.toList_eq] at h0; exact ByteArray.ext (Array.toList_inj.1 h0)
      have HU : Hid (∀ wx, Fr [] wP wx → Calls Tryd.prog 12 #[.int .u64 (V : Int)] wx fun e w' => e = .returned (.string (txt (ubits V))) ∧ Fr [] wP w') := fun wx hx => (HUALL.out wx).mono fun e' w' ⟨a, b⟩ => ⟨a, hx.trans b (by simp)⟩
      clear HUALL HUE HUN
      go_wp2_with fail
      go_region_held3 (fun _ => True) (exact trivial) (first
        | (go_at_call 25; refine (HVAL.out _).mono ?_; rintro e wt ⟨rfl, rfl⟩)
        | (go_at_call 12; refine (HU.out _ ?_).mono ?_; (first | assumption | exact F0); rintro e wz ⟨rfl, hfz⟩))
      have Fz : Fr [] wP wz.drew := hfz.drew
      rcases hsor with ⟨hgs, rfl, rfl⟩ | ⟨hgs, rfl, rfl⟩
      · have HS : Hid (∀ wx, Fr [] wP wx → Calls Tryd.prog 11 #[.int .i64 (sgn V (bh k))] wx fun e w' => e = .returned (.string (txt G)) ∧ Fr [] wP w') := HSall.out hgs
        clear HSHall HSall
        go_wp2_with fail
        go_region_held3 (fun _ => True) (exact trivial) (first
          | (go_at_call 11; refine (HS.out _ ?_).mono ?_; (first | assumption | exact Fz); rintro e ws ⟨rfl, hfs⟩)
          | (go_at_call 24; refine (HPR.out _ ?_).mono ?_; (first | assumption | exact Fz); rintro e wt ⟨rfl, rfl⟩)
          | (go_at_call 21; refine (HAW.out _ ?_).mono ?_; (first | assumption | exact Fz); rintro e wa ⟨rfl, hfa⟩))
        go_wp2_with fail
        go_ret
        exact ⟨by first | rfl | trivial, hfP.trans hfa (by simp)⟩
      · have HSH : Hid (∀ wx, Calls Tryd.prog 26 #[.string (txt B), .int .i64 (M : Int)] wx fun e w' => e = .returned (.bool true) ∧ Fr [] wx w') := HSHall.out hgs
        clear HSHall HSall
        go_wp2_with fail
        refine (HSH.out wz).mono ?_
        rintro e ws ⟨rfl, hfs'⟩
        have hfs : Fr [] wP ws := Fr.trans (S' := []) (by assumption) hfs' (by simp)
        go_wp2_with fail
        refine (HAW.out ws hfs).mono ?_
        rintro e wa ⟨rfl, hfa⟩
        go_wp2_with fail
        go_ret
        exact ⟨by first | rfl | trivial, hfP.trans hfa (by simp)⟩
  · -- there are too few
    have hlt : n < 0 + (fore k + bh k) := by omega
    have HRP : Hid (∀ w : World, Calls Tryd.prog 23 #[.string (txt T)] w fun e w' => e = .returned (.tuple #[.int .i64 (-1), .string ⟨#[]⟩]) ∧ Fr [] w w') := fun w =>
      rparse_any T w k _ _ (by omega) (by rw [hTl]; exact HLD.out) (.inr ⟨by omega, rfl, rfl⟩)
    go_wp2_with fail
    refine (vgetS_short w2 q h T 0 n false k (HT.out.kept hf02 (by simp)) (by omega) hr2 (by omega) HLD.out hlt).mono ?_
    rintro e w3 ⟨rfl, hr3, hf3⟩
    have hs3 := hs2.kept hf3 (by simp; omega) (by simp; omega)
    have hf03 : Fr [] w w3 := hf02.trans hf3 (by simp; omega)
    have hz3 := hf3.size
    clear hr2 hs2 hf02 hf3 hr3
    go_wp2_with fail
    refine (vgetU_short w3 q2 h2 T 0 n false k (HT.out.kept hf03 (by simp)) (by omega) hs3 (by omega) HLD.out hlt).mono ?_
    rintro e w4 ⟨rfl, hs4, hf4⟩
    have hf04 : Fr [] w w4 := hf03.trans hf4 (by simp; omega)
    clear hs3 hf03 hf4 hs4
    go_wp2_with fail
    refine (HRP.out w4).mono ?_
    rintro e w5 ⟨rfl, hf5⟩
    have hf05 : Fr [] w w5 := hf04.trans hf5 (by simp)
    clear hf04 hf5
    go_wp2_with fail
    refine (awake_any w5 (HT.out.kept hf05 (by simp))).mono ?_
    rintro e w6 ⟨rfl, hf6⟩
    go_wp2_with fail
    go_ret
    exact ⟨by first | rfl | trivial, hf05.trans hf6 (by simp)⟩

theorem reads_walk (a0 : Option Addr) (len0 cap0 : Nat) (z0 : List Int) (a1 : Int) (w : World) (hT : Tab w) (w0 : IsRow .u8 w a0 len0 cap0 z0) (w1 : (Lit.int .i64 a1).wf = true) :
    Calls Tryd.prog 4 #[.slice a0 len0 cap0, .int .i64 a1] w fun e w' => e = .returned (.bool true) ∧ Fr [] w w' := by
  obtain ⟨bs, hbl, hsrc⟩ := w0.src
  subst hbl
  by_cases hbad : 40 < bs.length ∨ a1 < 0 ∨ 8 * (bs.length : Int) < a1
  · refine reads_bad a0 bs.length cap0 a1 w hT hbad ?_
    obtain ⟨ao, cap, e, h1, h2, _⟩ := hsrc
    omega
  · obtain ⟨n, rfl⟩ := Int.eq_ofNat_of_zero_le (show 0 ≤ a1 by omega)
    exact reads_good a0 cap0 bs n w hT hsrc (by omega) (by omega)
end Go.Proofs.YtpjhniklieaekaaDoor
