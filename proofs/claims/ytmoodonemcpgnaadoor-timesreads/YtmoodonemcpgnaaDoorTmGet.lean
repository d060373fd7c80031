/-
  Package times: next, Get (rows of int64: I, of uint64: U).
-/
import Derived.Test.YtmoodonemcpgnaaDoorTmRow
import Derived.Test.YtmoodonemcpgnaaDoorVbGet
namespace Go.Proofs.YtmoodonemcpgnaaDoor
open Go.RowKit Mem Bits Groups Evens
set_option linter.unusedSimpArgs false
set_option linter.unusedVariables false

theorem nextI_reckons (s : TRow) (c : Int) (hs : s.ok) (hc1 : -9223372036854775808 ≤ c) (hc2 : c ≤ 9223372036854775807) : Hid (wrap64 (sg s.last + wrap64 (sg s.step + c)) = sg (dec s (tw c))) := by
  show _ = _
  have e : c = sg (tw c) := (sg_tw hc1 hc2).symm
  rw [show wrap64 (sg s.step + c) = sg (add64 s.step (tw c)) from by rw [← wrap_sum hs.2 (tw_lt c), ← e], wrap_sum hs.1 (add64_lt _ _)]; rfl
theorem nextU_reckons (s : TRow) (c : Int) (hs : s.ok) (hc1 : -9223372036854775808 ≤ c) (hc2 : c ≤ 9223372036854775807) : Hid (IntKind.u64.wrap ((s.last : Int) + IntKind.u64.wrap (wrap64 (sg s.step + c))) = ((dec s (tw c) : Nat) : Int)) := by
  show _ = _
  have e : c = sg (tw c) := (sg_tw hc1 hc2).symm
  rw [show wrap64 (sg s.step + c) = sg (add64 s.step (tw c)) from by rw [← wrap_sum hs.2 (tw_lt c), ← e], wrapU_sg (add64_lt _ _), wrapU_sum hs.1 (add64_lt _ _)]; rfl

/-! ### Rows of int64: reading -/
set_option maxRecDepth 100000 in
set_option maxHeartbeats 1000000 in
theorem nextI_S (w : World) (p q : Nat) (s : TRow) (c er : Int) (R : World → Prop) (hx : TrI w p s) (hs : s.ok) (hn : 0 < s.n) (hc1 : -9223372036854775808 ≤ c) (hc2 : c ≤ 9223372036854775807) (hpq : p ≠ q)
    (hG : Calls Tryd.prog 59 #[.pointer (some ⟨q, 0, none⟩)] w fun e w' => e = .returned (.tuple #[.int .i64 c, .int .i64 er]) ∧ R w' ∧ Fr [q] w w') (hR : ∀ a b, R a → Fr [p] a b → R b) :
    Calls Tryd.prog 48 #[.pointer (some ⟨p, 0, none⟩), .pointer (some ⟨q, 0, none⟩)] w fun e w' => e = .returned (.tuple #[.int .i64 (sg (dec s (tw c))), .int .i64 er]) ∧ R w' ∧ Fr [q] w w' ∧ TrI w' p s := by
  have c2 := hx.c2
  have d0 : decide (0 < (s.n : Int)) = true := decide_eq_true (by omega)
  have d1 : decide (0 < s.n) = true := decide_eq_true (by omega)
  have HE := nextI_reckons s c hs hc1 hc2
  have HH : Hid (TrI w p s) := hx
  have HG : Hid (Calls Tryd.prog 59 #[.pointer (some ⟨q, 0, none⟩)] w fun e w' => e = .returned (.tuple #[.int .i64 c, .int .i64 er]) ∧ R w' ∧ Fr [q] w w') := hG
  have HR : Hid (∀ a b, R a → Fr [p] a b → R b) := hR
  clear hx hs hn hc1 hc2 hG hR
  go_enter Tryd.func48, Tryd.ntmps48
  go_wp2_with fail
  refine (HG.out).mono ?_
  rintro e w1 ⟨rfl, hr1, hf1⟩
  have hx1 : TrI w1 p s := HH.out.kept hf1 (by simp; omega)
  have k0 := hx1.c0
  have k1 := hx1.c1
  have HX : Hid (TrI w1 p s) := hx1
  have HR1 : Hid (R w1) := hr1
  clear c2 hx1 hr1
  go_wp2_with fail
  go_quiet (fail)
  go_wp2_with fail
  go_ret2
  refine ⟨?_, HR.out _ _ HR1.out ((Fr.refl [p] _).drewN _), hf1.drewN _, HX.out.kept ((Fr.refl [] _).drewN _) (by simp)⟩
  rw [← HE.out]
  first | rfl | trivial

set_option maxHeartbeats 400000 in
theorem nextI_0 (w : World) (p q : Nat) (s : TRow) (V : Nat) (er : Int) (R : World → Prop) (hx : TrI w p s) (hn : s.n = 0) (hV : V < 18446744073709551616) (hpq : p ≠ q)
    (hG : Calls Tryd.prog 59 #[.pointer (some ⟨q, 0, none⟩)] w fun e w' => e = .returned (.tuple #[.int .i64 (sg (V)), .int .i64 er]) ∧ R w' ∧ Fr [q] w w') :
    Calls Tryd.prog 48 #[.pointer (some ⟨p, 0, none⟩), .pointer (some ⟨q, 0, none⟩)] w fun e w' => e = .returned (.tuple #[.int .i64 (sg (V)), .int .i64 er]) ∧ R w' ∧ Fr [q] w w' ∧ TrI w' p s := by
  have c2 := hx.c2
  have d0 : decide (0 < (s.n : Int)) = false := decide_eq_false (by omega)
  have d1 : decide (0 < s.n) = false := decide_eq_false (by omega)
  have HH : Hid (TrI w p s) := hx
  clear hx hn
  go_enter Tryd.func48, Tryd.ntmps48
  go_wp2_with fail
  refine (signedI_any w).mono ?_
  rintro e w1 ⟨rfl, rfl⟩
  go_wp2_with fail
  refine (hG).mono ?_
  rintro e w1 ⟨rfl, hr1, hf1⟩
  have HX : Hid (TrI w1 p s) := HH.out.kept hf1 (by simp; omega)
  have HR1 : Hid (R w1) := hr1
  clear c2 hG hr1
  go_wp2_with fail
  go_ret2
  exact ⟨by first | rfl | trivial, HR1.out, hf1, HX.out⟩

set_option maxHeartbeats 400000 in
theorem getI_ok (w : World) (p q : Nat) (s : TRow) (V : Nat) (R : World → Prop) (hs : s.ok) (hn : s.n ≤ 1000000000) (hV : V < 18446744073709551616)
    (hN : Calls Tryd.prog 48 #[.pointer (some ⟨p, 0, none⟩), .pointer (some ⟨q, 0, none⟩)] w fun e w' => e = .returned (.tuple #[.int .i64 (sg (V)), .int .i64 0]) ∧ R w' ∧ Fr [q] w w' ∧ TrI w' p s) (hR : ∀ a b, R a → Fr [p] a b → R b) :
    Calls Tryd.prog 31 #[.pointer (some ⟨p, 0, none⟩), .pointer (some ⟨q, 0, none⟩)] w fun e w' => e = .returned (.tuple #[.int .i64 (sg (V)), .int .i64 0]) ∧ R w' ∧ TrI w' p (tnext s V) ∧ Fr [p, q] w w' := by
  go_enter Tryd.func31, Tryd.ntmps31
  go_wp2_with fail
  refine (hN).mono ?_
  rintro e w1 ⟨rfl, hr1, hf1, hx1⟩
  go_wp2_with fail
  refine (addI_any w1 p s V hx1 hs hV hn).mono ?_
  rintro e w2 ⟨rfl, hx2, hf2⟩
  have HR2 : Hid (R w2) := hR _ _ hr1 hf2
  clear hR hN hr1 hx1
  go_wp2_with fail
  go_ret2
  exact ⟨by first | rfl | trivial, HR2.out, hx2, (hf1.mono (S' := [p, q]) (by simp)).trans hf2 (by simp)⟩

set_option maxHeartbeats 400000 in
theorem getI_no (w : World) (p q : Nat) (s : TRow) (v : Value) (er : Int) (R : World → Prop) (he : er ≠ 0)
    (hN : Calls Tryd.prog 48 #[.pointer (some ⟨p, 0, none⟩), .pointer (some ⟨q, 0, none⟩)] w fun e w' => e = .returned (.tuple #[v, .int .i64 er]) ∧ R w' ∧ Fr [q] w w' ∧ TrI w' p s) :
    Calls Tryd.prog 31 #[.pointer (some ⟨p, 0, none⟩), .pointer (some ⟨q, 0, none⟩)] w fun e w' => e = .returned (.tuple #[.int .i64 0, .int .i64 er]) ∧ R w' ∧ TrI w' p s ∧ Fr [q] w w' := by
  have d0 : (er != 0) = true := by rw [bne_iff_ne]; exact he
  go_enter Tryd.func31, Tryd.ntmps31
  go_wp2_with fail
  refine (hN).mono ?_
  rintro e w1 ⟨rfl, hr1, hf1, hx1⟩
  clear hN
  go_wp2_with fail
  go_ret2
  exact ⟨by first | rfl | trivial, hr1, hx1, hf1⟩

theorem rdkept {q h : Nat} {l : List Bool} {pos lim : Nat} {sh : Bool} {p : Nat} (hpq : p ≠ q) (hph : p ≠ h) : ∀ a b, Rd a q h l pos lim sh → Fr [p] a b → Rd b q h l pos lim sh := fun a b h f => h.kept f (by simp; omega) (by simp; omega)

/-- What is put is read again. -/
theorem tgetI_put (w : World) (p q h : Nat) (s : TRow) (a c : List Bool) (lim : Nat) (sh : Bool) (V : Nat) (hT : Tab w) (hp : 0 < p) (hq : 0 < q) (hpq : p ≠ q) (hph : p ≠ h)
    (hx : TrI w p s) (hr : Rd w q h (a ++ tbits true s V ++ c) a.length lim sh) (hb : (a ++ tbits true s V ++ c).length ≤ 4294967296) (hlim : a.length + (tbits true s V).length ≤ lim) (hs : s.ok) (hn : s.n ≤ 1000000000) (hV : V < 18446744073709551616) :
    Calls Tryd.prog 31 #[.pointer (some ⟨p, 0, none⟩), .pointer (some ⟨q, 0, none⟩)] w fun e w' => e = .returned (.tuple #[.int .i64 (sg (V)), .int .i64 0]) ∧ Rd w' q h (a ++ tbits true s V ++ c) (a.length + (tbits true s V).length) lim sh ∧ TrI w' p (tnext s V) ∧ Fr [p, q] w w' := by
  by_cases h0 : s.n = 0
  · have HB : tbits true s V = sbits (sg V) := by unfold tbits; rw [if_pos h0]; rfl
    rw [HB] at hr hb hlim ⊢
    obtain ⟨hb1, hb2⟩ := sg_in hV
    exact getI_ok w p q s V _ hs hn hV (nextI_0 w p q s V 0 _ hx h0 hV hpq (vgetS_put w q h a c lim sh (sg V) hT hq hr hb hb1 hb2 hlim)) (rdkept hpq hph)
  · have HB : tbits true s V = sbits (sg (chg s V)) := by unfold tbits; rw [if_neg h0]
    rw [HB] at hr hb hlim ⊢
    obtain ⟨hb1, hb2⟩ := sg_in (chg_lt s V)
    have e : dec s (tw (sg (chg s V))) = V := by rw [tw_sg (chg_lt s V), dec_chg hs hV]
    have := nextI_S w p q s (sg (chg s V)) 0 _ hx hs (by omega) hb1 hb2 hpq (vgetS_put w q h a c lim sh (sg (chg s V)) hT hq hr hb hb1 hb2 hlim) (rdkept hpq hph)
    rw [e] at this
    exact getI_ok w p q s V _ hs hn hV this (rdkept hpq hph)

theorem tgetI_none (w : World) (p q : Nat) (s : TRow) (hpq : p ≠ q) (hx : TrI w p s) (hs : s.ok) : ∀ er : Int, er ≠ 0 → ∀ R : World → Prop, (∀ a b, R a → Fr [p] a b → R b) →
      (s.n = 0 → Calls Tryd.prog 59 #[.pointer (some ⟨q, 0, none⟩)] w fun e w' => e = .returned (.tuple #[.int .i64 0, .int .i64 er]) ∧ R w' ∧ Fr [q] w w') →
      (s.n ≠ 0 → Calls Tryd.prog 59 #[.pointer (some ⟨q, 0, none⟩)] w fun e w' => e = .returned (.tuple #[.int .i64 0, .int .i64 er]) ∧ R w' ∧ Fr [q] w w') →
      Calls Tryd.prog 31 #[.pointer (some ⟨p, 0, none⟩), .pointer (some ⟨q, 0, none⟩)] w fun e w' => e = .returned (.tuple #[.int .i64 0, .int .i64 er]) ∧ R w' ∧ TrI w' p s ∧ Fr [q] w w' := by
  have nul : Value.int .i64 0 = .int .i64 (sg 0) := by rw [sg_zero]
  intro er he R hR g0 g1
  by_cases h0 : s.n = 0
  · have g := g0 h0
    rw [nul] at g
    exact getI_no w p q s _ er R he (nextI_0 w p q s 0 er R hx h0 (by omega) hpq g)
  · exact getI_no w p q s _ er R he (nextI_S w p q s 0 er R hx hs (by omega) (by omega) (by omega) hpq (g1 h0) hR)

/-- Too few bits are left. -/
theorem tgetI_short (w : World) (p q h : Nat) (s : TRow) (l : List Bool) (pos lim : Nat) (sh : Bool) (k : Nat) (hT : Tab w) (hq : 0 < q) (hpq : p ≠ q) (hph : p ≠ h)
    (hx : TrI w p s) (hr : Rd w q h l pos lim sh) (hb : l.length ≤ 4294967296) (hL : LeadIs l pos lim k) (hs : s.ok) (hlt : lim < pos + (fore k + bh k)) :
    Calls Tryd.prog 31 #[.pointer (some ⟨p, 0, none⟩), .pointer (some ⟨q, 0, none⟩)] w fun e w' => e = .returned (.tuple #[.int .i64 0, .int .i64 16]) ∧ (∃ pos', Rd w' q h l pos' lim sh) ∧ TrI w' p s ∧ Fr [q] w w' :=
  tgetI_none w p q s hpq hx hs 16 (by omega) (fun w' => ∃ pos', Rd w' q h l pos' lim sh) (fun a b ⟨x, hx⟩ hf => ⟨x, rdkept hpq hph a b hx hf⟩) (fun h0 => vgetS_short w q h l pos lim sh k hT hq hr hb hL (by omega)) (fun h0 => vgetS_short w q h l pos lim sh k hT hq hr hb hL (by omega))

/-- What Get answers, k ones being there. -/
def TGetI (w : World) (p q h : Nat) (s : TRow) (l : List Bool) (pos lim : Nat) (sh : Bool) (k : Nat) (e : Ending) (w' : World) : Prop :=
  ∃ (v : Nat) (er : Int), e = .returned (.tuple #[.int .i64 (sg (v)), .int .i64 er]) ∧ Fr [p, q] w w' ∧
    ((er = 0 ∧ v < 18446744073709551616 ∧ TrI w' p (tnext s v) ∧ pos + (tbits true s v).length ≤ lim ∧ (l.drop pos).take (tbits true s v).length = tbits true s v ∧ Rd w' q h l (pos + (tbits true s v).length) lim sh) ∨
     (er = 16 ∧ v = 0 ∧ TrI w' p s ∧ lim < pos + (fore k + bh k) ∧ ∃ pos', Rd w' q h l pos' lim sh) ∨
     (er = 10 ∧ v = 0 ∧ TrI w' p s ∧ pos + (fore k + bh k) ≤ lim ∧ Rd w' q h l (pos + (fore k + bh k)) lim sh))

theorem tgetI_any (w : World) (p q h : Nat) (s : TRow) (l : List Bool) (pos lim : Nat) (sh : Bool) (k : Nat) (hT : Tab w) (hp : 0 < p) (hq : 0 < q) (hpq : p ≠ q) (hph : p ≠ h)
    (hx : TrI w p s) (hr : Rd w q h l pos lim sh) (hb : l.length ≤ 4294967296) (hL : LeadIs l pos lim k) (hs : s.ok) (hn : s.n ≤ 1000000000) :
    Calls Tryd.prog 31 #[.pointer (some ⟨p, 0, none⟩), .pointer (some ⟨q, 0, none⟩)] w (TGetI w p q h s l pos lim sh k) := by
  have hll : lim ≤ l.length := hr.2.2.1
  by_cases hfit : pos + (fore k + bh k) ≤ lim
  · obtain ⟨B, hB⟩ : ∃ B, val ((l.drop (pos + fore k)).take (bh k)) = B := ⟨_, rfl⟩
    have hBlt : B < 2 ^ bh k := by rw [← hB]; exact behind_lt _ _ _
    have hLT := lead_take l pos lim k hL hll hfit
    rw [hB] at hLT
    have form : (s.n = 0 → gS (sgn B (bh k)) < k) → (s.n ≠ 0 → gS (sgn B (bh k)) < k) → Calls Tryd.prog 31 #[.pointer (some ⟨p, 0, none⟩), .pointer (some ⟨q, 0, none⟩)] w (TGetI w p q h s l pos lim sh k) := by
      intro f0 f1
      refine (tgetI_none w p q s hpq hx hs 10 (by omega) (fun w' => Rd w' q h l (pos + (fore k + bh k)) lim sh) (rdkept hpq hph) (fun h0 => vgetS_form w q h l pos lim sh k hT hq hr hb hL hfit B hB (f0 h0)) (fun h0 => vgetS_form w q h l pos lim sh k hT hq hr hb hL hfit B hB (f1 h0))).mono ?_
      rintro e w' ⟨rfl, hr', hx', hf'⟩
      exact ⟨0, 10, by first | rfl | rw [sg_zero], hf'.mono (by simp), .inr (.inr ⟨rfl, rfl, hx', hfit, hr'⟩)⟩
    have good : ∀ v : Nat, v < 18446744073709551616 → tbits true s v = gbits k B → Calls Tryd.prog 48 #[.pointer (some ⟨p, 0, none⟩), .pointer (some ⟨q, 0, none⟩)] w (fun e w' => e = .returned (.tuple #[.int .i64 (sg (v)), .int .i64 0]) ∧ Rd w' q h l (pos + (fore k + bh k)) lim sh ∧ Fr [q] w w' ∧ TrI w' p s) →
        Calls Tryd.prog 31 #[.pointer (some ⟨p, 0, none⟩), .pointer (some ⟨q, 0, none⟩)] w (TGetI w p q h s l pos lim sh k) := by
      intro v hv ht hN
      refine (getI_ok w p q s v _ hs hn hv hN (rdkept hpq hph)).mono ?_
      rintro e w' ⟨rfl, hr', hx', hf'⟩
      have hlen : (tbits true s v).length = fore k + bh k := by rw [ht, gbits_length]
      refine ⟨v, 0, rfl, hf', .inl ⟨rfl, hv, hx', by rw [hlen]; exact hfit, by rw [hlen, ht]; exact hLT, by rw [hlen]; exact hr'⟩⟩
    have hsame : ∀ c : Int, c = sgn B (bh k) → gS c = k → sbits c = gbits k B := by
      rintro c rfl hg
      unfold sbits; rw [hg]; unfold gbits
      rw [← numBits_mod, tw_sgn hL.1 hBlt]
    obtain ⟨hc1, hc2⟩ := sgn_in (bh_sort hL.1) hBlt
    by_cases h0 : s.n = 0
    · have HB : ∀ v, tbits true s v = sbits (sg v) := fun v => by unfold tbits; rw [if_pos h0]; rfl
      have hle : gS (sgn B (bh k)) ≤ k := gS_of hL.1 hBlt
      by_cases hg : gS (sgn B (bh k)) = k
      · have ev := sg_tw hc1 hc2
        refine good (tw (sgn B (bh k))) (tw_lt _) (by rw [HB, ev]; exact hsame _ rfl hg) (nextI_0 w p q s _ 0 _ hx h0 (tw_lt _) hpq ?_)
        rw [ev]
        exact vgetS_ok w q h l pos lim sh k hT hq hr hb hL hfit B hB hg
      · exact form (fun _ => by omega) (fun h1 => absurd h0 h1)
    · have hle : gS (sgn B (bh k)) ≤ k := gS_of hL.1 hBlt
      have HB : ∀ v, tbits true s v = sbits (sg (chg s v)) := fun v => by unfold tbits; rw [if_neg h0]
      by_cases hg : gS (sgn B (bh k)) = k
      · refine good (dec s (tw (sgn B (bh k)))) (dec_lt _ _) (by rw [HB, chg_dec hs (tw_lt _), sg_tw hc1 hc2]; exact hsame _ rfl hg) (nextI_S w p q s _ 0 _ hx hs (by omega) hc1 hc2 hpq (vgetS_ok w q h l pos lim sh k hT hq hr hb hL hfit B hB hg) (rdkept hpq hph))
      · exact form (fun h1 => absurd h1 h0) (fun _ => by omega)
  · refine (tgetI_short w p q h s l pos lim sh k hT hq hpq hph hx hr hb hL hs (by omega)).mono ?_
    rintro e w' ⟨rfl, hr', hx', hf'⟩
    exact ⟨0, 16, by first | rfl | rw [sg_zero], hf'.mono (by simp), .inr (.inl ⟨rfl, rfl, hx', by omega, hr'⟩)⟩


/-! ### Rows of uint64: reading -/
set_option maxRecDepth 100000 in
set_option maxHeartbeats 1000000 in
theorem nextU_S (w : World) (p q : Nat) (s : TRow) (c er : Int) (R : World → Prop) (hx : TrU w p s) (hs : s.ok) (hn : 0 < s.n) (hc1 : -9223372036854775808 ≤ c) (hc2 : c ≤ 9223372036854775807) (hpq : p ≠ q)
    (hG : Calls Tryd.prog 59 #[.pointer (some ⟨q, 0, none⟩)] w fun e w' => e = .returned (.tuple #[.int .i64 c, .int .i64 er]) ∧ R w' ∧ Fr [q] w w') (hR : ∀ a b, R a → Fr [p] a b → R b) :
    Calls Tryd.prog 47 #[.pointer (some ⟨p, 0, none⟩), .pointer (some ⟨q, 0, none⟩)] w fun e w' => e = .returned (.tuple #[.int .u64 ((dec s (tw c) : Nat) : Int), .int .i64 er]) ∧ R w' ∧ Fr [q] w w' ∧ TrU w' p s := by
  have c2 := hx.c2
  have d0 : decide (0 < (s.n : Int)) = true := decide_eq_true (by omega)
  have d1 : decide (0 < s.n) = true := decide_eq_true (by omega)
  have HE := nextU_reckons s c hs hc1 hc2
  have HH : Hid (TrU w p s) := hx
  have HG : Hid (Calls Tryd.prog 59 #[.pointer (some ⟨q, 0, none⟩)] w fun e w' => e = .returned (.tuple #[.int .i64 c, .int .i64 er]) ∧ R w' ∧ Fr [q] w w') := hG
  have HR : Hid (∀ a b, R a → Fr [p] a b → R b) := hR
  clear hx hs hn hc1 hc2 hG hR
  go_enter Tryd.func47, Tryd.ntmps47
  go_wp2_with fail
  refine (HG.out).mono ?_
  rintro e w1 ⟨rfl, hr1, hf1⟩
  have hx1 : TrU w1 p s := HH.out.kept hf1 (by simp; omega)
  have k0 := hx1.c0
  have k1 := hx1.c1
  have HX : Hid (TrU w1 p s) := hx1
  have HR1 : Hid (R w1) := hr1
  clear c2 hx1 hr1
  go_wp2_with fail
  go_quiet (fail)
  go_wp2_with fail
  go_ret2
  refine ⟨?_, HR.out _ _ HR1.out ((Fr.refl [p] _).drewN _), hf1.drewN _, HX.out.kept ((Fr.refl [] _).drewN _) (by simp)⟩
  rw [← HE.out]
  first | rfl | trivial

set_option maxHeartbeats 400000 in
theorem nextU_0 (w : World) (p q : Nat) (s : TRow) (V : Nat) (er : Int) (R : World → Prop) (hx : TrU w p s) (hn : s.n = 0) (hV : V < 18446744073709551616) (hpq : p ≠ q)
    (hG : Calls Tryd.prog 60 #[.pointer (some ⟨q, 0, none⟩)] w fun e w' => e = .returned (.tuple #[.int .u64 ((V : Nat) : Int), .int .i64 er]) ∧ R w' ∧ Fr [q] w w') :
    Calls Tryd.prog 47 #[.pointer (some ⟨p, 0, none⟩), .pointer (some ⟨q, 0, none⟩)] w fun e w' => e = .returned (.tuple #[.int .u64 ((V : Nat) : Int), .int .i64 er]) ∧ R w' ∧ Fr [q] w w' ∧ TrU w' p s := by
  have c2 := hx.c2
  have d0 : decide (0 < (s.n : Int)) = false := decide_eq_false (by omega)
  have d1 : decide (0 < s.n) = false := decide_eq_false (by omega)
  have HH : Hid (TrU w p s) := hx
  clear hx hn
  go_enter Tryd.func47, Tryd.ntmps47
  go_wp2_with fail
  refine (signedU_any w).mono ?_
  rintro e w1 ⟨rfl, rfl⟩
  go_wp2_with fail
  refine (hG).mono ?_
  rintro e w1 ⟨rfl, hr1, hf1⟩
  have HX : Hid (TrU w1 p s) := HH.out.kept hf1 (by simp; omega)
  have HR1 : Hid (R w1) := hr1
  clear c2 hG hr1
  go_wp2_with fail
  go_ret2
  exact ⟨by first | rfl | trivial, HR1.out, hf1, HX.out⟩

set_option maxHeartbeats 400000 in
theorem getU_ok (w : World) (p q : Nat) (s : TRow) (V : Nat) (R : World → Prop) (hs : s.ok) (hn : s.n ≤ 1000000000) (hV : V < 18446744073709551616)
    (hN : Calls Tryd.prog 47 #[.pointer (some ⟨p, 0, none⟩), .pointer (some ⟨q, 0, none⟩)] w fun e w' => e = .returned (.tuple #[.int .u64 ((V : Nat) : Int), .int .i64 0]) ∧ R w' ∧ Fr [q] w w' ∧ TrU w' p s) (hR : ∀ a b, R a → Fr [p] a b → R b) :
    Calls Tryd.prog 28 #[.pointer (some ⟨p, 0, none⟩), .pointer (some ⟨q, 0, none⟩)] w fun e w' => e = .returned (.tuple #[.int .u64 ((V : Nat) : Int), .int .i64 0]) ∧ R w' ∧ TrU w' p (tnext s V) ∧ Fr [p, q] w w' := by
  go_enter Tryd.func28, Tryd.ntmps28
  go_wp2_with fail
  refine (hN).mono ?_
  rintro e w1 ⟨rfl, hr1, hf1, hx1⟩
  go_wp2_with fail
  refine (addU_any w1 p s V hx1 hs hV hn).mono ?_
  rintro e w2 ⟨rfl, hx2, hf2⟩
  have HR2 : Hid (R w2) := hR _ _ hr1 hf2
  clear hR hN hr1 hx1
  go_wp2_with fail
  go_ret2
  exact ⟨by first | rfl | trivial, HR2.out, hx2, (hf1.mono (S' := [p, q]) (by simp)).trans hf2 (by simp)⟩

set_option maxHeartbeats 400000 in
theorem getU_no (w : World) (p q : Nat) (s : TRow) (v : Value) (er : Int) (R : World → Prop) (he : er ≠ 0)
    (hN : Calls Tryd.prog 47 #[.pointer (some ⟨p, 0, none⟩), .pointer (some ⟨q, 0, none⟩)] w fun e w' => e = .returned (.tuple #[v, .int .i64 er]) ∧ R w' ∧ Fr [q] w w' ∧ TrU w' p s) :
    Calls Tryd.prog 28 #[.pointer (some ⟨p, 0, none⟩), .pointer (some ⟨q, 0, none⟩)] w fun e w' => e = .returned (.tuple #[.int .u64 0, .int .i64 er]) ∧ R w' ∧ TrU w' p s ∧ Fr [q] w w' := by
  have d0 : (er != 0) = true := by rw [bne_iff_ne]; exact he
  go_enter Tryd.func28, Tryd.ntmps28
  go_wp2_with fail
  refine (hN).mono ?_
  rintro e w1 ⟨rfl, hr1, hf1, hx1⟩
  clear hN
  go_wp2_with fail
  go_ret2
  exact ⟨by first | rfl | trivial, hr1, hx1, hf1⟩

/-- What is put is read again. -/
theorem tgetU_put (w : World) (p q h : Nat) (s : TRow) (a c : List Bool) (lim : Nat) (sh : Bool) (V : Nat) (hT : Tab w) (hp : 0 < p) (hq : 0 < q) (hpq : p ≠ q) (hph : p ≠ h)
    (hx : TrU w p s) (hr : Rd w q h (a ++ tbits false s V ++ c) a.length lim sh) (hb : (a ++ tbits false s V ++ c).length ≤ 4294967296) (hlim : a.length + (tbits false s V).length ≤ lim) (hs : s.ok) (hn : s.n ≤ 1000000000) (hV : V < 18446744073709551616) :
    Calls Tryd.prog 28 #[.pointer (some ⟨p, 0, none⟩), .pointer (some ⟨q, 0, none⟩)] w fun e w' => e = .returned (.tuple #[.int .u64 ((V : Nat) : Int), .int .i64 0]) ∧ Rd w' q h (a ++ tbits false s V ++ c) (a.length + (tbits false s V).length) lim sh ∧ TrU w' p (tnext s V) ∧ Fr [p, q] w w' := by
  by_cases h0 : s.n = 0
  · have HB : tbits false s V = ubits V := by unfold tbits; rw [if_pos h0]; rfl
    rw [HB] at hr hb hlim ⊢
    obtain ⟨hb1, hb2⟩ := sg_in hV
    exact getU_ok w p q s V _ hs hn hV (nextU_0 w p q s V 0 _ hx h0 hV hpq (vgetU_put w q h a c lim sh V hT hq hr hb hV hlim)) (rdkept hpq hph)
  · have HB : tbits false s V = sbits (sg (chg s V)) := by unfold tbits; rw [if_neg h0]
    rw [HB] at hr hb hlim ⊢
    obtain ⟨hb1, hb2⟩ := sg_in (chg_lt s V)
    have e : dec s (tw (sg (chg s V))) = V := by rw [tw_sg (chg_lt s V), dec_chg hs hV]
    have := nextU_S w p q s (sg (chg s V)) 0 _ hx hs (by omega) hb1 hb2 hpq (vgetS_put w q h a c lim sh (sg (chg s V)) hT hq hr hb hb1 hb2 hlim) (rdkept hpq hph)
    rw [e] at this
    exact getU_ok w p q s V _ hs hn hV this (rdkept hpq hph)

theorem tgetU_none (w : World) (p q : Nat) (s : TRow) (hpq : p ≠ q) (hx : TrU w p s) (hs : s.ok) : ∀ er : Int, er ≠ 0 → ∀ R : World → Prop, (∀ a b, R a → Fr [p] a b → R b) →
      (s.n = 0 → Calls Tryd.prog 60 #[.pointer (some ⟨q, 0, none⟩)] w fun e w' => e = .returned (.tuple #[.int .u64 0, .int .i64 er]) ∧ R w' ∧ Fr [q] w w') →
      (s.n ≠ 0 → Calls Tryd.prog 59 #[.pointer (some ⟨q, 0, none⟩)] w fun e w' => e = .returned (.tuple #[.int .i64 0, .int .i64 er]) ∧ R w' ∧ Fr [q] w w') →
      Calls Tryd.prog 28 #[.pointer (some ⟨p, 0, none⟩), .pointer (some ⟨q, 0, none⟩)] w fun e w' => e = .returned (.tuple #[.int .u64 0, .int .i64 er]) ∧ R w' ∧ TrU w' p s ∧ Fr [q] w w' := by
  have nul : Value.int .u64 0 = .int .u64 ((0 : Nat) : Int) := by rw [Int.natCast_zero]
  intro er he R hR g0 g1
  by_cases h0 : s.n = 0
  · have g := g0 h0
    rw [nul] at g
    exact getU_no w p q s _ er R he (nextU_0 w p q s 0 er R hx h0 (by omega) hpq g)
  · exact getU_no w p q s _ er R he (nextU_S w p q s 0 er R hx hs (by omega) (by omega) (by omega) hpq (g1 h0) hR)

/-- Too few bits are left. -/
theorem tgetU_short (w : World) (p q h : Nat) (s : TRow) (l : List Bool) (pos lim : Nat) (sh : Bool) (k : Nat) (hT : Tab w) (hq : 0 < q) (hpq : p ≠ q) (hph : p ≠ h)
    (hx : TrU w p s) (hr : Rd w q h l pos lim sh) (hb : l.length ≤ 4294967296) (hL : LeadIs l pos lim k) (hs : s.ok) (hlt : lim < pos + (fore k + bh k)) :
    Calls Tryd.prog 28 #[.pointer (some ⟨p, 0, none⟩), .pointer (some ⟨q, 0, none⟩)] w fun e w' => e = .returned (.tuple #[.int .u64 0, .int .i64 16]) ∧ (∃ pos', Rd w' q h l pos' lim sh) ∧ TrU w' p s ∧ Fr [q] w w' :=
  tgetU_none w p q s hpq hx hs 16 (by omega) (fun w' => ∃ pos', Rd w' q h l pos' lim sh) (fun a b ⟨x, hx⟩ hf => ⟨x, rdkept hpq hph a b hx hf⟩) (fun h0 => vgetU_short w q h l pos lim sh k hT hq hr hb hL (by omega)) (fun h0 => vgetS_short w q h l pos lim sh k hT hq hr hb hL (by omega))

/-- What Get answers, k ones being there. -/
def TGetU (w : World) (p q h : Nat) (s : TRow) (l : List Bool) (pos lim : Nat) (sh : Bool) (k : Nat) (e : Ending) (w' : World) : Prop :=
  ∃ (v : Nat) (er : Int), e = .returned (.tuple #[.int .u64 ((v : Nat) : Int), .int .i64 er]) ∧ Fr [p, q] w w' ∧
    ((er = 0 ∧ v < 18446744073709551616 ∧ TrU w' p (tnext s v) ∧ pos + (tbits false s v).length ≤ lim ∧ (l.drop pos).take (tbits false s v).length = tbits false s v ∧ Rd w' q h l (pos + (tbits false s v).length) lim sh) ∨
     (er = 16 ∧ v = 0 ∧ TrU w' p s ∧ lim < pos + (fore k + bh k) ∧ ∃ pos', Rd w' q h l pos' lim sh) ∨
     (er = 10 ∧ v = 0 ∧ TrU w' p s ∧ pos + (fore k + bh k) ≤ lim ∧ Rd w' q h l (pos + (fore k + bh k)) lim sh))

theorem tgetU_any (w : World) (p q h : Nat) (s : TRow) (l : List Bool) (pos lim : Nat) (sh : Bool) (k : Nat) (hT : Tab w) (hp : 0 < p) (hq : 0 < q) (hpq : p ≠ q) (hph : p ≠ h)
    (hx : TrU w p s) (hr : Rd w q h l pos lim sh) (hb : l.length ≤ 4294967296) (hL : LeadIs l pos lim k) (hs : s.ok) (hn : s.n ≤ 1000000000) :
    Calls Tryd.prog 28 #[.pointer (some ⟨p, 0, none⟩), .pointer (some ⟨q, 0, none⟩)] w (TGetU w p q h s l pos lim sh k) := by
  have hll : lim ≤ l.length := hr.2.2.1
  by_cases hfit : pos + (fore k + bh k) ≤ lim
  · obtain ⟨B, hB⟩ : ∃ B, val ((l.drop (pos + fore k)).take (bh k)) = B := ⟨_, rfl⟩
    have hBlt : B < 2 ^ bh k := by rw [← hB]; exact behind_lt _ _ _
    have hLT := lead_take l pos lim k hL hll hfit
    rw [hB] at hLT
    have form : (s.n = 0 → gU B < k) → (s.n ≠ 0 → gS (sgn B (bh k)) < k) → Calls Tryd.prog 28 #[.pointer (some ⟨p, 0, none⟩), .pointer (some ⟨q, 0, none⟩)] w (TGetU w p q h s l pos lim sh k) := by
      intro f0 f1
      refine (tgetU_none w p q s hpq hx hs 10 (by omega) (fun w' => Rd w' q h l (pos + (fore k + bh k)) lim sh) (rdkept hpq hph) (fun h0 => vgetU_form w q h l pos lim sh k hT hq hr hb hL hfit B hB (f0 h0)) (fun h0 => vgetS_form w q h l pos lim sh k hT hq hr hb hL hfit B hB (f1 h0))).mono ?_
      rintro e w' ⟨rfl, hr', hx', hf'⟩
      exact ⟨0, 10, by first | rfl | rw [sg_zero], hf'.mono (by simp), .inr (.inr ⟨rfl, rfl, hx', hfit, hr'⟩)⟩
    have good : ∀ v : Nat, v < 18446744073709551616 → tbits false s v = gbits k B → Calls Tryd.prog 47 #[.pointer (some ⟨p, 0, none⟩), .pointer (some ⟨q, 0, none⟩)] w (fun e w' => e = .returned (.tuple #[.int .u64 ((v : Nat) : Int), .int .i64 0]) ∧ Rd w' q h l (pos + (fore k + bh k)) lim sh ∧ Fr [q] w w' ∧ TrU w' p s) →
        Calls Tryd.prog 28 #[.pointer (some ⟨p, 0, none⟩), .pointer (some ⟨q, 0, none⟩)] w (TGetU w p q h s l pos lim sh k) := by
      intro v hv ht hN
      refine (getU_ok w p q s v _ hs hn hv hN (rdkept hpq hph)).mono ?_
      rintro e w' ⟨rfl, hr', hx', hf'⟩
      have hlen : (tbits false s v).length = fore k + bh k := by rw [ht, gbits_length]
      refine ⟨v, 0, rfl, hf', .inl ⟨rfl, hv, hx', by rw [hlen]; exact hfit, by rw [hlen, ht]; exact hLT, by rw [hlen]; exact hr'⟩⟩
    have hsame : ∀ c : Int, c = sgn B (bh k) → gS c = k → sbits c = gbits k B := by
      rintro c rfl hg
      unfold sbits; rw [hg]; unfold gbits
      rw [← numBits_mod, tw_sgn hL.1 hBlt]
    obtain ⟨hc1, hc2⟩ := sgn_in (bh_sort hL.1) hBlt
    by_cases h0 : s.n = 0
    · have HB : ∀ v, tbits false s v = ubits v := fun v => by unfold tbits; rw [if_pos h0]; rfl
      have hle : gU B ≤ k := gU_of hL.1 hBlt
      have hB64 : B < 18446744073709551616 := Nat.lt_of_lt_of_le hBlt (pow_bh k)
      by_cases hg : gU B = k
      · exact good B hB64 (by rw [HB]; unfold ubits; rw [hg]) (nextU_0 w p q s B 0 _ hx h0 hB64 hpq (vgetU_ok w q h l pos lim sh k hT hq hr hb hL hfit B hB hg))
      · exact form (fun _ => by omega) (fun h1 => absurd h0 h1)
    · have hle : gS (sgn B (bh k)) ≤ k := gS_of hL.1 hBlt
      have HB : ∀ v, tbits false s v = sbits (sg (chg s v)) := fun v => by unfold tbits; rw [if_neg h0]
      by_cases hg : gS (sgn B (bh k)) = k
      · refine good (dec s (tw (sgn B (bh k)))) (dec_lt _ _) (by rw [HB, chg_dec hs (tw_lt _), sg_tw hc1 hc2]; exact hsame _ rfl hg) (nextU_S w p q s _ 0 _ hx hs (by omega) hc1 hc2 hpq (vgetS_ok w q h l pos lim sh k hT hq hr hb hL hfit B hB hg) (rdkept hpq hph))
      · exact form (fun h1 => absurd h1 h0) (fun _ => by omega)
  · refine (tgetU_short w p q h s l pos lim sh k hT hq hpq hph hx hr hb hL hs (by omega)).mono ?_
    rintro e w' ⟨rfl, hr', hx', hf'⟩
    exact ⟨0, 16, by first | rfl | rw [sg_zero], hf'.mono (by simp), .inr (.inl ⟨rfl, rfl, hx', by omega, hr'⟩)⟩

end Go.Proofs.YtmoodonemcpgnaaDoor
