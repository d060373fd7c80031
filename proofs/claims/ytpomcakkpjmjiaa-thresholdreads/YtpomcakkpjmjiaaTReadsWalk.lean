/-
  The walk of tidepolelaw12.ThresholdReads: it returns true, whatever it is given, and writes nothing that was there.
-/
import Derived.Test.YtpomcakkpjmjiaaLaw12
namespace Go.Proofs.Ytpomcakkpjmjiaa
open Go.RowKit Mem Bits Thrs
set_option linter.unusedSimpArgs false
set_option linter.unusedVariables false

/-- The law's premises on its input, all but the good case: the fixed answer alone. -/
def BadIn (len : Nat) (n : Int) : Prop := 40 < len ∨ n < 0 ∨ 8 * (len : Int) < n

set_option maxRecDepth 100000 in
set_option maxHeartbeats 2000000 in
theorem reads_bad (a0 : Option Addr) (len0 cap0 : Nat) (a1 : Int) (w : World) (hb : BadIn len0 a1) (hm : len0 ≤ maxLen) :
    Calls Try.prog 4 #[.slice a0 len0 cap0, .int .i64 a1] w fun e w' => e = .returned (.bool true) ∧ Fr [] w w' := by
  have hout : (decide (40 < (len0 : Int)) = true) ∨ (decide (40 < (len0 : Int)) = false ∧ decide (a1 < 0) = true) ∨ (decide (40 < (len0 : Int)) = false ∧ decide (a1 < 0) = false ∧ decide (8 * (len0 : Int) < a1) = true ∧ len0 ≤ 40) := by
    unfold BadIn at hb
    simp only [decide_eq_true_eq, decide_eq_false_iff_not]
    omega
  have HAW : Hid (∀ wx, Calls Try.prog 8 #[] wx fun e w' => e = .returned (.bool true) ∧ Fr [] wx w') := awake_any
  clear hb hm
  rcases hout with h1 | ⟨h1, h2⟩ | ⟨h1, h2, h3, h4⟩
  all_goals
    go_enter Try.func4, Try.ntmps4
    go_wp2_with fail
    refine (HAW.out w).mono ?_
    rintro e w' ⟨rfl, hf⟩
    go_wp2_with fail
    go_ret
    exact ⟨by first | rfl | trivial, hf⟩

set_option maxRecDepth 100000 in
set_option maxHeartbeats 4000000 in
theorem reads_good (a0 : Option Addr) (cap0 : Nat) (bs : List Nat) (n : Nat) (w : World) (hsrc : Src w (.slice a0 bs.length cap0) bs) (hlen : bs.length ≤ 40) (hn : n ≤ 8 * bs.length) :
    Calls Try.prog 4 #[.slice a0 bs.length cap0, .int .i64 (n : Int)] w fun e w' => e = .returned (.bool true) ∧ Fr [] w w' := by
  have h256 : ∀ x ∈ bs, x < 256 := by obtain ⟨_, _, _, _, _, _, h⟩ := hsrc; exact h
  have H256 : Hid (∀ x ∈ bs, x < 256) := h256
  clear h256
  have HRUN : Hid (∀ wx, Fr [] w wx → (convert 37 9 (.slice a0 bs.length cap0)).run Try.prog wx = .ok (.string (str bs)) wx) := fun wx hx => run_str (hsrc.kept hx (by simp))
  have HSRC : Hid (Src w (.slice a0 bs.length cap0) bs) := hsrc
  clear hsrc
  have d1 : decide (40 < (bs.length : Int)) = false := decide_eq_false (by omega)
  have d2 : decide ((n : Int) < 0) = false := decide_eq_false (by omega)
  have d3 : decide (8 * (bs.length : Int) < (n : Int)) = false := decide_eq_false (by omega)
  have hn320 : n ≤ 320 := by omega
  have hnb : nbs n ≤ bs.length := nbs_le hn
  have HTX : Hid (∀ w : World, Calls Try.prog 18 #[.string (str bs), .int .i64 (n : Int)] w fun e w' => e = .returned (.string (txt (unpack bs n))) ∧ w = w') := fun w => text_any bs n w H256.out hn (by omega)
  obtain ⟨T, hTT⟩ : ∃ T, T = unpack bs n := ⟨_, rfl⟩
  have hTl : T.length = n := by rw [hTT]; simp
  have HTL : Hid (T.length = n) := hTl
  rw [← hTT] at HTX
  have HTT : Hid (T = unpack bs n) := hTT
  obtain ⟨v, f, u, ht⟩ : ∃ v f u, tgt T 0 n = (v, f, u) := ⟨_, _, _, rfl⟩
  have HT : Hid (tgt T 0 n = (v, f, u)) := ht
  have HP : Hid (∀ wx, Calls Try.prog 21 #[.string (txt T)] wx fun e w' => e = .returned (.tuple #[.int .u64 (v : Int), .int .i64 (if f = 0 then (u : Int) else 0), .int .i64 (f : Int)]) ∧ wx = w') := fun wx => rParse_any T wx v f u (by omega) (by rw [hTl]; exact ht)
  have HAW : Hid (∀ wx, Calls Try.prog 8 #[] wx fun e w' => e = .returned (.bool true) ∧ Fr [] wx w') := awake_any
  clear hTT hTl ht
  go_enter Try.func4, Try.ntmps4
  go_wp2_with fail
  refine (newReader_ok _ bs n w HSRC.out hnb (by omega)).mono ?_
  rintro e w1 ⟨q, h, rfl, hr1, hq, hh, hf1⟩
  rw [← HTT.out] at hr1
  have hz1 := hf1.size
  go_wp2_with fail
  refine (tget_any w1 q h T 0 n false v f u hr1 (by rw [HTL.out]; omega) HT.out).mono ?_
  rintro e w2 ⟨rfl, hr2, hf2⟩
  rw [Nat.zero_add] at hr2
  have hf02 : Fr [] w w2 := hf1.trans hf2 (by simp; omega)
  have hrun := HRUN.out w2 hf02
  clear hr1 hf1 hf2
  go_wp2_with fail
  refine (HTX.out w2).mono ?_
  rintro e w3 ⟨rfl, rfl⟩
  go_wp2_with fail
  refine (HP.out w2).mono ?_
  rintro e w3 ⟨rfl, rfl⟩
  by_cases h0 : f = 0
  · subst h0
    rw [if_pos rfl]
    go_wp2_with fail
    refine (pos_any w2 q h T u n false hr2).mono ?_
    rintro e w3 ⟨rfl, rfl⟩
    go_wp2_with fail
    refine (HAW.out w2).mono ?_
    rintro e w' ⟨rfl, hf⟩
    go_wp2_with fail
    go_ret
    exact ⟨by first | rfl | trivial, hf02.trans hf (by simp)⟩
  · rw [if_neg h0]
    have df : ((f : Int) != 0) = true := bne_iff_ne.2 (by omega)
    go_wp2_with fail
    refine (HAW.out w2).mono ?_
    rintro e w' ⟨rfl, hf⟩
    go_wp2_with fail
    go_ret
    exact ⟨by first | rfl | trivial, hf02.trans hf (by simp)⟩

theorem reads_walk (a0 : Option Addr) (len0 cap0 : Nat) (z0 : List Int) (a1 : Int) (w : World) (w0 : IsRow .u8 w a0 len0 cap0 z0) (w1 : (Lit.int .i64 a1).wf = true) :
    Calls Try.prog 4 #[.slice a0 len0 cap0, .int .i64 a1] w fun e w' => e = .returned (.bool true) ∧ Fr [] w w' := by
  obtain ⟨bs, hbl, hsrc⟩ := w0.src
  subst hbl
  by_cases hbad : 40 < bs.length ∨ a1 < 0 ∨ 8 * (bs.length : Int) < a1
  · refine reads_bad a0 bs.length cap0 a1 w hbad ?_
    obtain ⟨ao, cap, e, h1, h2, _⟩ := hsrc
    omega
  · obtain ⟨n, rfl⟩ := Int.eq_ofNat_of_zero_le (show 0 ≤ a1 by omega)
    exact reads_good a0 cap0 bs n w hsrc (by omega) (by omega)
theorem reads_below (a0 : Option Addr) (len0 cap0 : Nat) (z0 : List Int) (a1 : Int) (w : World) (w0 : IsRow .u8 w a0 len0 cap0 z0) (w1 : (Lit.int .i64 a1).wf = true) :
    Calls Try.prog 4 #[.slice a0 len0 cap0, .int .i64 a1] w fun e w' => e = .returned (.bool true) ∧ Below w.heap.size w w' :=
  (reads_walk a0 len0 cap0 z0 a1 w w0 w1).mono fun _ _ h => ⟨h.1, h.2.below (Nat.le_refl _) (by simp)⟩
end Go.Proofs.Ytpomcakkpjmjiaa
