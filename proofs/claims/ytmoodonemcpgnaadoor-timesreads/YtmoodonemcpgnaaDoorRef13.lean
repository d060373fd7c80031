/-
  The document's own answers of layer 13 (package tidepoleref13): Step, Put.
-/
import Derived.Test.YtmoodonemcpgnaaDoorRef4S
import Derived.Test.YtmoodonemcpgnaaDoorTmRow
namespace Go.Proofs.YtmoodonemcpgnaaDoor
open Go.RowKit Mem Bits Groups Evens
set_option linter.unusedSimpArgs false
set_option linter.unusedVariables false

/-- Numbers without a sign that lie one behind the other, n of them. -/
def Nums (w : World) (a : Option Addr) (n b off : Nat) (z : Nat → Nat) : Prop :=
  (0 < n → a = some ⟨b, off, none⟩) ∧ ∀ j, j < n → w.cell? ⟨b, off + j, none⟩ = some (.int .u64 ((z j : Nat) : Int))
theorem Nums.kept {w w' : World} {a : Option Addr} {n b off : Nat} {z : Nat → Nat} {S : List Nat} (h : Nums w a n b off z) (f : Fr S w w') (hb : 0 < n → b ∉ S) : Nums w' a n b off z :=
  ⟨h.1, fun j hj => f.cell_some (h.2 j hj) (hb (by omega))⟩
theorem Nums.less {w : World} {a : Option Addr} {n m b off : Nat} {z : Nat → Nat} (h : Nums w a n b off z) (hm : m ≤ n) : Nums w a m b off z :=
  ⟨fun h0 => h.1 (by omega), fun j hj => h.2 j (by omega)⟩

theorem back_is {N M k : Nat} (h : N = M + k) (hN : N ≤ 1000000) : wrap64 ((N : Int) - (k : Int)) = (M : Int) ∧ IntKind.i64.wrap ((N : Int) - (k : Int)) = (M : Int) := by
  refine ⟨by unfold wrap64; omega, by rw [IntKind.wrap_i64]; omega⟩

set_option maxRecDepth 100000 in
set_option maxHeartbeats 1000000 in
theorem rstep_quiet (a0 : Option Addr) (n cap b off : Nat) (z : Nat → Nat) (w : World) (h : Nums w a0 n b off z) (hn : n ≤ 1000000) (hz : ∀ j, z j < 18446744073709551616) :
    Calls Tryd.prog 21 #[.slice a0 n cap] w fun e w' => e = .returned (.int .u64 ((st z n : Nat) : Int)) ∧ ∃ m, w' = w.drewN m := by
  obtain ⟨ha, hc⟩ := h
  by_cases h2 : n < 2
  · have d2 : decide ((n : Int) < 2) = true := decide_eq_true (by omega)
    have HE : Hid (st z n = 0) := by show _ = _; unfold st; rw [if_pos h2]
    rw [HE.out]
    clear ha hc h2
    go_enter Tryd.func21, Tryd.ntmps21
    go_wp2_with fail
    go_ret
    exact ⟨by first | rfl | trivial, 0, rfl⟩
  · have d2 : decide ((n : Int) < 2) = false := decide_eq_false (by omega)
    obtain ⟨M, hM⟩ : ∃ M, n = M + 2 := ⟨n - 2, by omega⟩
    obtain ⟨L, hL⟩ : ∃ L, n = L + 1 := ⟨n - 1, by omega⟩
    have HE : Hid (st z n = sub64 (z L) (z M)) := by show _ = _; unfold st; rw [if_neg h2, show n - 1 = L from by omega, show n - 2 = M from by omega]
    obtain ⟨q1, q2⟩ := back_is (k := 2) hM hn
    obtain ⟨q3, q4⟩ := back_is (k := 1) hL hn
    rw [show ((2 : Nat) : Int) = 2 from rfl] at q1 q2
    rw [show ((1 : Nat) : Int) = 1 from rfl] at q3 q4
    have i1 : (0 : Int) ≤ (M : Int) := by omega
    have i2 : (M : Int) < (n : Int) := by omega
    have i3 : (0 : Int) ≤ (L : Int) := by omega
    have i4 : (L : Int) < (n : Int) := by omega
    have i5 : M < n := by omega
    have i6 : L < n := by omega
    have c1 := hc M i5
    have c2 := hc L i6
    have HW := wrapU_diff (hz L) (hz M)
    have HW' : Hid (IntKind.u64.wrap ((z L : Int) - (z M : Int)) = ((sub64 (z L) (z M) : Nat) : Int)) := HW
    obtain rfl := ha (by omega)
    clear ha hc hM hL HW hz h2
    generalize z L = X at *
    generalize z M = Y at *
    go_enter Tryd.func21, Tryd.ntmps21
    go_wp2_with fail
    go_quiet (fail)
    go_wp2_with fail
    go_ret
    refine ⟨?_, _, rfl⟩
    rw [HE.out, ← HW'.out]
    first | rfl | trivial
theorem rstep_any (a0 : Option Addr) (n cap b off : Nat) (z : Nat → Nat) (w : World) (h : Nums w a0 n b off z) (hn : n ≤ 1000000) (hz : ∀ j, z j < 18446744073709551616) :
    Calls Tryd.prog 21 #[.slice a0 n cap] w fun e w' => e = .returned (.int .u64 ((st z n : Nat) : Int)) ∧ Fr [] w w' :=
  (rstep_quiet a0 n cap b off z w h hn hz).mono fun e w' ⟨a, m, h⟩ => ⟨a, h ▸ (Fr.refl _ _).drewN m⟩

set_option maxRecDepth 100000 in
set_option maxHeartbeats 1000000 in
/-- A number's bits behind n others; S: 1 with a sign. -/
theorem rput_any (a0 : Option Addr) (n cap b off : Nat) (z : Nat → Nat) (V : Nat) (S : Int) (w : World) (h : Nums w a0 n b off z) (hn : n ≤ 1000000) (hz : ∀ j, z j < 18446744073709551616) (hV : V < 18446744073709551616) (hS : S = 0 ∨ S = 1) :
    Calls Tryd.prog 11 #[.slice a0 n cap, .int .u64 (V : Int), .int .i64 S] w fun e w' => e = .returned (.string (txt (tbits (decide (S = 1)) (trow z n) V))) ∧ Fr [] w w' := by
  have HV : Hid (V < 18446744073709551616) := hV
  have HZ : Hid (∀ j, z j < 18446744073709551616) := hz
  have HN : Hid (Nums w a0 n b off z) := h
  clear hV hz h
  by_cases h0 : n = 0
  · have d0 : ((n : Int) == 0) = true := beq_iff_eq.2 (by omega)
    have HE : Hid (tbits (decide (S = 1)) (trow z n) V = if decide (S = 1) then sbits (sg V) else ubits V) := by show _ = _; unfold tbits; rw [if_pos (by rw [trow_n]; exact h0)]
    rw [HE.out]
    clear h0
    obtain ⟨hb1, hb2⟩ := sg_in HV.out
    have qw := wrap_sg HV.out
    have qi := wrapI_sg HV.out
    rcases hS with rfl | rfl
    · go_enter Tryd.func11, Tryd.ntmps11
      go_wp2_with fail
      refine (U_any V w HV.out).mono ?_
      rintro e w1 ⟨rfl, hf1⟩
      go_wp2_with fail
      go_ret
      exact ⟨by first | rfl | trivial, hf1⟩
    · go_enter Tryd.func11, Tryd.ntmps11
      go_wp2_with fail
      refine (S_any (sg V) w hb1 hb2).mono ?_
      rintro e w1 ⟨rfl, hf1⟩
      go_wp2_with fail
      go_ret
      exact ⟨by first | rfl | trivial, hf1⟩
  · have d0 : ((n : Int) == 0) = false := beq_eq_false_iff_ne.2 (by omega)
    obtain ⟨L, hL⟩ : ∃ L, n = L + 1 := ⟨n - 1, by omega⟩
    obtain ⟨q3, q4⟩ := back_is (k := 1) hL hn
    rw [show ((1 : Nat) : Int) = 1 from rfl] at q3 q4
    have i3 : (0 : Int) ≤ (L : Int) := by omega
    have i4 : (L : Int) < (n : Int) := by omega
    have i6 : L < n := by omega
    have c2 := HN.out.2 L i6
    have HA : Hid (a0 = some ⟨b, off, none⟩) := HN.out.1 (by omega)
    have HST : Hid (∀ wx, Fr [] w wx → Calls Tryd.prog 21 #[.slice a0 n cap] wx fun e w' => e = .returned (.int .u64 ((st z n : Nat) : Int)) ∧ Fr [] wx w') := fun wx hx => rstep_any a0 n cap b off z wx (HN.out.kept hx (by simp)) hn HZ.out
    have HE : Hid (tbits (decide (S = 1)) (trow z n) V = sbits (sg (sub64 (sub64 V (z L)) (st z n)))) := by
      show _ = _
      unfold tbits chg stp
      rw [if_neg (by rw [trow_n]; exact h0), trow_step]
      subst hL
      rw [trow_last]
    have hst : st z n < 18446744073709551616 := by
      rw [← trow_step]; exact (trow_ok HZ.out n).2
    have hzL := HZ.out L
    rw [HE.out]
    clear h0 hL HE
    generalize z L = X at *
    generalize st z n = Y at *
    have r1 := wrapU_diff HV.out hzL
    have r2 := wrapU_diff (sub64_lt V X) hst
    have r3 := wrap_sg (sub64_lt (sub64 V X) Y)
    have r4 := wrapI_sg (sub64_lt (sub64 V X) Y)
    obtain ⟨hb1, hb2⟩ := sg_in (sub64_lt (sub64 V X) Y)
    have HB : Hid (-9223372036854775808 ≤ sg (sub64 (sub64 V X) Y) ∧ sg (sub64 (sub64 V X) Y) ≤ 9223372036854775807) := ⟨hb1, hb2⟩
    clear hb1 hb2 hst hzL
    have ha := HA.out
    subst ha
    go_enter Tryd.func11, Tryd.ntmps11
    go_wp2_with fail
    refine (HST.out _ (by first | exact Fr.refl _ _ | exact (Fr.refl _ _).drewN _)).mono ?_
    rintro e w1 ⟨rfl, hf1⟩
    go_wp2_with fail
    refine (S_any _ w1 HB.out.1 HB.out.2).mono ?_
    rintro e w2 ⟨rfl, hf2⟩
    go_wp2_with fail
    go_ret
    exact ⟨by first | rfl | trivial, hf1.trans hf2 (by simp)⟩
end Go.Proofs.YtmoodonemcpgnaaDoor
