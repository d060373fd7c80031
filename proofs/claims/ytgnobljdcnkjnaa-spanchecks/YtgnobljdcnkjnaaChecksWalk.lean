/-
  SpanChecks: whatever list and place, the law returns true, and nothing is turned that was there.
-/
import Derived.Test.YtgnobljdcnkjnaaArgs6
namespace Go.Proofs.Ytgnobljdcnkjnaa
open Go.RowKit Mem Spans
open Classical
set_option linter.unusedSimpArgs false
set_option linter.unusedVariables false
set_option maxRecDepth 100000

theorem right_facts {l : List Sp} (h : chk l = 0) : pls l = plc 0 l ∧ ctn l = ((pls l).length : Int) ∧ cnn l = ((rn none (pls l) : Int) == (l.length : Int)) := by
  have hp : pls l = plc 0 l := by unfold pls; rw [if_pos h]
  have ho := (chk_zero.1 h).2
  refine ⟨hp, ?_, ?_⟩
  · unfold ctn; rw [if_pos h, hp]; exact (ok_cnt ho).1.symm
  · rw [cnn_def]
    have := canon_iff ho
    rw [hp]
    by_cases hs : shp true l
    · rw [decide_eq_true ⟨h, hs⟩]
      have e := this.1 hs
      simp [e]
    · rw [decide_eq_false (fun hh => hs hh.2)]
      have e : ¬ rn none (plc 0 l) = l.length := fun hh => hs (this.2 hh)
      symm
      simp
      omega
theorem wrong_facts {l : List Sp} (h : ¬ chk l = 0) : pls l = [] ∧ ctn l = 0 ∧ cnn l = false ∧ eqn l l = false := by
  refine ⟨by unfold pls; rw [if_neg h], by unfold ctn; rw [if_neg h], by rw [cnn_def]; exact decide_eq_false (fun hh => h hh.1), by unfold eqn; exact decide_eq_false (fun hh => h hh.1)⟩

set_option maxHeartbeats 8000000 in
theorem checks_walk (a0 : Option Addr) (len0 cap0 : Nat) (z0 : List Sp) (a1 : Int) (w : World) (w0 : IsSpans w a0 len0 cap0 z0) (w1 : (Lit.int .i64 a1).wf = true) :
    Calls Try.prog 3 #[.slice a0 len0 cap0, .int .i64 a1] w fun e w' => e = .returned (.bool true) ∧ Below w.heap.size w w' := by
  obtain ⟨rfl, hsrc⟩ := w0
  have HS : Hid (SSrc w (.slice a0 z0.length cap0) z0) := hsrc
  have HZ : Hid (∀ s ∈ z0, in64 s.1 ∧ in64 s.2) := by obtain ⟨_, _, _, _, _, h, _⟩ := hsrc; exact h
  clear hsrc w1
  go_enter Try.func3, Try.ntmps3
  go_wp2_with fail
  refine (small_any _ z0 w HS.out).mono ?_
  rintro e w1 ⟨r, rfl, hr, hf1⟩
  have HF1 : Hid (Fr [] w w1) := hf1
  clear hf1
  cases r
  · go_wp2_with fail
    refine (awake_any _).mono ?_
    rintro e w2 ⟨rfl, hf2⟩
    have HF2 : Hid (Fr [] w w2) := HF1.out.trans hf2 (by simp)
    clear hf2
    go_wp2
    go_ret
    exact ⟨rfl, HF2.out.below (Nat.le_refl _) (by simp)⟩
  have hl0 := hr rfl
  clear hr
  go_wp2_with fail
  refine (lref_any _ z0 w1 (HS.out.kept HF1.out) (by omega)).mono ?_
  rintro e w2 ⟨ra, rfl, hra, hf2⟩
  have HF2 : Hid (Fr [] w w2) := HF1.out.trans hf2 (by simp)
  have HRA : Hid (SSrc w2 ra z0) := hra.src HZ.out
  clear hra hf2 HF1
  go_wp2_with fail
  refine (lcheck_any _ z0 w2 HRA.out).mono ?_
  rintro e w3 ⟨rfl, hf3⟩
  have HF3 : Hid (Fr [] w w3) := HF2.out.trans hf3 (by simp)
  clear hf3 HF2 HRA
  go_wp2_with fail
  refine (places_any _ z0 w3 (HS.out.kept HF3.out)).mono ?_
  rintro e w4 ⟨p, rfl, hp, hf4⟩
  have HF4 : Hid (Fr [] w w4) := HF3.out.trans hf4 (by simp)
  have HP4 : Hid (IOwn 0 w4 p (pls z0)) := hp.mono (Nat.zero_le _)
  clear hp hf4 HF3
  go_wp2_with fail
  refine (check_any _ z0 w4 (HS.out.kept HF4.out)).mono ?_
  rintro e w5 ⟨rfl, hf5⟩
  have HF5 : Hid (Fr [] w w5) := HF4.out.trans hf5 (by simp)
  have HP5 : Hid (IOwn 0 w5 p (pls z0)) := HP4.out.kept hf5
  clear hf5 HF4 HP4
  by_cases hk : chk z0 = 0
  · have hct := (right_facts hk).2.1
    have hcn := (right_facts hk).2.2
    have HK : Hid (chk z0 = 0) := hk
    have HCT : Hid (ctn z0 = ((pls z0).length : Int)) := hct
    have HCN : Hid (cnn z0 = ((rn none (pls z0) : Int) == (z0.length : Int))) := hcn
    have HBD : Hid (∀ z ∈ pls z0, -1048576 ≤ z ∧ z ≤ 1048576) := rises_mem (pls_rises z0)
    have hpl : (pls z0).length ≤ 4096 := pls_le z0
    have hrl : rn none (pls z0) ≤ 4096 := by have := rn_le_length none (pls z0); omega
    have HIN : Hid (∀ x ∈ pls z0, in64 x) := pls_in z0
    rw [hk]
    clear hk hct hcn
    go_wp2_with fail
    refine (lref_any _ z0 w5 (HS.out.kept HF5.out) (by omega)).mono ?_
    rintro e w6 ⟨rb, rfl, hrb, hf6⟩
    have HF6 : Hid (Fr [] w w6) := HF5.out.trans hf6 (by simp)
    have HRB : Hid (SSrc w6 rb z0) := hrb.src HZ.out
    have HP6 : Hid (IOwn 0 w6 p (pls z0)) := HP5.out.kept hf6
    clear hrb hf6 HF5 HP5
    go_wp2_with fail
    refine (lplaces_any _ z0 w6 HRB.out HK.out).mono ?_
    rintro e w7 ⟨q, rfl, hq, hf7⟩
    have HF7 : Hid (Fr [] w w7) := HF6.out.trans hf7 (by simp)
    have HP7 : Hid (IOwn 0 w7 p (pls z0)) := HP6.out.kept hf7
    have HQ7 : Hid (IOwn 0 w7 q (pls z0)) := hq.mono (Nat.zero_le _)
    clear hq hf7 HF6 HP6 HRB
    obtain ⟨aoq, capq, rfl⟩ := HQ7.out.val
    go_wp2_with fail
    refine (lruns_any _ (pls z0) w7 (HQ7.out.src HIN.out) HBD.out (by omega)).mono ?_
    rintro e w8 ⟨rfl, hf8⟩
    have HF8 : Hid (Fr [] w w8) := HF7.out.trans hf8 (by simp)
    have HP8 : Hid (IOwn 0 w8 p (pls z0)) := HP7.out.kept hf8
    have HQ8 : Hid (IOwn 0 w8 (.slice aoq (pls z0).length capq) (pls z0)) := HQ7.out.kept hf8
    clear hf8 HF7 HP7 HQ7
    rw [show Value.int .i64 ((rn none (pls z0) : Nat) : Int) = Value.int .i64 (rn none (pls z0) : Int) from rfl]
    generalize hR : rn none (pls z0) = R at *
    obtain ⟨_, _, e2, _, _, _, b2, off2, ha2, hc2⟩ := HQ8.out.src HIN.out
    simp only [Value.slice.injEq, true_and] at e2
    obtain ⟨rfl, rfl⟩ := e2
    have HCQ : Hid (∀ j x, (pls z0)[j]? = some x → w8.cell? ⟨b2, off2 + j, none⟩ = some (.int .i64 x)) := hc2
    have HA2 : Hid (0 < (pls z0).length → aoq = some ⟨b2, off2, none⟩) := ha2
    clear hc2 ha2 hR
    generalize hZ : pls z0 = Z at *
    have HZE : Hid (pls z0 = Z) := hZ
    clear hZ
    go_wp2
    go_loopw [10, 74] (fun c i wr => ∃ (k : Nat), k ≤ Z.length ∧ i = .int .i64 (k : Int) ∧ c = .bool (decide (a1 ∈ Z.take k)) ∧ Fr [] w8 wr) (fun _ i _ => Z.length - (intOf i).toNat)
    case atStart => exact ⟨0, by omega, rfl, by simp, Fr.refl _ _⟩
    case round =>
      obtain ⟨k, hk, rfl, rfl, hf⟩ := hrel
      have HFk : Hid (Fr [] w8 wr) := hf
      clear hf
      by_cases hlt : k < Z.length
      · obtain rfl := HA2.out (by omega)
        obtain ⟨x, hx⟩ := at_lt hlt
        have c0 : wr.cell? ⟨b2, off2 + k, none⟩ = some (.int .i64 x) := HFk.out.cell_some (HCQ.out k x hx) (by simp)
        have HT : Hid (∀ z : Int, z ∈ Z.take (k + 1) ↔ z ∈ Z.take k ∨ z = x) := by intro z; rw [take_at hx]; simp
        clear hx
        by_cases hin : a1 ∈ Z.take k
        · have HN : Hid (decide (a1 ∈ Z.take (k + 1)) = true) := by rw [Hid, decide_eq_true_iff, HT.out]; exact .inl hin
          rw [decide_eq_true hin]
          clear hin
          go_wp2
          go_roundw
          case rel => exact ⟨k + 1, by omega, by go_num, by rw [HN.out], HFk.out⟩
          case measure => simp [intOf]; omega
        · rw [decide_eq_false hin]
          have HN : Hid (decide (a1 ∈ Z.take (k + 1)) = (x == a1)) := by
            by_cases hxa : x = a1
            · rw [Hid, decide_eq_true ((HT.out a1).2 (.inr hxa.symm))]; simp [hxa]
            · rw [Hid, decide_eq_false (fun h => by rcases (HT.out a1).1 h with h | h; exact hin h; exact hxa h.symm)]
              symm; simpa using hxa
          clear hin
          go_wp2
          go_roundw
          case rel => exact ⟨k + 1, by omega, by go_num, by rw [HN.out], HFk.out⟩
          case measure => simp [intOf]; omega
      · have hkl : Z.take k = Z := List.take_of_length_le (by omega)
        rw [hkl]
        have HF9 : Hid (Fr [] w wr) := HF8.out.trans HFk.out (by simp)
        have HP9 : Hid (IOwn 0 wr p Z) := HP8.out.kept HFk.out
        have HQ9 : Hid (IOwn 0 wr (.slice aoq Z.length capq) Z) := HQ8.out.kept HFk.out
        clear hkl HFk HF8 HP8 HQ8 HCQ
        have HHB : Hid (decide (a1 ∈ pls z0) = decide (a1 ∈ Z)) := by rw [Hid, HZE.out]
        generalize decide (a1 ∈ Z) = bb at *
        generalize ((R : Int) == (z0.length : Int)) = cc at *
        have hbb : (bb == bb) = true := by simp
        have hcc : (cc == cc) = true := by simp
        have HZI : Hid (∀ x ∈ Z, in64 x) := by rw [Hid, ← HZE.out]; exact pls_in z0
        go_wp2_with fail
        refine (same_any _ _ Z Z wr (HP9.out.src HZI.out) (HQ9.out.src HZI.out)).mono ?_
        rintro e w10 ⟨rfl, hf10⟩
        rw [show decide (Z = Z) = true from by simp]
        have HF10 : Hid (Fr [] w w10) := HF9.out.trans hf10 (by simp)
        clear hf10 HF9 HP9 HQ9
        go_wp2_with fail
        refine (count_any _ z0 w10 (HS.out.kept HF10.out)).mono ?_
        rintro e w11 ⟨rfl, hf11⟩
        rw [HCT.out]
        have HF11 : Hid (Fr [] w w11) := HF10.out.trans hf11 (by simp)
        clear hf11 HF10
        go_wp2_with fail
        refine (canonical_any _ z0 w11 (HS.out.kept HF11.out)).mono ?_
        rintro e w12 ⟨rfl, hf12⟩
        rw [HCN.out]
        have HF12 : Hid (Fr [] w w12) := HF11.out.trans hf12 (by simp)
        clear hf12 HF11
        go_wp2_with fail
        refine (has_any _ z0 a1 w12 (HS.out.kept HF12.out)).mono ?_
        rintro e w13 ⟨rfl, hf13⟩
        rw [HHB.out]
        have HF13 : Hid (Fr [] w w13) := HF12.out.trans hf13 (by simp)
        clear hf13 HF12
        go_wp2_with fail
        refine (awake_any _).mono ?_
        rintro e w14 ⟨rfl, hf14⟩
        have HF14 : Hid (Fr [] w w14) := HF13.out.trans hf14 (by simp)
        clear hf14
        go_wp2
        go_ret
        exact ⟨rfl, HF14.out.below (Nat.le_refl _) (by simp)⟩
  · obtain ⟨hp0, hct, hcn, heq⟩ := wrong_facts hk
    have hpn : p = .slice none 0 0 := by
      rcases HP5.out with ⟨_, h⟩ | ⟨g, _, h, _⟩
      · exact h
      · rw [hp0] at h; simp at h
    subst hpn
    have HX : Hid (ctn z0 = 0 ∧ cnn z0 = false ∧ eqn z0 z0 = false ∧ decide (a1 ∈ pls z0) = false) := ⟨hct, hcn, heq, by rw [hp0]; simp⟩
    have hne : (chk z0 != 0) = true := by simpa using hk
    clear hp0 hct hcn heq HP5
    go_wp2_with fail
    refine (count_any _ z0 w5 (HS.out.kept HF5.out)).mono ?_
    rintro e w6 ⟨rfl, hf6⟩
    rw [HX.out.1]
    have HF6 : Hid (Fr [] w w6) := HF5.out.trans hf6 (by simp)
    clear hf6 HF5
    go_wp2_with fail
    refine (canonical_any _ z0 w6 (HS.out.kept HF6.out)).mono ?_
    rintro e w7 ⟨rfl, hf7⟩
    rw [HX.out.2.1]
    have HF7 : Hid (Fr [] w w7) := HF6.out.trans hf7 (by simp)
    clear hf7 HF6
    go_wp2_with fail
    refine (has_any _ z0 a1 w7 (HS.out.kept HF7.out)).mono ?_
    rintro e w8 ⟨rfl, hf8⟩
    rw [HX.out.2.2.2]
    have HF8 : Hid (Fr [] w w8) := HF7.out.trans hf8 (by simp)
    clear hf8 HF7
    go_wp2_with fail
    refine (equal_any _ _ z0 z0 w8 (HS.out.kept HF8.out) (HS.out.kept HF8.out)).mono ?_
    rintro e w9 ⟨rfl, hf9⟩
    rw [HX.out.2.2.1]
    have HF9 : Hid (Fr [] w w9) := HF8.out.trans hf9 (by simp)
    clear hf9 HF8
    go_wp2_with fail
    refine (awake_any _).mono ?_
    rintro e w10 ⟨rfl, hf10⟩
    have HF10 : Hid (Fr [] w w10) := HF9.out.trans hf10 (by simp)
    clear hf10
    go_wp2
    go_ret
    exact ⟨rfl, HF10.out.below (Nat.le_refl _) (by simp)⟩
end Go.Proofs.Ytgnobljdcnkjnaa
