/-
  The walk of tidepolelaw04.VarbitRows: it returns true, whatever it is given, and writes nothing that was there.
-/
import Derived.Test.YtpjhniklieaekaaDoorLaw4
namespace Go.Proofs.YtpjhniklieaekaaDoor
open Go.RowKit Mem Bits Groups
set_option linter.unusedSimpArgs false
set_option linter.unusedVariables false

/-- A slice of numbers with a sign that came in. -/
theorem IsRow.ints {w : World} {a : Option Addr} {len cap : Nat} {zs : List Int} (h : IsRow .i64 w a len cap zs) :
    ∃ (b off : Nat) (z : Nat → Int), (0 < len → a = some ⟨b, off, none⟩) ∧ (∀ j, j < len → w.cell? ⟨b, off + j, none⟩ = some (.int .i64 (z j))) ∧ (∀ j, -9223372036854775808 ≤ z j ∧ z j ≤ 9223372036854775807) := by
  rcases h with ⟨rfl, rfl, rfl, rfl⟩ | ⟨x, rfl, hl, hm, hz, hc, hw⟩
  · exact ⟨0, 0, fun _ => 0, fun h => by omega, fun j h => by omega, fun j => by simp⟩
  · have hbd : ∀ j, -9223372036854775808 ≤ zs.getD j 0 ∧ zs.getD j 0 ≤ 9223372036854775807 := by
      intro j
      rw [List.getD_eq_getElem?_getD]
      by_cases hj : j < zs.length
      · rw [List.getElem?_eq_getElem hj]
        have := hw _ (List.getElem_mem hj)
        simp [Lit.wf, IntKind.min, IntKind.max, IntKind.bits, IntKind.signed] at this
        simp
        omega
      · rw [List.getElem?_eq_none (by omega)]; simp
    by_cases h0 : 0 < len
    · obtain ⟨b, off, spot⟩ := x
      have hc0 := hc 0 (by omega)
      have hspot : spot = none := by simpa [Addr.add] using World.cell?_spot hc0
      subst hspot
      refine ⟨b, off, fun j => zs.getD j 0, fun _ => rfl, fun j hj => ?_, hbd⟩
      have e1 : (⟨b, off, none⟩ : Addr).add j = ⟨b, off + j, none⟩ := by unfold Addr.add; split <;> simp_all
      rw [← e1, hc j (by omega)]
    · exact ⟨0, 0, fun j => zs.getD j 0, fun h => by omega, fun j h => by omega, hbd⟩

/-- What number i has put. -/
def item (i : Nat) (v : Int) : List Bool := if i % 2 = 0 then sbits v else ubits (tw v)
def putAll (z : Nat → Int) : Nat → List Bool
  | 0 => []
  | k + 1 => putAll z k ++ item k (z k)
theorem item_le (i : Nat) (v : Int) : (item i v).length ≤ 72 := by
  unfold item; split
  · exact gbits_le _ (gS_le v)
  · exact gbits_le _ (gU_le _)
theorem putAll_le (z : Nat → Int) (k : Nat) : (putAll z k).length ≤ 72 * k := by
  induction k with
  | zero => simp [putAll]
  | succ k ih => have := item_le k (z k); simp only [putAll, List.length_append]; omega
theorem putAll_split (z : Nat → Int) (k m : Nat) (h : k < m) : ∃ r, putAll z m = putAll z k ++ item k (z k) ++ r := by
  have : ∀ d, ∃ r, putAll z (k + 1 + d) = putAll z k ++ item k (z k) ++ r := by
    intro d
    induction d with
    | zero => exact ⟨[], by simp [putAll]⟩
    | succ d ih => obtain ⟨r, hr⟩ := ih; exact ⟨r ++ item (k + 1 + d) (z (k + 1 + d)), by rw [← Nat.add_assoc]; simp only [putAll]; rw [show putAll z (k + 1 + d) = _ from hr]; simp⟩
  have := this (m - (k + 1))
  rwa [show k + 1 + (m - (k + 1)) = m from by omega] at this

set_option maxRecDepth 100000 in
set_option maxHeartbeats 4000000 in
theorem rows_walk (a0 : Option Addr) (len0 cap0 : Nat) (z0 : List Int) (w : World) (hT : Tab w) (w0 : IsRow .i64 w a0 len0 cap0 z0) :
    Calls Tryd.prog 5 #[.slice a0 len0 cap0] w fun e w' => e = .returned (.bool true) ∧ Fr [] w w' := by
  obtain ⟨b, off, z, ha, hcell, hz⟩ := w0.ints
  clear w0
  have hsz := hT.lt
  have HT : Hid (Tab w) := hT
  clear hT
  by_cases hbad : 60 < len0
  · have d0 : decide (60 < (len0 : Int)) = true := decide_eq_true (by omega)
    clear ha hcell hz
    go_enter Tryd.func5, Tryd.ntmps5
    go_wp2_with fail
    refine (awake_any w HT.out).mono ?_
    rintro e w' ⟨rfl, hf⟩
    go_wp2_with fail
    go_ret
    exact ⟨by first | rfl | trivial, hf⟩
  have d0 : decide (60 < (len0 : Int)) = false := decide_eq_false (by omega)
  have HZ : Hid (∀ j, -9223372036854775808 ≤ z j ∧ z j ≤ 9223372036854775807) := hz
  have HCELL : Hid (∀ j, j < len0 → w.cell? ⟨b, off + j, none⟩ = some (.int .i64 (z j))) := hcell
  have HA0 : Hid (0 < len0 → a0 = some ⟨b, off, none⟩) := ha
  clear hz hcell ha
  go_enter Tryd.func5, Tryd.ntmps5
  go_wp2_with fail
  refine (newWriter_ok _ [] 0 w (Src.nil w) (by decide) (by decide)).mono ?_
  rintro e w1 ⟨p, g, rfl, hw, hp, hg, hf1⟩
  have hw1 : Wr w1 p g [] := hw
  clear hw
  go_wp2_with fail
  go_loopw [5, 32] (fun n c wr => ∃ k gk : Nat, k ≤ len0 ∧ n = .int .i64 ((putAll z k).length : Int) ∧ c = .int .i64 (k : Int) ∧ Wr wr p gk (putAll z k) ∧ w.heap.size ≤ gk ∧ Fr [] w wr) (fun _ c _ => len0 - (intOf c).toNat)
  case atStart => exact ⟨0, g, by omega, rfl, rfl, hw1, hg, hf1⟩
  case round =>
    clear hw1 hg hf1
    obtain ⟨k, gk, hk, rfl, rfl, hwk, hgk, hfr⟩ := hrel
    have hpl := putAll_le z k
    by_cases hlt : k < len0
    · have hae := HA0.out (by omega)
      subst hae
      have hc := hfr.cell_some (HCELL.out k hlt) (by simp)
      have hv := HZ.out k
      have dk : decide ((k : Int) < (len0 : Int)) = true := decide_eq_true (by omega)
      have HPJ : Hid (putAll z (k + 1) = putAll z k ++ item k (z k)) := rfl
      generalize z k = v at hc hv HPJ
      have hwv := wrap_tw v
      by_cases h2 : k % 2 = 0
      · have d2 : ((k : Int) % 2 == 0) = true := beq_iff_eq.2 (by omega)
        have HI : Hid (item k v = sbits v) := by show _ = _; unfold item; rw [if_pos h2]
        have hil := item_le k v
        rw [HI.out] at hil HPJ
        go_wp2_with fail
        refine (vputS_any wr p gk _ v (HT.out.kept hfr (by simp)) (by omega) (by omega) hwk (by omega) hv.1 hv.2).mono ?_
        rintro e w2 ⟨rfl, g2, hw2, hg2, hf2⟩
        have hf3 : Fr [] w w2 := hfr.trans hf2 (by intro x hx; simp at hx; omega)
        have hg3 : w.heap.size ≤ g2 := by have := hfr.size; omega
        rw [← HPJ.out] at hw2
        clear hwk hfr hf2 hg2 hgk hc
        go_wp2_with fail
        refine (lenS_any v w2 (HT.out.kept hf3 (by simp)) hv.1 hv.2).mono ?_
        rintro e w3 ⟨rfl, hf4⟩
        have hw3 := hw2.kept hf4 (by simp) (by simp)
        have hf5 : Fr [] w w3 := hf3.trans hf4 (by simp)
        have HPL : Hid ((putAll z (k + 1)).length = (putAll z k).length + (sbits v).length) := by show _ = _; rw [HPJ.out, List.length_append]
        clear hw2 hf3 hf4 HPJ
        go_wp2_with fail
        go_roundw
        case rel => exact ⟨k + 1, g2, by omega, by rw [HPL.out]; go_num, by go_num, hw3, hg3, hf5⟩
        case measure => simp [intOf]; omega
      · have d2 : ((k : Int) % 2 == 0) = false := beq_eq_false_iff_ne.2 (by omega)
        have HI : Hid (item k v = ubits (tw v)) := by show _ = _; unfold item; rw [if_neg h2]
        have hil := item_le k v
        have htw := tw_lt v
        rw [HI.out] at hil HPJ
        go_wp2_with fail
        refine (vputU_any wr p gk _ (tw v) (HT.out.kept hfr (by simp)) (by omega) (by omega) hwk (by omega) htw).mono ?_
        rintro e w2 ⟨rfl, g2, hw2, hg2, hf2⟩
        have hf3 : Fr [] w w2 := hfr.trans hf2 (by intro x hx; simp at hx; omega)
        have hg3 : w.heap.size ≤ g2 := by have := hfr.size; omega
        rw [← HPJ.out] at hw2
        clear hwk hfr hf2 hg2 hgk hc
        go_wp2_with fail
        refine (lenU_any (tw v) w2 (HT.out.kept hf3 (by simp)) htw).mono ?_
        rintro e w3 ⟨rfl, rfl⟩
        have HPL : Hid ((putAll z (k + 1)).length = (putAll z k).length + (ubits (tw v)).length) := by show _ = _; rw [HPJ.out, List.length_append]
        clear HPJ
        go_wp2_with fail
        go_roundw
        case rel => exact ⟨k + 1, g2, by omega, by rw [HPL.out]; go_num, by go_num, hw2, hg3, hf3⟩
        case measure => simp [intOf]; omega
    · have hjl : k = len0 := by omega
      subst hjl
      have dk : decide ((k : Int) < (k : Int)) = false := decide_eq_false (by omega)
      have HSP : Hid (∀ i, i < k → ∃ r, putAll z k = putAll z i ++ item i (z i) ++ r) := fun i hi => putAll_split z i k hi
      obtain ⟨L, hL⟩ : ∃ L, L = putAll z k := ⟨_, rfl⟩
      have HLE : Hid ((putAll z k).length = L.length) := by show _ = _; rw [hL]
      rw [← hL] at hwk hpl HSP ⊢
      clear hL
      go_wp2_with fail
      refine (bytes_any wr p gk L hwk (by omega)).mono ?_
      rintro e w2 ⟨g2, rfl, hg2, hz2, hf2⟩
      have hw2 := hwk.kept hf2 (by simp) (by simp)
      go_wp2_with fail
      refine (len_any w2 p gk L hw2).mono ?_
      rintro e w3 ⟨rfl, rfl⟩
      have hsrc : Src w2 (.slice (some ⟨g2, 0, none⟩) (nbs L.length) (nbs L.length)) (pack L) := Wr.src (Row.made hg2 (by unfold maxLen nbs; omega) (by simp))
      go_wp2_with fail
      refine (newReader_ok _ (pack L) L.length w2 hsrc (by simp) (by omega)).mono ?_
      rintro e w3 ⟨q, h, rfl, hr3, hq, hh, hf3⟩
      rw [unpack_pack] at hr3
      have hw3 := hw2.kept hf3 (by simp) (by simp)
      have hf03 : Fr [] w w3 := (hfr.trans hf2 (by simp)).trans hf3 (by simp)
      have hq0 : w.heap.size ≤ q := by have := hf2.size; have := hfr.size; omega
      clear hwk hfr hg2 hf2 hw2 hsrc hf3 hgk hz2 hq hh
      go_wp2_with fail
      refine (len_any w3 p gk L hw3).mono ?_
      rintro e w4 ⟨rfl, rfl⟩
      clear hw3
      go_wp2_with fail
      go_loopw [79] (fun c wr => ∃ m : Nat, m ≤ k ∧ c = .int .i64 (m : Int) ∧ Rd wr q h L (putAll z m).length L.length false ∧ Fr [] w wr) (fun c _ => k - (intOf c).toNat)
      case atStart => exact ⟨0, by omega, rfl, by simpa [putAll] using hr3, hf03⟩
      case round =>
        clear hr3 hf03
        obtain ⟨m, hm, rfl, hrm, hfm⟩ := hrel
        by_cases hlt4 : m < k
        · have hae := HA0.out (by omega)
          subst hae
          have hc := hfm.cell_some (HCELL.out m hlt4) (by simp)
          have hv := HZ.out m
          have dm : decide ((m : Int) < (k : Int)) = true := decide_eq_true (by omega)
          obtain ⟨r, hr⟩ := HSP.out m hlt4
          have HR : Hid (L = putAll z m ++ item m (z m) ++ r) := hr
          have HPL : Hid ((putAll z (m + 1)).length = (putAll z m).length + (item m (z m)).length) := by show _ = _; simp only [putAll, List.length_append]
          clear hr
          generalize z m = v at hc hv HR HPL
          have hwv := wrap_tw v
          by_cases h2 : m % 2 = 0
          · have d2 : ((m : Int) % 2 == 0) = true := beq_iff_eq.2 (by omega)
            have HI : Hid (item m v = sbits v) := by show _ = _; unfold item; rw [if_pos h2]
            rw [HI.out] at HR HPL
            have HLL : Hid ((putAll z m).length + (sbits v).length ≤ L.length) := by show _ ≤ _; rw [HR.out]; simp
            have hrm' : Rd wr q h (putAll z m ++ sbits v ++ r) (putAll z m).length L.length false := by rw [← HR.out]; exact hrm
            go_wp2_with fail
            refine (vgetS_put wr q h (putAll z m) r L.length false v (HT.out.kept hfm (by simp)) (by omega) hrm' (by rw [← HR.out]; omega) hv.1 hv.2 HLL.out).mono ?_
            rintro e w4 ⟨rfl, hr4, hf4⟩
            have hf5 : Fr [] w w4 := hfm.trans hf4 (by simp; omega)
            rw [← HR.out, ← HPL.out] at hr4
            clear hrm hrm' hfm hf4 hc
            go_wp2_with fail
            go_roundw
            case rel => exact ⟨m + 1, by omega, by go_num, hr4, hf5⟩
            case measure => simp [intOf]; omega
          · have d2 : ((m : Int) % 2 == 0) = false := beq_eq_false_iff_ne.2 (by omega)
            have HI : Hid (item m v = ubits (tw v)) := by show _ = _; unfold item; rw [if_neg h2]
            rw [HI.out] at HR HPL
            have HLL : Hid ((putAll z m).length + (ubits (tw v)).length ≤ L.length) := by show _ ≤ _; rw [HR.out]; simp
            have hrm' : Rd wr q h (putAll z m ++ ubits (tw v) ++ r) (putAll z m).length L.length false := by rw [← HR.out]; exact hrm
            go_wp2_with fail
            refine (vgetU_put wr q h (putAll z m) r L.length false (tw v) (HT.out.kept hfm (by simp)) (by omega) hrm' (by rw [← HR.out]; omega) (tw_lt v) HLL.out).mono ?_
            rintro e w4 ⟨rfl, hr4, hf4⟩
            have hf5 : Fr [] w w4 := hfm.trans hf4 (by simp; omega)
            rw [← HR.out, ← HPL.out] at hr4
            clear hrm hrm' hfm hf4 hc
            go_wp2_with fail
            go_roundw
            case rel => exact ⟨m + 1, by omega, by go_num, hr4, hf5⟩
            case measure => simp [intOf]; omega
        · have hmj : m = k := by omega
          subst hmj
          have dm : decide ((m : Int) < (m : Int)) = false := decide_eq_false (by omega)
          rw [HLE.out] at hrm
          go_wp2_with fail
          refine (left_any wr q h L L.length L.length false hrm (by omega)).mono ?_
          rintro e w4 ⟨rfl, hf4⟩
          have hf5 : Fr [] w w4 := hfm.trans hf4 (by simp)
          rw [Nat.sub_self]
          clear hrm hfm hf4
          go_wp2_with fail
          refine (awake_any w4 (HT.out.kept hf5 (by simp))).mono ?_
          rintro e w9 ⟨rfl, hf9⟩
          go_wp2_with fail
          go_ret
          exact ⟨by first | rfl | trivial, hf5.trans hf9 (by simp)⟩
end Go.Proofs.YtpjhniklieaekaaDoor
