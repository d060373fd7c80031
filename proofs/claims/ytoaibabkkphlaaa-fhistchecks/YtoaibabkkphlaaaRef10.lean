/-
  The document's Right, Side, Check (layer 10).
-/
import Derived.Test.YtoaibabkkphlaaaLaw10
import Derived.Test.YtoaibabkkphlaaaFSides
import Derived.Test.YtoaibabkkphlaaaRef6C
import Derived.Test.YtoaibabkkphlaaaRef6P
namespace Go.Proofs.Ytoaibabkkphlaaa
open Go.RowKit Mem Spans
set_option linter.unusedSimpArgs false
set_option linter.unusedVariables false
set_option maxRecDepth 100000

theorem lright10_any (v : Int) (w : World) :
    Calls Try.prog 18 #[.int .u64 v] w fun e w' => e = .returned (.bool (rgt v)) ∧ w = w' := by
  go_enter Try.func18, Try.ntmps18
  go_wp2
  go_ret
  exact ⟨rfl, rfl⟩

set_option maxHeartbeats 2000000 in
theorem lside10_any (v u : Value) (l : List Sp) (d : List Int) (w : World) (h : SSrc w v l) (h2 : USrc w u d) :
    Calls Try.prog 52 #[v, u] w fun e w' => e = .returned (.int .i64 (fsd l d)) ∧ Fr [] w w' := by
  have HSR : Hid (SSrc w v l) := h
  have HIR : Hid (USrc w u d) := h2
  obtain ⟨ao, cap, rfl, hcap, hmax, _⟩ := h
  obtain ⟨bo, bcap, rfl, hbcap, hbmax, _⟩ := h2
  have hml : d.length ≤ 9223372036854775807 := by unfold maxLen at hbmax; omega
  go_enter Try.func52, Try.ntmps52
  go_wp2_with fail
  refine (lcheck_any _ l _ HSR.out).mono ?_
  rintro e w1 ⟨rfl, hf1⟩
  have HF1 : Hid (Fr [] w w1) := hf1
  clear hf1
  by_cases hk : chk l = 0
  · have HK : Hid (chk l = 0) := hk
    rw [hk]
    clear hk
    go_wp2_with fail
    refine (lplaces_any _ l _ (HSR.out.kept HF1.out) HK.out).mono ?_
    rintro e w2 ⟨p, rfl, hp, hf2⟩
    have HF2 : Hid (Fr [] w w2) := HF1.out.trans hf2 (by simp)
    obtain ⟨pa, pcap, rfl⟩ := hp.val
    clear hf2 HF1 hp
    by_cases hd : d.length = (pls l).length
    · have HZ : Hid (fsd l d = if rgts d = true then 0 else 22) := by unfold Hid fsd; rw [if_pos HK.out, if_pos hd]
      have hdb : (((pls l).length : Int) != (d.length : Int)) = false := by simp; omega
      have HU : Hid (USrc w2 (.slice bo d.length bcap) d) := HIR.out.kept HF2.out
      obtain ⟨_, _, hv, _, _, _, b, off, ha, hc⟩ := HU.out
      simp only [Value.slice.injEq] at hv
      obtain ⟨rfl, _, rfl⟩ := hv
      have HC : Hid (∀ j s, d[j]? = some s → w2.cell? ⟨b, off + j, none⟩ = some (.int .u64 s)) := hc
      have HA : Hid (0 < d.length → bo = some ⟨b, off, none⟩) := ha
      clear hd ha hc HU
      go_wp2
      go_loopw [6] (fun i wr => ∃ (k : Nat), k ≤ d.length ∧ i = .int .i64 (k : Int) ∧ rgts (d.take k) = true ∧ wr = w2) (fun i _ => d.length - (intOf i).toNat)
      case atStart => exact ⟨0, by omega, rfl, by simp [rgts], rfl⟩
      case round =>
        obtain ⟨k, hk, rfl, hn, rfl⟩ := hrel
        have HN : Hid (rgts (d.take k) = true) := hn
        clear hn
        by_cases hlt : k < d.length
        · obtain rfl := HA.out (by omega)
          obtain ⟨s, hs⟩ := at_lt (l := d) (k := k) hlt
          have c0 := HC.out k s hs
          have HS : Hid (d[k]? = some s) := hs
          clear hs
          go_wp2_with fail
          refine (lright10_any s _).mono ?_
          rintro e w3 ⟨rfl, rfl⟩
          by_cases h0 : rgt s = true
          · have HN2 : Hid (rgts (d.take (k + 1)) = true) := by
              rw [Hid, take_at HS.out]
              have := HN.out
              simp only [rgts, List.all_append, List.all_cons, List.all_nil, Bool.and_eq_true, Bool.and_true] at this ⊢
              exact ⟨this, h0⟩
            rw [h0]
            go_wp2
            go_roundw
            case rel => exact ⟨k + 1, by omega, by go_num, HN2.out, trivial⟩
            case measure => simp [intOf]; omega
          · have h1 : rgt s = false := by simpa using h0
            have HE : Hid (fsd l d = 22) := by
              rw [Hid, HZ.out, if_neg]
              intro h
              exact h0 (List.all_eq_true.1 h s (List.mem_of_getElem? HS.out))
            rw [h1]
            go_wp2
            go_ret
            exact ⟨by rw [HE.out]; rfl, HF2.out⟩
        · have HE : Hid (fsd l d = 0) := by
            have := HN.out
            rw [List.take_of_length_le (by omega)] at this
            rw [Hid, HZ.out, if_pos this]
          go_wp2
          go_ret
          exact ⟨by rw [HE.out]; rfl, HF2.out⟩
    · have HE : Hid (fsd l d = 23) := by unfold Hid fsd; rw [if_pos HK.out, if_neg hd]
      have hdb : (((pls l).length : Int) != (d.length : Int)) = true := by simp; omega
      clear hd
      go_wp2
      go_ret
      exact ⟨by rw [HE.out]; rfl, HF2.out⟩
  · have HE : Hid (fsd l d = chk l) := by unfold Hid fsd; rw [if_neg hk]
    go_wp2
    go_ret
    exact ⟨by rw [HE.out]; rfl, HF1.out⟩

set_option maxHeartbeats 4000000 in
theorem lcheck10_any (v : Value) (h : Fs) (w : World) (hh : FSrc w v h) :
    Calls Try.prog 15 #[v] w fun e w' => e = .returned (.int .i64 (fce h)) ∧ Fr [] w w' := by
  obtain ⟨po, pc, no, nc, qo, qc, ro, rc, rfl, hin, hsr, _⟩ := hh.opens
  have HSR : Hid (SSrc w (.slice po h.P.length pc) h.P ∧ SSrc w (.slice no h.N.length nc) h.N ∧ USrc w (.slice qo h.pd.length qc) h.pd ∧ USrc w (.slice ro h.nd.length rc) h.nd) := hsr
  clear hh hin hsr
  obtain ⟨s, z, zc, c, sm, P, N, pd, nd⟩ := h
  simp only at HSR ⊢
  go_enter Try.func15, Try.ntmps15
  have HN0 : Hid (NineG (w.alloc (.cells #[.int .i64 s, .int .u64 z, .int .u64 zc, .int .u64 c, .int .u64 sm, .slice po P.length pc, .slice no N.length nc, .slice qo pd.length qc, .slice ro nd.length rc] 34)) w.heap.size #[.int .i64 s, .int .u64 z, .int .u64 zc, .int .u64 c, .int .u64 sm, .slice po P.length pc, .slice no N.length nc, .slice qo pd.length qc, .slice ro nd.length rc]) := NineG.new _ _
  have HF0 : Hid (Fr [] w (w.alloc (.cells #[.int .i64 s, .int .u64 z, .int .u64 zc, .int .u64 c, .int .u64 sm, .slice po P.length pc, .slice no N.length nc, .slice qo pd.length qc, .slice ro nd.length rc] 34))) := (Fr.refl [] w).alloc _
  by_cases h1 : s < -4
  · have HE : Hid (fde s z zc c = 21) := fde_bad (by unfold hde; rw [if_pos (.inl h1)]) (by decide)
    have HC : Hid (fce ⟨s, z, zc, c, sm, P, N, pd, nd⟩ = 21) := by rw [Hid, fce_head (by simp only [HE.out]; decide)]; exact HE.out
    go_wp2
    go_ret
    exact ⟨by rw [HC.out]; rfl, HF0.out⟩
  by_cases h2 : 8 < s
  · have HE : Hid (fde s z zc c = 21) := fde_bad (by unfold hde; rw [if_pos (.inr h2)]) (by decide)
    have HC : Hid (fce ⟨s, z, zc, c, sm, P, N, pd, nd⟩ = 21) := by rw [Hid, fce_head (by simp only [HE.out]; decide)]; exact HE.out
    go_wp2
    go_ret
    exact ⟨by rw [HC.out]; rfl, HF0.out⟩
  by_cases hz : z < 9218868437227405312
  case neg =>
    have HE : Hid (fde s z zc c = 11) := fde_bad (by unfold hde; rw [if_neg (by omega), if_neg hz]) (by decide)
    have HC : Hid (fce ⟨s, z, zc, c, sm, P, N, pd, nd⟩ = 11) := by rw [Hid, fce_head (by simp only [HE.out]; decide)]; exact HE.out
    have hz2 : 9218868437227405312 ≤ z := by omega
    go_wp2
    go_ret
    exact ⟨by rw [HC.out]; rfl, HF0.out⟩
  have HD : Hid (hde s z = 0) := by unfold Hid hde; rw [if_neg (by omega), if_pos hz]
  have hz2 : ¬ 9218868437227405312 ≤ z := by omega
  have c2 := HN0.out.cell 2 rfl
  have c3 := HN0.out.cell 3 rfl
  clear hz
  go_wp2_with fail
  refine (lright10_any zc _).mono ?_
  rintro e w1 ⟨rfl, rfl⟩
  by_cases hr1 : rgt zc = true
  case neg =>
    have hr : rgt zc = false := by simpa using hr1
    have HE : Hid (fde s z zc c = 22) := by unfold Hid fde; rw [if_pos HD.out, if_neg (by simp [rgts, hr])]
    have HC : Hid (fce ⟨s, z, zc, c, sm, P, N, pd, nd⟩ = 22) := by rw [Hid, fce_head (by simp only [HE.out]; decide)]; exact HE.out
    rw [hr]
    go_wp2
    go_ret
    exact ⟨by rw [HC.out]; rfl, HF0.out⟩
  have HR1 : Hid (rgt zc = true) := hr1
  rw [hr1]
  clear hr1
  go_wp2_with fail
  refine (lright10_any c _).mono ?_
  rintro e w1 ⟨rfl, rfl⟩
  by_cases hr2 : rgt c = true
  case neg =>
    have hr : rgt c = false := by simpa using hr2
    have HE : Hid (fde s z zc c = 22) := by unfold Hid fde; rw [if_pos HD.out, if_neg (by simp [rgts, hr])]
    have HC : Hid (fce ⟨s, z, zc, c, sm, P, N, pd, nd⟩ = 22) := by rw [Hid, fce_head (by simp only [HE.out]; decide)]; exact HE.out
    rw [hr]
    go_wp2
    go_ret
    exact ⟨by rw [HC.out]; rfl, HF0.out⟩
  have HE : Hid (fde s z zc c = 0) := by unfold Hid fde; rw [if_pos HD.out, if_pos (by simp [rgts, HR1.out, hr2])]
  rw [hr2]
  clear hr2 h1 h2 hz2
  have c5 := HN0.out.cell 5 rfl
  have c7 := HN0.out.cell 7 rfl
  go_wp2_with fail
  refine (lside10_any _ _ P pd _ (HSR.out.1.kept HF0.out) (HSR.out.2.2.1.kept HF0.out)).mono ?_
  rintro e w1 ⟨rfl, hf1⟩
  have HF1 : Hid (Fr [] w w1) := HF0.out.trans hf1 (by simp)
  have HN1 := HN0.out.kept hf1 (by simp)
  clear hf1 c2 c3 c5 c7
  have c6 := HN1.cell 6 rfl
  have c8 := HN1.cell 8 rfl
  clear HN1 HN0 HF0
  by_cases hp : fsd P pd = 0
  case neg =>
    have HC : Hid (fce ⟨s, z, zc, c, sm, P, N, pd, nd⟩ = fsd P pd) := fce_pos HE.out hp
    go_wp2
    go_ret
    exact ⟨by rw [HC.out]; rfl, HF1.out⟩
  have HC : Hid (fce ⟨s, z, zc, c, sm, P, N, pd, nd⟩ = fsd N nd) := fce_neg HE.out hp
  rw [hp]
  clear hp
  go_wp2_with fail
  refine (lside10_any _ _ N nd _ (HSR.out.2.1.kept HF1.out) (HSR.out.2.2.2.kept HF1.out)).mono ?_
  rintro e w2 ⟨rfl, hf2⟩
  have HF2 : Hid (Fr [] w w2) := HF1.out.trans hf2 (by simp)
  clear hf2 c6 c8
  go_wp2
  go_ret
  exact ⟨by rw [HC.out]; rfl, HF2.out⟩
end Go.Proofs.Ytoaibabkkphlaaa
