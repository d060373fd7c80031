/-
  Package span: Count, Canonical.
-/
import Derived.Test.YtkphonepblkcdaaGreatDoorSCheck
namespace Go.Proofs.YtkphonepblkcdaaGreatDoor
open Go.RowKit Mem Spans
open Classical
set_option linter.unusedSimpArgs false
set_option linter.unusedVariables false
set_option maxRecDepth 100000

/-- Count's and Canonical's answers. -/
def ctn (l : List Sp) : Int := if chk l = 0 then cnt l else 0
def cnn (l : List Sp) : Bool := decide (chk l = 0) && shpB true l
theorem cnn_def (l : List Sp) : cnn l = decide (chk l = 0 ∧ shp true l) := by
  unfold cnn
  by_cases h : shp true l
  · rw [(shpB_iff _ _).2 h]; simp [h]
  · rw [show shpB true l = false from by
      cases hb : shpB true l
      · rfl
      · exact absurd ((shpB_iff _ _).1 hb) h]
    simp [h]

set_option maxHeartbeats 2000000 in
theorem canonical_any (v : Value) (l : List Sp) (w : World) (h : SSrc w v l) :
    Calls Tryz.prog 69 #[v] w fun e w' => e = .returned (.bool (cnn l)) ∧ Fr [] w w' := by
  have HSR : Hid (SSrc w v l) := h
  obtain ⟨ao, cap, rfl, hcap, hmax, h64, b, off, ha, hc⟩ := h
  have HC : Hid (∀ j s, l[j]? = some s → w.cell? ⟨b, off + j * 2, none⟩ = some (.int .i64 s.1) ∧ w.cell? ⟨b, off + j * 2 + 1, none⟩ = some (.int .i64 s.2)) := hc
  have HA : Hid (0 < l.length → ao = some ⟨b, off, none⟩) := ha
  clear hc ha h64
  go_enter Tryz.func69, Tryz.ntmps69
  go_wp2_with fail
  refine (check_any _ l w HSR.out).mono ?_
  rintro e w1 ⟨rfl, hf1⟩
  have HF1 : Hid (Fr [] w w1) := hf1
  clear hf1
  by_cases hk0 : chk l = 0
  · have HE : Hid (cnn l = decide (shp true l)) := by rw [Hid, cnn_def]; simp [hk0]
    have hlen := (chk_zero.1 hk0).1
    have HO : Hid (ok true 0 0 l) := (chk_zero.1 hk0).2
    go_wp2
    go_loopw [10] (fun i wr => ∃ (k : Nat), k ≤ l.length ∧ i = .int .i64 (k : Int) ∧ (shp true l ↔ shp ((k : Int) == 0) (l.drop k)) ∧ Fr [] w wr) (fun i _ => l.length - (intOf i).toNat)
    case atStart => exact ⟨0, by omega, rfl, by simp, HF1.out⟩
    case round =>
      obtain ⟨k, hk, rfl, hc, hf⟩ := hrel
      have HF : Hid (Fr [] w wr) := hf
      have HP : Hid (shp true l ↔ shp ((k : Int) == 0) (l.drop k)) := hc
      clear hf hc
      by_cases hlt : k < l.length
      · obtain rfl := HA.out (by omega)
        obtain ⟨s, hs⟩ := at_lt hlt
        have c0 : wr.cell? ⟨b, off + k * 2, none⟩ = some (.int .i64 s.1) := HF.out.cell_some (HC.out k s hs).1 (by simp)
        have c1 : wr.cell? ⟨b, off + k * 2 + 1, none⟩ = some (.int .i64 s.2) := HF.out.cell_some (HC.out k s hs).2 (by simp)
        have HAT : Hid (0 ≤ s.2 ∧ (0 < k → 0 ≤ s.1)) := ⟨(ok_at HO.out k s hs).1, (ok_at HO.out k s hs).2.2.2.2⟩
        have HP2 : Hid (shp true l ↔ 0 < s.2 ∧ (((k : Int) == 0) = true ∨ 0 < s.1) ∧ shp false (l.drop (k + 1))) := by
          have := HP.out
          rw [drop_at hs] at this
          exact this
        clear HP hs hk0
        have HF2 : Hid (Fr [] w (wr.alloc (.cells #[.int .i64 s.1, .int .i64 s.2] 64))) := HF.out.alloc _
        by_cases hn : s.2 = 0
        · have HNO : Hid (decide (shp true l) = false) := by
            rw [Hid, decide_eq_false_iff_not, HP2.out]
            rintro ⟨h, _⟩; omega
          clear HP2
          go_wp2
          go_ret
          exact ⟨by rw [HE.out, HNO.out]; rfl, HF.out.alloc _⟩
        · by_cases hkk : k = 0
          · subst hkk
            simp only [Nat.zero_mul, Nat.add_zero] at c0 c1
            go_wp2
            go_roundw
            case rel =>
              refine ⟨0 + 1, by omega, by go_num, ?_, HF.out.alloc _⟩
              rw [HP2.out]
              have := HAT.out.1
              exact ⟨fun h => h.2.2, fun h => ⟨by omega, .inl rfl, h⟩⟩
            case measure => simp [intOf]; omega
          · by_cases ho : s.1 = 0
            · have HNO : Hid (decide (shp true l) = false) := by
                rw [Hid, decide_eq_false_iff_not, HP2.out]
                rintro ⟨_, h | h, _⟩
                · simp at h; omega
                · omega
              clear HP2
              have hkp : (0 : Int) < (k : Int) := by omega
              go_wp2
              go_ret
              exact ⟨by rw [HE.out, HNO.out]; rfl, HF.out.alloc _⟩
            · have hkp : (0 : Int) < (k : Int) := by omega
              have hn2 : (s.2 == 0) = false := by simpa using hn
              have ho2 : (s.1 == 0) = false := by simpa using ho
              go_wp2
              go_roundw
              case rel =>
                refine ⟨k + 1, by omega, by go_num, ?_, HF.out.alloc _⟩
                rw [HP2.out]
                have e : (((k + 1 : Nat) : Int) == 0) = false := by simp; omega
                rw [e]
                have h1 := HAT.out.1
                have h2 := HAT.out.2 (by omega)
                exact ⟨fun h => h.2.2, fun h => ⟨by omega, .inr (by omega), h⟩⟩
              case measure => simp [intOf]; omega
      · have hkl : k = l.length := by omega
        have HYES : Hid (decide (shp true l) = true) := by
          rw [Hid, decide_eq_true_iff, HP.out, List.drop_eq_nil_of_le (by omega)]
          trivial
        clear HP
        go_wp2
        go_ret
        exact ⟨by rw [HE.out, HYES.out]; rfl, HF.out⟩
  · have HE : Hid (cnn l = false) := by rw [Hid, cnn_def]; simp [hk0]
    go_wp2
    go_ret
    exact ⟨by rw [HE.out]; rfl, HF1.out⟩
end Go.Proofs.YtkphonepblkcdaaGreatDoor
