/-
  The document's Same, Rising, Runs.
-/
import Derived.Test.YtoaibabkkphlaaaSRuns
import Derived.Deep.RegionHeld3
namespace Go.Proofs.Ytoaibabkkphlaaa
open Go.RowKit Mem Spans
open Classical
set_option linter.unusedSimpArgs false
set_option linter.unusedVariables false
set_option maxRecDepth 100000

theorem Mem.Fr.drewN {S : List Nat} {a b : World} (h : Fr S a b) (n : Nat) : Fr S a (b.drewN n) := ⟨h.os, h.tape, h.output, h.size, h.block⟩

set_option maxHeartbeats 1000000 in
theorem same_any (v u : Value) (xs ys : List Int) (w : World) (h1 : ISrc w v xs) (h2 : ISrc w u ys) :
    Calls Try.prog 54 #[v, u] w fun e w' => e = .returned (.bool (decide (xs = ys))) ∧ Fr [] w w' := by
  obtain ⟨ao, cap, rfl, hcap, hmax, _, b, off, ha, hc⟩ := h1
  obtain ⟨ao2, cap2, rfl, hcap2, hmax2, _, b2, off2, ha2, hc2⟩ := h2
  have HC : Hid (∀ j x, xs[j]? = some x → w.cell? ⟨b, off + j, none⟩ = some (.int .i64 x)) := hc
  have HC2 : Hid (∀ j x, ys[j]? = some x → w.cell? ⟨b2, off2 + j, none⟩ = some (.int .i64 x)) := hc2
  have HA : Hid (0 < xs.length → ao = some ⟨b, off, none⟩) := ha
  have HA2 : Hid (0 < ys.length → ao2 = some ⟨b2, off2, none⟩) := ha2
  have hml : xs.length ≤ 9223372036854775807 := by unfold maxLen at hmax; omega
  have hml2 : ys.length ≤ 9223372036854775807 := by unfold maxLen at hmax2; omega
  clear hc ha hc2 ha2
  go_enter Try.func54, Try.ntmps54
  by_cases hl : xs.length = ys.length
  · have hlb : ((xs.length : Int) != (ys.length : Int)) = false := by simp; omega
    have hle1 : xs.length ≤ ys.length := by omega
    have hle2 : ys.length ≤ xs.length := by omega
    clear hl
    go_wp2
    clear hlb
    go_loopw [5] (fun i wr => ∃ (k : Nat), k ≤ xs.length ∧ i = .int .i64 (k : Int) ∧ xs.take k = ys.take k ∧ Fr [] w wr) (fun i _ => xs.length - (intOf i).toNat)
    case atStart => exact ⟨0, by omega, rfl, by simp, Fr.refl _ _⟩
    case round =>
      obtain ⟨k, hk, rfl, ht, hf⟩ := hrel
      have HF : Hid (Fr [] w wr) := hf
      have HT : Hid (xs.take k = ys.take k) := ht
      clear hf ht
      by_cases hlt : k < xs.length
      · obtain rfl := HA.out (by omega)
        obtain rfl := HA2.out (by omega)
        obtain ⟨x, hx⟩ := at_lt hlt
        obtain ⟨y, hy⟩ := at_lt (show k < ys.length by omega)
        have c0 : wr.cell? ⟨b, off + k, none⟩ = some (.int .i64 x) := HF.out.cell_some (HC.out k x hx) (by simp)
        have c1 : wr.cell? ⟨b2, off2 + k, none⟩ = some (.int .i64 y) := HF.out.cell_some (HC2.out k y hy) (by simp)
        have hk2 : k < ys.length := by omega
        by_cases hxy : x = y
        · have HT2 : Hid (xs.take (k + 1) = ys.take (k + 1)) := by rw [Hid, take_at hx, take_at hy, HT.out, hxy]
          clear HT hx hy
          subst hxy
          go_wp2_with fail
          go_quiet (fail)
          go_wp2
          go_roundw
          case rel => exact ⟨k + 1, by omega, by go_num, HT2.out, HF.out.drewN _⟩
          case measure => simp [intOf]; omega
        · have HNO : Hid (decide (xs = ys) = false) := by
            rw [Hid, decide_eq_false_iff_not]
            intro h
            subst h
            rw [hx] at hy
            simp at hy
            exact hxy hy
          clear HT hx hy
          go_wp2_with fail
          go_quiet (fail)
          go_wp2
          go_ret
          exact ⟨by rw [HNO.out]; rfl, HF.out.drewN _⟩
      · have HYES : Hid (decide (xs = ys) = true) := by
          rw [Hid, decide_eq_true_iff]
          have := HT.out
          rw [List.take_of_length_le (show xs.length ≤ k by omega), List.take_of_length_le (show ys.length ≤ k by omega)] at this
          exact this
        clear HT
        go_wp2
        go_ret
        exact ⟨by rw [HYES.out]; rfl, HF.out⟩
  · have HNO : Hid (decide (xs = ys) = false) := by
      rw [Hid, decide_eq_false_iff_not]
      exact fun h => hl (by rw [h])
    have hlb : ((xs.length : Int) != (ys.length : Int)) = true := by simp; omega
    go_wp2
    go_ret
    exact ⟨by rw [HNO.out]; rfl, Fr.refl _ _⟩

set_option maxHeartbeats 1000000 in
theorem rising_any (v : Value) (zs : List Int) (w : World) (h : ISrc w v zs) :
    Calls Try.prog 24 #[v] w fun e w' => e = .returned (.bool (decide (rises (-1048576) zs))) ∧ Fr [] w w' := by
  obtain ⟨ao, cap, rfl, hcap, hmax, h64, b, off, ha, hc⟩ := h
  have HC : Hid (∀ j x, zs[j]? = some x → w.cell? ⟨b, off + j, none⟩ = some (.int .i64 x)) := hc
  have HA : Hid (0 < zs.length → ao = some ⟨b, off, none⟩) := ha
  have H64 : Hid (∀ z ∈ zs, in64 z) := h64
  clear hc ha h64
  have hml : zs.length ≤ 9223372036854775807 := by unfold maxLen at hmax; omega
  go_enter Try.func24, Try.ntmps24
  go_wp2
  go_loopw [3] (fun i wr => ∃ (k : Nat) (L : Int), k ≤ zs.length ∧ i = .int .i64 (k : Int) ∧ (rises (-1048576) zs ↔ rises L (zs.drop k)) ∧ (k = 0 → L = -1048576) ∧ (∀ y, 0 < k → zs[k - 1]? = some y → L = y + 1 ∧ -1048576 ≤ y) ∧ Fr [] w wr) (fun i _ => zs.length - (intOf i).toNat)
  case atStart => exact ⟨0, -1048576, by omega, rfl, by simp, fun _ => rfl, fun y h => by omega, Fr.refl _ _⟩
  case round =>
    obtain ⟨k, L, hk, rfl, hr, hL0, hL1, hf⟩ := hrel
    have HR : Hid (rises (-1048576) zs ↔ rises L (zs.drop k)) := hr
    have HF : Hid (Fr [] w wr) := hf
    have HL0 : Hid (k = 0 → L = -1048576) := hL0
    have HL1 : Hid (∀ y, 0 < k → zs[k - 1]? = some y → L = y + 1 ∧ -1048576 ≤ y) := hL1
    clear hr hf hL0 hL1
    by_cases hlt : k < zs.length
    · obtain rfl := HA.out (by omega)
      obtain ⟨x, hx⟩ := at_lt hlt
      have c0 : wr.cell? ⟨b, off + k, none⟩ = some (.int .i64 x) := HF.out.cell_some (HC.out k x hx) (by simp)
      have HX : Hid (zs[k]? = some x) := hx
      have HR2 : Hid (rises (-1048576) zs ↔ L ≤ x ∧ x ≤ 1048576 ∧ rises (x + 1) (zs.drop (k + 1))) := by
        have := HR.out
        rw [drop_at hx] at this
        exact this
      clear HR hx
      have HLlow : Hid (-1048576 ≤ L) := by
        by_cases h0 : k = 0
        · have := HL0.out h0; rw [Hid]; omega
        · obtain ⟨y, hy⟩ := at_lt (show k - 1 < zs.length by omega)
          have := HL1.out y (by omega) hy
          rw [Hid]; omega
      by_cases t1 : x < -1048576
      · have d1 : decide (x < -1048576) = true := decide_eq_true t1
        have HNO : Hid (decide (rises (-1048576) zs) = false) := by
          rw [Hid, decide_eq_false_iff_not, HR2.out]
          have := HLlow.out
          rintro ⟨h, _⟩; omega
        clear HR2
        go_wp2_with fail
        go_quiet (fail)
        go_wp2
        go_ret
        exact ⟨by rw [HNO.out]; rfl, HF.out.drewN _⟩
      · have d1 : decide (x < -1048576) = false := decide_eq_false t1
        by_cases t2 : 1048576 < x
        · have d2 : decide (1048576 < x) = true := decide_eq_true t2
          have HNO : Hid (decide (rises (-1048576) zs) = false) := by
            rw [Hid, decide_eq_false_iff_not, HR2.out]
            rintro ⟨_, h, _⟩; omega
          clear HR2
          go_wp2_with fail
          go_quiet (fail)
          go_wp2
          go_ret
          exact ⟨by rw [HNO.out]; rfl, HF.out.drewN _⟩
        · have d2 : decide (1048576 < x) = false := decide_eq_false t2
          by_cases h0 : k = 0
          · subst h0
            have d3 : decide ((0 : Int) < 0) = false := by decide
            simp only [Nat.add_zero] at c0
            go_wp2_with fail
            go_quiet (fail)
            go_wp2
            go_roundw
            case rel =>
              refine ⟨0 + 1, x + 1, by omega, by go_num, ?_, by omega, fun y _ hy => ?_, HF.out.drewN _⟩
              · rw [HR2.out]
                have := HL0.out (by first | rfl | trivial)
                exact ⟨fun h => h.2.2, fun h => ⟨by omega, by omega, h⟩⟩
              · have : x = y := by have := HX.out; simp at hy this; rw [this] at hy; simpa using hy
                subst this
                exact ⟨rfl, by omega⟩
            case measure => simp [intOf]; omega
          · obtain ⟨j, rfl⟩ : ∃ j, k = j + 1 := ⟨k - 1, by omega⟩
            obtain ⟨y, hy⟩ := at_lt (show j < zs.length by omega)
            have c1 : wr.cell? ⟨b, off + j, none⟩ = some (.int .i64 y) := HF.out.cell_some (HC.out j y hy) (by simp)
            have hly := HL1.out y (by omega) (by simpa using hy)
            have hLy : L = y + 1 := hly.1
            have d3 : decide ((0 : Int) < ((j + 1 : Nat) : Int)) = true := decide_eq_true (by omega)
            clear hy hly h0
            by_cases t3 : x ≤ y
            · have d4 : decide (x ≤ y) = true := decide_eq_true t3
              have HNO : Hid (decide (rises (-1048576) zs) = false) := by
                rw [Hid, decide_eq_false_iff_not, HR2.out]
                rintro ⟨h, _⟩; omega
              clear HR2 hLy
              go_wp2_with fail
              go_quiet (fail)
              go_wp2
              go_ret
              exact ⟨by rw [HNO.out]; rfl, HF.out.drewN _⟩
            · have d4 : decide (x ≤ y) = false := decide_eq_false t3
              have HLY : Hid (L = y + 1) := hLy
              clear hLy
              go_wp2_with fail
              go_quiet (fail)
              go_wp2
              go_roundw
              case rel =>
                refine ⟨j + 1 + 1, x + 1, by omega, by go_num, ?_, by omega, fun z _ hz => ?_, HF.out.drewN _⟩
                · rw [HR2.out]
                  have := HLY.out
                  exact ⟨fun h => h.2.2, fun h => ⟨by omega, by omega, h⟩⟩
                · have : x = z := by
                    have e := HX.out
                    rw [show j + 1 + 1 - 1 = j + 1 from by omega, e] at hz
                    simpa using hz
                  subst this
                  exact ⟨rfl, by omega⟩
              case measure => simp [intOf]; omega
    · have HYES : Hid (decide (rises (-1048576) zs) = true) := by
        rw [Hid, decide_eq_true_iff, HR.out, List.drop_eq_nil_of_le (by omega)]
        trivial
      clear HR
      go_wp2
      go_ret
      exact ⟨by rw [HYES.out]; rfl, HF.out⟩

end Go.Proofs.Ytoaibabkkphlaaa
