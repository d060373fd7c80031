/-
  Package span: Check, Count, Canonical.
-/
import Derived.Test.YtkphonepblkcdaaGreatDoorSMem
namespace Go.Proofs.YtkphonepblkcdaaGreatDoor
open Go.RowKit Mem Spans
open Classical
set_option linter.unusedSimpArgs false
set_option linter.unusedVariables false
set_option maxRecDepth 100000

theorem drop_at {α : Type} {l : List α} {k : Nat} {s : α} (h : l[k]? = some s) : l.drop k = s :: l.drop (k + 1) := by
  obtain ⟨hk, e⟩ := List.getElem?_eq_some_iff.1 h
  rw [List.drop_eq_getElem_cons hk, e]
theorem take_at {α : Type} {l : List α} {k : Nat} {s : α} (h : l[k]? = some s) : l.take (k + 1) = l.take k ++ [s] := by
  obtain ⟨hk, e⟩ := List.getElem?_eq_some_iff.1 h
  rw [List.take_succ_eq_append_getElem hk, e]
theorem at_lt {α : Type} {l : List α} {k : Nat} (h : k < l.length) : ∃ s, l[k]? = some s := ⟨l[k], List.getElem?_eq_getElem h⟩

set_option maxHeartbeats 1000000 in
theorem check_any (v : Value) (l : List Sp) (w : World) (h : SSrc w v l) :
    Calls Tryz.prog 68 #[v] w fun e w' => e = .returned (.int .i64 (chk l)) ∧ Fr [] w w' := by
  obtain ⟨ao, cap, rfl, hcap, hmax, h64, b, off, ha, hc⟩ := h
  have HC : Hid (∀ j s, l[j]? = some s → w.cell? ⟨b, off + j * 2, none⟩ = some (.int .i64 s.1) ∧ w.cell? ⟨b, off + j * 2 + 1, none⟩ = some (.int .i64 s.2)) := hc
  have HA : Hid (0 < l.length → ao = some ⟨b, off, none⟩) := ha
  have H64 : Hid (∀ s ∈ l, in64 s.1 ∧ in64 s.2) := h64
  clear hc ha h64
  go_enter Tryz.func68, Tryz.ntmps68
  by_cases hlen : 1024 < l.length
  · have e : chk l = 12 := by rw [chk_def]; rw [if_pos hlen]
    rw [e]
    go_wp2
    go_ret
    exact ⟨rfl, Fr.refl _ _⟩
  · have HK : Hid (chk l = if ok true 0 0 l then 0 else 20) := by rw [Hid, chk_def]; rw [if_neg hlen]
    go_wp2
    go_loopw [3, 4, 13] (fun p q i wr => ∃ (k : Nat) (P B : Int), k ≤ l.length ∧ i = .int .i64 (k : Int) ∧ p = .int .i64 P ∧ q = .int .i64 B ∧ (ok true 0 0 l ↔ ok ((k : Int) == 0) P B (l.drop k)) ∧ 0 ≤ P ∧ P ≤ 4096 ∧ -1048576 ≤ B ∧ B ≤ 1048577 ∧ (k = 0 → B = 0) ∧ Fr [] w wr) (fun _ _ i _ => l.length - (intOf i).toNat)
    case atStart => exact ⟨0, 0, 0, by omega, rfl, rfl, rfl, by simp, by omega, by omega, by omega, by omega, fun _ => rfl, Fr.refl _ _⟩
    case round =>
      obtain ⟨k, P, B, hk, rfl, rfl, rfl, hok, hP0, hP1, hB0, hB1, hBk, hf⟩ := hrel
      have HBK : Hid (k = 0 → B = 0) := hBk
      clear hBk
      have HF : Hid (Fr [] w wr) := hf
      have HO : Hid (ok true 0 0 l ↔ ok ((k : Int) == 0) P B (l.drop k)) := hok
      clear hf hok
      by_cases hlt : k < l.length
      · obtain rfl := HA.out (by omega)
        obtain ⟨s, hs⟩ := at_lt hlt
        have HS : Hid (l[k]? = some s) := hs
        have HM := H64.out s (List.mem_of_getElem? hs)
        have c0 : wr.cell? ⟨b, off + k * 2, none⟩ = some (.int .i64 s.1) := HF.out.cell_some (HC.out k s hs).1 (by simp)
        have c1 : wr.cell? ⟨b, off + k * 2 + 1, none⟩ = some (.int .i64 s.2) := HF.out.cell_some (HC.out k s hs).2 (by simp)
        have HD : Hid (ok true 0 0 l ↔ ok ((k : Int) == 0) P B (s :: l.drop (k + 1))) := by rw [Hid, ← drop_at hs]; exact HO.out
        clear hs HO
        have HF2 : Hid (Fr [] w (wr.alloc (.cells #[.int .i64 s.1, .int .i64 s.2] 64))) := HF.out.alloc _
        go_wp2_with fail
        refine (bound_any s ((k : Int) == 0) _ HM.1 HM.2).mono ?_
        rintro e w2 ⟨rfl, hf2⟩
        have d0 : w2.cell? ⟨wr.heap.size, 0, none⟩ = some (.int .i64 s.1) := hf2.cell_some (by rw [World.cell?_alloc_at _ _ _ _ rfl]; rfl) (by simp)
        have d1 : w2.cell? ⟨wr.heap.size, 1, none⟩ = some (.int .i64 s.2) := hf2.cell_some (by rw [World.cell?_alloc_at _ _ _ _ rfl]; rfl) (by simp)
        have HF3 : Hid (Fr [] w w2) := HF2.out.trans hf2 (by simp)
        clear hf2 HF2 c0 c1
        obtain ⟨o, n⟩ := s
        simp only at d0 d1
        by_cases hb : bnd ((k : Int) == 0) (o, n)
        · have hdb : decide (bnd ((k : Int) == 0) (o, n)) = true := decide_eq_true hb
          have HBN : Hid (bnd ((k : Int) == 0) (o, n)) := hb
          have hS : -1048576 ≤ o ∧ o ≤ 2097152 ∧ 0 ≤ n ∧ n ≤ 4096 := by
            obtain ⟨b1, b2, b3, b4⟩ := hb
            simp only at b1 b2 b3 b4
            refine ⟨?_, ?_, b3, b4⟩
            · unfold lo at b1; split at b1 <;> omega
            · unfold hi at b2; split at b2 <;> omega
          have HB0 : Hid (0 < k → 0 ≤ o) := by
            intro h0
            have e : ((k : Int) == 0) = false := by simp; omega
            have := hb.1
            rw [e] at this
            simpa [lo] using this
          clear hb
          obtain ⟨hS1, hS2, hS3, hS4⟩ := hS
          by_cases t1 : P + n ≤ 4096
          · by_cases t2 : B + o ≤ 1048576 ∧ B + o + n - 1 ≤ 1048576
            · obtain ⟨t2, t3⟩ := t2
              go_wp2
              go_roundw
              case rel =>
                refine ⟨k + 1, P + n, B + o + n, by omega, by go_num, rfl, rfl, ?_, by omega, by omega, ?_, by omega, by omega, HF3.out⟩
                · have e : (((k + 1 : Nat) : Int) == 0) = false := by simp; omega
                  rw [HD.out, e]
                  exact ⟨fun h => h.2.2.2.2, fun h => ⟨HBN.out, t1, t2, t3, h⟩⟩
                · by_cases h0 : k = 0
                  · have := HBK.out h0; omega
                  · have := HB0.out (by omega); omega
              case measure => simp [intOf]; omega
            · have hno : ¬ ok true 0 0 l := by
                rw [HD.out]
                exact fun h => t2 ⟨h.2.2.1, h.2.2.2.1⟩
              have HE : Hid (chk l = 20) := by rw [Hid, HK.out, if_neg hno]
              clear hno
              have t3 : 1048576 < B + o ∨ 1048576 < B + o + n - 1 := by omega
              go_wp2
              all_goals go_ret
              all_goals exact ⟨by rw [HE.out]; rfl, HF3.out⟩
          · have hno : ¬ ok true 0 0 l := by
              rw [HD.out]
              exact fun h => t1 h.2.1
            have HE : Hid (chk l = 20) := by rw [Hid, HK.out, if_neg hno]
            clear hno
            go_wp2
            all_goals go_ret
            all_goals exact ⟨by rw [HE.out]; rfl, HF3.out⟩
        · have hno : ¬ ok true 0 0 l := by
            rw [HD.out]
            exact fun h => hb h.1
          have HE : Hid (chk l = 20) := by rw [Hid, HK.out, if_neg hno]
          have hdb : decide (bnd ((k : Int) == 0) (o, n)) = false := decide_eq_false hb
          clear hno hb
          go_wp2
          all_goals go_ret
          all_goals exact ⟨by rw [HE.out]; rfl, HF3.out⟩
      · have hkl : k = l.length := by omega
        have hyes : ok true 0 0 l := by
          rw [HO.out, List.drop_eq_nil_of_le (by omega)]
          trivial
        have HE : Hid (chk l = 0) := by rw [Hid, HK.out, if_pos hyes]
        clear hyes
        go_wp2
        all_goals go_ret
        all_goals exact ⟨by rw [HE.out]; rfl, HF.out⟩
end Go.Proofs.YtkphonepblkcdaaGreatDoor
