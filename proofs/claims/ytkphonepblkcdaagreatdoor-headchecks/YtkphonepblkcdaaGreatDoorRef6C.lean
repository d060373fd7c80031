/-
  The document's Check.
-/
import Derived.Test.YtkphonepblkcdaaGreatDoorSCheck
import Derived.Deep.DeepCutAuto
namespace Go.Proofs.YtkphonepblkcdaaGreatDoor
open Go.RowKit Mem Spans
open Classical
set_option linter.unusedSimpArgs false
set_option linter.unusedVariables false
set_option maxRecDepth 100000

theorem dec4096 {n : Int} {c : Bool} (h : c = decide (n ≤ 4096)) : Value.bool (decide (4096 < n)) = Value.bool (!c) := by
  rw [h]
  congr 1
  by_cases hn : n ≤ 4096
  · rw [decide_eq_true hn, decide_eq_false (by omega)]; rfl
  · rw [decide_eq_false hn, decide_eq_true (by omega)]; rfl

set_option maxHeartbeats 8000000 in
theorem lcheck_any (v : Value) (l : List Sp) (w : World) (h : SSrc w v l) :
    Calls Tryz.prog 65 #[v] w fun e w' => e = .returned (.int .i64 (chk l)) ∧ Fr [] w w' := by
  obtain ⟨ao, cap, rfl, hcap, hmax, h64, b, off, ha, hc⟩ := h
  have HC : Hid (∀ j s, l[j]? = some s → w.cell? ⟨b, off + j * 2, none⟩ = some (.int .i64 s.1) ∧ w.cell? ⟨b, off + j * 2 + 1, none⟩ = some (.int .i64 s.2)) := hc
  have HA : Hid (0 < l.length → ao = some ⟨b, off, none⟩) := ha
  have H64 : Hid (∀ s ∈ l, in64 s.1 ∧ in64 s.2) := h64
  clear hc ha h64
  go_enter Tryz.func65, Tryz.ntmps65
  by_cases hlen : 1024 < l.length
  · have HE : Hid (chk l = 12) := by rw [Hid, chk_def]; rw [if_pos hlen]
    go_wp2
    go_ret
    exact ⟨by rw [HE.out]; rfl, Fr.refl _ _⟩
  · have HK : Hid (chk l = if ok true 0 0 l then 0 else 20) := by rw [Hid, chk_def]; rw [if_neg hlen]
    go_wp2
    go_loopw [3, 4, 5] (fun q p i wr => ∃ (k : Nat) (P B : Int), k ≤ l.length ∧ i = .int .i64 (k : Int) ∧ p = .int .i64 P ∧ q = .int .i64 B ∧ (ok true 0 0 l ↔ ok ((k : Int) == 0) P B (l.drop k)) ∧ 0 ≤ P ∧ P ≤ 4096 ∧ -1048576 ≤ B ∧ B ≤ 1048577 ∧ (k = 0 → B = 0) ∧ Fr [] w wr) (fun _ _ i _ => l.length - (intOf i).toNat)
    case atStart => exact ⟨0, 0, 0, by omega, rfl, rfl, rfl, by simp, by omega, by omega, by omega, by omega, fun _ => rfl, Fr.refl _ _⟩
    case round =>
      obtain ⟨k, P, B, hk, rfl, rfl, rfl, hok, hP0, hP1, hB0, hB1, hBk, hf⟩ := hrel
      have HBK : Hid (k = 0 → B = 0) := hBk
      have HF : Hid (Fr [] w wr) := hf
      have HO : Hid (ok true 0 0 l ↔ ok ((k : Int) == 0) P B (l.drop k)) := hok
      clear hf hok hBk
      by_cases hlt : k < l.length
      · obtain rfl := HA.out (by omega)
        obtain ⟨s, hs⟩ := at_lt hlt
        have HM := H64.out s (List.mem_of_getElem? hs)
        have c0 : wr.cell? ⟨b, off + k * 2, none⟩ = some (.int .i64 s.1) := HF.out.cell_some (HC.out k s hs).1 (by simp)
        have c1 : wr.cell? ⟨b, off + k * 2 + 1, none⟩ = some (.int .i64 s.2) := HF.out.cell_some (HC.out k s hs).2 (by simp)
        have HD : Hid (ok true 0 0 l ↔ ok ((k : Int) == 0) P B (s :: l.drop (k + 1))) := by rw [Hid, ← drop_at hs]; exact HO.out
        clear hs HO
        obtain ⟨o, n⟩ := s
        simp only at c0 c1
        obtain ⟨⟨ho1, ho2⟩, ⟨hn1, hn2⟩⟩ := HM
        simp only at ho1 ho2 hn1 hn2
        have HNB : Hid (¬ bnd ((k : Int) == 0) (o, n) → chk l = 20) := fun hb => by rw [HK.out, if_neg (by rw [HD.out]; exact fun h => hb h.1)]
        have HF2 : Hid (Fr [] w (wr.alloc (.cells #[.int .i64 o, .int .i64 n] 115))) := HF.out.alloc _
        have f0 : (wr.alloc (.cells #[.int .i64 o, .int .i64 n] 115)).cell? ⟨wr.heap.size, 0, none⟩ = some (.int .i64 o) := by rw [World.cell?_alloc_at _ _ _ _ rfl]; rfl
        have f1 : (wr.alloc (.cells #[.int .i64 o, .int .i64 n] 115)).cell? ⟨wr.heap.size, 1, none⟩ = some (.int .i64 n) := by rw [World.cell?_alloc_at _ _ _ _ rfl]; rfl
        go_upto_region 8 with fail
        generalize hW : wr.alloc (.cells #[.int .i64 o, .int .i64 n] 115) = wk at *
        go_cut [56] from 21 to 56 (fun c wx => c = .bool (!(decide (bnd ((k : Int) == 0) (o, n)))) ∧ wx = wk)
        case first =>
          by_cases h0 : k = 0
          · have HB0 : Hid (decide (bnd ((k : Int) == 0) (o, n)) = decide (-1048576 ≤ o ∧ o ≤ 1048576 ∧ 0 ≤ n ∧ n ≤ 4096)) := by rw [Hid, h0]; exact decide_eq_decide.2 Iff.rfl
            have HB1 : Hid True := trivial
            have e0 : ((k : Int) == 0) = true := by simp; omega
            have e1 : decide ((0 : Int) < (k : Int)) = false := decide_eq_false (by omega)
            have e2 : decide (0 < k) = false := decide_eq_false (by omega)
            have e3 : ¬ 0 < k := by omega
            clear HD HNB
            clear h0
            by_cases t1 : o < -1048576
            · have d0 : decide (o < -1048576) = true := decide_eq_true t1
              have HV : Hid (decide (bnd ((k : Int) == 0) (o, n)) = false) := by
                rw [Hid, HB0.out]; simp; omega
              clear HB0 HB1
              go_wp2
              go_meet
              exact ⟨by rw [HV.out]; rfl, rfl⟩
            · have d0 : decide (o < -1048576) = false := decide_eq_false t1
              by_cases t2 : 2097152 < o
              · have d1 : decide (2097152 < o) = true := decide_eq_true t2
                have HV : Hid (decide (bnd ((k : Int) == 0) (o, n)) = false) := by
                  rw [Hid, HB0.out]; simp; omega
                clear HB0 HB1
                go_wp2
                go_meet
                exact ⟨by rw [HV.out]; rfl, rfl⟩
              · have d1 : decide (2097152 < o) = false := decide_eq_false t2
                by_cases t3 : 1048576 < o
                · have d2 : decide (1048576 < o) = true := decide_eq_true t3
                  have HV : Hid (decide (bnd ((k : Int) == 0) (o, n)) = false) := by
                    rw [Hid, HB0.out]; simp; omega
                  clear HB0 HB1
                  go_wp2
                  go_meet
                  exact ⟨by rw [HV.out]; rfl, rfl⟩
                · have d2 : decide (1048576 < o) = false := decide_eq_false t3
                  by_cases t4 : n < 0
                  · have d3 : decide (n < 0) = true := decide_eq_true t4
                    have HV : Hid (decide (bnd ((k : Int) == 0) (o, n)) = false) := by
                      rw [Hid, HB0.out]; simp; omega
                    clear HB0 HB1
                    go_wp2
                    go_meet
                    exact ⟨by rw [HV.out]; rfl, rfl⟩
                  · have d3 : decide (n < 0) = false := decide_eq_false t4
                    have HV : Hid (decide (bnd ((k : Int) == 0) (o, n)) = decide (n ≤ 4096)) := by
                      rw [Hid, HB0.out]; exact decide_eq_decide.2 ⟨fun h => h.2.2.2, fun h => ⟨by omega, by omega, by omega, h⟩⟩
                    clear HB0 HB1
                    go_wp2
                    go_meet
                    exact ⟨dec4096 HV.out, rfl⟩
          · have hkf : ((k : Int) == 0) = false := by simp; omega
            have HB1 : Hid (decide (bnd ((k : Int) == 0) (o, n)) = decide (0 ≤ o ∧ o ≤ 2097152 ∧ 0 ≤ n ∧ n ≤ 4096)) := by rw [Hid, hkf]; exact decide_eq_decide.2 Iff.rfl
            have HB0 : Hid True := trivial
            have e1 : decide ((0 : Int) < (k : Int)) = true := decide_eq_true (by omega)
            have e2 : decide (0 < k) = true := decide_eq_true (by omega)
            have e3 : 0 < k := by omega
            clear HD HNB
            by_cases t1 : o < -1048576
            · have d0 : decide (o < -1048576) = true := decide_eq_true t1
              have HV : Hid (decide (bnd ((k : Int) == 0) (o, n)) = false) := by
                rw [Hid, HB1.out]; simp; omega
              clear HB0 HB1
              go_wp2
              go_meet
              exact ⟨by rw [HV.out]; rfl, rfl⟩
            · have d0 : decide (o < -1048576) = false := decide_eq_false t1
              by_cases t2 : 2097152 < o
              · have d1 : decide (2097152 < o) = true := decide_eq_true t2
                have HV : Hid (decide (bnd ((k : Int) == 0) (o, n)) = false) := by
                  rw [Hid, HB1.out]; simp; omega
                clear HB0 HB1
                go_wp2
                go_meet
                exact ⟨by rw [HV.out]; rfl, rfl⟩
              · have d1 : decide (2097152 < o) = false := decide_eq_false t2
                by_cases t3 : o < 0
                · have d2 : decide (o < 0) = true := decide_eq_true t3
                  have HV : Hid (decide (bnd ((k : Int) == 0) (o, n)) = false) := by
                    rw [Hid, HB1.out]; simp; omega
                  clear HB0 HB1
                  go_wp2
                  go_meet
                  exact ⟨by rw [HV.out]; rfl, rfl⟩
                · have d2 : decide (o < 0) = false := decide_eq_false t3
                  by_cases t4 : n < 0
                  · have d3 : decide (n < 0) = true := decide_eq_true t4
                    have HV : Hid (decide (bnd ((k : Int) == 0) (o, n)) = false) := by
                      rw [Hid, HB1.out]; simp; omega
                    clear HB0 HB1
                    go_wp2
                    go_meet
                    exact ⟨by rw [HV.out]; rfl, rfl⟩
                  · have d3 : decide (n < 0) = false := decide_eq_false t4
                    have HV : Hid (decide (bnd ((k : Int) == 0) (o, n)) = decide (n ≤ 4096)) := by
                      rw [Hid, HB1.out]; exact decide_eq_decide.2 ⟨fun h => h.2.2.2, fun h => ⟨by omega, by omega, by omega, h⟩⟩
                    clear HB0 HB1
                    go_wp2
                    go_meet
                    exact ⟨dec4096 HV.out, rfl⟩
        case rest =>
          obtain ⟨hc, hwx⟩ := hcut
          have hwx' := hwx.symm
          clear hwx
          subst hwx'
          by_cases hb : bnd ((k : Int) == 0) (o, n)
          · rw [show (!(decide (bnd ((k : Int) == 0) (o, n)))) = false from by rw [decide_eq_true hb]; rfl] at hc
            subst hc
            have hS : -1048576 ≤ o ∧ o ≤ 2097152 ∧ 0 ≤ n ∧ n ≤ 4096 := by
              obtain ⟨b1, b2, b3, b4⟩ := hb
              simp only at b1 b2 b3 b4
              refine ⟨?_, ?_, b3, b4⟩
              · unfold lo at b1; split at b1 <;> omega
              · unfold hi at b2; split at b2 <;> omega
            have HBN : Hid (bnd ((k : Int) == 0) (o, n)) := hb
            have HLOW : Hid (-1048576 ≤ B + o) := by
              by_cases h0 : k = 0
              · have := HBK.out h0; rw [Hid]; omega
              · have e : ((k : Int) == 0) = false := by simp; omega
                have h1 := hb.1
                rw [e] at h1
                have h2 : 0 ≤ o := by simpa [lo] using h1
                rw [Hid]; omega
            obtain ⟨hS1, hS2, hS3, hS4⟩ := hS
            have hlow := HLOW.out
            clear hb HNB
            by_cases t2 : B + o ≤ 1048576
            · obtain ⟨M, rfl⟩ : ∃ M : Nat, n = (M : Int) := ⟨n.toNat, by omega⟩
              have tl1 : decide (B + o < -1048576) = false := decide_eq_false (by omega)
              have tl2 : decide (1048576 < B + o) = false := decide_eq_false (by omega)
              go_wp2
              go_loopw [3, 4, 7] (fun q p i wx => ∃ (m : Nat), m ≤ M ∧ i = .int .i64 (m : Int) ∧ p = .int .i64 (P + (m : Int)) ∧ q = .int .i64 (B + o + (m : Int)) ∧ (m = 0 ∨ B + o + (m : Int) - 1 ≤ 1048576) ∧ wx = wk) (fun _ _ i _ => M - (intOf i).toNat)
              case atStart => exact ⟨0, by omega, rfl, by simp, by simp, .inl rfl, rfl⟩
              case round =>
                obtain ⟨m, hm, rfl, rfl, rfl, hmb, rfl⟩ := hrel
                have HMB : Hid (m = 0 ∨ B + o + (m : Int) - 1 ≤ 1048576) := hmb
                clear hmb
                by_cases hmlt : m < M
                · by_cases t3 : 1048576 < B + o + (m : Int)
                  · have HE : Hid (chk l = 20) := by
                      rw [Hid, HK.out, if_neg]
                      rw [HD.out]
                      intro h
                      have := h.2.2.2.1
                      simp only at this
                      omega
                    clear HD
                    go_wp2
                    go_ret
                    exact ⟨by rw [HE.out]; rfl, HF2.out⟩
                  · go_wp2
                    go_roundw
                    case rel => exact ⟨m + 1, by omega, by go_num, by rw [show P + ((m + 1 : Nat) : Int) = P + (m : Int) + 1 from by omega], by rw [show B + o + ((m + 1 : Nat) : Int) = B + o + (m : Int) + 1 from by omega], .inr (by omega), by trivial⟩
                    case measure => simp [intOf]; omega
                · obtain rfl : m = M := by omega
                  have hb3 : B + o + (m : Int) - 1 ≤ 1048576 := by
                    rcases HMB.out with h | h
                    · omega
                    · exact h
                  by_cases t4 : P + (m : Int) ≤ 4096
                  · go_wp2
                    go_roundw
                    case rel =>
                      refine ⟨k + 1, P + (m : Int), B + o + (m : Int), by omega, by go_num, rfl, rfl, ?_, by omega, by omega, by omega, by omega, by omega, HF2.out⟩
                      have e : (((k + 1 : Nat) : Int) == 0) = false := by simp; omega
                      rw [HD.out, e]
                      exact ⟨fun h => h.2.2.2.2, fun h => ⟨HBN.out, t4, t2, hb3, h⟩⟩
                    case measure => simp [intOf]; omega
                  · have HE : Hid (chk l = 20) := by
                      rw [Hid, HK.out, if_neg]
                      rw [HD.out]
                      exact fun h => t4 h.2.1
                    clear HD
                    go_wp2
                    go_ret
                    exact ⟨by rw [HE.out]; rfl, HF2.out⟩
            · have tl1 : decide (B + o < -1048576) = false := decide_eq_false (by omega)
              have tl2 : decide (1048576 < B + o) = true := decide_eq_true (by omega)
              have HE : Hid (chk l = 20) := by
                rw [Hid, HK.out, if_neg]
                rw [HD.out]
                exact fun h => t2 h.2.2.1
              clear HD
              go_wp2
              all_goals go_ret
              all_goals exact ⟨by rw [HE.out]; rfl, HF2.out⟩
          · rw [show (!(decide (bnd ((k : Int) == 0) (o, n)))) = true from by rw [decide_eq_false hb]; rfl] at hc
            subst hc
            have HE : Hid (chk l = 20) := HNB.out hb
            clear HNB HD hb
            go_wp2
            go_ret
            exact ⟨by rw [HE.out]; rfl, HF2.out⟩
      · have hkl : k = l.length := by omega
        have hyes : ok true 0 0 l := by
          rw [HO.out, List.drop_eq_nil_of_le (by omega)]
          trivial
        have HE : Hid (chk l = 0) := by rw [Hid, HK.out, if_pos hyes]
        clear hyes
        go_wp2
        go_ret
        exact ⟨by rw [HE.out]; rfl, HF.out⟩
end Go.Proofs.YtkphonepblkcdaaGreatDoor
