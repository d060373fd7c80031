/-
  LayoutExpands: whatever values and inserts, the law returns true, and nothing is turned that was there.
-/
import Derived.Test.YtakjfggkfhjeaaaAwake8
import Derived.Test.YtakjfggkfhjeaaaLaw8N
import Derived.Test.YtakjfggkfhjeaaaArgsI
namespace Go.Proofs.Ytakjfggkfhjeaaa
open Go.RowKit Mem Spans
set_option linter.unusedSimpArgs false
set_option linter.unusedVariables false
set_option maxRecDepth 100000

theorem asc_end {a n : Int} {l : List Sp} (h : asc a n l) (ha : n ≤ a) : l = [] := by
  cases l with
  | nil => rfl
  | cons s r => have := h.1; have := h.2.1; omega
theorem smN_take {a n : Int} {l : List Sp} (h : asc a n l) (k : Nat) : 0 ≤ smN (l.take k) := by
  induction l generalizing a k with
  | nil => simp [smN]
  | cons s r ih =>
    cases k with
    | zero => simp [smN]
    | succ k => have := ih h.2.2.2 k; have := h.2.2.1; simp only [List.take_succ_cons, smN]; omega

set_option maxHeartbeats 4000000 in
theorem lexpands_walk (a0 : Option Addr) (len0 cap0 : Nat) (z0 : List Int) (a1 : Option Addr) (len1 cap1 : Nat) (z1 : List Sp) (z : Int) (w : World) (w0 : IsRow .i64 w a0 len0 cap0 z0) (w1 : IsSpans w a1 len1 cap1 z1) (hz : (Lit.int .i64 z).wf = true) :
    Calls Try.prog 4 #[.slice a0 len0 cap0, .slice a1 len1 cap1, .int .i64 z] w fun e w' => e = .returned (.bool true) ∧ Below w.heap.size w w' := by
  obtain ⟨vs, rfl, hsrc⟩ := w0.isrc
  obtain ⟨rfl, hs1⟩ := w1
  have HA : Hid (ISrc w (.slice a0 vs.length cap0) vs) := hsrc
  have HB : Hid (SSrc w (.slice a1 z1.length cap1) z1) := hs1
  have HZ : Hid (in64 z) := by simp [Lit.wf, IntKind.min, IntKind.max, IntKind.bits, IntKind.signed] at hz; unfold Hid in64; omega
  clear hsrc hs1 w0 hz
  have HAW : Hid (∀ wx : World, Fr [] w wx → Calls Try.prog 8 #[] wx fun e w' => e = .returned (.bool true) ∧ Below w.heap.size w w') := by
    intro wx hf
    refine (awake8_any wx).mono ?_
    rintro e w' ⟨rfl, hf'⟩
    exact ⟨rfl, (hf.trans hf' (by simp)).below (Nat.le_refl _) (by simp)⟩
  go_enter Try.func4, Try.ntmps4
  by_cases hl0 : 200 < vs.length
  · go_wp2_with fail
    refine (HAW.out _ (Fr.refl _ _)).mono ?_
    rintro e w2 ⟨rfl, hb⟩
    have HBL : Hid (Below w.heap.size w w2) := hb
    clear hb
    go_wp2
    go_ret
    exact ⟨rfl, HBL.out⟩
  · by_cases hl1 : 200 < z1.length
    · go_wp2_with fail
      refine (HAW.out _ (Fr.refl _ _)).mono ?_
      rintro e w2 ⟨rfl, hb⟩
      have HBL : Hid (Below w.heap.size w w2) := hb
      clear hb
      go_wp2
      go_ret
      exact ⟨rfl, HBL.out⟩
    · go_wp2_with fail
      refine (expand_any _ _ vs z1 z w HA.out HB.out (by omega) HZ.out).mono ?_
      rintro e w1 ⟨v, rfl, hv, hf1⟩
      have HF1 : Hid (Fr [] w w1) := hf1
      have HV : Hid (NOwn 2 0 w1 v (exv z vs z1)) := hv.mono (Nat.zero_le _)
      clear hv hf1
      go_wp2_with fail
      refine (right_any _ z1 vs.length w1 (HB.out.kept HF1.out) (by omega)).mono ?_
      rintro e w2 ⟨rfl, hf2⟩
      have HF2 : Hid (Fr [] w w2) := HF1.out.trans hf2 (by simp)
      have HV2 : Hid (NOwn 2 0 w2 v (exv z vs z1)) := HV.out.kept hf2
      clear hf2 HF1 HV
      go_wp2_with fail
      refine (lright_any _ z1 vs.length w2 (HB.out.kept HF2.out) (by omega)).mono ?_
      rintro e w3 ⟨rfl, hf3⟩
      have HF3 : Hid (Fr [] w w3) := HF2.out.trans hf3 (by simp)
      have HV3 : Hid (NOwn 2 0 w3 v (exv z vs z1)) := HV2.out.kept hf3
      clear hf3 HF2 HV2
      by_cases hr : rgtB (-1) 4096 vs.length z1 = true
      · rw [hr]
        go_wp2_with fail
        refine (lright_any _ z1 vs.length w3 (HB.out.kept HF3.out) (by omega)).mono ?_
        rintro e w4 ⟨rfl, hf4⟩
        rw [hr]
        have HF4 : Hid (Fr [] w w4) := HF3.out.trans hf4 (by simp)
        have HV4 : Hid (NOwn 2 0 w4 v (exv z vs z1)) := HV3.out.kept hf4
        have e1 : exe vs z1 = 0 := by unfold exe; rw [if_pos hr]
        have HE : Hid (exv z vs z1 = exf z vs 0 z1) := by unfold Hid exv; rw [if_pos hr]
        have HRG : Hid (asc (-1) vs.length z1 ∧ smN z1 ≤ 4096) := (rgtB_iff (by omega)).1 hr
        rw [e1]
        clear hf4 HF3 HV3 hr e1
        go_wp2
        obtain ⟨i0, hi⟩ := info_int64
        have HI : Hid (NInfo 2 i0) := hi
        clear hi
        obtain ⟨_, _, hva, hcapA, _, h64, b, off, ha, hc⟩ := HA.out
        simp only [Value.slice.injEq] at hva
        obtain ⟨rfl, _, rfl⟩ := hva
        have HCA : Hid (∀ j x, vs[j]? = some x → w.cell? ⟨b, off + j, none⟩ = some (.int .i64 x)) := hc
        have HAA : Hid (0 < vs.length → a0 = some ⟨b, off, none⟩) := ha
        have H64 : Hid (∀ x ∈ vs, in64 x) := h64
        clear ha hc h64
        obtain ⟨_, _, hvb, hcapB, _, _, b2, off2, ha2, hc2⟩ := HB.out
        simp only [Value.slice.injEq] at hvb
        obtain ⟨rfl, _, rfl⟩ := hvb
        have HCB : Hid (∀ j s, z1[j]? = some s → w.cell? ⟨b2, off2 + j * 2, none⟩ = some (.int .i64 s.1) ∧ w.cell? ⟨b2, off2 + j * 2 + 1, none⟩ = some (.int .i64 s.2)) := hc2
        have HAB : Hid (0 < z1.length → a1 = some ⟨b2, off2, none⟩) := ha2
        clear ha2 hc2
        have HLEN : Hid (∀ (out : List Int) (r : List Int), exf z vs 0 z1 = out ++ r → out.length ≤ 1000000) := by
          intro out r h
          have h1 := exf_length (z := z) (t := 0) HRG.out.1 (by omega) (by omega) (by omega)
          rw [h, List.length_append] at h1
          have := HRG.out.2
          omega
        go_loopw [9, 10, 11] (fun u kv iv wr => ∃ (k i : Nat) (out : List Int), k ≤ z1.length ∧ i ≤ vs.length + 1 ∧ kv = .int .i64 (k : Int) ∧ iv = .int .i64 (i : Int) ∧ asc ((i : Int) - 1) vs.length (z1.drop k) ∧ exf z vs 0 z1 = out ++ exf z vs i (z1.drop k) ∧ NOwn 2 w4.heap.size wr u out ∧ Fr [] w4 wr) (fun _ _ i _ => vs.length + 1 - (intOf i).toNat)
        case atStart => exact ⟨0, 0, [], by omega, by omega, rfl, rfl, HRG.out.1, rfl, .inl ⟨rfl, rfl⟩, Fr.refl _ _⟩
        case round =>
          obtain ⟨k, i, out, hk, hi, rfl, rfl, has, hex, hno, hf⟩ := hrel
          have HFF : Hid (Fr [] w4 wr) := hf
          have HNN : Hid (NOwn 2 w4.heap.size wr u9 out) := hno
          have HX : Hid (exf z vs 0 z1 = out ++ exf z vs i (z1.drop k)) := hex
          have HAS : Hid (asc ((i : Int) - 1) vs.length (z1.drop k)) := has
          clear hf hno hex has
          by_cases hil : i ≤ vs.length
          · by_cases hkl : k < z1.length
            · obtain rfl := HAB.out (by omega)
              obtain ⟨s, hs⟩ := at_lt hkl
              have c0 : wr.cell? ⟨b2, off2 + k * 2, none⟩ = some (.int .i64 s.1) := (HF4.out.trans HFF.out (by simp)).cell_some (HCB.out k s hs).1 (by simp)
              have c1 : wr.cell? ⟨b2, off2 + k * 2 + 1, none⟩ = some (.int .i64 s.2) := (HF4.out.trans HFF.out (by simp)).cell_some (HCB.out k s hs).2 (by simp)
              have hasc : asc ((i : Int) - 1) vs.length (s :: z1.drop (k + 1)) := by rw [← drop_at hs]; exact HAS.out
              have hexs : exf z vs 0 z1 = out ++ exf z vs i (s :: z1.drop (k + 1)) := by rw [← drop_at hs]; exact HX.out
              have hsm : s.2 ≤ 4096 := by
                have h1 := HRG.out.2
                have h2 : smN z1 = smN (z1.take k) + (s.2 + smN (z1.drop (k + 1))) := by
                  conv => lhs; rw [← List.take_append_drop k z1, smN_append, drop_at hs]
                  rfl
                have h3 := smN_take HRG.out.1 k
                have h4 := smN_nonneg hasc.2.2.2
                omega
              obtain ⟨o, q⟩ := s
              obtain ⟨hs1, hs2, hs3, hs4⟩ := hasc
              simp only at c0 c1 hs1 hs2 hs3 hs4 hsm
              by_cases hoi : o = (i : Int)
              · obtain ⟨M, rfl⟩ : ∃ M : Nat, q = (M : Int) := ⟨q.toNat, by omega⟩
                have HXA : Hid (exf z vs 0 z1 = out ++ (List.replicate M z ++ exf z vs i (z1.drop (k + 1)))) := by
                  rw [Hid, hexs, exf_at (by exact hoi)]; rfl
                have HASA : Hid (asc (i : Int) vs.length (z1.drop (k + 1))) := by rw [Hid, ← hoi]; exact hs4
                subst hoi
                have hM4 : M ≤ 4096 := by omega
                clear hs hs1 hs2 hs3 hs4 hexs HX HAS
                go_wp2
                generalize hW0 : wr = W0 at HFF HNN c0 c1 ⊢
                clear hW0 c0 c1
                go_loopw [9, 76] (fun u mv wr => ∃ (m : Nat), m ≤ M ∧ mv = .int .i64 (m : Int) ∧ NOwn 2 w4.heap.size wr u (out ++ List.replicate m z) ∧ Fr [] w4 wr) (fun _ m _ => M - (intOf m).toNat)
                case atStart => exact ⟨0, by omega, rfl, by simpa using HNN.out, HFF.out⟩
                case round =>
                  obtain ⟨m, hm, rfl, hno, hf⟩ := hrel
                  have HFM : Hid (Fr [] w4 wr) := hf
                  have HNM : Hid (NOwn 2 w4.heap.size wr u9 (out ++ List.replicate m z)) := hno
                  clear hf hno
                  by_cases hmM : m < M
                  · have HSZ : Hid (w4.heap.size ≤ wr.heap.size) := HFM.out.size
                    have HLM : Hid ((out ++ List.replicate m z).length ≤ 1000000) := by
                      have := HLEN.out (out ++ List.replicate M z) _ (by rw [List.append_assoc]; exact HXA.out)
                      rw [Hid]
                      simp only [List.length_append, List.length_replicate] at this ⊢
                      omega
                    have HEM : Hid (out ++ List.replicate (m + 1) z = (out ++ List.replicate m z) ++ [z]) := by rw [Hid, List.replicate_succ', List.append_assoc]
                    go_wp2_with (at_builtin; refine wpList_append_n _ rfl _ _ 36 rfl Try.underlying36 HI.out.1 HI.out.2.1 HI.out.2.2.1 HI.out.2.2.2 (B := w4.heap.size) (s := z) (by have := HSZ.out; simp; omega) rfl rfl (HNM.out.kept ((Fr.refl [] _).alloc _)) (lit_n 2 wr [z] rfl HSZ.out (by simp) (by unfold maxLen; simp)) HLM.out ?_; intro v6 w6 ho6 hb6; have HO6 : Hid (NOwn 2 w4.heap.size w6 v6 ((out ++ List.replicate m z) ++ [z])) := ho6; have HB6 : Hid (Fr [] w4 w6) := Fr.ofBelow (((HFM.out.alloc _).below (Nat.le_refl _) (by simp)).trans hb6); clear ho6 hb6)
                    go_roundw
                    case rel => exact ⟨m + 1, by omega, by go_num, by rw [HEM.out]; exact HO6.out, HB6.out⟩
                    case measure => simp [intOf]; omega
                  · obtain rfl : m = M := by omega
                    have HXB : Hid (exf z vs 0 z1 = (out ++ List.replicate m z) ++ exf z vs i (z1.drop (k + 1))) := by rw [Hid, HXA.out, List.append_assoc]
                    clear HXA
                    by_cases hin : i < vs.length
                    · obtain rfl := HAA.out (by omega)
                      obtain ⟨x, hx⟩ := at_lt hin
                      have c2 : wr.cell? ⟨b, off + i, none⟩ = some (.int .i64 x) := (HF4.out.trans HFM.out (by simp)).cell_some (HCA.out i x hx) (by simp)
                      have HX9 : Hid (exf z vs 0 z1 = ((out ++ List.replicate m z) ++ [x]) ++ exf z vs (i + 1) (z1.drop (k + 1))) := by rw [Hid, HXB.out, exf_next HASA.out hx]; simp
                      have HSZ : Hid (w4.heap.size ≤ wr.heap.size) := HFM.out.size
                      have HLZ : Hid (((out ++ List.replicate m z)).length ≤ 1000000) := HLEN.out _ _ HXB.out
                      clear hx
                      go_wp2_with (at_builtin; refine wpList_append_n _ rfl _ _ 36 rfl Try.underlying36 HI.out.1 HI.out.2.1 HI.out.2.2.1 HI.out.2.2.2 (B := w4.heap.size) (s := x) (by have := HSZ.out; simp; omega) rfl rfl (HNM.out.kept ((Fr.refl [] _).alloc _)) (lit_n 2 wr [x] rfl HSZ.out (by simp) (by unfold maxLen; simp)) HLZ.out ?_; intro v6 w6 ho6 hb6; have HO6 : Hid (NOwn 2 w4.heap.size w6 v6 (((out ++ List.replicate m z)) ++ [x])) := ho6; have HB6 : Hid (Fr [] w4 w6) := Fr.ofBelow (((HFM.out.alloc _).below (Nat.le_refl _) (by simp)).trans hb6); clear ho6 hb6)
                      go_roundw
                      case rel => exact ⟨k + 1, i + 1, _, by omega, by omega, rfl, by go_num, by rw [show (((i + 1 : Nat)) : Int) - 1 = (i : Int) from by omega]; exact HASA.out, HX9.out, HO6.out, HB6.out⟩
                      case measure => simp [intOf]; omega
                    · have hie : i = vs.length := by omega
                      have HX9 : Hid (exf z vs 0 z1 = (out ++ List.replicate m z) ++ exf z vs (i + 1) (z1.drop (k + 1))) := by
                        have hnil := asc_end (n := vs.length) HASA.out (by omega)
                        have h1 := HXB.out
                        rw [hnil] at h1
                        rw [Hid, hnil]
                        rw [h1]
                        simp only [exf]
                        rw [List.drop_of_length_le (by omega), List.drop_of_length_le (by omega)]
                      go_wp2
                      go_roundw
                      case rel => exact ⟨k + 1, i + 1, _, by omega, by omega, rfl, by go_num, by rw [show (((i + 1 : Nat)) : Int) - 1 = (i : Int) from by omega]; exact HASA.out, HX9.out, HNM.out, HFM.out⟩
                      case measure => simp [intOf]; omega
              · have HASB : Hid (asc (i : Int) vs.length (z1.drop k)) := by rw [Hid, drop_at hs]; exact ⟨by show (i : Int) < o; omega, hs2, hs3, hs4⟩
                have hok : ((o : Int) == (i : Int)) = false := by simpa using hoi
                clear hs hs1 hs2 hs3 hs4 hexs HAS
                by_cases hin : i < vs.length
                · obtain rfl := HAA.out (by omega)
                  obtain ⟨x, hx⟩ := at_lt hin
                  have c2 : wr.cell? ⟨b, off + i, none⟩ = some (.int .i64 x) := (HF4.out.trans HFF.out (by simp)).cell_some (HCA.out i x hx) (by simp)
                  have HX9 : Hid (exf z vs 0 z1 = (out ++ [x]) ++ exf z vs (i + 1) (z1.drop (k))) := by rw [Hid, HX.out, exf_next HASB.out hx]; simp
                  have HSZ : Hid (w4.heap.size ≤ wr.heap.size) := HFF.out.size
                  have HLZ : Hid ((out).length ≤ 1000000) := HLEN.out _ _ HX.out
                  clear hx
                  go_wp2_with (at_builtin; refine wpList_append_n _ rfl _ _ 36 rfl Try.underlying36 HI.out.1 HI.out.2.1 HI.out.2.2.1 HI.out.2.2.2 (B := w4.heap.size) (s := x) (by have := HSZ.out; simp; omega) rfl rfl (HNN.out.kept ((Fr.refl [] _).alloc _)) (lit_n 2 wr [x] rfl HSZ.out (by simp) (by unfold maxLen; simp)) HLZ.out ?_; intro v6 w6 ho6 hb6; have HO6 : Hid (NOwn 2 w4.heap.size w6 v6 ((out) ++ [x])) := ho6; have HB6 : Hid (Fr [] w4 w6) := Fr.ofBelow (((HFF.out.alloc _).below (Nat.le_refl _) (by simp)).trans hb6); clear ho6 hb6)
                  go_roundw
                  case rel => exact ⟨k, i + 1, _, by omega, by omega, rfl, by go_num, by rw [show (((i + 1 : Nat)) : Int) - 1 = (i : Int) from by omega]; exact HASB.out, HX9.out, HO6.out, HB6.out⟩
                  case measure => simp [intOf]; omega
                · have hie : i = vs.length := by omega
                  have HX9 : Hid (exf z vs 0 z1 = out ++ exf z vs (i + 1) (z1.drop (k))) := by
                    have hnil := asc_end (n := vs.length) HASB.out (by omega)
                    have h1 := HX.out
                    rw [hnil] at h1
                    rw [Hid, hnil]
                    rw [h1]
                    simp only [exf]
                    rw [List.drop_of_length_le (by omega), List.drop_of_length_le (by omega)]
                  go_wp2
                  go_roundw
                  case rel => exact ⟨k, i + 1, _, by omega, by omega, rfl, by go_num, by rw [show (((i + 1 : Nat)) : Int) - 1 = (i : Int) from by omega]; exact HASB.out, HX9.out, HNN.out, HFF.out⟩
                  case measure => simp [intOf]; omega
            · have HASB : Hid (asc (i : Int) vs.length (z1.drop k)) := by rw [Hid, List.drop_eq_nil_of_le (by omega)]; trivial
              clear HAS
              by_cases hin : i < vs.length
              · obtain rfl := HAA.out (by omega)
                obtain ⟨x, hx⟩ := at_lt hin
                have c2 : wr.cell? ⟨b, off + i, none⟩ = some (.int .i64 x) := (HF4.out.trans HFF.out (by simp)).cell_some (HCA.out i x hx) (by simp)
                have HX9 : Hid (exf z vs 0 z1 = (out ++ [x]) ++ exf z vs (i + 1) (z1.drop (k))) := by rw [Hid, HX.out, exf_next HASB.out hx]; simp
                have HSZ : Hid (w4.heap.size ≤ wr.heap.size) := HFF.out.size
                have HLZ : Hid ((out).length ≤ 1000000) := HLEN.out _ _ HX.out
                clear hx
                go_wp2_with (at_builtin; refine wpList_append_n _ rfl _ _ 36 rfl Try.underlying36 HI.out.1 HI.out.2.1 HI.out.2.2.1 HI.out.2.2.2 (B := w4.heap.size) (s := x) (by have := HSZ.out; simp; omega) rfl rfl (HNN.out.kept ((Fr.refl [] _).alloc _)) (lit_n 2 wr [x] rfl HSZ.out (by simp) (by unfold maxLen; simp)) HLZ.out ?_; intro v6 w6 ho6 hb6; have HO6 : Hid (NOwn 2 w4.heap.size w6 v6 ((out) ++ [x])) := ho6; have HB6 : Hid (Fr [] w4 w6) := Fr.ofBelow (((HFF.out.alloc _).below (Nat.le_refl _) (by simp)).trans hb6); clear ho6 hb6)
                go_roundw
                case rel => exact ⟨k, i + 1, _, by omega, by omega, rfl, by go_num, by rw [show (((i + 1 : Nat)) : Int) - 1 = (i : Int) from by omega]; exact HASB.out, HX9.out, HO6.out, HB6.out⟩
                case measure => simp [intOf]; omega
              · have hie : i = vs.length := by omega
                have HX9 : Hid (exf z vs 0 z1 = out ++ exf z vs (i + 1) (z1.drop (k))) := by
                  have hnil := asc_end (n := vs.length) HASB.out (by omega)
                  have h1 := HX.out
                  rw [hnil] at h1
                  rw [Hid, hnil]
                  rw [h1]
                  simp only [exf]
                  rw [List.drop_of_length_le (by omega), List.drop_of_length_le (by omega)]
                go_wp2
                go_roundw
                case rel => exact ⟨k, i + 1, _, by omega, by omega, rfl, by go_num, by rw [show (((i + 1 : Nat)) : Int) - 1 = (i : Int) from by omega]; exact HASB.out, HX9.out, HNN.out, HFF.out⟩
                case measure => simp [intOf]; omega
          · have HE2 : Hid (exf z vs 0 z1 = out) := by
              have hnil := asc_end (n := vs.length) HAS.out (by omega)
              rw [Hid, HX.out, hnil]
              simp only [exf]
              rw [List.drop_of_length_le (by omega), List.append_nil]
            have HVX : Hid (NOwn 2 0 wr v out) := by have := HV4.out.kept HFF.out; rw [HE.out, HE2.out] at this; exact this
            have HIN : Hid (∀ x ∈ out, in64 x) := by
              intro x hx
              rw [← HE2.out] at hx
              rcases exf_mem x hx with rfl | h
              · exact HZ.out
              · exact H64.out x h
            have hgt : ¬ (i : Int) ≤ (vs.length : Int) := by omega
            clear HX HAS
            go_wp2_with fail
            refine (lsame8_any _ _ out out wr (HVX.out.src HIN.out) (HNN.out.src HIN.out)).mono ?_
            rintro e w6 ⟨rfl, hf6⟩
            rw [show decide (out = out) = true from by simp]
            have HF6 : Hid (Fr [] w w6) := (HF4.out.trans HFF.out (by simp)).trans hf6 (by simp)
            clear hf6
            go_wp2_with fail
            refine (HAW.out _ HF6.out).mono ?_
            rintro e w7 ⟨rfl, hb⟩
            have HBL : Hid (Below w.heap.size w w7) := hb
            clear hb
            go_wp2
            go_ret
            exact ⟨rfl, HBL.out⟩
      · have hr' : rgtB (-1) 4096 vs.length z1 = false := by simpa using hr
        have e1 : exe vs z1 = 11 := by unfold exe; rw [if_neg hr]
        have e2 : v = .slice none 0 0 := by
          have := HV3.out
          rw [show exv z vs z1 = [] from by unfold exv; rw [if_neg hr]] at this
          exact this.nil
        subst e2
        rw [hr', e1]
        go_wp2_with fail
        refine (lright_any _ z1 vs.length w3 (HB.out.kept HF3.out) (by omega)).mono ?_
        rintro e w4 ⟨rfl, hf4⟩
        rw [hr']
        have HF4 : Hid (Fr [] w w4) := HF3.out.trans hf4 (by simp)
        clear hr hr' e1 HV3 hf4
        go_wp2_with fail
        refine (HAW.out _ HF4.out).mono ?_
        rintro e w7 ⟨rfl, hb⟩
        have HBL : Hid (Below w.heap.size w w7) := hb
        clear hb
        go_wp2
        go_ret
        exact ⟨rfl, HBL.out⟩
end Go.Proofs.Ytakjfggkfhjeaaa
