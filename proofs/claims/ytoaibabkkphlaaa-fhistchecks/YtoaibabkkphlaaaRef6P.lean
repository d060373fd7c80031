/-
  The document's Places, Merge.
-/
import Derived.Test.YtoaibabkkphlaaaSApp
import Derived.Test.YtoaibabkkphlaaaRef6
import Derived.Deep.DeepCutAuto
namespace Go.Proofs.Ytoaibabkkphlaaa
open Go.RowKit Mem Spans
set_option linter.unusedSimpArgs false
set_option linter.unusedVariables false
set_option maxRecDepth 100000

theorem one_own {B : Nat} (w : World) (x : Int) (h : B ≤ w.heap.size) : IOwn B (w.alloc (.cells #[.int .i64 x] 3)) (.slice (some ⟨w.heap.size, 0, none⟩) 1 1) [x] :=
  .inr ⟨w.heap.size, h, by simp, Row.made (xs := inCells [x]) (by rw [heap_alloc_new]; rfl) (by unfold maxLen; decide) rfl⟩

set_option maxHeartbeats 4000000 in
theorem lplaces_any (v : Value) (l : List Sp) (w : World) (h : SSrc w v l) (hk0 : chk l = 0) :
    Calls Try.prog 55 #[v] w fun e w' => ∃ u, e = .returned u ∧ IOwn w.heap.size w' u (pls l) ∧ Fr [] w w' := by
  obtain ⟨ao, cap, rfl, hcap, hmax, h64, b, off, ha, hc⟩ := h
  have HC : Hid (∀ j s, l[j]? = some s → w.cell? ⟨b, off + j * 2, none⟩ = some (.int .i64 s.1) ∧ w.cell? ⟨b, off + j * 2 + 1, none⟩ = some (.int .i64 s.2)) := hc
  have HA : Hid (0 < l.length → ao = some ⟨b, off, none⟩) := ha
  have HPL : Hid (pls l = plc 0 l) := by unfold Hid pls; rw [if_pos hk0]
  have HLE : Hid ((plc 0 l).length ≤ 4096) := by rw [Hid, ← HPL.out]; exact pls_le l
  have hlen := (chk_zero.1 hk0).1
  have HO : Hid (ok true 0 0 l) := (chk_zero.1 hk0).2
  clear hc ha h64 hk0
  go_enter Try.func55, Try.ntmps55
  go_wp2
  go_loopw [3, 4, 5] (fun u p i wr => ∃ (k : Nat) (A : Int), k ≤ l.length ∧ i = .int .i64 (k : Int) ∧ p = .int .i64 A ∧ A = bhd 0 (l.take k) ∧ (k = 0 → A = 0) ∧ -1048576 ≤ A ∧ A ≤ 1048577 ∧ IOwn w.heap.size wr u (plc 0 (l.take k)) ∧ Fr [] w wr) (fun _ _ i _ => l.length - (intOf i).toNat)
  case atStart => exact ⟨0, 0, by omega, rfl, rfl, by simp [bhd], fun _ => rfl, by omega, by omega, .inl ⟨by simp [plc], rfl⟩, Fr.refl _ _⟩
  case round =>
    obtain ⟨k, A, hk, rfl, rfl, hA, hA0, hA1, hA2, hio, hf⟩ := hrel
    have HAA : Hid (A = bhd 0 (l.take k) ∧ (k = 0 → A = 0)) := ⟨hA, hA0⟩
    have HI : Hid (IOwn w.heap.size wr u3 (plc 0 (l.take k))) := hio
    have HF : Hid (Fr [] w wr) := hf
    clear hA hA0 hio hf
    by_cases hlt : k < l.length
    · obtain rfl := HA.out (by omega)
      obtain ⟨s, hs⟩ := at_lt hlt
      have c0 : wr.cell? ⟨b, off + k * 2, none⟩ = some (.int .i64 s.1) := HF.out.cell_some (HC.out k s hs).1 (by simp)
      have hat := ok_at HO.out k s hs
      have hod : ok (decide (k = 0)) (cnt (l.take k)) (bhd 0 (l.take k)) (s :: l.drop (k + 1)) := by rw [← drop_at hs]; exact ok_drop HO.out k
      obtain ⟨_, _, ho1, ho2, _⟩ := hod
      rw [← HAA.out.1] at ho1 ho2
      have HTK : Hid (plc 0 (l.take (k + 1)) = plc 0 (l.take k) ++ run (A + s.1) s.2.toNat ∧ bhd 0 (l.take (k + 1)) = A + s.1 + s.2) := by
        rw [Hid, take_at hs, plc_append, bhd_append, ← HAA.out.1]
        simp [plc, bhd]
      have HLow : Hid (-1048576 ≤ A + s.1) := by
        by_cases h0 : k = 0
        · have := HAA.out.2 h0; rw [Hid]; omega
        · have := hat.2.2.2.2 (by omega); rw [Hid]; omega
      have HPB : Hid ((plc 0 (l.take (k + 1))).length ≤ 4096) := by
        have h1 : plc 0 (l.take (k + 1)) <+: plc 0 l := by
          conv => rhs; rw [← List.take_append_drop (k + 1) l]
          rw [plc_append]
          exact List.prefix_append _ _
        have := h1.length_le
        have := HLE.out
        rw [Hid]; omega
      have hlow := HLow.out
      obtain ⟨hat1, hat2, hat3, hat4, _⟩ := hat
      have HCK : Hid (∀ wx, Fr [] w wx → wx.cell? ⟨b, off + k * 2 + 1, none⟩ = some (.int .i64 s.2)) := fun wx hx => hx.cell_some (HC.out k s hs).2 (by simp)
      clear HLow hs
      obtain ⟨o, q⟩ := s
      simp only at c0 hat1 hat2 hat3 hat4 ho1 ho2 hlow
      obtain ⟨M, rfl⟩ : ∃ M : Nat, q = (M : Int) := ⟨q.toNat, by omega⟩
      have HTK2 : Hid (plc 0 (l.take (k + 1)) = plc 0 (l.take k) ++ run (A + o) M ∧ bhd 0 (l.take (k + 1)) = A + o + (M : Int)) := by
        have := HTK.out
        simp only [Int.toNat_natCast] at this
        exact this
      clear HTK
      go_wp2
      go_loopw [3, 4, 6] (fun u p i wx => ∃ (m : Nat), m ≤ M ∧ i = .int .i64 (m : Int) ∧ p = .int .i64 (A + o + (m : Int)) ∧ IOwn w.heap.size wx u (plc 0 (l.take k) ++ run (A + o) m) ∧ Fr [] w wx) (fun _ _ i _ => M - (intOf i).toNat)
      case atStart => exact ⟨0, by omega, rfl, by simp, by simpa [run] using HI.out, HF.out⟩
      case round =>
        obtain ⟨m, hm, rfl, rfl, hio, hf⟩ := hrel
        have HI2 : Hid (IOwn w.heap.size wr u3 (plc 0 (l.take k) ++ run (A + o) m)) := hio
        have HF2 : Hid (Fr [] w wr) := hf
        have c1 := HCK.out wr hf
        clear hio hf
        by_cases hmlt : m < M
        · have HL2 : Hid ((plc 0 (l.take k) ++ run (A + o) m).length + [A + o + (m : Int)].length ≤ 1000000) := by
            have := HPB.out
            rw [HTK2.out.1] at this
            simp only [List.length_append, run_length, List.length_singleton] at this ⊢
            rw [Hid]; omega
          have HSN : Hid (plc 0 (l.take k) ++ run (A + o) (m + 1) = plc 0 (l.take k) ++ run (A + o) m ++ [A + o + (m : Int)]) := by rw [Hid, run_snoc, ← List.append_assoc]
          go_wp2_with (at_builtin; refine wpList_append_ints _ rfl _ _ rfl (B := w.heap.size) (by have := HF2.out.size; simp; omega) rfl rfl (HI2.out.kept ((Fr.refl [] _).alloc _)) (one_own wr (A + o + (m : Int)) HF2.out.size) HL2.out ?_; intro v3 w3 ho3 hb3; have HO3 : Hid (IOwn w.heap.size w3 v3 (plc 0 (l.take k) ++ run (A + o) m ++ [A + o + (m : Int)])) := ho3; have HB3 : Hid (Fr [] w w3) := Fr.ofBelow (((HF2.out.alloc _).below (Nat.le_refl _) (by simp)).trans hb3); clear ho3 hb3)
          go_roundw
          case rel => exact ⟨m + 1, by omega, by go_num, by rw [show A + o + ((m + 1 : Nat) : Int) = A + o + (m : Int) + 1 from by omega], by rw [HSN.out]; exact HO3.out, HB3.out⟩
          case measure => simp [intOf]; omega
        · obtain rfl : m = M := by omega
          go_wp2
          go_roundw
          case rel => exact ⟨k + 1, A + o + (m : Int), by omega, by go_num, rfl, HTK2.out.2.symm, by omega, by omega, by omega, by rw [HTK2.out.1]; exact HI2.out, HF2.out⟩
          case measure => simp [intOf]; omega
    · have HI3 : Hid (IOwn w.heap.size wr u3 (pls l)) := by
        have := HI.out
        rw [List.take_of_length_le (by omega)] at this
        rw [Hid, HPL.out]
        exact this
      clear HI
      go_wp2
      go_ret
      exact ⟨_, rfl, HI3.out, HF.out⟩

set_option maxHeartbeats 8000000 in
theorem lmerge_any (v u : Value) (xs ys : List Int) (w : World) (h1 : ISrc w v xs) (h2 : ISrc w u ys) (hl : xs.length + ys.length ≤ 100000) :
    Calls Try.prog 64 #[v, u] w fun e w' => ∃ r, e = .returned r ∧ IOwn w.heap.size w' r (uni xs ys) ∧ Fr [] w w' := by
  obtain ⟨ao, cap, rfl, hcap, hmax, _, b, off, ha, hc⟩ := h1
  obtain ⟨ao2, cap2, rfl, hcap2, hmax2, _, b2, off2, ha2, hc2⟩ := h2
  have HC : Hid (∀ j x, xs[j]? = some x → w.cell? ⟨b, off + j, none⟩ = some (.int .i64 x)) := hc
  have HC2 : Hid (∀ j x, ys[j]? = some x → w.cell? ⟨b2, off2 + j, none⟩ = some (.int .i64 x)) := hc2
  have HA : Hid (0 < xs.length → ao = some ⟨b, off, none⟩) := ha
  have HA2 : Hid (0 < ys.length → ao2 = some ⟨b2, off2, none⟩) := ha2
  clear hc ha hc2 ha2
  go_enter Try.func64, Try.ntmps64
  go_wp2
  go_loopw [5, 6, 7] (fun o p q wr => ∃ (i j f : Nat) (O : List Int), i ≤ xs.length ∧ j ≤ ys.length ∧ p = .int .i64 (i : Int) ∧ q = .int .i64 (j : Int) ∧ IOwn w.heap.size wr o O ∧ O ++ mg f (xs.drop i) (ys.drop j) = uni xs ys ∧ (xs.length - i) + (ys.length - j) ≤ f ∧ O.length ≤ i + j ∧ Fr [] w wr) (fun _ p q _ => (xs.length - (intOf p).toNat) + (ys.length - (intOf q).toNat))
  case atStart => exact ⟨0, 0, xs.length + ys.length, [], by omega, by omega, rfl, rfl, .inl ⟨rfl, rfl⟩, by simp [uni], by omega, by simp, Fr.refl _ _⟩
  case round =>
    obtain ⟨i, j, f, O, hi, hj, rfl, rfl, hio, hmg, hfu, hOl, hf⟩ := hrel
    have HF : Hid (Fr [] w wr) := hf
    have HI : Hid (IOwn w.heap.size wr u5 O) := hio
    have HM : Hid (O ++ mg f (xs.drop i) (ys.drop j) = uni xs ys) := hmg
    have HOL : Hid (O.length ≤ i + j) := hOl
    clear hf hio hmg hOl
    by_cases hilt : i < xs.length
    · obtain rfl := HA.out (by omega)
      obtain ⟨x, hx⟩ := at_lt hilt
      have c0 : wr.cell? ⟨b, off + i, none⟩ = some (.int .i64 x) := HF.out.cell_some (HC.out i x hx) (by simp)
      obtain ⟨f, rfl⟩ : ∃ f', f = f' + 1 := ⟨f - 1, by omega⟩
      have e0 : decide ((i : Int) < (xs.length : Int)) = true := decide_eq_true (by omega)
      have e1 : ((i : Int) == (xs.length : Int)) = false := by simp; omega
      by_cases hjlt : j < ys.length
      · obtain rfl := HA2.out (by omega)
        obtain ⟨y, hy⟩ := at_lt hjlt
        have c1 : wr.cell? ⟨b2, off2 + j, none⟩ = some (.int .i64 y) := HF.out.cell_some (HC2.out j y hy) (by simp)
        have e2 : ((j : Int) == (ys.length : Int)) = false := by simp; omega
        by_cases t1 : x < y
        · have d1 : decide (x < y) = true := decide_eq_true t1
          have HM2 : Hid (O ++ [x] ++ mg f (xs.drop (i + 1)) (ys.drop (j)) = uni xs ys) := by
            have := HM.out
            rw [drop_at hx, drop_at hy, mg, if_pos t1, ← drop_at hy] at this
            rw [Hid, List.append_assoc]
            exact this
          clear HM hx hy
          have HL2 : Hid (O.length + [x].length ≤ 1000000) := by rw [Hid]; have := HOL.out; simp only [List.length_singleton]; omega
          go_wp2_with fail
          go_quiet (fail)
          go_wp2_with (at_builtin; refine wpList_append_ints _ rfl _ _ rfl (B := w.heap.size) (by have := HF.out.size; simp; omega) rfl rfl (HI.out.kept (((Fr.refl [] _).drewN _).alloc _)) (one_own _ x (by have := HF.out.size; exact this)) HL2.out ?_; intro v3 w3 ho3 hb3; have HO3 : Hid (IOwn w.heap.size w3 v3 (O ++ [x])) := ho3; have HB3 : Hid (Fr [] w w3) := Fr.ofBelow ((((HF.out.drewN _).alloc _).below (Nat.le_refl _) (by simp)).trans hb3); clear ho3 hb3)
          go_roundw
          case rel => exact ⟨i + 1, j, f, O ++ [x], by omega, by omega, by go_num, by go_num, HO3.out, HM2.out, by omega, by have := HOL.out; simp; omega, HB3.out⟩
          case measure => simp [intOf]; omega
        · have d1 : decide (x < y) = false := decide_eq_false t1
          by_cases t2 : y < x
          · have d2 : decide (y < x) = true := decide_eq_true t2
            have HM2 : Hid (O ++ [y] ++ mg f (xs.drop (i)) (ys.drop (j + 1)) = uni xs ys) := by
              have := HM.out
              rw [drop_at hx, drop_at hy, mg, if_neg t1, if_pos t2, ← drop_at hx] at this
              rw [Hid, List.append_assoc]
              exact this
            clear HM hx hy
            have HL2 : Hid (O.length + [y].length ≤ 1000000) := by rw [Hid]; have := HOL.out; simp only [List.length_singleton]; omega
            go_wp2_with fail
            go_quiet (fail)
            go_wp2_with fail
            go_quiet (fail)
            go_wp2_with (at_builtin; refine wpList_append_ints _ rfl _ _ rfl (B := w.heap.size) (by have := HF.out.size; simp; omega) rfl rfl (HI.out.kept (((Fr.refl [] _).drewN _).alloc _)) (one_own _ y (by have := HF.out.size; exact this)) HL2.out ?_; intro v3 w3 ho3 hb3; have HO3 : Hid (IOwn w.heap.size w3 v3 (O ++ [y])) := ho3; have HB3 : Hid (Fr [] w w3) := Fr.ofBelow ((((HF.out.drewN _).alloc _).below (Nat.le_refl _) (by simp)).trans hb3); clear ho3 hb3)
            go_roundw
            case rel => exact ⟨i, j + 1, f, O ++ [y], by omega, by omega, by go_num, by go_num, HO3.out, HM2.out, by omega, by have := HOL.out; simp; omega, HB3.out⟩
            case measure => simp [intOf]; omega
          · have d2 : decide (y < x) = false := decide_eq_false t2
            have HM2 : Hid (O ++ [x] ++ mg f (xs.drop (i + 1)) (ys.drop (j + 1)) = uni xs ys) := by
              have := HM.out
              rw [drop_at hx, drop_at hy, mg, if_neg t1, if_neg t2] at this
              rw [Hid, List.append_assoc]
              exact this
            clear HM hx hy
            have HL2 : Hid (O.length + [x].length ≤ 1000000) := by rw [Hid]; have := HOL.out; simp only [List.length_singleton]; omega
            go_wp2_with fail
            go_quiet (fail)
            go_wp2_with fail
            go_quiet (fail)
            go_wp2_with (at_builtin; refine wpList_append_ints _ rfl _ _ rfl (B := w.heap.size) (by have := HF.out.size; simp; omega) rfl rfl (HI.out.kept (((Fr.refl [] _).drewN _).alloc _)) (one_own _ x (by have := HF.out.size; exact this)) HL2.out ?_; intro v3 w3 ho3 hb3; have HO3 : Hid (IOwn w.heap.size w3 v3 (O ++ [x])) := ho3; have HB3 : Hid (Fr [] w w3) := Fr.ofBelow ((((HF.out.drewN _).alloc _).below (Nat.le_refl _) (by simp)).trans hb3); clear ho3 hb3)
            go_roundw
            case rel => exact ⟨i + 1, j + 1, f, O ++ [x], by omega, by omega, by go_num, by go_num, HO3.out, HM2.out, by omega, by have := HOL.out; simp; omega, HB3.out⟩
            case measure => simp [intOf]; omega
      · obtain rfl : j = ys.length := by omega
        have e2 : ((ys.length : Int) == (ys.length : Int)) = true := by simp
        have HM2 : Hid (O ++ [x] ++ mg f (xs.drop (i + 1)) (ys.drop (ys.length)) = uni xs ys) := by
          have := HM.out
          rw [drop_at hx, List.drop_eq_nil_of_le (Nat.le_refl ys.length), mg] at this
          rw [List.drop_eq_nil_of_le (Nat.le_refl ys.length)]
          rw [Hid, List.append_assoc]
          exact this
        clear HM hx
        have HL2 : Hid (O.length + [x].length ≤ 1000000) := by rw [Hid]; have := HOL.out; simp only [List.length_singleton]; omega
        go_wp2_with fail
        go_quiet (fail)
        go_wp2_with (at_builtin; refine wpList_append_ints _ rfl _ _ rfl (B := w.heap.size) (by have := HF.out.size; simp; omega) rfl rfl (HI.out.kept (((Fr.refl [] _).drewN _).alloc _)) (one_own _ x (by have := HF.out.size; exact this)) HL2.out ?_; intro v3 w3 ho3 hb3; have HO3 : Hid (IOwn w.heap.size w3 v3 (O ++ [x])) := ho3; have HB3 : Hid (Fr [] w w3) := Fr.ofBelow ((((HF.out.drewN _).alloc _).below (Nat.le_refl _) (by simp)).trans hb3); clear ho3 hb3)
        go_roundw
        case rel => exact ⟨i + 1, ys.length, f, O ++ [x], by omega, by omega, by go_num, by go_num, HO3.out, HM2.out, by omega, by have := HOL.out; simp; omega, HB3.out⟩
        case measure => simp [intOf]; omega
    · obtain rfl : i = xs.length := by omega
      by_cases hjlt : j < ys.length
      · obtain rfl := HA2.out (by omega)
        obtain ⟨y, hy⟩ := at_lt hjlt
        have c1 : wr.cell? ⟨b2, off2 + j, none⟩ = some (.int .i64 y) := HF.out.cell_some (HC2.out j y hy) (by simp)
        obtain ⟨f, rfl⟩ : ∃ f', f = f' + 1 := ⟨f - 1, by omega⟩
        have e0 : decide ((xs.length : Int) < (xs.length : Int)) = false := decide_eq_false (by omega)
        have e1 : ((xs.length : Int) == (xs.length : Int)) = true := by simp
        have e2 : ((j : Int) == (ys.length : Int)) = false := by simp; omega
        have HM2 : Hid (O ++ [y] ++ mg f (xs.drop (xs.length)) (ys.drop (j + 1)) = uni xs ys) := by
          have := HM.out
          rw [drop_at hy, List.drop_eq_nil_of_le (Nat.le_refl xs.length), mg] at this
          rw [List.drop_eq_nil_of_le (Nat.le_refl xs.length)]
          rw [Hid, List.append_assoc]
          exact this
        clear HM hy
        have HL2 : Hid (O.length + [y].length ≤ 1000000) := by rw [Hid]; have := HOL.out; simp only [List.length_singleton]; omega
        go_wp2_with fail
        go_quiet (fail)
        go_wp2_with fail
        go_quiet (fail)
        go_wp2_with (at_builtin; refine wpList_append_ints _ rfl _ _ rfl (B := w.heap.size) (by have := HF.out.size; simp; omega) rfl rfl (HI.out.kept (((Fr.refl [] _).drewN _).alloc _)) (one_own _ y (by have := HF.out.size; exact this)) HL2.out ?_; intro v3 w3 ho3 hb3; have HO3 : Hid (IOwn w.heap.size w3 v3 (O ++ [y])) := ho3; have HB3 : Hid (Fr [] w w3) := Fr.ofBelow ((((HF.out.drewN _).alloc _).below (Nat.le_refl _) (by simp)).trans hb3); clear ho3 hb3)
        go_roundw
        case rel => exact ⟨xs.length, j + 1, f, O ++ [y], by omega, by omega, by go_num, by go_num, HO3.out, HM2.out, by omega, by have := HOL.out; simp; omega, HB3.out⟩
        case measure => simp [intOf]; omega
      · obtain rfl : j = ys.length := by omega
        have HM2 : Hid (O = uni xs ys) := by
          have := HM.out
          rw [List.drop_eq_nil_of_le (Nat.le_refl _), List.drop_eq_nil_of_le (Nat.le_refl _), mg_nil, List.append_nil] at this
          exact this
        clear HM
        go_wp2
        go_ret
        exact ⟨_, rfl, by rw [← HM2.out]; exact HI.out, HF.out⟩
end Go.Proofs.Ytoaibabkkphlaaa
