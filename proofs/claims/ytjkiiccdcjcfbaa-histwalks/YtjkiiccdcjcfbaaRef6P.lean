/-
  The document's Places, Merge.
-/
import Derived.Test.YtjkiiccdcjcfbaaSApp
import Derived.Test.YtjkiiccdcjcfbaaRef6
import Derived.Deep.DeepCutAuto
namespace Go.Proofs.Ytjkiiccdcjcfbaa
open Go.RowKit Mem Spans
set_option linter.unusedSimpArgs false
set_option linter.unusedVariables false
set_option maxRecDepth 100000

theorem one_own {B : Nat} (w : World) (x : Int) (h : B ≤ w.heap.size) : IOwn B (w.alloc (.cells #[.int .i64 x] 3)) (.slice (some ⟨w.heap.size, 0, none⟩) 1 1) [x] :=
  .inr ⟨w.heap.size, h, by simp, Row.made (xs := inCells [x]) (by rw [heap_alloc_new]; rfl) (by unfold maxLen; decide) rfl⟩

set_option maxHeartbeats 4000000 in
theorem lplaces_any (v : Value) (l : List Sp) (w : World) (h : SSrc w v l) (hk0 : chk l = 0) :
    Calls Try.prog 38 #[v] w fun e w' => ∃ u, e = .returned u ∧ IOwn w.heap.size w' u (pls l) ∧ Fr [] w w' := by
  obtain ⟨ao, cap, rfl, hcap, hmax, h64, b, off, ha, hc⟩ := h
  have HC : Hid (∀ j s, l[j]? = some s → w.cell? ⟨b, off + j * 2, none⟩ = some (.int .i64 s.1) ∧ w.cell? ⟨b, off + j * 2 + 1, none⟩ = some (.int .i64 s.2)) := hc
  have HA : Hid (0 < l.length → ao = some ⟨b, off, none⟩) := ha
  have HPL : Hid (pls l = plc 0 l) := by unfold Hid pls; rw [if_pos hk0]
  have HLE : Hid ((plc 0 l).length ≤ 4096) := by rw [Hid, ← HPL.out]; exact pls_le l
  have hlen := (chk_zero.1 hk0).1
  have HO : Hid (ok true 0 0 l) := (chk_zero.1 hk0).2
  clear hc ha h64 hk0
  go_enter Try.func38, Try.ntmps38
  go_wp2
  go_loopw [3, 4, 5] (fun u p i wr => ∃ (k : Nat) (A : Int), k ≤ l.length ∧ i = .int .i64 (k : Int) ∧ p = .int .i64 A ∧ A = bhd 0 (l.take k) ∧ (k = 0 → A = 0) ∧ -1048576 ≤ A ∧ A ≤ 1048577 ∧ IOwn w.heap.size wr u (plc 0 (l.take k)) ∧ Fr [] w wr) (fun _ _ i _ => l.length - (intOf i).toNat)
  case atStart => exact ⟨0, 0, by omega, rfl, rfl, by simp [bhd], fun _ => rfl, by omega, by omega, .inl ⟨by simp [plc], rfl⟩, Fr.refl _ _⟩
  case round =>
    obtain ⟨k, A, hk, rfl, rfl, hA, hA0, hA1, hA2, hio, hf⟩ := hrel
    have HAA : Hid (A = bhd 0 (l.take k) ∧ (k = 0 → A = 0)) := ⟨hA, hA0⟩
    have HI : Hid (IOwn w.heap.size wr u3 (plc 0 (l.take k))) := hio
    have HF : Hid (Fr [] w wr) := hf
    clear hA hA0 hio hf
    by_cases hlt : k < l.length
    · obtain rfl := HA.out (by omega)
      obtain ⟨s, hs⟩ := at_lt hlt
      have c0 : wr.cell? ⟨b, off + k * 2, none⟩ = some (.int .i64 s.1) := HF.out.cell_some (HC.out k s hs).1 (by simp)
      have hat := ok_at HO.out k s hs
      have hod : ok (decide (k = 0)) (cnt (l.take k)) (bhd 0 (l.take k)) (s :: l.drop (k + 1)) := by rw [← drop_at hs]; exact ok_drop HO.out k
      obtain ⟨_, _, ho1, ho2, _⟩ := hod
      rw [← HAA.out.1] at ho1 ho2
      have HTK : Hid (plc 0 (l.take (k + 1)) = plc 0 (l.take k) ++ run (A + s.1) s.2.toNat ∧ bhd 0 (l.take (k + 1)) = A + s.1 + s.2) := by
        rw [Hid, take_at hs, plc_append, bhd_append, ← HAA.out.1]
        simp [plc, bhd]
      have HLow : Hid (-1048576 ≤ A + s.1) := by
        by_cases h0 : k = 0
        · have := HAA.out.2 h0; rw [Hid]; omega
        · have := hat.2.2.2.2 (by omega); rw [Hid]; omega
      have HPB : Hid ((plc 0 (l.take (k + 1))).length ≤ 4096) := by
        have h1 : plc 0 (l.take (k + 1)) <+: plc 0 l := by
          conv => rhs; rw [← List.take_append_drop (k + 1) l]
          rw [plc_append]
          exact List.prefix_append _ _
        have := h1.length_le
        have := HLE.out
        rw [Hid]; omega
      have hlow := HLow.out
      obtain ⟨hat1, hat2, hat3, hat4, _⟩ := hat
      have HCK : Hid (∀ wx, Fr [] w wx → wx.cell? ⟨b, off + k * 2 + 1, none⟩ = some (.int .i64 s.2)) := fun wx hx => hx.cell_some (HC.out k s hs).2 (by simp)
      clear HLow hs
      obtain ⟨o, q⟩ := s
      simp only at c0 hat1 hat2 hat3 hat4 ho1 ho2 hlow
      obtain ⟨M, rfl⟩ : ∃ M : Nat, q = (M : Int) := ⟨q.toNat, by omega⟩
      have HTK2 : Hid (plc 0 (l.take (k + 1)) = plc 0 (l.take k) ++ run (A + o) M ∧ bhd 0 (l.take (k + 1)) = A + o + (M : Int)) := by
        have := HTK.out
        simp only [Int.toNat_natCast] at this
        exact this
      clear HTK
      go_wp2
      go_loopw [3, 4, 6] (fun u p i wx => ∃ (m : Nat), m ≤ M ∧ i = .int .i64 (m : Int) ∧ p = .int .i64 (A + o + (m : Int)) ∧ IOwn w.heap.size wx u (plc 0 (l.take k) ++ run (A + o) m) ∧ Fr [] w wx) (fun _ _ i _ => M - (intOf i).toNat)
      case atStart => exact ⟨0, by omega, rfl, by simp, by simpa [run] using HI.out, HF.out⟩
      case round =>
        obtain ⟨m, hm, rfl, rfl, hio, hf⟩ := hrel
        have HI2 : Hid (IOwn w.heap.size wr u3 (plc 0 (l.take k) ++ run (A + o) m)) := hio
        have HF2 : Hid (Fr [] w wr) := hf
        have c1 := HCK.out wr hf
        clear hio hf
        by_cases hmlt : m < M
        · have HL2 : Hid ((plc 0 (l.take k) ++ run (A + o) m).length + [A + o + (m : Int)].length ≤ 1000000) := by
            have := HPB.out
            rw [HTK2.out.1] at this
            simp only [List.length_append, run_length, List.length_singleton] at this ⊢
            rw [Hid]; omega
          have HSN : Hid (plc 0 (l.take k) ++ run (A + o) (m + 1) = plc 0 (l.take k) ++ run (A + o) m ++ [A + o + (m : Int)]) := by rw [Hid, run_snoc, ← List.append_assoc]
          go_wp2_with (at_builtin; refine wpList_append_ints _ rfl _ _ rfl (B := w.heap.size) (by have := HF2.out.size; simp; omega) rfl rfl (HI2.out.kept ((Fr.refl [] _).alloc _)) (one_own wr (A + o + (m : Int)) HF2.out.size) HL2.out ?_; intro v3 w3 ho3 hb3; have HO3 : Hid (IOwn w.heap.size w3 v3 (plc 0 (l.take k) ++ run (A + o) m ++ [A + o + (m : Int)])) := ho3; have HB3 : Hid (Fr [] w w3) := Fr.ofBelow (((HF2.out.alloc _).below (Nat.le_refl _) (by simp)).trans hb3); clear ho3 hb3)
          go_roundw
          case rel => exact ⟨m + 1, by omega, by go_num, by rw [show A + o + ((m + 1 : Nat) : Int) = A + o + (m : Int) + 1 from by omega], by rw [HSN.out]; exact HO3.out, HB3.out⟩
          case measure => simp [intOf]; omega
        · obtain rfl : m = M := by omega
          go_wp2
          go_roundw
          case rel => exact ⟨k + 1, A + o + (m : Int), by omega, by go_num, rfl, HTK2.out.2.symm, by omega, by omega, by omega, by rw [HTK2.out.1]; exact HI2.out, HF2.out⟩
          case measure => simp [intOf]; omega
    · have HI3 : Hid (IOwn w.heap.size wr u3 (pls l)) := by
        have := HI.out
        rw [List.take_of_length_le (by omega)] at this
        rw [Hid, HPL.out]
        exact this
      clear HI
      go_wp2
      go_ret
      exact ⟨_, rfl, HI3.out, HF.out⟩

end Go.Proofs.Ytjkiiccdcjcfbaa
