/-
  Package head: Put, Len.
-/
import Derived.Test.YtkphonepblkcdaaGreatDoorHdEq
import Derived.Test.YtkphonepblkcdaaGreatDoorVbPut
import Derived.Test.YtkphonepblkcdaaGreatDoorThPut
import Derived.Deep.RegionHeld3
namespace Go.Proofs.YtkphonepblkcdaaGreatDoor
open Go.RowKit Mem Spans Bits Groups Thrs
set_option linter.unusedSimpArgs false
set_option linter.unusedVariables false
set_option maxRecDepth 100000

theorem sbits_tw (o : Int) : (sbits o).length ≤ 72 := sbits_le o
theorem wrapU_nat {n : Nat} (h : n < 18446744073709551616) : IntKind.u64.wrap ((n : Nat) : Int) = (n : Int) := by rw [IntKind.wrap_u64]; omega

theorem sum2 {a b : Nat} (h : a + b ≤ 1000000000) : wrap64 ((a : Int) + (b : Int)) = ((a + b : Nat) : Int) ∧ IntKind.i64.wrap ((a : Int) + (b : Int)) = ((a + b : Nat) : Int) := by
  have e : wrap64 ((a : Int) + (b : Int)) = ((a + b : Nat) : Int) := by unfold wrap64; omega
  refine ⟨e, ?_⟩
  rw [IntKind.wrap_i64]
  omega

set_option maxHeartbeats 4000000 in
theorem putSide_any (w : World) (p g : Nat) (l : List Bool) (v : Value) (L : List Sp) (hT : Tab w) (hp : 0 < p) (hg : 0 < g) (h : Wr w p g l) (hS : ∀ W, Fr [p, g] w W → SSrc W v L) (hl : l.length + 144 * L.length + 144 ≤ 4294966000) :
    Calls Tryz.prog 45 #[.pointer (some ⟨p, 0, none⟩), v] w fun e w' => e = .returned (.tuple #[]) ∧ ∃ g', Wr w' p g' (l ++ sdb L) ∧ (g' = g ∨ w.heap.size ≤ g') ∧ Fr [p, g] w w' := by
  have hTl := hT.lt
  have HTK : Hid (∀ W, Fr [p, g] w W → Tab W) := fun W f => hT.kept f (by simp; omega)
  have HS : Hid (∀ W, Fr [p, g] w W → SSrc W v L) := hS
  have HPG : Hid (0 < p ∧ 0 < g ∧ 0 < w.heap.size ∧ p < w.heap.size) := ⟨hp, hg, hTl, h.lt.1⟩
  have HLL : Hid (l.length + 144 * L.length + 144 ≤ 4294966000) := hl
  have HPU : Hid (∀ W g' (m : List Bool) (V : Nat), Fr [p, g] w W → 0 < g' → Wr W p g' m → m.length ≤ 4294966000 → V < 18446744073709551616 → Calls Tryz.prog 76 #[.pointer (some ⟨p, 0, none⟩), .int .u64 (V : Int)] W fun e w' => e = .returned (.tuple #[]) ∧ ∃ g2, Wr w' p g2 (m ++ ubits V) ∧ (g2 = g' ∨ W.heap.size ≤ g2) ∧ Fr [p, g'] W w') := fun W g' m V f hg' hw hm hV => vputU_any W p g' m V (HTK.out W f) hp hg' hw hm hV
  have HPS : Hid (∀ W g' (m : List Bool) (o : Int), Fr [p, g] w W → 0 < g' → Wr W p g' m → m.length ≤ 4294966000 → in64 o → Calls Tryz.prog 43 #[.pointer (some ⟨p, 0, none⟩), .int .i64 o] W fun e w' => e = .returned (.tuple #[]) ∧ ∃ g2, Wr w' p g2 (m ++ sbits o) ∧ (g2 = g' ∨ W.heap.size ≤ g2) ∧ Fr [p, g'] W w') := fun W g' m o f hg' hw hm ho => vputS_any W p g' m o (HTK.out W f) hp hg' hw hm ho.1 ho.2
  have HW0 : Hid (Wr w p g l) := h
  obtain ⟨ao, cap, rfl, hcap, hmax, h64, b, off, ha, hc⟩ := hS w (Fr.refl _ _)
  have H64 : Hid (∀ s ∈ L, in64 s.1 ∧ in64 s.2) := h64
  have HA : Hid (0 < L.length → ao = some ⟨b, off, none⟩) := ha
  have hml : L.length ≤ 30000000 := by omega
  have hwL : IntKind.u64.wrap ((L.length : Nat) : Int) = ((L.length : Nat) : Int) := wrapU_nat (by omega)
  clear hT hS h hc ha h64 hcap hmax hp hg hTl hl
  go_enter Tryz.func45, Tryz.ntmps45
  go_wp2_with fail
  refine (HPU.out w g l L.length (Fr.refl _ _) HPG.out.2.1 HW0.out (by have := HLL.out; omega) (by omega)).mono ?_
  rintro e w1 ⟨rfl, g1, hw1, hg1, hf1⟩
  have HW1 : Hid (Wr w1 p g1 (l ++ ubits L.length)) := hw1
  have HG1 : Hid (g1 = g ∨ w.heap.size ≤ g1) := hg1
  have HF1 : Hid (Fr [p, g] w w1) := hf1
  clear hw1 hg1 hf1 HW0
  go_wp2
  go_loopw [13] (fun i wr => ∃ (k g' : Nat), k ≤ L.length ∧ i = .int .i64 (k : Int) ∧ Wr wr p g' (l ++ ubits L.length ++ spb (L.take k)) ∧ (g' = g ∨ w.heap.size ≤ g') ∧ Fr [p, g] w wr) (fun i _ => L.length - (intOf i).toNat)
  case atStart => exact ⟨0, g1, by omega, rfl, by simpa [spb] using HW1.out, HG1.out, HF1.out⟩
  case round =>
    obtain ⟨k, g', hk, rfl, hw, hg', hf⟩ := hrel
    have HW : Hid (Wr wr p g' (l ++ ubits L.length ++ spb (L.take k))) := hw
    have HG : Hid (g' = g ∨ w.heap.size ≤ g') := hg'
    have HF : Hid (Fr [p, g] w wr) := hf
    clear hw hg' hf HW1 HG1 HF1
    by_cases hlt : k < L.length
    · obtain ⟨ao', cap', hv, _, _, _, b2, off2, ha2, hc2⟩ := HS.out wr HF.out
      simp only [Value.slice.injEq, true_and] at hv
      obtain ⟨hv1, hv2⟩ := hv
      subst hv1 hv2
      have ha2 := ha2 (by omega)
      subst ha2
      obtain ⟨s, hs⟩ := at_lt hlt
      have c0 : wr.cell? ⟨b2, off2 + k * 2, none⟩ = some (.int .i64 s.1) := (hc2 k s hs).1
      have c1 : wr.cell? ⟨b2, off2 + k * 2 + 1, none⟩ = some (.int .i64 s.2) := (hc2 k s hs).2
      have HSI := H64.out s (List.mem_of_getElem? hs)
      have HT : Hid (spb (L.take (k + 1)) = spb (L.take k) ++ (ubits (tw s.2) ++ sbits s.1)) := by rw [Hid, take_at hs, spb_append, spb_one]
      have HLK : Hid ((spb (L.take k)).length ≤ 144 * L.length ∧ (ubits L.length).length ≤ 72) := by
        have h1 := spb_le (L.take k)
        rw [List.length_take] at h1
        exact ⟨by omega, ubits_le _⟩
      obtain ⟨o, n⟩ := s
      have HI1 : Hid (in64 o) := HSI.1
      have hwn : IntKind.u64.wrap n = ((tw n : Nat) : Int) := wrap_tw n
      simp only at c0 c1 HT
      clear hc2 hs HSI HA H64
      have HFA : Hid (Fr [] wr (wr.alloc (.cells #[.int .i64 o, .int .i64 n] 64))) := (Fr.refl _ _).alloc _
      have HSA : Hid (wr.heap.size < (wr.alloc (.cells #[.int .i64 o, .int .i64 n] 64)).heap.size ∧ (wr.alloc (.cells #[.int .i64 o, .int .i64 n] 64)).heap[wr.heap.size]? = some (.cells #[.int .i64 o, .int .i64 n] 64 (0, 0))) := ⟨by simp, heap_alloc_new _ _⟩
      have HWL : Hid (p < wr.heap.size ∧ g' < wr.heap.size) := HW.out.lt
      go_wp2_with fail
      generalize wr.alloc (.cells #[.int .i64 o, .int .i64 n] 64) = wA at *
      have HGB : Hid (0 < g') := by have := HG.out; have := HPG.out; rw [Hid]; omega
      have HWA : Hid (Wr wA p g' (l ++ ubits L.length ++ spb (L.take k))) := HW.out.kept HFA.out (by simp) (by simp)
      have HF2 : Hid (Fr [p, g] w wA) := HF.out.trans HFA.out (by simp)
      refine (HPU.out wA g' _ (tw n) HF2.out HGB.out HWA.out (by have := HLL.out; have := HLK.out; simp only [List.length_append]; omega) (tw_lt n)).mono ?_
      rintro e w2 ⟨rfl, g2, hw2, hg2, hf2⟩
      have HW2 : Hid (Wr w2 p g2 (l ++ ubits L.length ++ spb (L.take k) ++ ubits (tw n))) := hw2
      have HG2 : Hid (g2 = g ∨ w.heap.size ≤ g2) := by
        rcases hg2 with rfl | h2
        · exact HG.out
        · exact .inr (Nat.le_trans HF2.out.size h2)
      have HF3 : Hid (Fr [p, g] w w2) := Mem.Fr.two HF2.out hf2 HG.out
      have hb2 := hf2.heap HSA.out.2 (by have := HWL.out; simp; omega)
      have c2 : w2.cell? ⟨wr.heap.size, 0, none⟩ = some (.int .i64 o) := by rw [cell_at hb2]; rfl
      clear hw2 hg2 hf2 hb2
      have HGB2 : Hid (0 < g2) := by have := HG2.out; have := HPG.out; rw [Hid]; omega
      go_wp2_with fail
      refine (HPS.out w2 g2 _ o HF3.out HGB2.out HW2.out (by have := HLL.out; have := HLK.out; have := ubits_le (tw n); simp only [List.length_append]; omega) HI1.out).mono ?_
      rintro e w3 ⟨rfl, g3, hw3, hg3, hf3⟩
      have HW3 : Hid (Wr w3 p g3 (l ++ ubits L.length ++ spb (L.take (k + 1)))) := by
        rw [Hid, HT.out]
        simpa [List.append_assoc] using hw3
      have HG3 : Hid (g3 = g ∨ w.heap.size ≤ g3) := by
        rcases hg3 with rfl | h2
        · exact HG2.out
        · exact .inr (Nat.le_trans HF3.out.size h2)
      have HF4 : Hid (Fr [p, g] w w3) := Mem.Fr.two HF3.out hf3 HG2.out
      clear hw3 hg3 hf3
      go_wp2
      go_roundw
      case rel => exact ⟨k + 1, g3, by omega, by go_num, HW3.out, HG3.out, HF4.out⟩
      case measure => simp [intOf]; omega
    · have HW2 : Hid (Wr wr p g' (l ++ sdb L)) := by
        have := HW.out
        rw [List.take_of_length_le (by omega), List.append_assoc] at this
        exact this
      go_wp2
      go_end0
      exact ⟨rfl, g', HW2.out, HG.out, HF.out⟩

set_option maxHeartbeats 4000000 in
theorem lenSide_any (w : World) (v : Value) (L : List Sp) (hT : Tab w) (hS : SSrc w v L) (hl : L.length ≤ 1000000) :
    Calls Tryz.prog 48 #[v] w fun e w' => e = .returned (.int .i64 ((sdb L).length : Nat)) ∧ Fr [] w w' := by
  have HTK : Hid (∀ W, Fr [] w W → Tab W) := fun W f => hT.kept f (by simp)
  have HLU : Hid (∀ W (V : Nat), Fr [] w W → V < 18446744073709551616 → Calls Tryz.prog 78 #[.int .u64 (V : Int)] W fun e w' => e = .returned (.int .i64 ((ubits V).length : Int)) ∧ W = w') := fun W V f hV => lenU_any V W (HTK.out W f) hV
  have HLS : Hid (∀ W (o : Int), Fr [] w W → in64 o → Calls Tryz.prog 46 #[.int .i64 o] W fun e w' => e = .returned (.int .i64 ((sbits o).length : Int)) ∧ Fr [] W w') := fun W o f ho => lenS_any o W (HTK.out W f) ho.1 ho.2
  obtain ⟨ao, cap, rfl, hcap, hmax, h64, b, off, ha, hc⟩ := hS
  have HC : Hid (∀ j s, L[j]? = some s → w.cell? ⟨b, off + j * 2, none⟩ = some (.int .i64 s.1) ∧ w.cell? ⟨b, off + j * 2 + 1, none⟩ = some (.int .i64 s.2)) := hc
  have H64 : Hid (∀ s ∈ L, in64 s.1 ∧ in64 s.2) := h64
  have HA : Hid (0 < L.length → ao = some ⟨b, off, none⟩) := ha
  have hwL : IntKind.u64.wrap ((L.length : Nat) : Int) = ((L.length : Nat) : Int) := wrapU_nat (by omega)
  clear hT hc ha h64 hcap hmax HTK
  go_enter Tryz.func48, Tryz.ntmps48
  go_wp2_with fail
  refine (HLU.out w L.length (Fr.refl _ _) (by omega)).mono ?_
  rintro e w1 ⟨rfl, rfl⟩
  go_wp2
  go_loopw [3, 12] (fun n i wr => ∃ (k : Nat), k ≤ L.length ∧ i = .int .i64 (k : Int) ∧ n = .int .i64 (((ubits L.length).length + (spb (L.take k)).length : Nat) : Int) ∧ Fr [] w wr) (fun _ i _ => L.length - (intOf i).toNat)
  case atStart => exact ⟨0, by omega, rfl, by simp [spb], Fr.refl _ _⟩
  case round =>
    obtain ⟨k, hk, rfl, rfl, hf⟩ := hrel
    have HF : Hid (Fr [] w wr) := hf
    clear hf
    by_cases hlt : k < L.length
    · obtain rfl := HA.out (by omega)
      obtain ⟨s, hs⟩ := at_lt hlt
      have c0 : wr.cell? ⟨b, off + k * 2, none⟩ = some (.int .i64 s.1) := HF.out.cell_some (HC.out k s hs).1 (by simp)
      have c1 : wr.cell? ⟨b, off + k * 2 + 1, none⟩ = some (.int .i64 s.2) := HF.out.cell_some (HC.out k s hs).2 (by simp)
      have HI1 : Hid (in64 s.1) := (H64.out s (List.mem_of_getElem? hs)).1
      have h1 := spb_le (L.take k)
      have h2 := ubits_le L.length
      have h3 := ubits_le (tw s.2)
      have h4 := sbits_le s.1
      rw [List.length_take] at h1
      obtain ⟨M, hM⟩ : ∃ M : Nat, M = (ubits L.length).length + (spb (L.take (k + 1))).length := ⟨_, rfl⟩
      have HM : Hid (M = (ubits L.length).length + (spb (L.take (k + 1))).length) := hM
      rw [take_at hs, spb_append, spb_one, List.length_append, List.length_append] at hM
      obtain ⟨o, n⟩ := s
      have hwn : IntKind.u64.wrap n = ((tw n : Nat) : Int) := wrap_tw n
      simp only at c0 c1 hM h3 h4 HI1
      have hb1 : (ubits (tw n)).length + (sbits o).length ≤ 1000000000 := by omega
      have hb2 : (ubits L.length).length + (spb (L.take k)).length + ((ubits (tw n)).length + (sbits o).length) ≤ 1000000000 := by omega
      have hb3 : (ubits L.length).length + (spb (L.take k)).length + ((ubits (tw n)).length + (sbits o).length) = M := by omega
      have q1 := (sum2 hb1).1
      have q2 := (sum2 hb1).2
      have q3 := (sum2 hb2).1
      have q4 := (sum2 hb2).2
      rw [hb3] at q3 q4
      generalize (ubits (tw n)).length + (sbits o).length = UX at q1 q2 q3 q4
      clear hs h1 h2 h3 h4 hM HA H64 HC hwL hb1 hb2 hb3
      have HFA : Hid (Fr [] w (wr.alloc (.cells #[.int .i64 o, .int .i64 n] 64))) := HF.out.alloc _
      have hbA : (wr.alloc (.cells #[.int .i64 o, .int .i64 n] 64)).heap[wr.heap.size]? = some (.cells #[.int .i64 o, .int .i64 n] 64 (0, 0)) := heap_alloc_new _ _
      have HBA : Hid ((wr.alloc (.cells #[.int .i64 o, .int .i64 n] 64)).heap[wr.heap.size]? = some (.cells #[.int .i64 o, .int .i64 n] 64 (0, 0))) := hbA
      clear hbA
      go_upto_region 5 with fail
      clear c0 c1
      generalize wr.alloc (.cells #[.int .i64 o, .int .i64 n] 64) = wA at *
      generalize wr.heap.size = RR at *
      have L0 : ∀ wx, Fr [] wA wx → wx.cell? ⟨RR, 0, none⟩ = some (.int .i64 o) := fun wx hx => hx.cell_some (by rw [cell_at HBA.out]; rfl) List.not_mem_nil
      have L1 : ∀ wx, Fr [] wA wx → wx.cell? ⟨RR, 1, none⟩ = some (.int .i64 n) := fun wx hx => hx.cell_some (by rw [cell_at HBA.out]; rfl) List.not_mem_nil
      generalize hU : (ubits (tw n)).length = U at *
      generalize hX : (sbits o).length = X at *
      generalize hY : (ubits L.length).length + (spb (L.take k)).length = Y at *
      have HP1 : Hid (∀ wx, Fr [] wA wx → Calls Tryz.prog 78 #[.int .u64 ((tw n : Nat) : Int)] wx fun e w' => e = .returned (.int .i64 (U : Int)) ∧ Fr [] wA w') := by
        intro wx hx
        refine (HLU.out wx (tw n) (HFA.out.trans hx (by simp)) (tw_lt n)).mono ?_
        rintro e w' ⟨rfl, rfl⟩
        exact ⟨by rw [hU], hx⟩
      have HP2 : Hid (∀ wx, Fr [] wA wx → Calls Tryz.prog 46 #[.int .i64 o] wx fun e w' => e = .returned (.int .i64 (X : Int)) ∧ Fr [] wA w') := by
        intro wx hx
        refine (HLS.out wx o (HFA.out.trans hx (by simp)) HI1.out).mono ?_
        rintro e w' ⟨rfl, h⟩
        exact ⟨by rw [hX], hx.trans h (by simp)⟩
      clear hU hX hY
      have F0 : Fr [] wA wA.drew := (Fr.refl _ _).drew
      go_region_held3 (fun w' => w'.cell? ⟨RR, 0, none⟩ = some (.int .i64 o) ∧ w'.cell? ⟨RR, 1, none⟩ = some (.int .i64 n)) (go_keep) (first
        | (go_at_call 78; with_reducible refine (HP1.out _ F0).mono ?_; rintro e wa ⟨rfl, hfa⟩)
        | (go_at_call 46; with_reducible refine (HP2.out _ hfa).mono ?_; rintro e wb ⟨rfl, hfb⟩))
      all_goals (go_wp2)
      all_goals (go_roundw)
      case rel => exact ⟨k + 1, by omega, by go_num, by rw [HM.out], HFA.out.trans hfb (by simp)⟩
      case measure => simp [intOf]; omega
    · have HE : Hid ((ubits L.length).length + (spb (L.take k)).length = (sdb L).length) := by
        rw [Hid, List.take_of_length_le (by omega)]
        unfold sdb
        rw [List.length_append]
      go_wp2
      go_ret
      exact ⟨by rw [← HE.out]; rfl, HF.out⟩
end Go.Proofs.YtkphonepblkcdaaGreatDoor
