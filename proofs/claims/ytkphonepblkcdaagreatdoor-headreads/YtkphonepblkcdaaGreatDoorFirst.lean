/-
  Package stream: first, the first bits of bytes in bytes of their own.
-/
import Derived.Test.YtkphonepblkcdaaGreatDoorPure
import Derived.Laws.CopyOwn
namespace Go.Proofs.YtkphonepblkcdaaGreatDoor
open Go.RowKit Mem Bits
set_option linter.unusedSimpArgs false
set_option linter.unusedVariables false

/-- A byte's value. -/
def u8 (x : Nat) : Value := .int .u8 (x : Int)
theorem Tryz.info5 : (Tryz.prog.info? 5).map (fun i => (i.zero, i.size, i.bytes)) = some (some (.int .u8 0), 1, 1) := by kernel_rfl
theorem Tryz.size5 : (Tryz.prog.info? 5).map (fun x => x.size) = some 1 := by kernel_rfl

/-- A slice of bytes bs, wherever it lies. -/
def Src (w : World) (v : Value) (bs : List Nat) : Prop :=
  ∃ ao cap, v = .slice ao bs.length cap ∧ bs.length ≤ cap ∧ cap ≤ maxLen ∧ (0 < bs.length → ∃ b off, ao = some ⟨b, off, none⟩ ∧ ∀ j, j < bs.length → w.cell? ⟨b, off + j, none⟩ = some (u8 (bs.getD j 0))) ∧ ∀ x ∈ bs, x < 256

theorem u8_one {l : List Nat} : ∀ v ∈ l.map u8, v.oneCell' = true := by
  intro v hv
  simp only [List.mem_map] at hv
  obtain ⟨x, _, rfl⟩ := hv
  rfl

set_option maxHeartbeats 1000000 in
theorem first_any (v : Value) (bs : List Nat) (n : Nat) (w : World) (hs : Src w v bs) (hn : nbs n ≤ bs.length) (hb : n ≤ 4294967296) :
    Calls Tryz.prog 40 #[v, .int .i64 (n : Int)] w fun e w' => e = .returned (.slice (some ⟨w.heap.size, 0, none⟩) (nbs n) (nbs n)) ∧
      w'.heap[w.heap.size]? = some (.cells ((pack (unpack bs n)).map u8).toArray 5 (0, 0)) ∧ Fr [] w w' ∧ w.heap.size < w'.heap.size := by
  obtain ⟨ao, cap, rfl, hc1, hc2, hcell, h256⟩ := hs
  obtain ⟨i0, hi, hz0, hz1, hz2⟩ := info_parts Tryz.info5
  have hm1 : nbs n ≤ 536870912 := by unfold nbs; omega
  go_enter Tryz.func40, Tryz.ntmps40
  go_wp2_with (first
    | (go_at_call 71; refine (bytesFor_any _ _ (by omega)).mono ?_; rintro e w' ⟨rfl, rfl⟩)
    | (at_make; refine wpList_make_full _ rfl _ _ 54 rfl 0 5 i0 (.int .u8 0) 1 Tryz.underlying54 hi hz0 hz1 _ _ _ _ (nbs n) rfl rfl rfl rfl ?m1 ?m2 ?m3 ?_))
  case m1 => rw [hz2]; omega
  case m2 => unfold maxLen; omega
  case m3 => omega
  intro w1 hown hgrow
  have hg1 := owns_heap hown
  rw [toList_madeCells_one] at hg1
  have hfr : Fr [] w w1 := (Fr.refl [] w).grown hgrow (by simp)
  have hz : w.heap.size < w1.heap.size := lt_of_heap hg1
  have hlt : (bs.take (nbs n)).length = nbs n := by simp; omega
  obtain ⟨w2, hrun, hg2, hfr2⟩ := run_copy_fill (P := Tryz.prog) w1 54 54 3 5 Tryz.underlying54 Tryz.size5 w.heap.size (nbs n) ao bs.length cap
    (List.replicate (nbs n) (Value.int .u8 0)) 5 hg1 (by simp) hn ((bs.take (nbs n)).map u8) (by simp; omega)
    (fun h0 => by
      obtain ⟨b, off, rfl, hc⟩ := hcell (by omega)
      refine ⟨_, rfl, fun j v hj => ?_⟩
      have hjl : j < nbs n := by
        have := (List.getElem?_eq_some_iff.1 hj).1
        simp at this; omega
      have e1 : (⟨b, off, none⟩ : Addr).add j = ⟨b, off + j, none⟩ := by unfold Addr.add; split <;> simp_all
      rw [e1]
      have hcj := hc j (by omega)
      refine (hfr.cell_some hcj (by simp)).trans ?_
      rw [← hj]
      simp [List.getElem?_take, hjl, show j < bs.length from by omega]) u8_one
  have hfr3 : Fr [] w w2 := hfr.trans hfr2 (by simp)
  have hz2' : w.heap.size < w2.heap.size := lt_of_heap hg2
  clear hfr hfr2 hown hgrow hg1 hcell
  by_cases h8 : (0 : Int) < (n : Int) % 8
  · have hpos : 1 ≤ nbs n := by unfold nbs; omega
    have hcl : w2.cell? ⟨w.heap.size, nbs n - 1, none⟩ = some (.int .u8 ((bs.getD (nbs n - 1) 0 : Nat) : Int)) := by
      rw [cell_at hg2]
      simp [List.getElem?_take, show nbs n - 1 < nbs n from by omega, show nbs n - 1 < bs.length from by omega, u8]
    have hfz : w2.frozen? ⟨w.heap.size, nbs n - 1, none⟩ = false := frozen_at hg2 _
    have hx := getD_lt h256 (nbs n - 1)
    generalize hX : bs.getD (nbs n - 1) 0 = X at hcl hx
    have HX : Hid (bs.getD (nbs n - 1) 0 = X) := hX
    clear hX
    have HG : Hid (w2.heap[w.heap.size]? = some (.cells ((bs.take (nbs n)).map u8).toArray 5 (0, 0))) := hg2
    clear hg2
    go_wp2
    go_region
    all_goals go_wp2
    all_goals go_ret
    refine ⟨rfl, ?_, ?_, ?_⟩
    · have eI : (255 / 2 ^ (n % 8) : Int) = ((255 / 2 ^ (n % 8) : Nat) : Int) := by simp
      have hd : 255 / 2 ^ (n % 8) < 256 := Nat.lt_of_le_of_lt (Nat.div_le_self _ _) (by omega)
      rw [eI, u8_andNot_nat X _ hx hd, pack_unpack1 _ _ h256 hn (by omega), HX.out]
      have := HG.out
      simp [World.setCell, Array.getElem?_modify, this, World.drew]
      rfl
    · exact (hfr3.setCell _ _ (.inr (Nat.le_refl _))).drew
    · simpa using hz2'
  · have h8' : decide ((0 : Int) < (n : Int) % 8) = false := by simpa using h8
    go_wp2
    go_ret
    refine ⟨rfl, ?_, hfr3, hz2'⟩
    rw [pack_unpack0 _ _ h256 hn (by omega)]
    exact hg2
end Go.Proofs.YtkphonepblkcdaaGreatDoor
