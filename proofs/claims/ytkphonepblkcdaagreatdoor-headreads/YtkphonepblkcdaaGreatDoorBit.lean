/-
  Package stream: the writer's Bit.
-/
import Derived.Test.YtkphonepblkcdaaGreatDoorWriter
import Derived.Deep.RegionWith
import Derived.Deep.DeepCutAuto
namespace Go.Proofs.YtkphonepblkcdaaGreatDoor
open Go.RowKit Mem Bits
set_option linter.unusedSimpArgs false
set_option linter.unusedVariables false
set_option maxRecDepth 100000

set_option maxHeartbeats 2000000 in
theorem bit_any (w : World) (p g : Nat) (l : List Bool) (on : Bool) (h : Wr w p g l) (hl : l.length ≤ 4294967296) :
    Calls Tryz.prog 15 #[.pointer (some ⟨p, 0, none⟩), .bool on] w fun e w' => e = .returned (.tuple #[]) ∧ ∃ g', Wr w' p g' (l ++ [on]) ∧ (g' = g ∨ w.heap.size ≤ g') ∧ Fr [p, g] w w' := by
  obtain ⟨hpg, v, hp, hrow⟩ := h
  have c0 : w.cell? ⟨p, 0, none⟩ = some v := by rw [cell_at hp]; rfl
  have c1 : w.cell? ⟨p, 1, none⟩ = some (.int .i64 (l.length : Int)) := by rw [cell_at hp]; rfl
  have f0 := frozen_at hp 0
  have hpl := lt_of_heap hp
  obtain ⟨i0, hi, hz0, hz1, hz2⟩ := info_parts Tryz.info5
  generalize hN : l.length = N at *
  have HN : Hid (l.length = N) := hN
  have HP : Hid (w.heap[p]? = some (.cells #[v, .int .i64 (N : Int)] 79 (0, 0))) := hp
  have HR : Hid (Row w 5 1 v g (nbs N) ((pack l).map u8)) := hrow
  clear hN hp hrow
  go_enter Tryz.func15, Tryz.ntmps15
  go_upto_if 9 with fail
  go_cut [] (fun w1 => Wroom w w1 p g N l)
  case first =>
    by_cases h8 : N % 8 = 0
    · have h8i : ((N : Int) % 8 == 0) = true := beq_iff_eq.2 (by omega)
      go_wp2_with (at_builtin; refine wpList_append_row _ rfl _ _ 54 rfl 5 i0 (.int .u8 0) 1 1 Tryz.underlying54 hi hz0 hz1 hz2 rfl v g (nbs N) ((pack l).map u8) rfl (HR.out.kept ((Fr.refl [] w).alloc _) (by simp)) ⟨w.heap.size, 0, none⟩ 1 1 [.int .u8 0] rfl rfl ?c1 ?c2 ?c3 ?c4 ?_)
      case c1 => exact cell_one_new _ _ _
      case c2 => intro u hu; simp at hu; subst hu; rfl
      case c3 => unfold maxLen nbs; omega
      case c4 => unfold nbs; omega
      intro v1 g1 w1 hr1 hg1 hf1
      obtain ⟨cap1, hv1⟩ := hr1.val
      subst hv1
      have hw := Wroom.grown hpg HN.out h8 HP.out hr1 hg1.out hf1
      have HW : Hid (Wroom w (w1.setCell ⟨p, 0, none⟩ (.slice (some ⟨g1, 0, none⟩) (nbs N + 1) cap1)) p g N l) := hw
      have c01 : w1.cell? ⟨p, 0, none⟩ = some v := hf1.cell_some (by rw [World.cell?_alloc_past _ _ _ hpl]; exact c0) (by simpa using hpg)
      have f01 : w1.frozen? ⟨p, 0, none⟩ = false := frozen_at (hf1.heap ((Below.heap_alloc _ _ _ hpl).trans HP.out) (by simpa using hpg)) 0
      clear hw hr1 hg1 hf1 c0 c1 f0
      go_wp2
      go_meet
      case rel => exact HW.out
    · have h8i : ((N : Int) % 8 == 0) = false := beq_eq_false_iff_ne.2 (by omega)
      go_wp2
      go_meet
      case rel => exact Wroom.same hpg HN.out h8 HP.out HR.out
  case rest =>
    obtain ⟨g1, cap1, hne, hp1, hr1, hgn, hf⟩ := hcut
    clear c0 c1 f0 HR HP
    have c0 : wc.cell? ⟨p, 0, none⟩ = some (.slice (some ⟨g1, 0, none⟩) (N / 8 + 1) cap1) := by rw [cell_at hp1]; rfl
    have c1 : wc.cell? ⟨p, 1, none⟩ = some (.int .i64 (N : Int)) := by rw [cell_at hp1]; rfl
    have f1 := frozen_at hp1 1
    cases on with
    | false =>
      have hw : Wr (wc.setCell ⟨p, 1, none⟩ (.int .i64 ((N : Int) + 1))) p g1 (l ++ [false]) := by
        have := HN.out
        subst this
        refine Wr.done (l := l) (m := l.length / 8 + 1) hne hp1 ?_ (by simp) rfl
        rw [packN_false]; exact hr1
      have HW : Hid (Wr (wc.setCell ⟨p, 1, none⟩ (.int .i64 ((N : Int) + 1))) p g1 (l ++ [false])) := hw
      clear hw hp1 hr1
      go_wp2
      go_end0
      exact ⟨rfl, g1, HW.out, hgn, hf.setCell _ _ (.inl (by simp))⟩
    | true =>
      have hw := Wroom.set (w := w) HN.out hne hp1 hr1
      have HW : Hid (Wr ((wc.setCell ⟨g1, N / 8, none⟩ (.int .u8 ((byteAt l (N / 8) ||| mk N : Nat) : Int))).setCell ⟨p, 1, none⟩ (.int .i64 ((N : Int) + 1))) p g1 (l ++ [true])) := hw
      have cg : wc.cell? ⟨g1, N / 8, none⟩ = some (.int .u8 ((byteAt l (N / 8) : Nat) : Int)) := by
        rw [hr1.cell (N / 8) (by omega), List.getElem?_map, packN_get? _ _ _ (by omega)]; rfl
      have fg := hr1.frozen (N / 8)
      have hx := byteAt_lt l (N / 8)
      generalize hX : byteAt l (N / 8) = X at cg hx HW
      clear hw hp1 hr1 hX
      have q1 : (N : Int) / 8 = ((N / 8 : Nat) : Int) := by omega
      have q2 : (N : Int).tdiv 8 = ((N / 8 : Nat) : Int) := by rw [Int.tdiv_eq_ediv_of_nonneg (by omega)]; omega
      have q3 : N / 8 ≤ 1073741824 := by omega
      have q4 : wrap64 ((N / 8 : Nat) : Int) = ((N / 8 : Nat) : Int) := IntWalk.wrap64_in _ ⟨by omega, by omega⟩
      have q5 : IntKind.i64.wrap ((N / 8 : Nat) : Int) = ((N / 8 : Nat) : Int) := by rw [IntWalk.i64_left]; exact q4
      generalize N / 8 = q at *
      clear hi hz0 hz1 hz2 hpl q3
      have HF : Hid (Fr [p, g] w wc) := hf
      have HGN : Hid (g1 = g ∨ w.heap.size ≤ g1) := hgn
      clear hf hgn hpg
      go_upto_region 3 with fail
      go_cut [] (fun wx => wx = (wc.setCell ⟨g1, q, none⟩ (.int .u8 (bits .or .u8 (X : Int) ((mk N : Nat) : Int)))).drew)
      case first =>
        clear HW HN HF HGN
        go_region_with (go_at_call 41; refine (mask_any _ _ (by omega)).mono ?_; rintro e w' ⟨rfl, rfl⟩)
        all_goals (go_wp2_with fail; go_meet; exact rfl)
      case rest =>
        subst hcut
        go_wp2
        go_end0
        rw [u8_or_nat X _ hx (mk_lt N)]
        exact ⟨rfl, g1, HW.out, HGN.out, ((HF.out.setCell _ _ (by rcases HGN.out with h | h; exact .inl (by simp [h]); exact .inr h)).setCell _ _ (.inl (by simp))).drew⟩
end Go.Proofs.YtkphonepblkcdaaGreatDoor
