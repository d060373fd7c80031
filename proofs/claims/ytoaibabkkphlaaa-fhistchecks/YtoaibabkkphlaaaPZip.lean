/-
  Package pairs: Zip.
-/
import Derived.Test.YtoaibabkkphlaaaRoundReg
import Derived.Test.YtoaibabkkphlaaaPNum
import Derived.Deep.RegionHeld3
namespace Go.Proofs.Ytoaibabkkphlaaa
open Go.RowKit Go.Shelf Mem Spans
set_option linter.unusedSimpArgs false
set_option linter.unusedVariables false
set_option maxRecDepth 100000
attribute [local go_sem] Oper.semAt_some

/-- What came, with its values. -/
def zpp (vs : List Int) (pre : List (Int × Int)) : List Sp := pre.map fun x => (x.2, vs.getD x.1.toNat 0)
theorem zpp_snoc (vs : List Int) (pre : List (Int × Int)) (x : Int × Int) : zpp vs (pre ++ [x]) = zpp vs pre ++ [(x.2, vs.getD x.1.toNat 0)] := by simp [zpp]
theorem zpp_length (vs : List Int) (pre : List (Int × Int)) : (zpp vs pre).length = pre.length := by simp [zpp]
theorem zpp_prs (vs ps : List Int) (h : ps.length = vs.length) : zpp vs (prs 0 ps) = ps.zip vs := by
  apply List.ext_getElem?
  intro k
  rw [zpp, List.getElem?_map, prs_at, Nat.zero_add]
  by_cases hk : k < ps.length
  · have hk2 : k < vs.length := by omega
    rw [List.getElem?_eq_getElem hk, (List.getElem?_zip_eq_some (z := (ps[k], vs[k]))).2 ⟨List.getElem?_eq_getElem hk, List.getElem?_eq_getElem hk2⟩]
    simp [List.getD_eq_getElem?_getD, List.getElem?_eq_getElem hk2]
  · rw [List.getElem?_eq_none (by omega)]
    rw [List.getElem?_eq_none (by simp; omega)]
    rfl
/-- Zip's answers. -/
def zpe (l : List Sp) (vs : List Int) : Int := if chk l = 0 then (if vs.length = (pls l).length then 0 else 10) else chk l
def zpl (l : List Sp) (vs : List Int) : List Sp := if zpe l vs = 0 then (pls l).zip vs else []
theorem ctn_pls (l : List Sp) (h : chk l = 0) : ctn l = ((pls l).length : Int) := by
  unfold ctn pls
  rw [if_pos h, if_pos h]
  have := ok_cnt (chk_zero.1 h).2
  omega
theorem boxed_own {β : Type} (B : Nat) (t : TypeId) (v : Value) : Own (fun (_ : β) W => Boxed W B t v) := by
  intro s W W' row hs hg hr
  refine hs.kept hg (fun e => ?_)
  obtain ⟨o, ho, hc⟩ := hr B e.symm
  rw [show W.heap[B]? = _ from hs] at ho
  cases ho
  simp [Obj.isCells] at hc
def raw {N : Nat} (pre : List (NPair N)) : List (Int × Int) := pre.map fun x => x.1
theorem raw_snoc {N : Nat} (pre : List (NPair N)) (x : NPair N) : raw (pre ++ [x]) = raw pre ++ [x.1] := List.map_append
theorem ISrc.below {n0 : Nat} {w w' : World} {v : Value} {zs : List Int} (h : ISrc w v zs) (hb : Below n0 w w') (hn : w.heap.size ≤ n0) : ISrc w' v zs := by
  obtain ⟨ao, cap, h1, h2, h3, h4, b, off, h5, h6⟩ := h
  refine ⟨ao, cap, h1, h2, h3, h4, b, off, h5, fun j x hj => ?_⟩
  have c0 := h6 j x hj
  have b0 : b < n0 := by have := World.block_lt_of_cell? w _ c0; simp at this; omega
  exact (hb.cell (p := ⟨b, off + j, none⟩) b0).trans c0

set_option maxHeartbeats 4000000 in
theorem zip_any (v u : Value) (l : List Sp) (vs : List Int) (w : World) (h : SSrc w v l) (h2 : ISrc w u vs) :
    Calls Try.prog 100 #[v, u] w fun e w' => ∃ x, e = .returned (.tuple #[x, .int .i64 (zpe l vs)]) ∧ SOwn 141 w.heap.size w' x (zpl l vs) ∧ Fr [] w w' := by
  have HSR : Hid (SSrc w v l) := h
  have HIR : Hid (ISrc w u vs) := h2
  obtain ⟨ao, cap, rfl, hcap, hmax, _⟩ := h
  obtain ⟨bo, bcap, rfl, hbcap, hbmax, _⟩ := h2
  obtain ⟨i0, hi⟩ := info_pair
  have HI : Hid (SInfo 141 i0) := hi
  clear hi
  have HPL : Hid ((tot l).length ≤ 4096) := by rw [Hid, tot, prs_length]; exact pls_le l
  refine (callsIn_wide (n := 3)).1 ?_
  refine callsIn_of_wp_marks Try.func100 rfl trivial ?_ rfl
  simp only [Try.ntmps100, List.size_toArray, List.length_cons, List.length_nil, Nat.reduceAdd, Nat.reduceSub, Array.replicate_succ, Array.replicate_zero, List.push_toArray, List.append_toArray, List.nil_append, List.cons_append]
  have bV := Boxed.new w 68 (.slice bo vs.length bcap)
  have F0 : Fr [] w (w.alloc (.cells #[.slice bo vs.length bcap] 68)) := (Fr.refl _ _).alloc _
  gi_wp2_with fail
  refine ⟨trivial, (callsIn_wide.2 (check_any _ l _ (HSR.out.kept F0))).mono ?_⟩
  rintro e w1 ⟨rfl, hf1⟩
  have HF1 : Hid (Fr [] w w1) := F0.trans hf1 (by simp)
  have HBV : Hid (Boxed w1 w.heap.size 68 (.slice bo vs.length bcap)) := bV.kept (Fr.grownBy hf1) (by simp)
  clear hf1 F0 bV
  by_cases hk0 : chk l = 0
  · have HSR1 : Hid (∀ wx : World, Fr [] w wx → SSrc wx (.slice ao l.length cap) l) := fun wx hf => HSR.out.kept hf
    have hcb := HBV.out.cell
    by_cases hle : vs.length = (pls l).length
    · have HCT : Hid (∀ wx, Fr [] w wx → Calls Try.prog 78 #[.slice ao l.length cap] wx fun e w' => e = .returned (.int .i64 (vs.length : Int)) ∧ Fr [] wx w') := by
        intro wx hf
        rw [hle, ← ctn_pls l hk0]
        exact count_any _ l wx (HSR1.out wx hf)
      have HT : Hid (zpe l vs = 0 ∧ zpl l vs = zpp vs (tot l)) := by
        have e : zpe l vs = 0 := by unfold zpe; rw [if_pos hk0, if_pos hle]
        unfold Hid zpl
        rw [if_pos e, tot, zpp_prs vs _ hle.symm]
        exact ⟨e, rfl⟩
      have HLN : Hid ((tot l).length = vs.length) := by rw [Hid, tot, prs_length, hle]
      clear hle
      gi_wp2_with fail
      refine wpIn_wide.2 ?_
      go_region_held3 (fun w' => w'.cell? ⟨w.heap.size, 0, none⟩ = some (.slice bo vs.length bcap)) (go_keep) (first | (go_at_call 78; refine (HCT.out _ (HF1.out.drew)).mono ?_; rintro e w2 ⟨rfl, hf2⟩; have k0 := hf2.cell_some (p := ⟨w.heap.size, 0, none⟩) (v := .slice bo vs.length bcap) hcb (by simp)))
      have HF2 : Hid (Fr [] w w2) := HF1.out.drew.trans hf2 (by simp)
      have HBV2 : Hid (Boxed w2 w.heap.size 68 (.slice bo vs.length bcap)) := Boxed.kept (W := w1.drew) HBV.out (Fr.grownBy hf2) (by simp)
      clear hf2 k0 hcb HBV HF1
      gi_wp2_with fail
      refine ⟨trivial, (all_in _ _ _ _ _).mono ?_⟩
      rintro e w3 ⟨rfl, rfl⟩
      gi_wp2_with fail
      have bO := Boxed.new w2 118 (.slice none 0 0)
      have bN := Boxed.new (w2.alloc (.cells #[.slice none 0 0] 118)) 23 (.slice ao l.length cap)
      rw [World.size_alloc] at bN
      have hz1' := HF2.out.size
      have hvb := HBV2.out.lt
      have hB0 : Below w.heap.size w ((w2.alloc (.cells #[.slice none 0 0] 118)).alloc (.cells #[.slice ao l.length cap] 23)) := ((HF2.out.below (Nat.le_refl _) (by simp)).alloc (by omega) _).alloc (by simp; omega) _
      refine wpIn_rangeFunc_ownG rfl (by decide) (gf := 99) (lb := #[.pointer (some ⟨w2.heap.size + 1, 0, none⟩)]) rfl trivial (enters_of Try.func99 (by kernel_rfl) rfl)
        (all_stopsB (3 - 1) (by decide) (w2.heap.size + 1) _ l w _ HSR.out hB0 (by simp) bN.cell) belowK_t (belowK_b (by simp; omega)) (Below.refl _ _) (fun _ => rfl)
        (fun pre W => ((∃ v, Boxed W w2.heap.size 118 v ∧ W.ownsRow w.heap.size 141 2 v (zpp vs (raw pre)).length (spCells (zpp vs (raw pre))) ∧ (v = .slice none 0 0 ↔ zpp vs (raw pre) = [])) ∧ Below w.heap.size w W) ∧ Boxed W w.heap.size 68 (.slice bo vs.length bcap))
        (fun _ _ _ => False)
        (OwnFrom.and (OwnFrom.and (Own.from (holdsRow_own w.heap.size w2.heap.size 118 141 2 (fun pre => (zpp vs (raw pre)).length) (fun pre => spCells (zpp vs (raw pre))) (fun pre v => v = .slice none 0 0 ↔ zpp vs (raw pre) = [])) _) (ownFrom_below (Nat.le_refl _) (by simp; omega))) (Own.from (boxed_own _ _ _) _))
        (fun _ _ _ _ _ hs _ _ => hs)
        ⟨⟨⟨_, bO.alloc _, World.ownsRow_nil _ _ _ _, by simp [zpp, raw]⟩, hB0⟩, (HBV2.out.alloc _).alloc _⟩
        (fun x => { tmps := #[.slice ao l.length cap, .slice bo vs.length bcap, undef, .pointer (some ⟨w.heap.size, 0, none⟩), .slice none 0 0, .int .i64 0, .int .i64 0, .pointer (some ⟨w2.heap.size, 0, none⟩), .int .i64 x.1.1, .int .i64 x.1.2, .slice ao l.length cap, .int .i64 0, .int .i64 0, .bool false, undef, .slice bo vs.length bcap, .int .i64 (vs.length : Int), .slice ao l.length cap, .int .i64 (vs.length : Int), .bool false, .slice ao l.length cap, .func (.func 99) #[] #[.pointer (some ⟨w2.heap.size + 1, 0, none⟩)], .int .i64 x.1.1, .int .i64 x.1.2, undef, undef, undef, undef, undef, undef, undef, undef, undef, undef], defers := [] }) ?assign ?body ?done ?stop
      case assign =>
        intro lp x W K hK
        gi_wp2
        exact hK
      case body =>
        rintro lp pre x W ⟨⟨⟨v, hv, hrow, hnil⟩, hB⟩, hbv⟩ hlt
        obtain ⟨k, hk, hx⟩ := x.2
        obtain ⟨xp, hxp⟩ : ∃ xp, x.1.2 = xp := ⟨_, rfl⟩
        rw [hx, hxp]
        rw [HLN.out] at hk
        obtain ⟨z, hz⟩ := at_lt hk
        have HZ : Hid (zpp vs (raw (pre ++ [x])) = zpp vs (raw pre) ++ [(xp, z)]) := by
          rw [Hid, raw_snoc, zpp_snoc, hx, hxp]
          simp [List.getD_eq_getElem?_getD, hz]
        clear hx hxp
        obtain ⟨_, _, hv', _, _, _, b, off, ha, hc⟩ := HIR.out.below hB (Nat.le_refl _)
        have ha0 := ha (by omega)
        simp only [Value.slice.injEq] at hv'
        obtain ⟨rfl, _⟩ := hv'
        subst ha0
        have hcz := hc k z hz
        have HPL2 : Hid ((zpp vs (raw pre)).length ≤ 1000000) := by
          have h1 : (raw pre).length = pre.length := List.length_map ..
          rw [Hid, zpp_length, h1]; have := HPL.out; omega
        have HB : Hid (Below w.heap.size w W) := hB
        have hcv := hbv.cell
        have hc0 := hv.cell
        have HV : Hid (Boxed W w2.heap.size 118 v) := hv
        have HBX : Hid (Boxed W w.heap.size 68 (.slice (some ⟨b, off, none⟩) vs.length bcap)) := hbv
        have HROW : Hid (W.ownsRow w.heap.size 141 2 v (zpp vs (raw pre)).length (spCells (zpp vs (raw pre)))) := hrow
        have hmx : Try.prog.follows .mixedOrders = true := by kernel_rfl
        have hcA : (W.alloc (.cells #[.int .i64 xp, .int .i64 z] 141)).cell? ⟨w2.heap.size, 0, none⟩ = some v := (hv.alloc _).cell
        have hkI : (k : Int) < (vs.length : Int) := by omega
        clear hc ha hz hB hv hbv hrow hnil hlt
        gi_wp2_with fail
        refine region_round hmx (by kernel_rfl) ?_
        refine wpAnyIn_take (i := 1) (v := .int .i64 xp) rfl rfl (by kernel_rfl) (by kernel_rfl) (by kernel_rfl) (fun _ _ _ h => h) ⟨Or.inl ⟨by rfl, ?_⟩, fun _ => rfl⟩ ?_
        · intro w; go_simp
        refine wpAnyIn_take (i := 3) (v := .int .i64 (k : Int)) rfl rfl (by kernel_rfl) (by kernel_rfl) (by kernel_rfl) (fun _ _ _ h => h) ⟨Or.inl ⟨by rfl, ?_⟩, fun _ => rfl⟩ ?_
        · intro w; go_simp
        refine wpAnyIn_ready (rs := [0, 2]) (by kernel_rfl) (by simp) ?_
        refine AllReadyIn.cons rfl (fun K hK => ?_) (AllReadyIn.cons rfl (fun K hK => ?_) AllReadyIn.nil)
        · (go_simp; refine hK _ _ ?_; clear hK K)
          (refine wpAnyIn_ready (rs := [2]) (by kernel_rfl) (by simp) ?_; refine AllReadyIn.cons rfl (fun K hK => ?_) AllReadyIn.nil; go_simp; refine hK _ _ ?_; clear hK K)
          refine wpAnyIn_take (i := 4) (v := .pointer (some ⟨b, off + k, none⟩)) rfl rfl (by kernel_rfl) (by kernel_rfl) (by kernel_rfl) (fun _ _ _ h => h) ⟨Or.inl ⟨by rfl, ?_⟩, fun _ => rfl⟩ ?_
          · intro w; go_simp
          (refine wpAnyIn_ready (rs := [5]) (by kernel_rfl) (by simp) ?_; refine AllReadyIn.cons rfl (fun K hK => ?_) AllReadyIn.nil; go_simp; refine hK _ _ ?_; clear hK K)
          refine wpAnyIn_take (i := 6) (v := .agg #[.int .i64 xp, .int .i64 z]) rfl rfl (by kernel_rfl) (by kernel_rfl) (by kernel_rfl) (fun _ _ _ h => h) ⟨Or.inl ⟨by rfl, ?_⟩, fun _ => rfl⟩ ?_
          · intro w; go_simp
          (refine wpAnyIn_ready (rs := [7]) (by kernel_rfl) (by simp) ?_; refine AllReadyIn.cons rfl (fun K hK => ?_) AllReadyIn.nil; go_simp; refine hK _ _ ?_; clear hK K)
          refine wpAnyIn_ready (rs := [8]) (by kernel_rfl) (by simp) ?_
          refine AllReadyIn.cons rfl (fun K hK => ?_) AllReadyIn.nil
          refine stepIn_append_sp rfl _ _ 118 rfl Try.underlying118 HI.out.1 HI.out.2.1 HI.out.2.2.1 HI.out.2.2.2 (B := w.heap.size) (v := v) (l := zpp vs (raw pre)) (s := (xp, z)) rfl rfl (by have := HB.out.size; simp; omega) (HROW.out.alloc _) (lit_sp 141 W [(xp, z)] HB.out.size (by simp) (by unfold maxLen; simp)) HPL2.out ?_
          intro v' w3 hown hgrow0
          have hgrow : (W.alloc (.cells #[.int .i64 xp, .int .i64 z] 141)).grownBy w3 v.ownBlock := ⟨hgrow0.os, hgrow0.tape, hgrow0.output, hgrow0.size, hgrow0.block⟩
          clear hgrow0
          refine hK _ _ ?_
          clear hK K
          obtain ⟨hv1, hv2, hr2, hk2, hb2⟩ := HV.out.appended (tmp := .cells #[.int .i64 xp, .int .i64 z] 141) (by decide) HROW.out HB.out.size (by have := HF2.out.size; omega) hown hgrow
          have HBX3 : Hid (Boxed w3 w.heap.size 68 (.slice (some ⟨b, off, none⟩) vs.length bcap)) := (HBX.out.alloc _).kept hgrow (HBX.out.not_row (by decide) HROW.out)
          obtain ⟨g', cap', rfl⟩ := ownsRow_succ hown
          have hc1 := hv1.cell
          have hf1 := hv1.frozen
          have HNE : Hid (w.heap.size ≠ w2.heap.size) := by have := HBV2.out.lt; rw [Hid]; omega
          have HO : Hid (KeepsOthers W (w3.setCell ⟨w2.heap.size, 0, none⟩ _) ∧ Below w.heap.size W (w3.setCell ⟨w2.heap.size, 0, none⟩ _) ∧ Boxed (w3.setCell ⟨w2.heap.size, 0, none⟩ _) w2.heap.size 118 _ ∧ World.ownsRow (w3.setCell ⟨w2.heap.size, 0, none⟩ _) w.heap.size 141 2 _ _ _) := ⟨hk2, hb2, hv2, hr2⟩
          clear hown hgrow hv1 hv2 hr2 hk2 hb2
          (refine wpAnyIn_ready (rs := [9]) (by kernel_rfl) (by simp) ?_; refine AllReadyIn.cons rfl (fun K hK => ?_) AllReadyIn.nil; go_simp; refine hK _ _ ?_; clear hK K)
          refine wpAnyIn_done (by kernel_rfl) ?_ _
          gi_wp2
          refine ⟨HO.out.1.from _, HO.out.2.1, ⟨⟨_, HO.out.2.2.1, by rw [HZ.out, List.length_append]; exact HO.out.2.2.2, by rw [HZ.out]; simp⟩, HB.out.trans HO.out.2.1⟩, HBX3.out.kept (grownBy_setCell' _ _ _) (fun e => HNE.out (Option.some.inj e))⟩
        · (go_simp; refine hK _ _ ?_; clear hK K)
          refine wpAnyIn_take (i := 4) (v := .pointer (some ⟨b, off + k, none⟩)) rfl rfl (by kernel_rfl) (by kernel_rfl) (by kernel_rfl) (fun _ _ _ h => h) ⟨Or.inl ⟨by rfl, ?_⟩, fun _ => rfl⟩ ?_
          · intro w; go_simp
          refine wpAnyIn_ready (rs := [0, 5]) (by kernel_rfl) (by simp) ?_
          refine AllReadyIn.cons rfl (fun K hK => ?_) (AllReadyIn.cons rfl (fun K hK => ?_) AllReadyIn.nil)
          · (go_simp; refine hK _ _ ?_; clear hK K)
            (refine wpAnyIn_ready (rs := [5]) (by kernel_rfl) (by simp) ?_; refine AllReadyIn.cons rfl (fun K hK => ?_) AllReadyIn.nil; go_simp; refine hK _ _ ?_; clear hK K)
            refine wpAnyIn_take (i := 6) (v := .agg #[.int .i64 xp, .int .i64 z]) rfl rfl (by kernel_rfl) (by kernel_rfl) (by kernel_rfl) (fun _ _ _ h => h) ⟨Or.inl ⟨by rfl, ?_⟩, fun _ => rfl⟩ ?_
            · intro w; go_simp
            (refine wpAnyIn_ready (rs := [7]) (by kernel_rfl) (by simp) ?_; refine AllReadyIn.cons rfl (fun K hK => ?_) AllReadyIn.nil; go_simp; refine hK _ _ ?_; clear hK K)
            refine wpAnyIn_ready (rs := [8]) (by kernel_rfl) (by simp) ?_
            refine AllReadyIn.cons rfl (fun K hK => ?_) AllReadyIn.nil
            refine stepIn_append_sp rfl _ _ 118 rfl Try.underlying118 HI.out.1 HI.out.2.1 HI.out.2.2.1 HI.out.2.2.2 (B := w.heap.size) (v := v) (l := zpp vs (raw pre)) (s := (xp, z)) rfl rfl (by have := HB.out.size; simp; omega) (HROW.out.alloc _) (lit_sp 141 W [(xp, z)] HB.out.size (by simp) (by unfold maxLen; simp)) HPL2.out ?_
            intro v' w3 hown hgrow0
            have hgrow : (W.alloc (.cells #[.int .i64 xp, .int .i64 z] 141)).grownBy w3 v.ownBlock := ⟨hgrow0.os, hgrow0.tape, hgrow0.output, hgrow0.size, hgrow0.block⟩
            clear hgrow0
            refine hK _ _ ?_
            clear hK K
            obtain ⟨hv1, hv2, hr2, hk2, hb2⟩ := HV.out.appended (tmp := .cells #[.int .i64 xp, .int .i64 z] 141) (by decide) HROW.out HB.out.size (by have := HF2.out.size; omega) hown hgrow
            have HBX3 : Hid (Boxed w3 w.heap.size 68 (.slice (some ⟨b, off, none⟩) vs.length bcap)) := (HBX.out.alloc _).kept hgrow (HBX.out.not_row (by decide) HROW.out)
            obtain ⟨g', cap', rfl⟩ := ownsRow_succ hown
            have hc1 := hv1.cell
            have hf1 := hv1.frozen
            have HNE : Hid (w.heap.size ≠ w2.heap.size) := by have := HBV2.out.lt; rw [Hid]; omega
            have HO : Hid (KeepsOthers W (w3.setCell ⟨w2.heap.size, 0, none⟩ _) ∧ Below w.heap.size W (w3.setCell ⟨w2.heap.size, 0, none⟩ _) ∧ Boxed (w3.setCell ⟨w2.heap.size, 0, none⟩ _) w2.heap.size 118 _ ∧ World.ownsRow (w3.setCell ⟨w2.heap.size, 0, none⟩ _) w.heap.size 141 2 _ _ _) := ⟨hk2, hb2, hv2, hr2⟩
            clear hown hgrow hv1 hv2 hr2 hk2 hb2
            (refine wpAnyIn_ready (rs := [9]) (by kernel_rfl) (by simp) ?_; refine AllReadyIn.cons rfl (fun K hK => ?_) AllReadyIn.nil; go_simp; refine hK _ _ ?_; clear hK K)
            refine wpAnyIn_done (by kernel_rfl) ?_ _
            gi_wp2
            refine ⟨HO.out.1.from _, HO.out.2.1, ⟨⟨_, HO.out.2.2.1, by rw [HZ.out, List.length_append]; exact HO.out.2.2.2, by rw [HZ.out]; simp⟩, HB.out.trans HO.out.2.1⟩, HBX3.out.kept (grownBy_setCell' _ _ _) (fun e => HNE.out (Option.some.inj e))⟩
          · (go_simp; refine hK _ _ ?_; clear hK K)
            refine wpAnyIn_take (i := 6) (v := .agg #[.int .i64 xp, .int .i64 z]) rfl rfl (by kernel_rfl) (by kernel_rfl) (by kernel_rfl) (fun _ _ _ h => h) ⟨Or.inl ⟨by rfl, ?_⟩, fun _ => rfl⟩ ?_
            · intro w; go_simp
            refine wpAnyIn_ready (rs := [0, 7]) (by kernel_rfl) (by simp) ?_
            refine AllReadyIn.cons rfl (fun K hK => ?_) (AllReadyIn.cons rfl (fun K hK => ?_) AllReadyIn.nil)
            · (go_simp; refine hK _ _ ?_; clear hK K)
              (refine wpAnyIn_ready (rs := [7]) (by kernel_rfl) (by simp) ?_; refine AllReadyIn.cons rfl (fun K hK => ?_) AllReadyIn.nil; go_simp; refine hK _ _ ?_; clear hK K)
              refine wpAnyIn_ready (rs := [8]) (by kernel_rfl) (by simp) ?_
              refine AllReadyIn.cons rfl (fun K hK => ?_) AllReadyIn.nil
              refine stepIn_append_sp rfl _ _ 118 rfl Try.underlying118 HI.out.1 HI.out.2.1 HI.out.2.2.1 HI.out.2.2.2 (B := w.heap.size) (v := v) (l := zpp vs (raw pre)) (s := (xp, z)) rfl rfl (by have := HB.out.size; simp; omega) (HROW.out.alloc _) (lit_sp 141 W [(xp, z)] HB.out.size (by simp) (by unfold maxLen; simp)) HPL2.out ?_
              intro v' w3 hown hgrow0
              have hgrow : (W.alloc (.cells #[.int .i64 xp, .int .i64 z] 141)).grownBy w3 v.ownBlock := ⟨hgrow0.os, hgrow0.tape, hgrow0.output, hgrow0.size, hgrow0.block⟩
              clear hgrow0
              refine hK _ _ ?_
              clear hK K
              obtain ⟨hv1, hv2, hr2, hk2, hb2⟩ := HV.out.appended (tmp := .cells #[.int .i64 xp, .int .i64 z] 141) (by decide) HROW.out HB.out.size (by have := HF2.out.size; omega) hown hgrow
              have HBX3 : Hid (Boxed w3 w.heap.size 68 (.slice (some ⟨b, off, none⟩) vs.length bcap)) := (HBX.out.alloc _).kept hgrow (HBX.out.not_row (by decide) HROW.out)
              obtain ⟨g', cap', rfl⟩ := ownsRow_succ hown
              have hc1 := hv1.cell
              have hf1 := hv1.frozen
              have HNE : Hid (w.heap.size ≠ w2.heap.size) := by have := HBV2.out.lt; rw [Hid]; omega
              have HO : Hid (KeepsOthers W (w3.setCell ⟨w2.heap.size, 0, none⟩ _) ∧ Below w.heap.size W (w3.setCell ⟨w2.heap.size, 0, none⟩ _) ∧ Boxed (w3.setCell ⟨w2.heap.size, 0, none⟩ _) w2.heap.size 118 _ ∧ World.ownsRow (w3.setCell ⟨w2.heap.size, 0, none⟩ _) w.heap.size 141 2 _ _ _) := ⟨hk2, hb2, hv2, hr2⟩
              clear hown hgrow hv1 hv2 hr2 hk2 hb2
              (refine wpAnyIn_ready (rs := [9]) (by kernel_rfl) (by simp) ?_; refine AllReadyIn.cons rfl (fun K hK => ?_) AllReadyIn.nil; go_simp; refine hK _ _ ?_; clear hK K)
              refine wpAnyIn_done (by kernel_rfl) ?_ _
              gi_wp2
              refine ⟨HO.out.1.from _, HO.out.2.1, ⟨⟨_, HO.out.2.2.1, by rw [HZ.out, List.length_append]; exact HO.out.2.2.2, by rw [HZ.out]; simp⟩, HB.out.trans HO.out.2.1⟩, HBX3.out.kept (grownBy_setCell' _ _ _) (fun e => HNE.out (Option.some.inj e))⟩
            · (go_simp; refine hK _ _ ?_; clear hK K)
              (refine wpAnyIn_ready (rs := [0]) (by kernel_rfl) (by simp) ?_; refine AllReadyIn.cons rfl (fun K hK => ?_) AllReadyIn.nil; go_simp; refine hK _ _ ?_; clear hK K)
              refine wpAnyIn_ready (rs := [8]) (by kernel_rfl) (by simp) ?_
              refine AllReadyIn.cons rfl (fun K hK => ?_) AllReadyIn.nil
              refine stepIn_append_sp rfl _ _ 118 rfl Try.underlying118 HI.out.1 HI.out.2.1 HI.out.2.2.1 HI.out.2.2.2 (B := w.heap.size) (v := v) (l := zpp vs (raw pre)) (s := (xp, z)) rfl rfl (by have := HB.out.size; simp; omega) (HROW.out.alloc _) (lit_sp 141 W [(xp, z)] HB.out.size (by simp) (by unfold maxLen; simp)) HPL2.out ?_
              intro v' w3 hown hgrow0
              have hgrow : (W.alloc (.cells #[.int .i64 xp, .int .i64 z] 141)).grownBy w3 v.ownBlock := ⟨hgrow0.os, hgrow0.tape, hgrow0.output, hgrow0.size, hgrow0.block⟩
              clear hgrow0
              refine hK _ _ ?_
              clear hK K
              obtain ⟨hv1, hv2, hr2, hk2, hb2⟩ := HV.out.appended (tmp := .cells #[.int .i64 xp, .int .i64 z] 141) (by decide) HROW.out HB.out.size (by have := HF2.out.size; omega) hown hgrow
              have HBX3 : Hid (Boxed w3 w.heap.size 68 (.slice (some ⟨b, off, none⟩) vs.length bcap)) := (HBX.out.alloc _).kept hgrow (HBX.out.not_row (by decide) HROW.out)
              obtain ⟨g', cap', rfl⟩ := ownsRow_succ hown
              have hc1 := hv1.cell
              have hf1 := hv1.frozen
              have HNE : Hid (w.heap.size ≠ w2.heap.size) := by have := HBV2.out.lt; rw [Hid]; omega
              have HO : Hid (KeepsOthers W (w3.setCell ⟨w2.heap.size, 0, none⟩ _) ∧ Below w.heap.size W (w3.setCell ⟨w2.heap.size, 0, none⟩ _) ∧ Boxed (w3.setCell ⟨w2.heap.size, 0, none⟩ _) w2.heap.size 118 _ ∧ World.ownsRow (w3.setCell ⟨w2.heap.size, 0, none⟩ _) w.heap.size 141 2 _ _ _) := ⟨hk2, hb2, hv2, hr2⟩
              clear hown hgrow hv1 hv2 hr2 hk2 hb2
              (refine wpAnyIn_ready (rs := [9]) (by kernel_rfl) (by simp) ?_; refine AllReadyIn.cons rfl (fun K hK => ?_) AllReadyIn.nil; go_simp; refine hK _ _ ?_; clear hK K)
              refine wpAnyIn_done (by kernel_rfl) ?_ _
              gi_wp2
              refine ⟨HO.out.1.from _, HO.out.2.1, ⟨⟨_, HO.out.2.2.1, by rw [HZ.out, List.length_append]; exact HO.out.2.2.2, by rw [HZ.out]; simp⟩, HB.out.trans HO.out.2.1⟩, HBX3.out.kept (grownBy_setCell' _ _ _) (fun e => HNE.out (Option.some.inj e))⟩
      case done =>
        rintro D ys W hD hys ⟨⟨⟨v, hv, hrow, hnil⟩, hB⟩, _⟩ hK
        have hc := hv.cell
        gi_wp2
        refine ⟨by simp, .inl ⟨_, _, rfl, run_takeDeferred hK, ?_⟩⟩
        have e : zpp vs (raw ys) = zpl l vs := by rw [HT.out.2]; exact congrArg (zpp vs) hys
        rw [e] at hrow hnil
        have hbb : Below w.heap.size w (W.putObj D (.deferred none)) := hB.trans (belowK_b (w := w) (Nat.le_refl _) W D _ _ (by simp at hD; omega) hK rfl rfl)
        exact ⟨_, results_tmp2 rfl _ _ _, v, by rw [HT.out.1]; rfl, SOwn.of_owns (ownsRow_putObj hrow _ hK rfl) hnil, Fr.ofBelow hbb⟩
      case stop =>
        rintro D c pre W _ _ h _
        exact h.elim
    · have hne : ¬ (vs.length : Int) = ((pls l).length : Int) := by omega
      have HCT : Hid (∀ wx, Fr [] w wx → Calls Try.prog 78 #[.slice ao l.length cap] wx fun e w' => e = .returned (.int .i64 ((pls l).length : Int)) ∧ Fr [] wx w') := by
        intro wx hf
        rw [← ctn_pls l hk0]
        exact count_any _ l wx (HSR1.out wx hf)
      have HT : Hid (zpe l vs = 10 ∧ zpl l vs = []) := by
        have e : zpe l vs = 10 := by unfold zpe; rw [if_pos hk0, if_neg hle]
        unfold Hid zpl
        rw [e]
        exact ⟨rfl, rfl⟩
      clear hle
      gi_wp2_with fail
      refine wpIn_wide.2 ?_
      go_region_held3 (fun w' => w'.cell? ⟨w.heap.size, 0, none⟩ = some (.slice bo vs.length bcap)) (go_keep) (first | (go_at_call 78; refine (HCT.out _ (HF1.out.drew)).mono ?_; rintro e w2 ⟨rfl, hf2⟩; have k0 := hf2.cell_some (p := ⟨w.heap.size, 0, none⟩) (v := .slice bo vs.length bcap) hcb (by simp)))
      have HF2 : Hid (Fr [] w w2) := HF1.out.drew.trans hf2 (by simp)
      clear hf2 k0 hcb HBV HF1
      gi_wp2
      exact ⟨_, results_tmp2 rfl _ _ _, _, by rw [HT.out.1]; rfl, .inl ⟨HT.out.2, rfl⟩, HF2.out⟩
  · have HT : Hid (zpe l vs = chk l ∧ zpl l vs = []) := by unfold Hid zpl zpe; rw [if_neg hk0, if_neg hk0]; exact ⟨rfl, rfl⟩
    gi_wp2
    exact ⟨_, results_tmp2 rfl _ _ _, _, by rw [HT.out.1]; rfl, .inl ⟨HT.out.2, rfl⟩, HF1.out⟩
end Go.Proofs.Ytoaibabkkphlaaa
