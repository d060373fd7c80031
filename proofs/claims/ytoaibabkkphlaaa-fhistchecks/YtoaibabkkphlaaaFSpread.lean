/-
  Package fhist: spread.
-/
import Derived.Test.YtoaibabkkphlaaaFMake
import Derived.Test.YtoaibabkkphlaaaHSpread
namespace Go.Proofs.Ytoaibabkkphlaaa
open Go.RowKit Go.Shelf Mem Spans
set_option linter.unusedSimpArgs false
set_option linter.unusedVariables false
set_option maxRecDepth 100000
attribute [local go_sem] Oper.semAt_some

theorem PSrc.below {n0 : Nat} {w w' : World} {v : Value} {l : List Sp} (h : PSrc w v l) (hb : Below n0 w w') (hn : w.heap.size ≤ n0) : PSrc w' v l := by
  obtain ⟨ao, cap, h1, h2, h3, h4, b, off, h5, h6⟩ := h
  refine ⟨ao, cap, h1, h2, h3, h4, b, off, h5, fun j x hj => ?_⟩
  obtain ⟨c0, c1⟩ := h6 j x hj
  have b0 : b < n0 := by have := World.block_lt_of_cell? w _ c0; simp at this; omega
  exact ⟨(hb.cell (p := ⟨b, off + j * 2, none⟩) b0).trans c0, (hb.cell (p := ⟨b, off + j * 2 + 1, none⟩) b0).trans c1⟩
theorem spsU_in_from {o : List Sp} (ho : ∀ s ∈ o, in64 s.1 ∧ inu s.2) (ps : List Int) (st : Nat × List Int) (h : ∀ z ∈ st.2, inu z) : ∀ z ∈ (ps.foldl (spt o) st).2, inu z := by
  induction ps generalizing st with
  | nil => exact h
  | cons p r ih =>
    rw [List.foldl_cons]
    refine ih _ ?_
    by_cases k : ∃ s, o[st.1]? = some s ∧ s.1 = p
    · obtain ⟨s, h1, h2⟩ := k
      rw [spt_hit h1 h2]
      intro z hz
      rcases List.mem_append.1 hz with h3 | h3
      · exact h z h3
      · rw [List.mem_singleton.1 h3]; exact (ho s (List.mem_of_getElem? h1)).2
    · rw [spt_miss (fun s h1 h2 => k ⟨s, h1, h2⟩)]
      intro z hz
      rcases List.mem_append.1 hz with h3 | h3
      · exact h z h3
      · rw [List.mem_singleton.1 h3]; unfold inu; omega
theorem spsU_in {o : List Sp} (ho : ∀ s ∈ o, in64 s.1 ∧ inu s.2) (ps : List Int) : ∀ z ∈ (sps o ps).2, inu z := spsU_in_from ho ps _ (by simp)
theorem cell_one_uat (w : World) (g : Nat) (x : Int) (t : TypeId) (hg : w.heap.size = g) : ∀ j u, [Value.int .u64 x][j]? = some u → (w.alloc (.cells #[.int .u64 x] t)).cell? ((⟨g, 0, none⟩ : Addr).add j) = some u := by
  subst hg
  intro j u hj
  have e : (⟨w.heap.size, 0, none⟩ : Addr).add j = ⟨w.heap.size, j, none⟩ := by unfold Addr.add; split <;> simp_all
  rw [e, World.cell?_alloc_at _ _ _ _ rfl]
  simpa using hj

/-- The boxes of the counts, of what came in and of the number, the counts' row. -/
def USPI (B : Nat) (w : World) (ov : Value) (A : Nat) (ls : List Int) (W : World) : Prop :=
  (((∃ v, Boxed W (B + 1) 24 v ∧ W.ownsRow B 22 1 v ls.length (unCells ls) ∧ (v = .slice none 0 0 ↔ ls = [])) ∧ Below B w W) ∧ Boxed W B 38 ov) ∧ Boxed W (B + 1 + 1) 3 (.int .i64 (A : Nat))
theorem uspi_at {B : Nat} {w : World} {ov : Value} {A : Nat} {ls : List Int} {W : World} (h : USPI B w ov A ls W) :
    KeepsOthers W (W.setCell ⟨B + 1 + 1, 0, none⟩ (.int .i64 ((A : Int) + 1))) ∧ Below B W (W.setCell ⟨B + 1 + 1, 0, none⟩ (.int .i64 ((A : Int) + 1))) ∧ USPI B w ov (A + 1) ls (W.setCell ⟨B + 1 + 1, 0, none⟩ (.int .i64 ((A : Int) + 1))) := by
  obtain ⟨⟨⟨⟨v, hv, hr, hn⟩, hb⟩, hp⟩, ha⟩ := h
  have hbl : Below B W (W.setCell ⟨B + 1 + 1, 0, none⟩ (.int .i64 ((A : Int) + 1))) := (Below.refl B W).setCell (p := ⟨B + 1 + 1, 0, none⟩) (by simp only; omega) _
  refine ⟨KeepsOthers.setCell _ _ _, hbl, ⟨⟨⟨v, hv.other (by omega) _, hr.kept (grownBy_setCell' _ _ _) (.inr (ha.not_row (by decide) hr).symm), hn⟩, hb.trans hbl⟩, hp.other (by omega) _⟩, ?_⟩
  rw [show (((A + 1 : Nat)) : Int) = (A : Int) + 1 from by omega]
  exact ha.set _
theorem uspi_app {B : Nat} {w : World} {ov v v' : Value} {A : Nat} {ls : List Int} {s : Int} {W w3 : World} {tmp : Obj} (h : USPI B w ov A ls W) (hv : Boxed W (B + 1) 24 v)
    (hown : w3.ownsRow B 22 1 v' (ls.length + 1) (unCells (ls ++ [s]))) (hgrow : (W.alloc tmp).grownBy w3 v.ownBlock) :
    Boxed w3 (B + 1) 24 v ∧ KeepsOthers W (w3.setCell ⟨B + 1, 0, none⟩ v') ∧ Below B W (w3.setCell ⟨B + 1, 0, none⟩ v') ∧ USPI B w ov A (ls ++ [s]) (w3.setCell ⟨B + 1, 0, none⟩ v') := by
  obtain ⟨⟨⟨⟨v0, hv', hr, hn⟩, hb⟩, hp⟩, ha⟩ := h
  have e : v0 = v := by
    have h1 := hv'.cell
    rw [hv.cell] at h1
    exact (Option.some.inj h1).symm
  subst e
  obtain ⟨hv1, hv2, hr2, hk2, hb2⟩ := hv.appended (by decide) hr (by have := hv.lt; omega) (by omega) hown hgrow
  refine ⟨hv1, hk2, hb2, ⟨⟨⟨_, hv2, by rw [List.length_append]; exact hr2, ?_⟩, hb.trans hb2⟩, ((hp.alloc _).kept hgrow (hp.not_row (by decide) hr)).other (by omega) _⟩, ((ha.alloc _).kept hgrow (ha.not_row (by decide) hr)).other (by omega) _⟩
  obtain ⟨g', cap', rfl⟩ := ownsRow_succ hown
  simp

theorem UOwn.put {e : TypeId} {B D : Nat} {w : World} {v : Value} {zs : List Int} {x : Option (List Deferred)} (h : UOwn e B w v zs) (hK : w.heap[D]? = some (Obj.deferred x)) : UOwn e B (w.putObj D (.deferred none)) v zs := by
  have hn : v = .slice none 0 0 ↔ zs = [] := by
    rcases h with ⟨rfl, rfl⟩ | ⟨g, _, h0, hr⟩
    · simp
    · obtain ⟨c, rfl⟩ := hr.val
      constructor
      · intro h; simp at h
      · intro h; subst h; simp at h0
  exact UOwn.of_owns (ownsRow_putObj h.owns _ hK rfl) hn
set_option maxHeartbeats 4000000 in
theorem fspread_any (v u : Value) (o l : List Sp) (w : World) (h : PSrc w v o) (h2 : SSrc w u l) (hol : o.length ≤ 1000000) :
    Calls Try.prog 62 #[v, u] w fun e w' => ∃ x, e = .returned (.tuple #[x, .bool (decide ((sps o (pls l)).1 = o.length))]) ∧ UOwn 22 w.heap.size w' x (sps o (pls l)).2 ∧ Fr [] w w' := by
  have HO : Hid (PSrc w v o) := h
  have HSR : Hid (SSrc w u l) := h2
  obtain ⟨ao, cap, rfl, hcap, hmax, _⟩ := h
  obtain ⟨ao2, cap2, rfl, hcap2, hmax2, _⟩ := h2
  obtain ⟨i0, hi⟩ := info_uint64
  have HI : Hid (UInfo 22 i0) := hi
  clear hi
  have HPL : Hid ((tot l).length ≤ 4096) := by rw [Hid, tot, prs_length]; exact pls_le l
  have bO := Boxed.new w 38 (.slice ao o.length cap)
  have bC := Boxed.new (w.alloc (.cells #[.slice ao o.length cap] 38)) 24 (.slice none 0 0)
  rw [World.size_alloc] at bC
  have bA := Boxed.new ((w.alloc (.cells #[.slice ao o.length cap] 38)).alloc (.cells #[.slice none 0 0] 24)) 3 (.int .i64 0)
  rw [World.size_alloc, World.size_alloc] at bA
  have bN := Boxed.new (((w.alloc (.cells #[.slice ao o.length cap] 38)).alloc (.cells #[.slice none 0 0] 24)).alloc (.cells #[.int .i64 0] 3)) 23 (.slice ao2 l.length cap2)
  rw [World.size_alloc, World.size_alloc, World.size_alloc] at bN
  have hB0 : Below w.heap.size w ((((w.alloc (.cells #[.slice ao o.length cap] 38)).alloc (.cells #[.slice none 0 0] 24)).alloc (.cells #[.int .i64 0] 3)).alloc (.cells #[.slice ao2 l.length cap2] 23)) := ((((Below.refl _ w).alloc (Nat.le_refl _) _).alloc (by simp) _).alloc (by simp; omega) _).alloc (by simp; omega) _
  refine (callsIn_wide (n := 3)).1 ?_
  refine callsIn_of_wp_marks Try.func62 rfl trivial ?_ rfl
  simp only [Try.ntmps62, List.size_toArray, List.length_cons, List.length_nil, Nat.reduceAdd, Nat.reduceSub, Array.replicate_succ, Array.replicate_zero, List.push_toArray, List.append_toArray, List.nil_append, List.cons_append]
  gi_wp2_with fail
  refine ⟨trivial, (all_in _ _ _ _ _).mono ?_⟩
  rintro e w2 ⟨rfl, rfl⟩
  gi_wp2_with fail
  refine wpIn_rangeFunc_ownG rfl (by decide) (gf := 99) (lb := #[.pointer (some ⟨w.heap.size + 1 + 1 + 1, 0, none⟩)]) rfl trivial (enters_of Try.func99 (by kernel_rfl) rfl)
    (all_stops (3 - 1) (by decide) (w.heap.size + 1 + 1 + 1) _ l w _ HSR.out hB0 (by simp) bN.cell) belowK_t (belowK_b (by simp; omega)) (Below.refl _ _) (fun _ => rfl)
    (fun pre W => (((∃ v, Boxed W (w.heap.size + 1) 24 v ∧ W.ownsRow w.heap.size 22 1 v (sps o (sec pre)).2.length (unCells (sps o (sec pre)).2) ∧ (v = .slice none 0 0 ↔ (sps o (sec pre)).2 = [])) ∧ Below w.heap.size w W) ∧ Boxed W w.heap.size 38 (.slice ao o.length cap)) ∧ Boxed W (w.heap.size + 1 + 1) 3 (.int .i64 ((sps o (sec pre)).1 : Nat)))
    (fun _ _ _ => False)
    (OwnFrom.and (OwnFrom.and (OwnFrom.and (Own.from (holdsRow_own w.heap.size (w.heap.size + 1) 24 22 1 (fun pre => (sps o (sec pre)).2.length) (fun pre => unCells (sps o (sec pre)).2) (fun pre v => v = .slice none 0 0 ↔ (sps o (sec pre)).2 = [])) _) (ownFrom_below (Nat.le_refl _) (by simp; omega))) (Own.from (boxed_own _ _ _) _)) (Own.from (Go.boxed_own _ _ (fun pre => .int .i64 ((sps o (sec pre)).1 : Nat))) _))
    (fun _ _ _ _ _ hs _ _ => hs)
    ⟨⟨⟨⟨_, (bC.alloc _).alloc _, World.ownsRow_nil _ _ _ _, by simp [sps, sec]⟩, hB0⟩, ((bO.alloc _).alloc _).alloc _⟩, bA.alloc _⟩
    (fun x => { tmps := #[.slice ao o.length cap, .slice ao2 l.length cap2, .pointer (some ⟨w.heap.size, 0, none⟩), undef, .slice none 0 0, .bool false, .pointer (some ⟨w.heap.size + 1, 0, none⟩), .pointer (some ⟨w.heap.size + 1 + 1, 0, none⟩), undef, .int .i64 x.2, undef, .slice ao2 l.length cap2, .func (.func 99) #[] #[.pointer (some ⟨w.heap.size + 1 + 1 + 1, 0, none⟩)], .int .i64 x.1, .int .i64 x.2, undef, undef, undef, undef, undef, undef, undef, undef, undef, undef, undef, undef, undef, undef, undef, undef, undef, undef, undef, undef, undef, undef, undef, undef, undef, undef, undef, undef, undef], defers := [] }) ?assign ?body ?done ?stop
  case assign =>
    intro lp x W K hK
    gi_wp2
    exact hK
  case body =>
    rintro lp pre x W hMI hlt
    have HMI0 : Hid (USPI w.heap.size w (.slice ao o.length cap) (sps o (sec pre)).1 (sps o (sec pre)).2 W) := hMI
    have hfr := sps_length o (sec pre)
    have hsc : (sec pre).length ≤ 4096 := by rw [sec_length]; have := HPL.out; omega
    have HST : Hid (sps o (sec (pre ++ [x])) = spt o (sps o (sec pre)) x.2) := by rw [Hid, sec_snoc, sps_snoc]
    clear hMI
    obtain ⟨xp, hxp⟩ : ∃ xp, x.2 = xp := ⟨_, rfl⟩
    rw [hxp] at HST ⊢
    have HP : Hid (∀ (N : Nat) (st : Nat × List Int) (W' : World), sps o (sec (pre ++ [x])) = st → KeepsOthers W W' ∧ Below w.heap.size W W' ∧ USPI w.heap.size w (.slice ao o.length cap) st.1 st.2 W' →
        KeepsFrom N W W' ∧ Below w.heap.size W W' ∧ USPI w.heap.size w (.slice ao o.length cap) (sps o (sec (pre ++ [x]))).1 (sps o (sec (pre ++ [x]))).2 W') := by
      rintro N st W' rfl ⟨h1, h2, h3⟩
      exact ⟨h1.from _, h2, h3⟩
    generalize sps o (sec pre) = st at HMI0 HST hfr
    obtain ⟨A, ls⟩ := st
    have HMI : Hid (USPI w.heap.size w (.slice ao o.length cap) A ls W) := HMI0.out
    obtain ⟨⟨⟨⟨v, hv, hrow, hnil⟩, hB⟩, hbp⟩, hba⟩ := HMI0.out
    have hc0 := hv.cell
    have hc1 := hbp.cell
    have hc2 := hba.cell
    have hf2 := hba.frozen
    have HV : Hid (Boxed W (w.heap.size + 1) 24 v) := hv
    have HB : Hid (Below w.heap.size w W) := hB
    have HROW : Hid (W.ownsRow w.heap.size 22 1 v ls.length (unCells ls)) := hrow
    simp only at hfr HST
    obtain ⟨hlen, hA⟩ := hfr
    have HLS : Hid (ls.length ≤ 4096) := by rw [Hid, hlen]; exact hsc
    clear hv hB hbp hba hrow hnil hlt hxp HMI0 hlen hsc
    by_cases hat : ∃ s, o[A]? = some s ∧ s.1 = xp
    · obtain ⟨s, hs, hsx⟩ := hat
      have hal := (List.getElem?_eq_some_iff.1 hs).1
      have HE : Hid (sps o (sec (pre ++ [x])) = (A + 1, ls ++ [s.2])) := HST.out.trans (spt_hit hs hsx)
      obtain ⟨_, _, hv', _, _, _, b, off, ha, hc⟩ := HO.out.below HB.out (Nat.le_refl _)
      have ha0 := ha (by omega)
      simp only [Value.slice.injEq] at hv'
      obtain ⟨rfl, _, rfl⟩ := hv'
      subst ha0
      obtain ⟨c0, c1⟩ := hc A s hs
      obtain ⟨so, sn⟩ := s
      simp only at hsx c0 c1
      subst hsx
      clear hc ha hs
      have M1 : Hid (KeepsOthers W (W.setCell ⟨w.heap.size + 1 + 1, 0, none⟩ (.int .i64 ((A : Int) + 1))) ∧ Below w.heap.size W (W.setCell ⟨w.heap.size + 1 + 1, 0, none⟩ (.int .i64 ((A : Int) + 1))) ∧ USPI w.heap.size w (.slice (some ⟨b, off, none⟩) o.length cap) (A + 1) ls (W.setCell ⟨w.heap.size + 1 + 1, 0, none⟩ (.int .i64 ((A : Int) + 1)))) := uspi_at HMI.out
      have HV1 : Hid (Boxed (W.setCell ⟨w.heap.size + 1 + 1, 0, none⟩ (.int .i64 ((A : Int) + 1))) (w.heap.size + 1) 24 v) := HV.out.other (by omega) _
      have HROW1 : Hid (World.ownsRow (W.setCell ⟨w.heap.size + 1 + 1, 0, none⟩ (.int .i64 ((A : Int) + 1))) w.heap.size 22 1 v ls.length (unCells ls)) := by
        obtain ⟨⟨⟨⟨v1, hv1, hr1, hn1⟩, _⟩, _⟩, _⟩ := M1.out.2.2
        have e := hv1.cell
        rw [HV1.out.cell] at e
        rw [Option.some.inj e]
        exact hr1
      gi_wp2_with (gi_at_builtin; refine wpListIn_append_own _ rfl _ _ 24 rfl w.heap.size 22 i0 (.int .u64 0) 1 8 Try.underlying24 HI.out.1 HI.out.2.1 HI.out.2.2.1 HI.out.2.2.2 rfl (by decide) _ _ _ rfl (World.ownsRow.alloc (w := W.setCell ⟨w.heap.size + 1 + 1, 0, none⟩ (.int .i64 ((A : Int) + 1))) HROW1.out _) ⟨W.heap.size, 0, none⟩ 1 1 [.int .u64 sn] rfl rfl (cell_one_uat _ _ _ _ (by simp)) (by simp [Value.oneCell']) (by have := HLS.out; unfold maxLen; omega) (by have := HLS.out; omega) (by have := HB.out.size; simp; omega) ?_; intro v' w3 hown' hgrow _; have hown2 : w3.ownsRow w.heap.size 22 1 v' (ls.length + 1) (unCells (ls ++ [sn])) := (by rw [unCells, List.map_append]; exact hown'); obtain ⟨hv1, hk2, hb2, hm2⟩ := uspi_app (s := sn) M1.out.2.2 HV1.out hown2 hgrow; obtain ⟨g', cap', rfl⟩ := ownsRow_succ hown'; have HM3 : Hid (KeepsOthers W _ ∧ Below w.heap.size W _ ∧ USPI w.heap.size w _ _ (ls ++ [sn]) _) := ⟨M1.out.1.trans hk2, M1.out.2.1.trans hb2, hm2⟩; have hc3 := hv1.cell; have hf3 := hv1.frozen)
      exact HP.out _ _ _ HE.out HM3.out
    · have HE : Hid (sps o (sec (pre ++ [x])) = (A, ls ++ [0])) := HST.out.trans (spt_miss (fun s h1 h2 => hat ⟨s, h1, h2⟩))
      have M1 : Hid (KeepsOthers W W ∧ Below w.heap.size W W ∧ USPI w.heap.size w (.slice ao o.length cap) A ls W) := ⟨KeepsOthers.refl W, Below.refl _ _, HMI.out⟩
      have HV1 : Hid (Boxed W (w.heap.size + 1) 24 v) := HV.out
      have HROW1 : Hid (World.ownsRow W w.heap.size 22 1 v ls.length (unCells ls)) := HROW.out
      have hor : (A < o.length ∧ ∃ b off so, ao = some ⟨b, off, none⟩ ∧ W.cell? ⟨b, off + A * 2, none⟩ = some (.int .i64 so) ∧ ¬ so = xp) ∨ ¬ A < o.length := by
        by_cases hal : A < o.length
        · obtain ⟨s, hs⟩ := at_lt hal
          obtain ⟨_, _, hv', _, _, _, b, off, ha, hc⟩ := HO.out.below HB.out (Nat.le_refl _)
          have ha0 := ha (by omega)
          simp only [Value.slice.injEq] at hv'
          obtain ⟨rfl, _, rfl⟩ := hv'
          exact .inl ⟨hal, b, off, s.1, ha0, (hc A s hs).1, fun e => hat ⟨s, hs, e⟩⟩
        · exact .inr hal
      clear hat HST
      rcases hor with ⟨hal, b, off, so, rfl, c0, hne⟩ | hal
      all_goals gi_wp2_with (gi_at_builtin; refine wpListIn_append_own _ rfl _ _ 24 rfl w.heap.size 22 i0 (.int .u64 0) 1 8 Try.underlying24 HI.out.1 HI.out.2.1 HI.out.2.2.1 HI.out.2.2.2 rfl (by decide) _ _ _ rfl (World.ownsRow.alloc (w := W) HROW1.out _) ⟨W.heap.size, 0, none⟩ 1 1 [.int .u64 0] rfl rfl (cell_one_uat _ _ _ _ (by simp)) (by simp [Value.oneCell']) (by have := HLS.out; unfold maxLen; omega) (by have := HLS.out; omega) (by have := HB.out.size; simp; omega) ?_; intro v' w3 hown' hgrow _; have hown2 : w3.ownsRow w.heap.size 22 1 v' (ls.length + 1) (unCells (ls ++ [0])) := (by rw [unCells, List.map_append]; exact hown'); obtain ⟨hv1, hk2, hb2, hm2⟩ := uspi_app (s := 0) M1.out.2.2 HV1.out hown2 hgrow; obtain ⟨g', cap', rfl⟩ := ownsRow_succ hown'; have HM3 : Hid (KeepsOthers W _ ∧ Below w.heap.size W _ ∧ USPI w.heap.size w _ _ (ls ++ [0]) _) := ⟨M1.out.1.trans hk2, M1.out.2.1.trans hb2, hm2⟩; have hc3 := hv1.cell; have hf3 := hv1.frozen)
      all_goals exact HP.out _ _ _ HE.out HM3.out
  case done =>
    rintro D ys W hD rfl ⟨⟨⟨⟨v, hv, hrow, hnil⟩, hB⟩, hbp⟩, hba⟩ hK
    have e : sec (tot l) = pls l := prs_snd 0 (pls l)
    rw [e] at hrow hnil hba
    have HN : Hid (UOwn 22 w.heap.size W v (sps o (pls l)).2) := UOwn.of_owns hrow hnil
    have HB : Hid (Below w.heap.size w W) := hB
    have HK : Hid (W.heap[D]? = _) := hK
    have HD : Hid (_ ≤ D) := hD
    have hc := hv.cell
    obtain ⟨va, vc, rfl⟩ := HN.out.val
    have hbpc := hbp.cell
    have hbac := hba.cell
    clear hv hrow hnil hB hbp hba hK hD e
    gi_wp2_with fail
    refine wpIn_wide.2 ?_
    go_quiet (fail)
    have HBQ : Hid ((((sps o (pls l)).1 : Int) == (o.length : Int)) = decide ((sps o (pls l)).1 = o.length)) := by
      rw [Hid, Bool.eq_iff_iff, beq_iff_eq, decide_eq_true_iff]; omega
    gi_wp2
    have hKq : (W.drewN nq).heap[D]? = some (Obj.deferred (some [])) := HK.out
    refine ⟨by simp, .inl ⟨_, _, rfl, run_takeDeferred hKq, ?_⟩⟩
    have hbb : Below w.heap.size w ((W.drewN nq).putObj D (.deferred none)) := (((Fr.ofBelow HB.out).trans (fr_drewN W nq) (by simp)).below (Nat.le_refl _) (by simp)).trans (belowK_b (w := w) (Nat.le_refl _) (W.drewN nq) D _ _ (by have := HD.out; simp at this; omega) hKq rfl rfl)
    exact ⟨_, results_tmp2 rfl _ _ _, _, by rw [← HBQ.out]; rfl, (HN.out.kept (fr_drewN W nq)).put hKq, Fr.ofBelow hbb⟩
  case stop =>
    rintro D c pre W _ _ h _
    exact h.elim
end Go.Proofs.Ytoaibabkkphlaaa
