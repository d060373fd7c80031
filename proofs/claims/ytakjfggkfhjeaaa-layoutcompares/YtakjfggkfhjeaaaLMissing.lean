/-
  Package layout: missing.
-/
import Derived.Test.YtakjfggkfhjeaaaInserts
import Derived.Test.YtakjfggkfhjeaaaNRow
import Derived.Test.YtakjfggkfhjeaaaRoundReg
import Derived.Sort.QuietTacIn
namespace Go.Proofs.Ytakjfggkfhjeaaa
open Go.RowKit Go.Shelf Mem Spans
set_option linter.unusedSimpArgs false
set_option linter.unusedVariables false
set_option maxRecDepth 100000
attribute [local go_sem] Oper.semAt_some

/-- A region that draws its order and only reads, within a round of a range over a function. -/
theorem region_round_quiet {n : Nat} {P : Program} {Q : Exit → Act → World → Prop} {id l0 : Nat} {a : Act} {w : World} {l : List Oper} (hm : P.follows .mixedOrders = true) (hnd : noDefer l.toArray = true) (hB : Region.lexB .any l.toArray = true)
    (h : wpQuietIn Fence.wide n P l.toArray (fun w' => ∃ n, w' = w.drewN n) (fun a' => ∀ w', (∃ n, w' = w.drewN n) → Q .normal a' w') l a) : (Code.region id l.toArray true).wpIn (Fence.wide.inRound l0) n P Q a w := by
  refine region_round hm hnd ?_
  simp only [Region.lexB, Bool.and_eq_true] at hB
  refine wpAnyIn_of_quiet (C := fun w' => ∃ n, w' = w.drewN n) (Q := fun a' => ∀ w', (∃ n, w' = w.drewN n) → Q .normal a' w') rfl (fun _ w' hw' h => h w' hw') _ _ _ _ ⟨1, rfl⟩ ?_
  have := wpAnyQIn_lex (F := Fence.wide) (n := n) (C := fun w' => ∃ n, w' = w.drewN n) (md := .any) hB.1 l.toArray.toList 0 (Array.replicate l.toArray.size false) a (by simp) (by simpa using hB.2) (by simpa using h)
  simpa using this

/-- Block g of w1, if it is a row of ints, lies as it lay. -/
def Kb (w1 : World) (g : Nat) (W : World) : Prop := ∀ cs, w1.heap[g]? = some (Obj.cells cs 3 (0, 0)) → W.heap[g]? = some (Obj.cells cs 3 (0, 0))
theorem kb_own {β : Type} (w1 : World) (g : Nat) : Own (fun (_ : β) W => Kb w1 g W) := by
  intro s X Y row hs hg hr cs hc
  have h1 := hs cs hc
  rw [hg.block g (lt_of_heap h1) (fun e => ?_), h1]
  obtain ⟨o, ho, hn⟩ := hr g e.symm
  rw [h1] at ho
  cases ho
  cases hn

theorem grown_set (W : World) (b off : Nat) (v : Value) : W.grownBy (W.setCell ⟨b, off, none⟩ v) (some b) :=
  ⟨rfl, rfl, rfl, (KeepsWalks.setCell W _ v).size, fun k _ hk => Below.heap_setCell _ _ _ k (fun e => hk (by rw [e]))⟩
theorem cell_two_new (w : World) (x y : Value) (t : TypeId) : ∀ j u, [x, y][j]? = some u → (w.alloc (.cells #[x, y] t)).cell? ((⟨w.heap.size, 0, none⟩ : Addr).add j) = some u := by
  intro j u hj
  have e : (⟨w.heap.size, 0, none⟩ : Addr).add j = ⟨w.heap.size, j, none⟩ := by unfold Addr.add; split <;> simp_all
  rw [e, World.cell?_alloc_at _ _ _ _ rfl]
  simpa using hj

/-- The boxes of l, places and at, the rows of l and places. -/
def MI (B P g : Nat) (w w1 : World) (pv : Value) (A : Nat) (ls : List Sp) (W : World) : Prop :=
  (((∃ v, Boxed W B 25 v ∧ W.ownsRow B 47 2 v ls.length (spCells ls) ∧ (v = .slice none 0 0 ↔ ls = [])) ∧ Below B w W) ∧ Boxed W P 32 pv) ∧ Boxed W (P + 1) 3 (.int .i64 (A : Nat)) ∧ Kb w1 g W
theorem mi_drewN {B P g : Nat} {w w1 : World} {pv : Value} {A : Nat} {ls : List Sp} {W : World} (h : MI B P g w w1 pv A ls W) (n : Nat) : MI B P g w w1 pv A ls (W.drewN n) := by
  obtain ⟨⟨⟨⟨v, hv, hr, hn⟩, hb⟩, hp⟩, ha, hk⟩ := h
  exact ⟨⟨⟨⟨v, hv, hr, hn⟩, ⟨hb.os, hb.tape, hb.output, hb.size, hb.block⟩⟩, hp⟩, ha, hk⟩
theorem keeps_drewN (W : World) (n : Nat) : KeepsOthers W (W.drewN n) := ⟨Nat.le_refl _, fun _ _ h _ => h⟩
theorem below_drewN (B : Nat) (W : World) (n : Nat) : Below B W (W.drewN n) := ⟨rfl, rfl, rfl, Nat.le_refl _, fun _ _ => rfl⟩
theorem mi_at {B P g : Nat} {w w1 : World} {pv : Value} {A : Nat} {ls : List Sp} {W : World} (h : MI B P g w w1 pv A ls W) (hBP : B < P) (hg : g < P + 1) :
    KeepsOthers W (W.setCell ⟨P + 1, 0, none⟩ (.int .i64 ((A : Int) + 1))) ∧ Below B W (W.setCell ⟨P + 1, 0, none⟩ (.int .i64 ((A : Int) + 1))) ∧ MI B P g w w1 pv (A + 1) ls (W.setCell ⟨P + 1, 0, none⟩ (.int .i64 ((A : Int) + 1))) := by
  obtain ⟨⟨⟨⟨v, hv, hr, hn⟩, hb⟩, hp⟩, ha, hk⟩ := h
  have hbl : Below B W (W.setCell ⟨P + 1, 0, none⟩ (.int .i64 ((A : Int) + 1))) := (Below.refl B W).setCell (p := ⟨P + 1, 0, none⟩) (by simp only; omega) _
  refine ⟨KeepsOthers.setCell _ _ _, hbl, ⟨⟨⟨v, hv.other (by omega) _, hr.kept (grownBy_setCell' _ _ _) (.inr (ha.not_row (by decide) hr).symm), hn⟩, hb.trans hbl⟩, hp.other (by omega) _⟩, ?_, fun cs hc => ?_⟩
  · rw [show (((A + 1 : Nat)) : Int) = (A : Int) + 1 from by omega]
    exact ha.set _
  · rw [Below.heap_setCell _ _ _ _ (by simp only; omega)]
    exact hk cs hc
theorem mi_row {B P g gl cap : Nat} {w w1 : World} {pv : Value} {A : Nat} {l0 : List Sp} {s : Sp} {W : World} (h : MI B P g w w1 pv A (l0 ++ [s]) W) (hv : Boxed W B 25 (.slice (some ⟨gl, 0, none⟩) (l0.length + 1) cap)) :
    KeepsOthers W (W.setCell ⟨gl, l0.length * 2 + 1, none⟩ (.int .i64 (s.2 + 1))) ∧ Below B W (W.setCell ⟨gl, l0.length * 2 + 1, none⟩ (.int .i64 (s.2 + 1))) ∧ MI B P g w w1 pv A (l0 ++ [(s.1, s.2 + 1)]) (W.setCell ⟨gl, l0.length * 2 + 1, none⟩ (.int .i64 (s.2 + 1))) := by
  obtain ⟨⟨⟨⟨v, hv', hr, hn⟩, hb⟩, hp⟩, ha, hk⟩ := h
  have e : v = .slice (some ⟨gl, 0, none⟩) (l0.length + 1) cap := by
    have h1 := hv'.cell
    rw [hv.cell] at h1
    exact (Option.some.inj h1).symm
  subst e
  have hob : (Value.slice (some ⟨gl, 0, none⟩) (l0.length + 1) cap).ownBlock = some gl := rfl
  have n1 := hv'.not_row (by decide) hr
  have n2 := hp.not_row (by decide) hr
  have n3 := ha.not_row (by decide) hr
  rw [hob] at n1 n2 n3
  have so := SOwn.of_owns hr hn
  rcases so with ⟨h0, _⟩ | ⟨gl', hgl, _, hrow⟩
  · simp at h0
  · obtain ⟨c', hval⟩ := hrow.val
    have : gl = gl' := by
      simp only [Value.slice.injEq, Option.some.injEq, Addr.mk.injEq, and_true, true_and] at hval
      exact hval.1
    subst this
    have hbl : Below B W (W.setCell ⟨gl, l0.length * 2 + 1, none⟩ (.int .i64 (s.2 + 1))) := (Below.refl B W).setCell (p := ⟨gl, l0.length * 2 + 1, none⟩) hgl _
    have hst := hrow.stored (l0.length * 2 + 1) (.int .i64 (s.2 + 1))
    rw [spCells_set] at hst
    have hgi : W.heap[gl]? ≠ none := by have := hrow.lt; simp; omega
    refine ⟨KeepsOthers.setCell _ _ _, hbl, ⟨⟨⟨_, hv'.kept (grown_set _ _ _ _) n1, ?_, by simp⟩, hb.trans hbl⟩, hp.kept (grown_set _ _ _ _) n2⟩, ha.kept (grown_set _ _ _ _) n3, fun cs hc => ?_⟩
    · have so2 : SOwn 47 B (W.setCell ⟨gl, l0.length * 2 + 1, none⟩ (.int .i64 (s.2 + 1))) (.slice (some ⟨gl, 0, none⟩) (l0.length + 1) cap) (l0 ++ [(s.1, s.2 + 1)]) := .inr ⟨gl, hgl, by simp, by simpa using hst⟩
      exact so2.owns
    · have hkg := hk cs hc
      by_cases hgg : g = gl
      · subst hgg
        obtain ⟨_, c2, cur, _, hh, _⟩ := hrow
        rw [hkg] at hh
        simp at hh
      · rw [Below.heap_setCell _ _ _ _ (by simpa using hgg)]
        exact hkg
theorem mi_app {B P g : Nat} {w w1 : World} {pv v v' : Value} {A : Nat} {ls : List Sp} {s : Sp} {W w3 : World} {tmp : Obj} (h : MI B P g w w1 pv A ls W) (hBP : B < P) (hv : Boxed W B 25 v)
    (hown : w3.ownsRow B 47 2 v' (ls.length + 1) (spCells (ls ++ [s]))) (hgrow : (W.alloc tmp).grownBy w3 v.ownBlock) :
    Boxed w3 B 25 v ∧ KeepsOthers W (w3.setCell ⟨B, 0, none⟩ v') ∧ Below B W (w3.setCell ⟨B, 0, none⟩ v') ∧ MI B P g w w1 pv A (ls ++ [s]) (w3.setCell ⟨B, 0, none⟩ v') := by
  obtain ⟨⟨⟨⟨v0, hv', hr, hn⟩, hb⟩, hp⟩, ha, hk⟩ := h
  have e : v0 = v := by
    have h1 := hv'.cell
    rw [hv.cell] at h1
    exact (Option.some.inj h1).symm
  subst e
  obtain ⟨hv1, hv2, hr2, hk2, hb2⟩ := hv.appended (by decide) hr (Nat.le_of_lt hv.lt) (Nat.le_refl _) hown hgrow
  refine ⟨hv1, hk2, hb2, ⟨⟨⟨_, hv2, by rw [List.length_append]; exact hr2, ?_⟩, hb.trans hb2⟩, ((hp.alloc _).kept hgrow (hp.not_row (by decide) hr)).other (by omega) _⟩, ((ha.alloc _).kept hgrow (ha.not_row (by decide) hr)).other (by omega) _, fun cs hc => ?_⟩
  · obtain ⟨g', cap', rfl⟩ := ownsRow_succ hown
    simp
  · have h0 := hk cs hc
    have h1 : (W.alloc tmp).heap[g]? = some (Obj.cells cs 3 (0, 0)) := by rw [Below.heap_alloc _ _ _ (lt_of_heap h0), h0]
    have h2 : w3.heap[g]? = some (Obj.cells cs 3 (0, 0)) := by
      rw [hgrow.block g (lt_of_heap h1) (fun e => ?_), h1]
      rcases hr.2 with ⟨rfl, _⟩ | ⟨g', c', cur, rfl, _, hh, _⟩
      · simp [Value.ownBlock] at e
      · simp [Value.ownBlock] at e
        subst e
        rw [h0] at hh
        simp at hh
    rw [Below.heap_setCell _ _ _ _ (fun e => ?_), h2]
    simp only at e
    subst e
    have h3 : w3.heap[g]? = _ := hv1
    rw [h2] at h3
    simp at h3

theorem Try.infoInsert : (Try.prog.info? 47).map (fun i => (i.zero, i.size, i.bytes)) = some (some (.agg #[.int .i64 0, .int .i64 0]), 2, 16) := by kernel_rfl
theorem info_insert : ∃ i, SInfo 47 i := by
  obtain ⟨i, hi, h⟩ := Option.map_eq_some_iff.1 Try.infoInsert
  simp only [Prod.mk.injEq] at h
  exact ⟨i, hi, h.1, h.2.1, h.2.2⟩

set_option maxHeartbeats 4000000 in
theorem missing_any (v u : Value) (o l : List Sp) (w : World) (h : SSrc w v o) (h2 : SSrc w u l) :
    Calls Try.prog 26 #[v, u] w fun e w' => ∃ r, e = .returned r ∧ SOwn 47 w.heap.size w' r (mis (pls o) (pls l)) ∧ Fr [] w w' := by
  have HO : Hid (SSrc w v o) := h
  have HSR : Hid (SSrc w u l) := h2
  obtain ⟨ao, cap, rfl, hcap, hmax, _⟩ := h
  obtain ⟨ao2, cap2, rfl, hcap2, hmax2, _⟩ := h2
  obtain ⟨i0, hi⟩ := info_insert
  have HI : Hid (SInfo 47 i0) := hi
  clear hi
  have HPL : Hid ((tot l).length ≤ 4096) := by rw [Hid, tot, prs_length]; exact pls_le l
  have bL := Boxed.new w 25 (.slice none 0 0)
  have F0 : Fr [] w (w.alloc (.cells #[.slice none 0 0] 25)) := (Fr.refl _ _).alloc _
  refine (callsIn_wide (n := 3)).1 ?_
  refine callsIn_of_wp_marks Try.func26 rfl trivial ?_ rfl
  simp only [Try.ntmps26, List.size_toArray, List.length_cons, List.length_nil, Nat.reduceAdd, Nat.reduceSub, Array.replicate_succ, Array.replicate_zero, List.push_toArray, List.append_toArray, List.nil_append, List.cons_append]
  gi_wp2_with fail
  refine ⟨trivial, (callsIn_wide.2 (places_any _ o _ (HO.out.kept F0))).mono ?_⟩
  rintro e w1 ⟨p, rfl, hp, hf1⟩
  have HF1 : Hid (Fr [] w w1) := F0.trans hf1 (by simp)
  have HBL : Hid (Boxed w1 w.heap.size 25 (.slice none 0 0)) := bL.kept (Fr.grownBy hf1) (by simp)
  obtain ⟨po, pcap, g, rfl, hpc, HG⟩ : ∃ po pcap g, p = .slice po (pls o).length pcap ∧ (pls o).length ≤ pcap ∧ Hid (g < w1.heap.size + 1 ∧ ∀ W, Kb w1 g W → ∀ j x, (pls o)[j]? = some x → po = some ⟨g, 0, none⟩ ∧ W.cell? ⟨g, j, none⟩ = some (.int .i64 x)) := by
    rcases hp with ⟨h1, h2⟩ | ⟨g, _, _, hr⟩
    · refine ⟨none, 0, 0, by rw [h1, h2]; rfl, by rw [h1]; simp, by omega, fun W _ j x hj => ?_⟩
      rw [h1] at hj
      simp at hj
    · have hr' := hr
      obtain ⟨_, c, cur, hv, hg, hn, hm, hs, ht⟩ := hr
      refine ⟨_, c, g, hv, hn, by have := lt_of_heap hg; omega, fun W hW j x hj => ⟨rfl, ?_⟩⟩
      have hjl := (List.getElem?_eq_some_iff.1 hj).1
      have h1 := hr'.cell j (by omega)
      rw [cell_at hg] at h1
      rw [cell_at (hW cur hg), h1, inCells, List.getElem?_map, hj]
      rfl
  clear hp hf1 F0 bL
  gi_wp2_with fail
  refine ⟨trivial, (all_in _ _ _ _ _).mono ?_⟩
  rintro e w2 ⟨rfl, rfl⟩
  gi_wp2_with fail
  have bP := Boxed.new w1 32 (.slice po (pls o).length pcap)
  have bA := Boxed.new (w1.alloc (.cells #[.slice po (pls o).length pcap] 32)) 3 (.int .i64 0)
  rw [World.size_alloc] at bA
  have bN := Boxed.new ((w1.alloc (.cells #[.slice po (pls o).length pcap] 32)).alloc (.cells #[.int .i64 0] 3)) 22 (.slice ao2 l.length cap2)
  rw [World.size_alloc, World.size_alloc] at bN
  have hz1' := HF1.out.size
  have hvb := HBL.out.lt
  have hB0 : Below w.heap.size w (((w1.alloc (.cells #[.slice po (pls o).length pcap] 32)).alloc (.cells #[.int .i64 0] 3)).alloc (.cells #[.slice ao2 l.length cap2] 22)) := (((HF1.out.below (Nat.le_refl _) (by simp)).alloc (by omega) _).alloc (by simp; omega) _).alloc (by simp; omega) _
  have hK0 : Kb w1 g (((w1.alloc (.cells #[.slice po (pls o).length pcap] 32)).alloc (.cells #[.int .i64 0] 3)).alloc (.cells #[.slice ao2 l.length cap2] 22)) := fun cs hc => ((((Fr.refl [] w1).alloc _).alloc _).alloc _).heap hc (by simp)
  refine wpIn_rangeFunc_ownG rfl (by decide) (gf := 40) (lb := #[.pointer (some ⟨w1.heap.size + 1 + 1, 0, none⟩)]) rfl trivial (enters_of Try.func40 (by kernel_rfl) rfl)
    (all_stops (3 - 1) (by decide) (w1.heap.size + 1 + 1) _ l w _ HSR.out hB0 (by simp) bN.cell) belowK_t (belowK_b (by simp; omega)) (Below.refl _ _) (fun _ => rfl)
    (fun pre W => (((∃ v, Boxed W w.heap.size 25 v ∧ W.ownsRow w.heap.size 47 2 v (mss (pls o) (sec pre)).2.length (spCells (mss (pls o) (sec pre)).2) ∧ (v = .slice none 0 0 ↔ (mss (pls o) (sec pre)).2 = [])) ∧ Below w.heap.size w W) ∧ Boxed W w1.heap.size 32 (.slice po (pls o).length pcap)) ∧ Boxed W (w1.heap.size + 1) 3 (.int .i64 ((mss (pls o) (sec pre)).1 : Nat)) ∧ Kb w1 g W)
    (fun _ _ _ => False)
    (OwnFrom.and (OwnFrom.and (OwnFrom.and (Own.from (holdsRow_own w.heap.size w.heap.size 25 47 2 (fun pre => (mss (pls o) (sec pre)).2.length) (fun pre => spCells (mss (pls o) (sec pre)).2) (fun pre v => v = .slice none 0 0 ↔ (mss (pls o) (sec pre)).2 = [])) _) (ownFrom_below (Nat.le_refl _) (by simp; omega))) (Own.from (boxed_own _ _ _) _)) (OwnFrom.and (Own.from (boxed_own _ _ _) _) (Own.from (kb_own _ _) _)))
    (fun _ _ _ _ _ hs _ _ => hs)
    ⟨⟨⟨⟨_, ((HBL.out.alloc _).alloc _).alloc _, World.ownsRow_nil _ _ _ _, by simp [mss, sec]⟩, hB0⟩, (bP.alloc _).alloc _⟩, bA.alloc _, hK0⟩
    (fun x => { tmps := #[.slice ao o.length cap, .slice ao2 l.length cap2, undef, undef, .slice none 0 0, .pointer (some ⟨w.heap.size, 0, none⟩), .pointer (some ⟨w1.heap.size, 0, none⟩), .int .i64 (chk o), .pointer (some ⟨w1.heap.size + 1, 0, none⟩), undef, .int .i64 x.2, .tuple #[.slice po (pls o).length pcap, .int .i64 (chk o)], .slice ao o.length cap, .tuple #[.slice po (pls o).length pcap, .int .i64 (chk o)], .slice po (pls o).length pcap, .int .i64 (chk o), .slice ao2 l.length cap2, .func (.func 40) #[] #[.pointer (some ⟨w1.heap.size + 1 + 1, 0, none⟩)], .int .i64 x.1, .int .i64 x.2, undef, undef, undef, undef, undef, undef, undef, undef, undef, undef, undef, undef, undef, undef, undef, undef, undef, undef, undef, undef, undef, undef, undef, undef, undef, undef, undef, undef, undef, undef, undef, undef, undef, undef, undef, undef, undef, undef, undef, undef, undef, undef, undef, undef, undef, undef], defers := [] }) ?assign ?body ?done ?stop
  case assign =>
    intro lp x W K hK
    gi_wp2
    exact hK
  case body =>
    rintro lp pre x W hMI hlt
    have HMI0 : Hid (MI w.heap.size w1.heap.size g w w1 (.slice po (pls o).length pcap) (mss (pls o) (sec pre)).1 (mss (pls o) (sec pre)).2 W) := hMI
    have hfr := mss_frame (pls o) (sec pre)
    have hsc : (sec pre).length ≤ 4096 := by rw [sec_length]; have := HPL.out; omega
    have HST : Hid (mss (pls o) (sec (pre ++ [x])) = mst (pls o) (mss (pls o) (sec pre)) x.2) := by rw [Hid, sec_snoc, mss_snoc]
    clear hMI
    obtain ⟨xp, hxp⟩ : ∃ xp, x.2 = xp := ⟨_, rfl⟩
    rw [hxp] at HST ⊢
    generalize mss (pls o) (sec pre) = st at HMI0 HST hfr
    obtain ⟨A, ls⟩ := st
    have HMI : Hid (MI w.heap.size w1.heap.size g w w1 (.slice po (pls o).length pcap) A ls W) := HMI0.out
    obtain ⟨⟨⟨⟨v, hv, hrow, hnil⟩, hB⟩, hbp⟩, hba, hkb⟩ := HMI0.out
    have hc0 := hv.cell
    have hc1 := hbp.cell
    have hc2 := hba.cell
    have hf2 := hba.frozen
    have HV : Hid (Boxed W w.heap.size 25 v) := hv
    have HKB : Hid (Kb w1 g W) := hkb
    have HSO : Hid (SOwn 47 w.heap.size W v ls) := SOwn.of_owns hrow hnil
    simp only at hfr HST
    obtain ⟨hA, hasc, hsum, hlen⟩ := hfr
    have hA2 : A ≤ 4096 := by have := smN_nonneg hasc; omega
    have HASC : Hid (asc (-1) A ls ∧ smN ls ≤ 4096 ∧ ls.length ≤ 4096) := ⟨hasc, by have := smN_nonneg hasc; omega, by omega⟩
    clear hv hB hbp hba hkb hrow hnil hlt hxp HMI0 hasc hsum hlen
    have HP : Hid (∀ (N : Nat) (st : Nat × List Sp) (W' : World), mss (pls o) (sec (pre ++ [x])) = st → KeepsOthers W W' ∧ Below w.heap.size W W' ∧ MI w.heap.size w1.heap.size g w w1 (.slice po (pls o).length pcap) st.1 st.2 W' →
        KeepsFrom N W W' ∧ Below w.heap.size W W' ∧ MI w.heap.size w1.heap.size g w w1 (.slice po (pls o).length pcap) (mss (pls o) (sec (pre ++ [x]))).1 (mss (pls o) (sec (pre ++ [x]))).2 W') := by
      rintro N st W' rfl ⟨h1, h2, h3⟩
      exact ⟨h1.from _, h2, h3⟩
    by_cases hat : (pls o)[A]? = some xp
    · have hal := (List.getElem?_eq_some_iff.1 hat).1
      obtain ⟨rfl, hcz⟩ := HG.out.2 W HKB.out A xp hat
      have HE : Hid (mss (pls o) (sec (pre ++ [x])) = (A + 1, ls)) := by rw [Hid, HST.out]; unfold mst; rw [if_pos hat]
      clear hat
      gi_wp2
      exact HP.out _ _ _ HE.out (mi_at HMI.out hvb HG.out.1)
    · have hmx : Try.prog.follows .mixedOrders = true := by kernel_rfl
      have HAT : Hid (¬ (pls o)[A]? = some xp) := hat
      have hor : (A < (pls o).length ∧ ∃ y, po = some ⟨g, 0, none⟩ ∧ W.cell? ⟨g, A, none⟩ = some (.int .i64 y) ∧ ¬ y = xp) ∨ ¬ A < (pls o).length := by
        by_cases hal : A < (pls o).length
        · obtain ⟨y, hy⟩ := at_lt hal
          obtain ⟨e1, e2⟩ := HG.out.2 W HKB.out A y hy
          exact .inl ⟨hal, y, e1, e2, fun e => hat (by rw [hy, e])⟩
        · exact .inr hal
      clear hat
      by_cases hls : ls = []
      · have HE : Hid (mss (pls o) (sec (pre ++ [x])) = (A, ls ++ [((A : Int), 1)])) := HST.out.trans (mst_new HAT.out (.inl hls))
        have hv0 : v = .slice none 0 0 := by have := HSO.out; rw [hls] at this; exact this.nil
        have HOW : Hid (World.ownsRow W w.heap.size 47 2 (.slice none 0 0) ls.length (spCells ls)) := by rw [Hid, ← hv0]; exact HSO.out.owns
        subst hv0
        clear HST hls
        rcases hor with ⟨hal, y, rfl, hcy, hne⟩ | hal
        all_goals gi_wp2_with fail
        all_goals refine region_round_quiet hmx (by kernel_rfl) (by kernel_rfl) ?_
        all_goals repeat (quiet_step_in (fail))
        all_goals refine wpQuietIn_nil ?_
        all_goals rintro _ ⟨nq, rfl⟩
        all_goals gi_wp2_with (gi_at_builtin; refine wpListIn_append_own _ rfl _ _ 25 rfl w.heap.size 47 i0 (.agg #[.int .i64 0, .int .i64 0]) 2 16 Try.underlying25 HI.out.1 HI.out.2.1 HI.out.2.2.1 HI.out.2.2.2 rfl (by decide) _ _ _ rfl (World.ownsRow.alloc (w := W.drewN nq) HOW.out _) ⟨W.heap.size, 0, none⟩ 1 1 [.int .i64 (A : Int), .int .i64 1] rfl rfl (cell_two_new (W.drewN nq) _ _ _) (by simp [Value.oneCell']) (by have := HASC.out; unfold maxLen; omega) (by have := HASC.out; omega) (by have := HV.out.lt; simp; omega) ?_; intro v' w3 hown' hgrow _; have hown2 : w3.ownsRow w.heap.size 47 2 v' (ls.length + 1) (spCells (ls ++ [((A : Int), 1)])) := (by rw [spCells_append]; exact hown'); obtain ⟨hv1, hk2, hb2, hm2⟩ := mi_app (s := ((A : Int), 1)) (mi_drewN HMI.out nq) hvb (v := .slice none 0 0) HV.out hown2 hgrow; obtain ⟨g', cap', rfl⟩ := ownsRow_succ hown'; have HM3 : Hid (KeepsOthers W _ ∧ Below w.heap.size W _ ∧ MI w.heap.size w1.heap.size g w w1 _ A (ls ++ [((A : Int), 1)]) _) := ⟨(keeps_drewN W nq).trans hk2, (below_drewN _ W nq).trans hb2, hm2⟩; have hc3 := hv1.cell; have hf3 := hv1.frozen; clear hown' hown2 hgrow hv1 hk2 hb2 hm2)
        all_goals exact HP.out _ _ _ HE.out HM3.out
      · obtain ⟨l0, s, rfl⟩ : ∃ l0 s, ls = l0 ++ [s] := ⟨ls.dropLast, ls.getLast hls, (List.dropLast_concat_getLast hls).symm⟩
        obtain ⟨gl, capl, rfl, hcl, hcc⟩ := HSO.out.cells2 (by simp)
        have hlA := hcc l0.length s (by simp)
        have hasc := asc_init HASC.out.1
        have hl0 : l0.length + 1 ≤ 4096 := by have := HASC.out.2.2; simpa using this
        have hsN : 0 ≤ s.2 ∧ s.2 ≤ 4096 := by
          have h1 := HASC.out.2.1
          rw [smN_append] at h1
          simp only [smN] at h1
          have := smN_nonneg hasc.1
          have := hasc.2.2.2.2
          omega
        rw [show (l0 ++ [s]).length = l0.length + 1 from by simp] at hc0 hcl HV
        have HOW : Hid (World.ownsRow W w.heap.size 47 2 (.slice (some ⟨gl, 0, none⟩) (l0.length + 1) capl) (l0.length + 1) (spCells (l0 ++ [s]))) := by have := HSO.out.owns; rw [show (l0 ++ [s]).length = l0.length + 1 from by simp] at this; exact this
        have hfz : W.frozen? ⟨gl, l0.length * 2 + 1, none⟩ = false := by
          rcases HSO.out with ⟨h0, _⟩ | ⟨gl', _, _, hrow⟩
          · simp at h0
          · obtain ⟨c', hval⟩ := hrow.val
            simp only [Value.slice.injEq, Option.some.injEq, Addr.mk.injEq, and_true, true_and] at hval
            rw [hval.1]
            exact hrow.frozen _
        obtain ⟨sA, sN⟩ := s
        obtain ⟨hlA1, hlA2⟩ := hlA
        simp only at hlA1 hlA2 hsN
        obtain ⟨hsN1, hsN2⟩ := hsN
        clear hasc hls hcc
        have hwl : IntKind.i64.wrap (l0.length : Int) = (l0.length : Int) := by rw [IntKind.wrap_i64]; omega
        have hwl2 : (l0.length : Int) < (l0.length : Int) + 1 := by omega
        by_cases hsa : sA = (A : Int)
        · have HE : Hid (mss (pls o) (sec (pre ++ [x])) = (A, l0 ++ [(sA, sN + 1)])) := HST.out.trans (mst_more HAT.out hsa)
          have HSA : Hid (sA = (A : Int)) := hsa
          rw [hsa] at hlA1
          clear HST hsa
          rcases hor with ⟨hal, y, rfl, hcy, hne⟩ | hal
          all_goals gi_wp2_with fail
          all_goals refine region_round_quiet hmx (by kernel_rfl) (by kernel_rfl) ?_
          all_goals repeat (quiet_step_in (fail))
          all_goals refine wpQuietIn_nil ?_
          all_goals rintro _ ⟨nq, rfl⟩
          all_goals have HM3 := mi_row (gl := gl) (cap := capl) (mi_drewN HMI.out nq) HV.out
          all_goals have HM4 : Hid (KeepsOthers W _ ∧ Below w.heap.size W _ ∧ MI w.heap.size w1.heap.size g w w1 _ A (l0 ++ [(sA, sN + 1)]) _) := ⟨(keeps_drewN W nq).trans HM3.1, (below_drewN _ W nq).trans HM3.2.1, HM3.2.2⟩
          all_goals clear HM3
          all_goals gi_wp2
          all_goals exact HP.out _ _ _ HE.out HM4.out
        · have HE : Hid (mss (pls o) (sec (pre ++ [x])) = (A, (l0 ++ [(sA, sN)]) ++ [((A : Int), 1)])) := HST.out.trans (mst_new HAT.out (.inr ⟨l0, (sA, sN), rfl, hsa⟩))
          clear HST
          rcases hor with ⟨hal, y, rfl, hcy, hne⟩ | hal
          all_goals gi_wp2_with fail
          all_goals refine region_round_quiet hmx (by kernel_rfl) (by kernel_rfl) ?_
          all_goals repeat (quiet_step_in (fail))
          all_goals refine wpQuietIn_nil ?_
          all_goals rintro _ ⟨nq, rfl⟩
          all_goals gi_wp2_with (gi_at_builtin; refine wpListIn_append_own _ rfl _ _ 25 rfl w.heap.size 47 i0 (.agg #[.int .i64 0, .int .i64 0]) 2 16 Try.underlying25 HI.out.1 HI.out.2.1 HI.out.2.2.1 HI.out.2.2.2 rfl (by decide) _ _ _ rfl (World.ownsRow.alloc (w := W.drewN nq) HOW.out _) ⟨W.heap.size, 0, none⟩ 1 1 [.int .i64 (A : Int), .int .i64 1] rfl rfl (cell_two_new (W.drewN nq) _ _ _) (by simp [Value.oneCell']) (by unfold maxLen; omega) (by omega) (by have := HV.out.lt; simp; omega) ?_; intro v' w3 hown' hgrow _; have hown2 : w3.ownsRow w.heap.size 47 2 v' ((l0 ++ [(sA, sN)]).length + 1) (spCells ((l0 ++ [(sA, sN)]) ++ [((A : Int), 1)])) := (by rw [spCells_append, List.length_append]; exact hown'); obtain ⟨hv1, hk2, hb2, hm2⟩ := mi_app (s := ((A : Int), 1)) (mi_drewN HMI.out nq) hvb (v := .slice (some ⟨gl, 0, none⟩) (l0.length + 1) capl) HV.out hown2 hgrow; obtain ⟨g', cap', rfl⟩ := ownsRow_succ hown'; have HM3 : Hid (KeepsOthers W _ ∧ Below w.heap.size W _ ∧ MI w.heap.size w1.heap.size g w w1 _ A ((l0 ++ [(sA, sN)]) ++ [((A : Int), 1)]) _) := ⟨(keeps_drewN W nq).trans hk2, (below_drewN _ W nq).trans hb2, hm2⟩; have hc3 := hv1.cell; have hf3 := hv1.frozen; clear hown' hown2 hgrow hv1 hk2 hb2 hm2)
          all_goals exact HP.out _ _ _ HE.out HM3.out
  case done =>
    rintro D ys W hD rfl ⟨⟨⟨⟨v, hv, hrow, hnil⟩, hB⟩, _⟩, _, _⟩ hK
    have hc := hv.cell
    gi_wp2
    refine ⟨by simp, .inl ⟨_, _, rfl, run_takeDeferred hK, ?_⟩⟩
    have e : (mss (pls o) (sec (tot l))).2 = mis (pls o) (pls l) := by rw [show sec (tot l) = pls l from prs_snd 0 (pls l)]; rfl
    rw [e] at hrow hnil
    have hbb : Below w.heap.size w (W.putObj D (.deferred none)) := hB.trans (belowK_b (w := w) (Nat.le_refl _) W D _ _ (by simp at hD; omega) hK rfl rfl)
    exact ⟨_, results_tmp rfl _ _ _, v, rfl, SOwn.of_owns (ownsRow_putObj hrow _ hK rfl) hnil, Fr.ofBelow hbb⟩
  case stop =>
    rintro D c pre W _ _ h _
    exact h.elim
end Go.Proofs.Ytakjfggkfhjeaaa
