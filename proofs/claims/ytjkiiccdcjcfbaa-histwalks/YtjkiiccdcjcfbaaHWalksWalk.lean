/-
  HistWalks: the walk.
-/
import Derived.Test.YtjkiiccdcjcfbaaHPut
import Derived.Test.YtjkiiccdcjcfbaaHCanonWalk
import Derived.Test.YtjkiiccdcjcfbaaHPairsWalk
import Derived.Test.YtjkiiccdcjcfbaaRoundReg
import Derived.Sort.QuietTacIn
namespace Go.Proofs.Ytjkiiccdcjcfbaa
open Go.RowKit Go.Shelf Mem Spans
set_option linter.unusedSimpArgs false
set_option linter.unusedVariables false
set_option maxRecDepth 100000
attribute [local go_sem] Oper.semAt_some

/-- A region that draws its order and only reads, within a round of a range over a function. -/
theorem region_round_quiet {n : Nat} {P : Program} {Q : Exit → Act → World → Prop} {id l0 : Nat} {a : Act} {w : World} {l : List Oper} (hm : P.follows .mixedOrders = true) (hnd : noDefer l.toArray = true) (hB : Region.lexB .any l.toArray = true)
    (h : wpQuietIn Fence.wide n P l.toArray (fun w' => ∃ n, w' = w.drewN n) (fun a' => ∀ w', (∃ n, w' = w.drewN n) → Q .normal a' w') l a) : (Code.region id l.toArray true).wpIn (Fence.wide.inRound l0) n P Q a w := by
  refine region_round hm hnd ?_
  simp only [Region.lexB, Bool.and_eq_true] at hB
  refine wpAnyIn_of_quiet (C := fun w' => ∃ n, w' = w.drewN n) (Q := fun a' => ∀ w', (∃ n, w' = w.drewN n) → Q .normal a' w') rfl (fun _ w' hw' h => h w' hw') _ _ _ _ ⟨1, rfl⟩ ?_
  have := wpAnyQIn_lex (F := Fence.wide) (n := n) (C := fun w' => ∃ n, w' = w.drewN n) (md := .any) hB.1 l.toArray.toList 0 (Array.replicate l.toArray.size false) a (by simp) (by simpa using hB.2) (by simpa using h)
  simpa using this

/-- A result in a cell, at the end. -/
theorem walks_res {w : World} {B : Nat} {v : Value} (h : w.cell? ⟨B, 0, none⟩ = some v) (tmps : Array Value) (ht : tmps[4]?.getD undef = .pointer (some ⟨B, 0, none⟩)) : (results Try.f9 tmps).run Try.prog w = .ok v w := by
  simp [results, Try.f9, go_sem, ht, h]

set_option maxHeartbeats 8000000 in
theorem hwalks_walk (v0 : Value) (h : Hs) (a1 : Int) (w : World) (w0 : HSrc w v0 h) (w1 : (Lit.int .i64 a1).wf = true) :
    Calls Try.prog 9 #[v0, .int .i64 a1] w fun e w' => e = .returned (.bool true) ∧ Below w.heap.size w w' := by
  have HH : Hid (∀ wx, Fr [] w wx → HSrc wx v0 h) := fun wx hx => w0.kept hx
  obtain ⟨po, pc, no, nc, qo, qc, ro, rc, rfl, _, hsr, _⟩ := w0.opens
  have HSR : Hid (∀ wx, Fr [] w wx → SSrc wx (.slice po h.P.length pc) h.P ∧ SSrc wx (.slice no h.N.length nc) h.N ∧ ISrc wx (.slice qo h.pd.length qc) h.pd ∧ ISrc wx (.slice ro h.nd.length rc) h.nd) := fun wx hx => ⟨hsr.1.kept hx, hsr.2.1.kept hx, hsr.2.2.1.kept hx, hsr.2.2.2.kept hx⟩
  clear w0 w1 hsr
  refine (callsIn_wide (n := 3)).1 ?_
  refine callsIn_of_wp_marks Try.func9 rfl trivial ?_ rfl
  refine wpIn_wide.2 ?_
  simp only [Try.ntmps9, List.size_toArray, List.length_cons, List.length_nil, Nat.reduceAdd, Nat.reduceSub, Array.replicate_succ, Array.replicate_zero, List.push_toArray, List.append_toArray, List.nil_append, List.cons_append]
  have HN0 : Hid (Nine (((w.alloc (.cells #[.int .i64 h.s, .int .u64 h.z, .int .u64 h.zc, .int .u64 h.c, .int .u64 h.sm, .slice po h.P.length pc, .slice no h.N.length nc, .slice qo h.pd.length qc, .slice ro h.nd.length rc] 26)).alloc (.cells #[.int .i64 a1] 3)).alloc (.cells #[.bool false] 4)) w.heap.size #[.int .i64 h.s, .int .u64 h.z, .int .u64 h.zc, .int .u64 h.c, .int .u64 h.sm, .slice po h.P.length pc, .slice no h.N.length nc, .slice qo h.pd.length qc, .slice ro h.nd.length rc]) := ((Nine.new _ _).kept ((Fr.refl [] _).alloc _) (by simp)).kept ((Fr.refl [] _).alloc _) (by simp)
  have bS0 : Boxed (((w.alloc (.cells #[.int .i64 h.s, .int .u64 h.z, .int .u64 h.zc, .int .u64 h.c, .int .u64 h.sm, .slice po h.P.length pc, .slice no h.N.length nc, .slice qo h.pd.length qc, .slice ro h.nd.length rc] 26)).alloc (.cells #[.int .i64 a1] 3)).alloc (.cells #[.bool false] 4)) (w.heap.size + 1) 3 (.int .i64 a1) := by
    have := (Boxed.new (w.alloc (.cells #[.int .i64 h.s, .int .u64 h.z, .int .u64 h.zc, .int .u64 h.c, .int .u64 h.sm, .slice po h.P.length pc, .slice no h.N.length nc, .slice qo h.pd.length qc, .slice ro h.nd.length rc] 26)) 3 (.int .i64 a1)).alloc (.cells #[.bool false] 4)
    rwa [World.size_alloc] at this
  have bR0 : Boxed (((w.alloc (.cells #[.int .i64 h.s, .int .u64 h.z, .int .u64 h.zc, .int .u64 h.c, .int .u64 h.sm, .slice po h.P.length pc, .slice no h.N.length nc, .slice qo h.pd.length qc, .slice ro h.nd.length rc] 26)).alloc (.cells #[.int .i64 a1] 3)).alloc (.cells #[.bool false] 4)) (w.heap.size + 1 + 1) 4 (.bool false) := by
    have := Boxed.new ((w.alloc (.cells #[.int .i64 h.s, .int .u64 h.z, .int .u64 h.zc, .int .u64 h.c, .int .u64 h.sm, .slice po h.P.length pc, .slice no h.N.length nc, .slice qo h.pd.length qc, .slice ro h.nd.length rc] 26)).alloc (.cells #[.int .i64 a1] 3)) 4 (.bool false)
    rwa [World.size_alloc, World.size_alloc] at this
  have HF0 : Hid (Fr [] w (((w.alloc (.cells #[.int .i64 h.s, .int .u64 h.z, .int .u64 h.zc, .int .u64 h.c, .int .u64 h.sm, .slice po h.P.length pc, .slice no h.N.length nc, .slice qo h.pd.length qc, .slice ro h.nd.length rc] 26)).alloc (.cells #[.int .i64 a1] 3)).alloc (.cells #[.bool false] 4))) := (((Fr.refl [] w).alloc _).alloc _).alloc _
  go_upto_region 1 with fail
  generalize ((w.alloc (.cells #[.int .i64 h.s, .int .u64 h.z, .int .u64 h.zc, .int .u64 h.c, .int .u64 h.sm, .slice po h.P.length pc, .slice no h.N.length nc, .slice qo h.pd.length qc, .slice ro h.nd.length rc] 26)).alloc (.cells #[.int .i64 a1] 3)).alloc (.cells #[.bool false] 4) = W0 at *
  have q0 := HN0.out.cell 0 rfl
  have q1 := HN0.out.cell 1 rfl
  have q2 := HN0.out.cell 2 rfl
  have q3 := HN0.out.cell 3 rfl
  have q4 := HN0.out.cell 4 rfl
  have q5 := HN0.out.cell 5 rfl
  have q6 := HN0.out.cell 6 rfl
  have q7 := HN0.out.cell 7 rfl
  have q8 := HN0.out.cell 8 rfl
  go_wp2_with fail
  refine (hsmall_any _ h W0 (HH.out _ HF0.out)).mono ?_
  rintro e w1 ⟨r, rfl, hr, hf1⟩
  have HF1 : Hid (Fr [] w w1) := HF0.out.trans hf1 (by simp)
  have HN1 : Hid (Nine w1 w.heap.size #[.int .i64 h.s, .int .u64 h.z, .int .u64 h.zc, .int .u64 h.c, .int .u64 h.sm, .slice po h.P.length pc, .slice no h.N.length nc, .slice qo h.pd.length qc, .slice ro h.nd.length rc]) := HN0.out.kept hf1 (by simp)
  have bS1 := Boxed.fr9 bS0 hf1
  have bR1 := Boxed.fr9 bR0 hf1
  have HR : Hid (r = true → Few h) := hr
  clear hf1 hr HN0 HF0 q0 q1 q2 q3 q4 q5 q6 q7 q8 bS0 bR0
  cases r with
  | false =>
    go_wp2_with fail
    refine (awake9_any w1).mono ?_
    rintro e w2 ⟨rfl, hf2⟩
    have HF2 : Hid (Fr [] w w2) := HF1.out.trans hf2 (by simp)
    have bR2 := Boxed.fr9 bR1 hf2
    have hc2 := bR2.cell
    have hz2 := bR2.frozen
    clear hf2
    go_wp2
    exact ⟨_, walks_res (World.cell?_setCell_same' _ _ _ (by rw [hc2]; rfl)) _ rfl, rfl, (HF2.out.setCell _ _ (.inr (by simp; omega))).below (Nat.le_refl _) (by simp)⟩
  | true =>
    have HFEW : Hid (Few h) := HR.out rfl
    clear HR
    go_wp2_with fail
    refine (awake9_any w1).mono ?_
    rintro e w2 ⟨rfl, hf2⟩
    have HF2 : Hid (Fr [] w w2) := HF1.out.trans hf2 (by simp)
    have HN2 : Hid (Nine w2 w.heap.size _) := HN1.out.kept hf2 (by simp)
    have bS2 := Boxed.fr9 bS1 hf2
    have bR2 := Boxed.fr9 bR1 hf2
    have hcs := bS2.cell
    clear hf2 HF1 bS1 bR1 HN1
    by_cases hst : a1 < 1
    · have hc2 := bR2.cell
      have hz2 := bR2.frozen
      go_wp2_with fail
      refine (awake9_any w2).mono ?_
      rintro e w3 ⟨rfl, hf3⟩
      have HF3 : Hid (Fr [] w w3) := HF2.out.trans hf3 (by simp)
      have bR3 := Boxed.fr9 bR2 hf3
      have hc3 := bR3.cell
      have hz3 := bR3.frozen
      clear hf3 hc2 hz2
      go_wp2
      exact ⟨_, walks_res (World.cell?_setCell_same' _ _ _ (by rw [hc3]; rfl)) _ rfl, rfl, (HF3.out.setCell _ _ (.inr (by simp; omega))).below (Nat.le_refl _) (by simp)⟩
    have HST : Hid (1 ≤ a1) := by rw [Hid]; omega
    have bP3 := Boxed.new w2 64 (.slice none 0 0)
    have HF23 : Hid (Fr [] w2 (w2.alloc (.cells #[.slice none 0 0] 64))) := (Fr.refl [] w2).alloc _
    have HLT : Hid (w.heap.size + 1 + 1 < w2.heap.size) := bR2.lt
    go_upto_region 4 with fail
    generalize w2.alloc (.cells #[.slice none 0 0] 64) = w3 at *
    generalize hPd : w2.heap.size = P at *
    have HF3 : Hid (Fr [] w w3) := HF2.out.trans HF23.out (by simp)
    have HN3 : Hid (Nine w3 w.heap.size #[.int .i64 h.s, .int .u64 h.z, .int .u64 h.zc, .int .u64 h.c, .int .u64 h.sm, .slice po h.P.length pc, .slice no h.N.length nc, .slice qo h.pd.length qc, .slice ro h.nd.length rc]) := HN2.out.kept HF23.out (by simp)
    have bS3 := Boxed.fr9 bS2 HF23.out
    have bR3 := Boxed.fr9 bR2 HF23.out
    clear hcs HF2 HF23 bS2 bR2 HN2 hPd hst
    have q0 := HN3.out.cell 0 rfl
    have q1 := HN3.out.cell 1 rfl
    have q2 := HN3.out.cell 2 rfl
    have q3 := HN3.out.cell 3 rfl
    have q4 := HN3.out.cell 4 rfl
    have q5 := HN3.out.cell 5 rfl
    have q6 := HN3.out.cell 6 rfl
    have q7 := HN3.out.cell 7 rfl
    have q8 := HN3.out.cell 8 rfl
    have HLE : Hid (h.P.length ≤ 1024 ∧ h.N.length ≤ 1024) := few_le HFEW.out
    go_wp2_with fail
    refine (href_any _ h w3 (HH.out _ HF3.out) HLE.out).mono ?_
    rintro e w4 ⟨u, rfl, hu, hf4⟩
    have HU : Hid (HSrc w4 u h) := hu
    have HFA4 : Hid (Fr [] w3 w4) := hf4
    clear hu hf4 q0 q1 q2 q3 q4 q5 q6 q7 q8
    go_wp2_with fail
    refine (lcheck9_any _ h w4 HU.out).mono ?_
    rintro e w5 ⟨rfl, hf5⟩
    have HFA5 : Hid (Fr [] w3 w5) := HFA4.out.trans hf5 (by simp)
    have HF5 : Hid (Fr [] w w5) := HF3.out.trans HFA5.out (by simp)
    have HN5 : Hid (Nine w5 w.heap.size #[.int .i64 h.s, .int .u64 h.z, .int .u64 h.zc, .int .u64 h.c, .int .u64 h.sm, .slice po h.P.length pc, .slice no h.N.length nc, .slice qo h.pd.length qc, .slice ro h.nd.length rc]) := HN3.out.kept HFA5.out (by simp)
    have bS5 := Boxed.fr9 bS3 HFA5.out
    have bR5 := Boxed.fr9 bR3 HFA5.out
    have bP5 := Boxed.fr9 bP3 HFA5.out
    clear hf5 HFA4 HFA5 HU HF3 HN3 bS3 bR3 bP3
    go_upto_if 32 with fail
    go_cut [] from 6 to 114 (fun wx => Fr [] w wx ∧ Nine wx w.heap.size #[.int .i64 h.s, .int .u64 h.z, .int .u64 h.zc, .int .u64 h.c, .int .u64 h.sm, .slice po h.P.length pc, .slice no h.N.length nc, .slice qo h.pd.length qc, .slice ro h.nd.length rc] ∧ Boxed wx (w.heap.size + 1) 3 (.int .i64 a1) ∧ Boxed wx (w.heap.size + 1 + 1) 4 (.bool false) ∧ ∃ v, Boxed wx P 64 v ∧ BOwn (P + 1) wx v (bks h))
    case first =>
      by_cases hk : che h = 0
      case neg =>
        have HE : Hid (bks h = []) := by unfold Hid bks; rw [if_neg hk]
        go_wp2
        go_meet
        exact ⟨HF5.out, HN5.out, bS5, bR5, _, bP5, by rw [HE.out]; exact BOwn.nil _ _⟩
      have HK : Hid (che h = 0) := hk
      rw [hk]
      clear hk
      have HBS : Hid (bks h = sdO 1 (sdn h).reverse ++ (zrO h.zc ++ sdO 0 (sdp h))) := by unfold Hid bks; rw [if_pos HK.out]
      have L6 : ∀ wx, Fr [] w5 wx → wx.cell? ⟨w.heap.size, 6, none⟩ = some (.slice no h.N.length nc) := fun wx hx => hx.cell_some (HN5.out.cell 6 rfl) List.not_mem_nil
      have L8 : ∀ wx, Fr [] w5 wx → wx.cell? ⟨w.heap.size, 8, none⟩ = some (.slice ro h.nd.length rc) := fun wx hx => hx.cell_some (HN5.out.cell 8 rfl) List.not_mem_nil
      have F1 : Fr [] w5 w5.drew := (Fr.refl _ _).drew
      have HT1 : Hid (∀ wx, Fr [] w5 wx → Calls Try.prog 21 #[.slice no h.N.length nc] wx fun e w' => ∃ u, e = .returned u ∧ SSrc w' u h.N ∧ Fr [] w5 w') := by
        intro wx hx
        have hs := (HSR.out _ (HF5.out.trans hx (by simp))).2.1
        refine (spans_any _ h.N wx hs HLE.out.2).mono ?_
        rintro e w' ⟨u, rfl, hu, hf⟩
        exact ⟨u, rfl, hu.src (by obtain ⟨_, _, _, _, _, h64, _⟩ := hs; exact h64), hx.trans hf (by simp)⟩
      have HT2 : Hid (∀ wx u, Fr [] w5 wx → SSrc wx u h.N → Calls Try.prog 20 #[u, .slice ro h.nd.length rc] wx fun e w' => ∃ x y, e = .returned (.tuple #[x, y, .int .i64 (sde h.N h.nd)]) ∧ IOwn w5.heap.size w' x (fsts (sdn h)) ∧ NOwn 2 w5.heap.size w' y (snds (sdn h)) ∧ Fr [] w5 w') := by
        intro wx u hx hu
        refine (lside_any _ _ h.N h.nd wx hu ((HSR.out _ (HF5.out.trans hx (by simp))).2.2.2)).mono ?_
        rintro e w' ⟨x, y, rfl, hxx, hy, hf⟩
        have := sdp_sp HK.out
        rw [this.2.2.1] at hxx
        rw [this.2.2.2] at hy
        exact ⟨x, y, rfl, hxx.mono hx.size, hy.mono hx.size, hx.trans hf (by simp)⟩
      go_wp2_with fail
      go_region_held3 (fun w' => w'.cell? ⟨w.heap.size, 6, none⟩ = some (.slice no h.N.length nc) ∧ w'.cell? ⟨w.heap.size, 8, none⟩ = some (.slice ro h.nd.length rc)) (go_keep) (first
        | (go_at_call 21; with_reducible refine (HT1.out _ F1).mono ?_; rintro e wa2 ⟨ua2, rfl, hua2, hfa2⟩)
        | (go_at_call 20; with_reducible refine (HT2.out _ _ hfa2 hua2).mono ?_; rintro e wd ⟨x2, y2, rfl, hx2, hy2, hfd⟩))
      have HQ : Hid (IOwn w5.heap.size wd x2 (fsts (sdn h))) := hx2
      have HM : Hid (NOwn 2 w5.heap.size wd y2 (snds (sdn h))) := hy2
      have HFD : Hid (Fr [] w5 wd) := hfd
      clear hx2 hy2 hfd hfa2 hua2 F1 HT1 HT2 L6 L8
      obtain ⟨qa, qcap, rfl⟩ := HQ.out.val
      obtain ⟨ma, mcap, rfl⟩ := HM.out.val
      rw [fsts_length] at HQ ⊢
      rw [snds_length] at HM ⊢
      have HLN : Hid ((sdn h).length ≤ 4096 ∧ (sdp h).length ≤ 4096) := ⟨sdn_le h, sdp_le h⟩
      have hml : (sdn h).length ≤ 4096 := HLN.out.1
      have hPw : w.heap.size ≤ P := by have := HLT.out; omega
      have HB0 : Hid (Bx w wd P wd (.slice none 0 0) []) := ⟨HF5.out.trans HFD.out (by simp), Oty.refl _, Boxed.fr9 bP5 HFD.out, BOwn.nil _ _⟩
      have HNd : Hid (Nine wd w.heap.size #[.int .i64 h.s, .int .u64 h.z, .int .u64 h.zc, .int .u64 h.c, .int .u64 h.sm, .slice po h.P.length pc, .slice no h.N.length nc, .slice qo h.pd.length qc, .slice ro h.nd.length rc]) := HN5.out.kept HFD.out (by simp)
      have bSd := Boxed.fr9 bS5 HFD.out
      have bRd := Boxed.fr9 bR5 HFD.out
      clear HF5 HN5 bS5 bR5 bP5 HFD
      go_wp2_with fail
      go_loopw [45] (fun i wr => ∃ (k : Nat), k ≤ (sdn h).length ∧ i = .int .i64 (k : Int) ∧ ∃ v, Bx w wd P wr v (sdO 1 ((sdn h).reverse.take k))) (fun i _ => (sdn h).length - (intOf i).toNat)
      case atStart => exact ⟨0, by omega, rfl, _, by simpa [sdO] using HB0.out⟩
      case round =>
        obtain ⟨k, hk, rfl, v, hb⟩ := hrel
        have HB8 : Hid (Bx w wd P wr v (sdO 1 ((sdn h).reverse.take k))) := hb
        clear hb HB0
        by_cases hlt : k < (sdn h).length
        · obtain ⟨s, hs⟩ := at_lt (l := sdn h) (k := (sdn h).length - 1 - k) (by omega)
          have HR : Hid ((sdn h).reverse.take (k + 1) = (sdn h).reverse.take k ++ [s]) := rev_at hlt hs
          have hin := (sdn_in h s (List.mem_of_getElem? hs)).2
          obtain ⟨gm, capm, hvm, _, hcm⟩ := (HM.out.oty HB8.out.2.1).cells1 (by rw [snds_length]; omega)
          obtain ⟨gq, capq, hvq, _, hcq⟩ := (show NOwn 3 _ _ _ _ from HQ.out.oty HB8.out.2.1).cells1 (by rw [fsts_length]; omega)
          simp only [Value.slice.injEq] at hvm hvq
          obtain ⟨rfl, e1, rfl⟩ := hvm
          clear e1
          obtain ⟨rfl, e1, rfl⟩ := hvq
          clear e1
          have cm := hcm ((sdn h).length - 1 - k) s.2 (by unfold snds; rw [List.getElem?_map, hs]; rfl)
          have cq := hcq ((sdn h).length - 1 - k) s.1 (by unfold fsts; rw [List.getElem?_map, hs]; rfl)
          clear hcm hcq hs
          have hidx : ((sdn h).length : Int) - 1 - (k : Int) = (((sdn h).length - 1 - k : Nat) : Int) := by omega
          have hlt2 : (sdn h).length - 1 - k < (sdn h).length := by omega
          have cP := HB8.out.2.2.1.cell
          obtain ⟨pl, n⟩ := s
          simp only at cm cq hin
          go_upto_region 10 with fail
          try rw [hidx]
          by_cases hv : 0 < n
          · have hu : IntKind.u64.wrap n = n := to_u (by omega) hin
            have HEX : Hid (sdO 1 ((sdn h).reverse.take (k + 1)) = sdO 1 ((sdn h).reverse.take k) ++ [((1 : Int), pl, n)]) := by rw [Hid, HR.out, sdO_app, sdO_one hv]
            have HOL : Hid ((sdO 1 ((sdn h).reverse.take k)).length ≤ 1000000) := by
              have := sdO_le 1 ((sdn h).reverse.take k)
              rw [List.length_take, List.length_reverse] at this
              rw [Hid]; omega
            go_upto_region 11 with fail
            clear HR hin hidx
            generalize sdO 1 ((sdn h).reverse.take k) = L at *
            generalize (sdn h).length - 1 - k = D at *
            have BQ : Hid (∀ o, Bx w wd P (wr.alloc o).drew v L) := fun o => HB8.out.kept ((Fr.refl [] _).alloc o).drew
            have dP : ∀ o, (wr.alloc o).cell? ⟨P, 0, none⟩ = some v := fun o => ((Fr.refl [] wr).alloc o).cell_some cP List.not_mem_nil
            have hPs : P + 1 ≤ wr.heap.size := HB8.out.lt
            refine wp_calm ?_
            go_region_law (first
              | (refine step_append_bk rfl _ _ rfl (B := P + 1) (v := v) (l := L) (s := (1, pl, n)) rfl rfl (by simp; omega) (BQ.out _).2.2.2 ((lit_bk wr (1, pl, n) rfl hPs).kept (Fr.refl [] _).drew) HOL.out ?_
                 intro va wa hva hba hta
                 obtain ⟨va0, vac, rfl⟩ := hva.val
                 obtain ⟨bPa, hsa⟩ := (BQ.out _).box hva hba hta hPw
                 have HSA : Hid (∀ u, u = Value.slice va0 (L ++ [((1 : Int), pl, n)]).length vac → Bx w wd P (wa.setCell ⟨P, 0, none⟩ u) u (L ++ [((1 : Int), pl, n)])) := fun u hu => by subst hu; exact hsa _ rfl
                 have cPa := bPa.cell
                 have zPa := bPa.frozen
                 clear hva hba hta hsa bPa))
            all_goals refine calm_normal ?_
            all_goals go_wp2
            all_goals go_roundw
            all_goals first
              | exact ⟨k + 1, by omega, by go_num, _, by rw [HEX.out]; exact HSA.out _ (by simp)⟩
              | (simp [intOf]; omega)
          · have HE : Hid (sdO 1 ((sdn h).reverse.take (k + 1)) = sdO 1 ((sdn h).reverse.take k)) := by
              rw [Hid, HR.out, sdO_app, sdO_none (by simpa using hv), List.append_nil]
            go_wp2
            go_roundw
            case rel => exact ⟨k + 1, by omega, by go_num, v, by rw [HE.out]; exact HB8.out⟩
            case measure => simp [intOf]; omega
        · have HB9 : Hid (Bx w wd P wr v (sdO 1 (sdn h).reverse)) := by
            have := HB8.out
            rwa [List.take_of_length_le (by rw [List.length_reverse]; omega)] at this
          have q2 := (HNd.out.oty HB9.out.2.1).cell 2 rfl
          have cP := HB9.out.2.2.1.cell
          have HOL : Hid ((sdO 1 (sdn h).reverse).length ≤ 4096) := by
            have := sdO_le 1 (sdn h).reverse
            rw [List.length_reverse] at this
            rw [Hid]; omega
          clear HB8
          generalize sdO 1 (sdn h).reverse = L1 at *
          go_upto_if 74 with fail
          go_cut [] from 74 to 80 (fun wx => ∃ v, Bx w wd P wx v (L1 ++ zrO h.zc))
          case first =>
            by_cases hz : 0 < h.zc
            · have HE : Hid (zrO h.zc = [((2 : Int), (0 : Int), h.zc)]) := by unfold Hid zrO; rw [if_pos hz]
              have BQ : Hid (∀ o, Bx w wd P (wr.alloc o) v L1) := fun o => HB9.out.kept ((Fr.refl [] _).alloc o)
              have hPs : P + 1 ≤ wr.heap.size := HB9.out.lt
              go_wp2_with (at_builtin; refine wpList_append_bk _ rfl _ _ rfl (B := P + 1) (v := v) (l := L1) (s := ((2 : Int), (0 : Int), h.zc)) (by simp; omega) rfl rfl (BQ.out _).2.2.2 (lit_bk wr ((2 : Int), (0 : Int), h.zc) rfl hPs) (by have := HOL.out; omega) ?_; intro va wa hva hba hta; obtain ⟨va0, vac, rfl⟩ := hva.val; obtain ⟨bPa, hsa⟩ := (BQ.out _).box hva hba hta hPw; have HSA : Hid (∀ u, u = Value.slice va0 (L1 ++ [((2 : Int), (0 : Int), h.zc)]).length vac → Bx w wd P (wa.setCell ⟨P, 0, none⟩ u) u (L1 ++ [((2 : Int), (0 : Int), h.zc)])) := (fun u hu => by subst hu; exact hsa _ rfl); have cPa := bPa.cell; have zPa := bPa.frozen; clear hva hba hta hsa bPa)
              go_meet
              exact ⟨_, by rw [HE.out]; exact HSA.out _ (by simp)⟩
            · have HE : Hid (zrO h.zc = []) := by unfold Hid zrO; rw [if_neg hz]
              go_wp2
              go_meet
              exact ⟨v, by rw [HE.out, List.append_nil]; exact HB9.out⟩
          case rest =>
            obtain ⟨v2, hb2⟩ := hcut
            have HBc : Hid (Bx w wd P wc v2 (L1 ++ zrO h.zc)) := hb2
            have HNc : Hid (Nine wc w.heap.size #[.int .i64 h.s, .int .u64 h.z, .int .u64 h.zc, .int .u64 h.c, .int .u64 h.sm, .slice po h.P.length pc, .slice no h.N.length nc, .slice qo h.pd.length qc, .slice ro h.nd.length rc]) := HNd.out.oty hb2.2.1
            have bSc := Boxed.oty bSd hb2.2.1 (by decide) (by decide)
            have bRc := Boxed.oty bRd hb2.2.1 (by decide) (by decide)
            clear hb2 HB9 HNd bSd bRd q2 cP HQ HM
            have L5 : ∀ wx, Fr [] wc wx → wx.cell? ⟨w.heap.size, 5, none⟩ = some (.slice po h.P.length pc) := fun wx hx => hx.cell_some (HNc.out.cell 5 rfl) List.not_mem_nil
            have L7 : ∀ wx, Fr [] wc wx → wx.cell? ⟨w.heap.size, 7, none⟩ = some (.slice qo h.pd.length qc) := fun wx hx => hx.cell_some (HNc.out.cell 7 rfl) List.not_mem_nil
            have F1 : Fr [] wc wc.drew := (Fr.refl _ _).drew
            have HT1 : Hid (∀ wx, Fr [] wc wx → Calls Try.prog 21 #[.slice po h.P.length pc] wx fun e w' => ∃ u, e = .returned u ∧ SSrc w' u h.P ∧ Fr [] wc w') := by
              intro wx hx
              have hs := (HSR.out _ (HBc.out.1.trans hx (by simp))).1
              refine (spans_any _ h.P wx hs HLE.out.1).mono ?_
              rintro e w' ⟨u, rfl, hu, hf⟩
              exact ⟨u, rfl, hu.src (by obtain ⟨_, _, _, _, _, h64, _⟩ := hs; exact h64), hx.trans hf (by simp)⟩
            have HT2 : Hid (∀ wx u, Fr [] wc wx → SSrc wx u h.P → Calls Try.prog 20 #[u, .slice qo h.pd.length qc] wx fun e w' => ∃ x y, e = .returned (.tuple #[x, y, .int .i64 (sde h.P h.pd)]) ∧ IOwn wc.heap.size w' x (fsts (sdp h)) ∧ NOwn 2 wc.heap.size w' y (snds (sdp h)) ∧ Fr [] wc w') := by
              intro wx u hx hu
              refine (lside_any _ _ h.P h.pd wx hu ((HSR.out _ (HBc.out.1.trans hx (by simp))).2.2.1)).mono ?_
              rintro e w' ⟨x, y, rfl, hxx, hy, hf⟩
              have := sdp_sp HK.out
              rw [this.1] at hxx
              rw [this.2.1] at hy
              exact ⟨x, y, rfl, hxx.mono hx.size, hy.mono hx.size, hx.trans hf (by simp)⟩
            go_wp2_with fail
            go_region_held3 (fun w' => w'.cell? ⟨w.heap.size, 5, none⟩ = some (.slice po h.P.length pc) ∧ w'.cell? ⟨w.heap.size, 7, none⟩ = some (.slice qo h.pd.length qc)) (go_keep) (first
              | (go_at_call 21; with_reducible refine (HT1.out _ F1).mono ?_; rintro e wa2 ⟨ub2, rfl, hua2, hfa2⟩)
              | (go_at_call 20; with_reducible refine (HT2.out _ _ hfa2 hua2).mono ?_; rintro e we ⟨x2, y2, rfl, hx2, hy2, hfd⟩))
            have HQ : Hid (IOwn wc.heap.size we x2 (fsts (sdp h))) := hx2
            have HM : Hid (NOwn 2 wc.heap.size we y2 (snds (sdp h))) := hy2
            have HFE : Hid (Fr [] wc we) := hfd
            clear hx2 hy2 hfd hfa2 hua2 F1 HT1 HT2 L5 L7
            obtain ⟨qa, qcap, rfl⟩ := HQ.out.val
            obtain ⟨ma, mcap, rfl⟩ := HM.out.val
            rw [fsts_length] at HQ ⊢
            rw [snds_length] at HM ⊢
            have hml : (sdp h).length ≤ 4096 := HLN.out.2
            have HB0 : Hid (Bx w we P we v2 (L1 ++ zrO h.zc)) := ⟨(HBc.out.kept HFE.out).1, Oty.refl _, (HBc.out.kept HFE.out).2.2⟩
            have HNe : Hid (Nine we w.heap.size #[.int .i64 h.s, .int .u64 h.z, .int .u64 h.zc, .int .u64 h.c, .int .u64 h.sm, .slice po h.P.length pc, .slice no h.N.length nc, .slice qo h.pd.length qc, .slice ro h.nd.length rc]) := HNc.out.kept HFE.out (by simp)
            have bSe := Boxed.fr9 bSc HFE.out
            have bRe := Boxed.fr9 bRc HFE.out
            have HOZ : Hid ((L1 ++ zrO h.zc).length ≤ 4097) := by
              have h1 := HOL.out
              have h2 : (zrO h.zc).length ≤ 1 := by unfold zrO; split <;> simp
              rw [Hid, List.length_append]; omega
            have HBL : Hid (bks h = (L1 ++ zrO h.zc) ++ sdO 0 (sdp h)) := by rw [Hid, HBS.out, List.append_assoc]
            clear HBc HNc bSc bRc HFE HOL HBS
            generalize L1 ++ zrO h.zc = L2 at *
            go_wp2_with fail
            go_loopw [93] (fun i wr => ∃ (k : Nat), k ≤ (sdp h).length ∧ i = .int .i64 (k : Int) ∧ ∃ v, Bx w we P wr v (L2 ++ sdO 0 ((sdp h).take k))) (fun i _ => (sdp h).length - (intOf i).toNat)
            case atStart => exact ⟨0, by omega, rfl, _, by simpa [sdO] using HB0.out⟩
            case round =>
              obtain ⟨k, hk, rfl, v, hb⟩ := hrel
              have HB8 : Hid (Bx w we P wr v (L2 ++ sdO 0 ((sdp h).take k))) := hb
              clear hb HB0
              by_cases hlt : k < (sdp h).length
              · obtain ⟨s, hs⟩ := at_lt hlt
                have HR : Hid ((sdp h).take (k + 1) = (sdp h).take k ++ [s]) := take_at hs
                have hin := (sdp_in h s (List.mem_of_getElem? hs)).2
                obtain ⟨gm, capm, hvm, _, hcm⟩ := (HM.out.oty HB8.out.2.1).cells1 (by rw [snds_length]; omega)
                obtain ⟨gq, capq, hvq, _, hcq⟩ := (show NOwn 3 _ _ _ _ from HQ.out.oty HB8.out.2.1).cells1 (by rw [fsts_length]; omega)
                simp only [Value.slice.injEq] at hvm hvq
                obtain ⟨rfl, e1, rfl⟩ := hvm
                clear e1
                obtain ⟨rfl, e1, rfl⟩ := hvq
                clear e1
                have cm := hcm k s.2 (by unfold snds; rw [List.getElem?_map, hs]; rfl)
                have cq := hcq k s.1 (by unfold fsts; rw [List.getElem?_map, hs]; rfl)
                clear hcm hcq hs
                have cP := HB8.out.2.2.1.cell
                obtain ⟨pl, n⟩ := s
                simp only at cm cq hin
                by_cases hv : 0 < n
                · have hu : IntKind.u64.wrap n = n := to_u (by omega) hin
                  have HEX : Hid (L2 ++ sdO 0 ((sdp h).take (k + 1)) = (L2 ++ sdO 0 ((sdp h).take k)) ++ [((0 : Int), pl, n)]) := by rw [Hid, HR.out, sdO_app, sdO_one hv, List.append_assoc]
                  have HOL : Hid ((L2 ++ sdO 0 ((sdp h).take k)).length ≤ 1000000) := by
                    have := sdO_le 0 ((sdp h).take k)
                    rw [List.length_take] at this
                    have := HOZ.out
                    rw [Hid, List.length_append]; omega
                  go_upto_region 20 with fail
                  clear HR hin
                  generalize L2 ++ sdO 0 ((sdp h).take k) = L at *
                  have BQ : Hid (∀ o, Bx w we P (wr.alloc o).drew v L) := fun o => HB8.out.kept ((Fr.refl [] _).alloc o).drew
                  have dP : ∀ o, (wr.alloc o).cell? ⟨P, 0, none⟩ = some v := fun o => ((Fr.refl [] wr).alloc o).cell_some cP List.not_mem_nil
                  have hPs : P + 1 ≤ wr.heap.size := HB8.out.lt
                  refine wp_calm ?_
                  go_region_law (first
                    | (refine step_append_bk rfl _ _ rfl (B := P + 1) (v := v) (l := L) (s := (0, pl, n)) rfl rfl (by simp; omega) (BQ.out _).2.2.2 ((lit_bk wr (0, pl, n) rfl hPs).kept (Fr.refl [] _).drew) HOL.out ?_
                       intro va wa hva hba hta
                       obtain ⟨va0, vac, rfl⟩ := hva.val
                       obtain ⟨bPa, hsa⟩ := (BQ.out _).box hva hba hta hPw
                       have HSA : Hid (∀ u, u = Value.slice va0 (L ++ [((0 : Int), pl, n)]).length vac → Bx w we P (wa.setCell ⟨P, 0, none⟩ u) u (L ++ [((0 : Int), pl, n)])) := fun u hu => by subst hu; exact hsa _ rfl
                       have cPa := bPa.cell
                       have zPa := bPa.frozen
                       clear hva hba hta hsa bPa))
                  all_goals refine calm_normal ?_
                  all_goals go_wp2
                  all_goals go_roundw
                  all_goals first
                    | exact ⟨k + 1, by omega, by go_num, _, by rw [HEX.out]; exact HSA.out _ (by simp)⟩
                    | (simp [intOf]; omega)
                · have HE : Hid (sdO 0 ((sdp h).take (k + 1)) = sdO 0 ((sdp h).take k)) := by
                    rw [Hid, HR.out, sdO_app, sdO_none (by simpa using hv), List.append_nil]
                  go_wp2
                  go_roundw
                  case rel => exact ⟨k + 1, by omega, by go_num, v, by rw [HE.out]; exact HB8.out⟩
                  case measure => simp [intOf]; omega
              · have HB9 : Hid (Bx w we P wr v (bks h)) := by
                  have := HB8.out
                  rw [List.take_of_length_le (by omega)] at this
                  rw [Hid, HBL.out]; exact this
                clear HB8
                go_wp2
                go_meet
                exact ⟨HB9.out.1, HNe.out.oty HB9.out.2.1, Boxed.oty bSe HB9.out.2.1 (by decide) (by decide), Boxed.oty bRe HB9.out.2.1 (by decide) (by decide), v, HB9.out.2.2⟩
    case rest =>
      obtain ⟨hF, hN, bS, bR, v, bP, hW⟩ := hcut
      obtain ⟨va, vc, vb, rfl, hvb, hvm, hva, hvc⟩ := hW.spot
      have HVC : Hid (P + 1 ≤ vb ∧ (bks h).length ≤ maxLen ∧ (0 < (bks h).length → va = some ⟨vb, 0, none⟩) ∧ ∀ j s, (bks h)[j]? = some s → wc.cell? ⟨vb, j * 3, none⟩ = some (.int .i64 s.1) ∧ wc.cell? ⟨vb, j * 3 + 1, none⟩ = some (.int .i64 s.2.1) ∧ wc.cell? ⟨vb, j * 3 + 2, none⟩ = some (.int .u64 s.2.2)) := ⟨hvb, hvm, hva, hvc⟩
      have HF6 : Hid (Fr [] w wc) := hF
      have HN6 : Hid (Nine wc w.heap.size #[.int .i64 h.s, .int .u64 h.z, .int .u64 h.zc, .int .u64 h.c, .int .u64 h.sm, .slice po h.P.length pc, .slice no h.N.length nc, .slice qo h.pd.length qc, .slice ro h.nd.length rc]) := hN
      clear hF hN hW hvb hvm hva hvc HF5 HN5 bS5 bR5 bP5
      have HN7 : Hid (Nine (wc.alloc (.cells #[.int .i64 0] 3)) w.heap.size #[.int .i64 h.s, .int .u64 h.z, .int .u64 h.zc, .int .u64 h.c, .int .u64 h.sm, .slice po h.P.length pc, .slice no h.N.length nc, .slice qo h.pd.length qc, .slice ro h.nd.length rc]) := HN6.out.kept ((Fr.refl [] _).alloc _) (by simp)
      have q0 := HN7.out.cell 0 rfl
      have q1 := HN7.out.cell 1 rfl
      have q2 := HN7.out.cell 2 rfl
      have q3 := HN7.out.cell 3 rfl
      have q4 := HN7.out.cell 4 rfl
      have q5 := HN7.out.cell 5 rfl
      have q6 := HN7.out.cell 6 rfl
      have q7 := HN7.out.cell 7 rfl
      have q8 := HN7.out.cell 8 rfl
      go_wp2_with fail
      refine (callsIn_wide.1 (walk_in 1 _ _ _ _ _ _ _ _ _ _)).mono ?_
      rintro e w7 ⟨rfl, rfl⟩
      go_wp2_with fail
      have bK9 := (Boxed.new wc 3 (.int .i64 0)).alloc (.cells #[.int .i64 h.s, .int .u64 h.z, .int .u64 h.zc, .int .u64 h.c, .int .u64 h.sm, .slice po h.P.length pc, .slice no h.N.length nc, .slice qo h.pd.length qc, .slice ro h.nd.length rc] 26)
      have HN9 : Hid (Nine ((wc.alloc (.cells #[.int .i64 0] 3)).alloc (.cells #[.int .i64 h.s, .int .u64 h.z, .int .u64 h.zc, .int .u64 h.c, .int .u64 h.sm, .slice po h.P.length pc, .slice no h.N.length nc, .slice qo h.pd.length qc, .slice ro h.nd.length rc] 26)) (wc.heap.size + 1) #[.int .i64 h.s, .int .u64 h.z, .int .u64 h.zc, .int .u64 h.c, .int .u64 h.sm, .slice po h.P.length pc, .slice no h.N.length nc, .slice qo h.pd.length qc, .slice ro h.nd.length rc]) := by
        have := Nine.new (wc.alloc (.cells #[.int .i64 0] 3)) #[.int .i64 h.s, .int .u64 h.z, .int .u64 h.zc, .int .u64 h.c, .int .u64 h.sm, .slice po h.P.length pc, .slice no h.N.length nc, .slice qo h.pd.length qc, .slice ro h.nd.length rc]
        rwa [World.size_alloc] at this
      have HF9 : Hid (Fr [] wc ((wc.alloc (.cells #[.int .i64 0] 3)).alloc (.cells #[.int .i64 h.s, .int .u64 h.z, .int .u64 h.zc, .int .u64 h.c, .int .u64 h.sm, .slice po h.P.length pc, .slice no h.N.length nc, .slice qo h.pd.length qc, .slice ro h.nd.length rc] 26))) := ((Fr.refl [] wc).alloc _).alloc _
      have hz9 : ((wc.alloc (.cells #[.int .i64 0] 3)).alloc (.cells #[.int .i64 h.s, .int .u64 h.z, .int .u64 h.zc, .int .u64 h.c, .int .u64 h.sm, .slice po h.P.length pc, .slice no h.N.length nc, .slice qo h.pd.length qc, .slice ro h.nd.length rc] 26)).heap.size = wc.heap.size + 2 := by simp
      have HZ9 : Hid _ := hz9
      clear hz9 q0 q1 q2 q3 q4 q5 q6 q7 q8 HN7
      generalize (wc.alloc (.cells #[.int .i64 0] 3)).alloc (.cells #[.int .i64 h.s, .int .u64 h.z, .int .u64 h.zc, .int .u64 h.c, .int .u64 h.sm, .slice po h.P.length pc, .slice no h.N.length nc, .slice qo h.pd.length qc, .slice ro h.nd.length rc] 26) = w9 at *
      have bS9 := Boxed.fr9 bS HF9.out
      have bR9 := Boxed.fr9 bR HF9.out
      have bP9 := Boxed.fr9 bP HF9.out
      have HPK : Hid (P < wc.heap.size ∧ w.heap.size + 1 + 1 < P) := ⟨bP.lt, HLT.out⟩
      generalize hK0 : wc.heap.size = K0 at *
      refine (wpIn_wide (n := 3)).1 ?_
      refine range9 (gf := 55) (lb := #[.pointer (some ⟨K0 + 1, 0, none⟩)]) rfl (enters_of Try.func55 (by kernel_rfl) rfl)
        (fun x : Bk => #[bval x]) (fun _ => rfl) (bks h) (Fr [K0, w9.heap.size + 1]) (fun a b => a.trans b (fun x hx => .inl hx)) (fun W o o' hl hc => ⟨rfl, rfl, rfl, by simp, fun k hk hn => World.putObj_heap_other (fun e => hn (by simp [e]))⟩)
        (fun pre W' => ((Boxed W' K0 3 (.int .i64 (pre.length : Int)) ∧ Kc [K0] w9 W') ∧ Below w.heap.size w W') ∧ (pre <+: bks h ∧ (pre.length : Int) < a1))
        (fun c pre W' => ((Boxed W' K0 3 (.int .i64 (pre.length : Int)) ∧ Kc [K0] w9 W') ∧ Below w.heap.size w W') ∧ (c = .exit 4 ∧ (pre.length : Int) = a1))
        (OwnFrom.and (OwnFrom.and (OwnFrom.and (Own.from (Go.boxed_own K0 3 (fun (pre : List Bk) => Value.int .i64 (pre.length : Int))) _) (Kc.own [K0] _ w9)) (ownFrom_below (Nat.le_refl _) (by have := HZ9.out; have := HPK.out; omega))) (ownFrom_pure _ _))
        (fun c => OwnFrom.and (OwnFrom.and (OwnFrom.and (Own.from (Go.boxed_own K0 3 (fun (pre : List Bk) => Value.int .i64 (pre.length : Int))) _) (Kc.own [K0] _ w9)) (ownFrom_below (Nat.le_refl _) (by have := HZ9.out; have := HPK.out; omega))) (ownFrom_pure _ _))
        ⟨⟨⟨bK9, Kc.refl _ _⟩, (HF6.out.trans HF9.out (by simp)).below (Nat.le_refl _) (by simp)⟩, List.nil_prefix, by have := HST.out; simp; omega⟩
        (fun x a' W' => ∃ Bx, Bx ≠ K0 ∧ Lies W' Bx 66 #[.int .i64 x.1, .int .i64 x.2.1, .int .u64 x.2.2] ∧ a' = { tmps := #[.agg #[.int .i64 h.s, .int .u64 h.z, .int .u64 h.zc, .int .u64 h.c, .int .u64 h.sm, .slice po h.P.length pc, .slice no h.N.length nc, .slice qo h.pd.length qc, .slice ro h.nd.length rc], .int .i64 a1, .pointer (some ⟨w.heap.size, 0, none⟩), .pointer (some ⟨w.heap.size + 1, 0, none⟩), .pointer (some ⟨w.heap.size + 1 + 1, 0, none⟩), .pointer (some ⟨P, 0, none⟩), u6, u7, u8, u9, u10, u11, u12, u13, u14, .pointer (some ⟨K0, 0, none⟩), .pointer (some ⟨Bx, 0, none⟩), u17, u18, u19, u20, u21, u22, u23, u24, u25, u26, u27, u28, u29, u30, u31, u32, u33, u34, u35, u36, u37, u38, u39, u40, u41, u42, u43, u44, u45, u46, u47, u48, u49, u50, u51, u52, u53, u54, u55, u56, u57, u58, u59, u60, u61, u62, u63, u64, u65, u66, u67, u68, u69, u70, u71, u72, u73, u74, u75, u76, u77, u78, u79, u80, u81, u82, u83, u84, u85, u86, u87, u88, u89, u90, u91, u92, u93, u94, u95, u96, u97, u98, u99, u100, u101, u102, u103, u104, u105, u106, u107, u108, u109, u110, u111, u112, u113, u114, .agg #[.int .i64 h.s, .int .u64 h.z, .int .u64 h.zc, .int .u64 h.c, .int .u64 h.sm, .slice po h.P.length pc, .slice no h.N.length nc, .slice qo h.pd.length qc, .slice ro h.nd.length rc], .func (.func 55) #[] #[.pointer (some ⟨K0 + 1, 0, none⟩)], .agg #[.int .i64 x.1, .int .i64 x.2.1, .int .u64 x.2.2], undef, undef, undef, undef, undef, undef, undef, undef, undef, undef, undef, undef, undef, undef, undef, undef, undef, undef, undef, undef, undef, undef, undef, undef, undef, undef], defers := [] })
        (fun x a' => fun _ X Y row hs hg hr => by obtain ⟨Bx, h0, h1, h2⟩ := hs; exact ⟨Bx, h0, Lies.own _ Bx _ _ () X Y row h1 hg hr, h2⟩)
        ?assign ?body ?tells ?done ?stop
      case assign =>
        rintro pre x W' K ⟨⟨⟨hb, hk⟩, hB⟩, hp⟩ hlt hK
        unfold bval
        gi_wp2
        exact hK _ _ ((KeepsOthers.alloc _ _).from _) ((Fr.refl _ W').alloc _) ⟨⟨⟨hb.alloc _, hk.trans (Kc.fr ((Fr.refl _ W').alloc _))⟩, hB.alloc hB.size _⟩, hp⟩ ⟨W'.heap.size, by have := hb.lt; omega, World.alloc_heap_new W' _, rfl⟩
      case body =>
        rintro pre x a' W' ⟨⟨⟨hb, hk⟩, hB⟩, hp⟩ hlt ⟨Bx, hBx, hx, rfl⟩ hpre
        have hz := HZ9.out
        have hpk := HPK.out
        have hlx : pre.length < (bks h).length := by have := hpre.length_le; simp at this; omega
        have hat : (bks h)[pre.length]? = some x := by
          obtain ⟨t, ht⟩ := hpre
          rw [← ht]; simp
        have hvc := HVC.out
        obtain rfl := hvc.2.2.1 (by omega)
        have hvm : (bks h).length ≤ 9223372036854775807 := by have := hvc.2.1; unfold maxLen at this; omega
        obtain ⟨m0, m1, m2⟩ := hvc.2.2.2 _ _ hat
        have hvb : vb < K0 := by have := World.block_lt_of_cell? wc _ m0; simp at this; omega
        have d0 := hk.cell (HF9.out.cell_some m0 List.not_mem_nil) (by simp; omega)
        have d1 := hk.cell (HF9.out.cell_some m1 List.not_mem_nil) (by simp; omega)
        have d2 := hk.cell (HF9.out.cell_some m2 List.not_mem_nil) (by simp; omega)
        have c0 := hx.cell 0 rfl
        have c1 := hx.cell 1 rfl
        have c2 := hx.cell 2 rfl
        have cK := hb.cell
        have zK := hb.frozen
        have cS := (hk.boxed bS9 (by simp; omega)).cell
        have cP := (hk.boxed bP9 (by simp; omega)).cell
        have HBK : Hid (Boxed W' K0 3 (.int .i64 (pre.length : Int)) ∧ Kc [K0] w9 W' ∧ Below w.heap.size w W') := ⟨hb, hk, hB⟩
        have HPR : Hid (pre ++ [x] <+: bks h ∧ (pre.length : Int) < a1) := ⟨hpre, hp.2⟩
        have hmx : Try.prog.follows .mixedOrders = true := by kernel_rfl
        clear hb hk hB hp hat hvc m0 m1 m2 hpre
        gi_wp2_with fail
        refine region_round_quiet hmx (by kernel_rfl) (by kernel_rfl) ?_
        repeat (quiet_step_in (fail))
        refine wpQuietIn_nil ?_
        rintro _ ⟨nq, rfl⟩
        have HFQ : Hid (Fr [] W' (W'.drewN nq)) := (Fr.refl [] W').drewN _
        have HFS : Hid (∀ u, Fr [K0] W' ((W'.drewN nq).setCell ⟨K0, 0, none⟩ u)) := fun u => ((Fr.refl [K0] W').drewN _).setCell _ _ (.inl (by simp))
        have eK := HFQ.out.cell_some cK List.not_mem_nil
        have eS := HFQ.out.cell_some cS List.not_mem_nil
        by_cases hq : (pre.length : Int) + 1 = a1
        · gi_wp2
          have hkz : K0 < w9.heap.size := by omega
          have hk3 : KeepsFrom w9.heap.size W' _ := fr_from (HFS.out (.int .i64 a1)) (by simp; omega)
          have hfr : Fr [K0, w9.heap.size + 1] W' _ := (HFS.out (.int .i64 a1)).mono (fun y hy => .inl (by simp at hy; simp [hy]))
          have hbx : Boxed _ K0 3 (.int .i64 a1) := (Boxed.fr9 HBK.out.1 HFQ.out).set (.int .i64 a1)
          have hkc := HBK.out.2.1.trans (Kc.fr (HFS.out (.int .i64 a1)))
          have hbl := HBK.out.2.2.trans ((HFS.out (.int .i64 a1)).below HBK.out.2.2.size (by simp; omega))
          have hln : (((pre ++ [x]).length : Nat) : Int) = a1 := by first | (simp; done) | (simp; omega)
          exact ⟨hk3, hfr, ⟨⟨by rw [hln]; exact hbx, hkc⟩, hbl⟩, rfl, hln⟩
        · gi_wp2
          have hkz : K0 < w9.heap.size := by omega
          have hk3 : KeepsFrom w9.heap.size W' _ := fr_from (HFS.out (.int .i64 ((pre.length : Int) + 1))) (by simp; omega)
          have hfr : Fr [K0, w9.heap.size + 1] W' _ := (HFS.out (.int .i64 ((pre.length : Int) + 1))).mono (fun y hy => .inl (by simp at hy; simp [hy]))
          have hbx : Boxed _ K0 3 (.int .i64 ((pre.length : Int) + 1)) := (Boxed.fr9 HBK.out.1 HFQ.out).set (.int .i64 ((pre.length : Int) + 1))
          have hkc := HBK.out.2.1.trans (Kc.fr (HFS.out (.int .i64 ((pre.length : Int) + 1))))
          have hbl := HBK.out.2.2.trans ((HFS.out (.int .i64 ((pre.length : Int) + 1))).below HBK.out.2.2.size (by simp; omega))
          have hln : (((pre ++ [x]).length : Nat) : Int) = ((pre.length : Int) + 1) := by first | (simp; done) | (simp; omega)
          exact ⟨hk3, hfr, ⟨⟨by rw [hln]; exact hbx, hkc⟩, hbl⟩, HPR.out.1, by rw [hln]; have := HPR.out.2; omega⟩
      case tells =>
        intro W1 g1 s1
        have f1 : Fr [] w9 W1 := ⟨g1.os, g1.tape, g1.output, g1.size, fun k hk _ => g1.block k hk (by simp)⟩
        have hz := HZ9.out
        exact walk_tells _ (K0 + 1) _ h po no qo ro pc nc qc rc W1 (fun t ht => by simp at ht; omega) (by simp; omega) (HN9.out.kept f1 (by simp)) (HH.out _ ((HF6.out.trans HF9.out (by simp)).trans f1 (by simp)))
      case done =>
        rintro W' ⟨⟨⟨hb, hk⟩, hB⟩, hp⟩ hd
        have hz := HZ9.out
        have hpk := HPK.out
        have cK := hb.cell
        have cS := (hk.boxed bS9 (by simp; omega)).cell
        have bP' := hk.boxed bP9 (by simp; omega)
        have cP := bP'.cell
        have bR' := hk.boxed bR9 (by simp; omega)
        have HB : Hid (Below w.heap.size w W') := hB
        have HD : Hid (W'.heap[w9.heap.size]? = some (.deferred (some []))) := hd
        have hlen := hp.2
        have hmn : min a1 ((bks h).length : Int) = ((bks h).length : Int) := by omega
        clear hB hp hk hd hz hpk
        go_wp2_with fail
        refine (awake9_any W').mono ?_
        rintro e w2 ⟨rfl, hf2⟩
        have hpk := HPK.out
        have hz := HZ9.out
        have bR2 := Boxed.fr9 bR' hf2
        have hc2 := bR2.cell
        have hz2 := bR2.frozen
        have HB2 : Hid (Below w.heap.size w w2) := HB.out.trans (hf2.below HB.out.size (by simp))
        have X : (w2.setCell ⟨w.heap.size + 1 + 1, 0, none⟩ (.bool true)).heap[w9.heap.size]? = some (.deferred (some [])) := ((Fr.refl [w.heap.size + 1 + 1] w2).setCell _ _ (.inl (by simp))).heap (hf2.heap HD.out (by simp)) (by simp; omega)
        have HXX : Hid ((w2.setCell ⟨w.heap.size + 1 + 1, 0, none⟩ (.bool true)).heap[w9.heap.size]? = some (.deferred (some []))) := X
        have HWZ : Hid (w.heap.size ≤ w9.heap.size) := by rw [Hid]; omega
        clear hf2 X hpk hz
        go_wp2
        refine ⟨by simp, .inl ⟨_, _, rfl, run_takeDeferred HXX.out, ?_⟩⟩
        exact ⟨_, walks_res (cell_kept (World.cell?_setCell_same' _ _ _ (by rw [hc2]; rfl)) (grownBy_putObj' _ _ (.deferred none)) (fun r e => by cases e; exact ⟨_, HXX.out, rfl⟩)) _ rfl, rfl, (HB2.out.setCell (p := ⟨w.heap.size + 1 + 1, 0, none⟩) (by simp; omega) _).trans (belowK_b (w := w) (Nat.le_refl _) _ _ _ _ HWZ.out HXX.out rfl rfl)⟩
      case stop =>
        rintro c pre W' hpre ⟨⟨⟨hb, hk⟩, hB⟩, rfl, hp⟩ hd
        have hz := HZ9.out
        have hpk := HPK.out
        have hpl := hpre.length_le
        have cK := hb.cell
        have cS := (hk.boxed bS9 (by simp; omega)).cell
        have bP' := hk.boxed bP9 (by simp; omega)
        have cP := bP'.cell
        have bR' := hk.boxed bR9 (by simp; omega)
        have HB : Hid (Below w.heap.size w W') := hB
        have HD : Hid (W'.heap[w9.heap.size]? = some (.deferred (some []))) := hd
        have hmn : min a1 ((bks h).length : Int) = a1 := by omega
        rw [hp] at cK
        clear hB hk hd hz hpk hpre hpl hp
        refine wpIn_wide.2 ?_
        go_wp2_with fail
        refine (awake9_any W').mono ?_
        rintro e w2 ⟨rfl, hf2⟩
        have hpk := HPK.out
        have hz := HZ9.out
        have bR2 := Boxed.fr9 bR' hf2
        have hc2 := bR2.cell
        have hz2 := bR2.frozen
        have HB2 : Hid (Below w.heap.size w w2) := HB.out.trans (hf2.below HB.out.size (by simp))
        have X : (w2.setCell ⟨w.heap.size + 1 + 1, 0, none⟩ (.bool true)).heap[w9.heap.size]? = some (.deferred (some [])) := ((Fr.refl [w.heap.size + 1 + 1] w2).setCell _ _ (.inl (by simp))).heap (hf2.heap HD.out (by simp)) (by simp; omega)
        have HXX : Hid ((w2.setCell ⟨w.heap.size + 1 + 1, 0, none⟩ (.bool true)).heap[w9.heap.size]? = some (.deferred (some []))) := X
        have HWZ : Hid (w.heap.size ≤ w9.heap.size) := by rw [Hid]; omega
        clear hf2 X hpk hz
        go_wp2
        refine ⟨by simp, .inl ⟨_, _, rfl, run_takeDeferred HXX.out, ?_⟩⟩
        exact ⟨_, walks_res (cell_kept (World.cell?_setCell_same' _ _ _ (by rw [hc2]; rfl)) (grownBy_putObj' _ _ (.deferred none)) (fun r e => by cases e; exact ⟨_, HXX.out, rfl⟩)) _ rfl, rfl, (HB2.out.setCell (p := ⟨w.heap.size + 1 + 1, 0, none⟩) (by simp; omega) _).trans (belowK_b (w := w) (Nat.le_refl _) _ _ _ _ HWZ.out HXX.out rfl rfl)⟩
end Go.Proofs.Ytjkiiccdcjcfbaa
