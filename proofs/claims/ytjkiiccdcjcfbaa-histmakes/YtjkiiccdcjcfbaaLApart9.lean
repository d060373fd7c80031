/-
  HistMakes: the document's apart, below, makes.
-/
import Derived.Test.YtjkiiccdcjcfbaaTwo9
import Derived.Test.YtjkiiccdcjcfbaaRefP7
import Derived.Test.YtjkiiccdcjcfbaaLawF9
namespace Go.Proofs.Ytjkiiccdcjcfbaa
open Go.RowKit Mem Spans
set_option linter.unusedSimpArgs false
set_option linter.unusedVariables false
set_option maxRecDepth 100000


theorem ape_small {l : List Sp} (hl : l.length ≤ 300) : ape l = (if risesB (-1048576) (fsts l) = true then dle (snds l) else 11) := by
  unfold ape
  by_cases h : risesB (-1048576) (fsts l) = true
  · have h0 : frm (fsts l) = 0 := frm_zero.2 ⟨(risesB_iff _ _).1 h, by rw [fsts_length]; omega, by
      rw [rns_runs]
      have := rn_le_length none (fsts l)
      rw [fsts_length] at this
      omega⟩
    rw [if_pos h0, if_pos h]
  · have h0 : frm (fsts l) = 11 := by unfold frm; rw [if_neg h]
    rw [if_neg (by rw [h0]; decide), if_neg h, h0]
theorem dlo_dle (l : List Int) : (dlo l = 0 ∧ dle l = 0) ∨ (dlo l = 1 ∧ dle l = 28) := by unfold dlo dle; cases dltl 0 l <;> simp

open Classical in
set_option maxHeartbeats 8000000 in
theorem apart9_any (v : Value) (l : List Sp) (w : World) (h : SSrc w v l) (hl : l.length ≤ 300) :
    Calls Try.prog 46 #[v] w fun e w' => ∃ x y, e = .returned (.tuple #[x, y, .int .i64 (ape l)]) ∧ (ape l = 0 → ISrc w' y (snds l)) ∧ Fr [] w w' := by
  obtain ⟨ao, cap, rfl, hcap, hmax, h64, b, off, ha, hc⟩ := h
  have HC : Hid (∀ j s, l[j]? = some s → w.cell? ⟨b, off + j * 2, none⟩ = some (.int .i64 s.1) ∧ w.cell? ⟨b, off + j * 2 + 1, none⟩ = some (.int .i64 s.2)) := hc
  have HA : Hid (0 < l.length → ao = some ⟨b, off, none⟩) := ha
  have H64 : Hid (∀ s ∈ l, in64 s.1 ∧ in64 s.2) := h64
  have HL : Hid (l.length ≤ 300) := hl
  obtain ⟨i0, hi⟩ := info_int64
  have HI : Hid (NInfo 2 i0) := hi
  obtain ⟨i1, hi1⟩ := ninfo_int
  have HI1 : Hid (NInfo 3 i1) := hi1
  clear hc ha h64 hi hi1
  go_enter Try.func46, Try.ntmps46
  go_wp2
  go_loopw [5, 6, 13] (fun p q i wr => ∃ (k : Nat), k ≤ l.length ∧ i = .int .i64 (k : Int) ∧ TW w.heap.size wr p q (fsts (l.take k)) (snds (l.take k)) [] ∧ Fr [] w wr) (fun _ _ i _ => l.length - (intOf i).toNat)
  case atStart => exact ⟨0, by omega, rfl, by simpa [fsts, snds] using TW.nil w.heap.size w, Fr.refl _ _⟩
  case round =>
    obtain ⟨k, hk, rfl, htw, hf⟩ := hrel
    have HF : Hid (Fr [] w wr) := hf
    have HTW : Hid (TW w.heap.size wr u5 u6 (fsts (l.take k)) (snds (l.take k)) []) := htw
    clear hf htw
    by_cases hlt : k < l.length
    · obtain rfl := HA.out (by omega)
      obtain ⟨s, hs⟩ := at_lt hlt
      have c0 : wr.cell? ⟨b, off + k * 2, none⟩ = some (.int .i64 s.1) := HF.out.cell_some (HC.out k s hs).1 (by simp)
      have c1 : wr.cell? ⟨b, off + k * 2 + 1, none⟩ = some (.int .i64 s.2) := HF.out.cell_some (HC.out k s hs).2 (by simp)
      have HTP : Hid (fsts (l.take (k + 1)) = fsts (l.take k) ++ [s.1] ∧ snds (l.take (k + 1)) = snds (l.take k) ++ [s.2]) := by rw [Hid, take_at hs]; simp [fsts, snds]
      have HLP : Hid ((fsts (l.take k)).length ≤ 1000000 ∧ (snds (l.take k)).length ≤ 1000000) := by
        rw [Hid, fsts_length, snds_length, List.length_take]; have := HL.out; omega
      clear hs
      obtain ⟨o, n⟩ := s
      simp only at c0 c1
      have HTW2 : Hid (TW w.heap.size (wr.alloc (.cells #[.int .i64 o, .int .i64 n] 72)) u5 u6 (fsts (l.take k)) (snds (l.take k)) [((wr.heap.size, 0), o), ((wr.heap.size, 1), n)]) := HTW.out.pair rfl o n _
      have HF2 : Hid (Fr [] w (wr.alloc (.cells #[.int .i64 o, .int .i64 n] 72))) := HF.out.alloc _
      go_upto_region 6 with fail
      generalize hPP : fsts (l.take k) = PP at *
      generalize hQQ : snds (l.take k) = QQ at *
      clear hPP hQQ HTW HF c0 c1
      generalize wr.alloc (.cells _ _) = wP at HTW2 HF2 ⊢
      generalize wr.heap.size = G at HTW2 ⊢
      have HSZ : Hid (w.heap.size ≤ wP.heap.size) := HF2.out.size
      have T1 : Hid (TW w.heap.size (World.drew (wP.alloc (.cells #[.int .i64 o] 3))) u5 u6 PP QQ [((wP.heap.size, 0), o), ((G, 0), o), ((G, 1), n)]) := (HTW2.out.lit rfl o 3).kept (Fr.refl _ _).drew
      have T2 : Hid (TW w.heap.size (World.drew ((wP.alloc (.cells #[.int .i64 o] 3)).alloc (.cells #[.int .i64 n] 2))) u5 u6 PP QQ [((wP.heap.size + 1, 0), n), ((wP.heap.size, 0), o), ((G, 0), o), ((G, 1), n)]) := ((HTW2.out.lit rfl o 3).lit (World.size_alloc _ _) n 2).kept (Fr.refl _ _).drew
      have T3 : Hid (TW w.heap.size (World.drew ((wP.alloc (.cells #[.int .i64 n] 2)).alloc (.cells #[.int .i64 o] 3))) u5 u6 PP QQ [((wP.heap.size + 1, 0), o), ((wP.heap.size, 0), n), ((G, 0), o), ((G, 1), n)]) := ((HTW2.out.lit rfl n 2).lit (World.size_alloc _ _) o 3).kept (Fr.refl _ _).drew
      have F1 : Hid (∀ t x, Fr [] w (World.drew (wP.alloc (.cells #[.int .i64 x] t)))) := fun t x => (HF2.out.alloc _).drew
      have F2 : Hid (∀ t x t2 x2, Fr [] w (World.drew ((wP.alloc (.cells #[.int .i64 x] t)).alloc (.cells #[.int .i64 x2] t2)))) := fun t x t2 x2 => ((HF2.out.alloc _).alloc _).drew
      have d0 : wP.cell? ⟨G, 0, none⟩ = some (.int .i64 o) := HTW2.out.cell (c := ((G, 0), o)) (by simp)
      have d1 : wP.cell? ⟨G, 1, none⟩ = some (.int .i64 n) := HTW2.out.cell (c := ((G, 1), n)) (by simp)
      have dA0 : ∀ ob, (wP.alloc ob).cell? ⟨G, 0, none⟩ = some (.int .i64 o) := fun ob => ((Fr.refl [] wP).alloc ob).cell_some d0 List.not_mem_nil
      have dA1 : ∀ ob, (wP.alloc ob).cell? ⟨G, 1, none⟩ = some (.int .i64 n) := fun ob => ((Fr.refl [] wP).alloc ob).cell_some d1 List.not_mem_nil
      have hB1 : w.heap.size ≤ wP.heap.size + 1 := by have := HSZ.out; omega
      have hB2 : w.heap.size ≤ wP.heap.size + 1 + 1 := by omega
      go_region_law (first
          | (refine step_tw1 rfl _ _ rfl HI1.out (q := wP.heap.size) (s := o) rfl rfl T1.out (by simp) (by simpa using hB1) HLP.out.1 ?_
             intro va wa twa hba
             have TA : Hid (TW w.heap.size wa va u6 (PP ++ [o]) QQ _) := twa
             have FA : Hid (Fr [] w wa) := Fr.ofBelow (((F1.out _ _).below (Nat.le_refl _) (by simp)).trans hba)
             have TB : Hid (TW w.heap.size (wa.alloc (.cells #[.int .i64 n] 2)) va u6 (PP ++ [o]) QQ (((wa.heap.size, 0), n) :: _)) := twa.lit rfl n 2
             have hB3 : w.heap.size ≤ wa.heap.size + 1 := by have := FA.out.size; omega
             have z1 : wa.cell? ⟨G, 1, none⟩ = some (.int .i64 n) := twa.cell (c := ((G, 1), n)) (by simp)
             clear twa hba)
          | (refine step_tw1 rfl _ _ rfl HI1.out (q := wP.heap.size) (s := o) rfl rfl T2.out (by simp) (by simpa using hB2) HLP.out.1 ?_
             intro va wa twa hba
             have TA : Hid (TW w.heap.size wa va u6 (PP ++ [o]) QQ _) := twa
             have FA : Hid (Fr [] w wa) := Fr.ofBelow (((F2.out _ _ _ _).below (Nat.le_refl _) (by simp)).trans hba)
             have z1 : wa.cell? ⟨G, 1, none⟩ = some (.int .i64 n) := twa.cell (c := ((G, 1), n)) (by simp)
             clear twa hba)
          | (refine step_tw1 rfl _ _ rfl HI1.out (q := wP.heap.size + 1) (s := o) rfl rfl T3.out (by simp) (by simpa using hB2) HLP.out.1 ?_
             intro va wa twa hba
             have TA : Hid (TW w.heap.size wa va u6 (PP ++ [o]) QQ _) := twa
             have FA : Hid (Fr [] w wa) := Fr.ofBelow (((F2.out _ _ _ _).below (Nat.le_refl _) (by simp)).trans hba)
             have z1 : wa.cell? ⟨G, 1, none⟩ = some (.int .i64 n) := twa.cell (c := ((G, 1), n)) (by simp)
             clear twa hba)
          | (refine step_tw2 rfl _ _ rfl HI.out (q := wa.heap.size) (s := n) rfl rfl TB.out (by simp) (by simpa using hB3) HLP.out.2 ?_
             intro vb wb twb hbb
             have TC : Hid (TW w.heap.size wb va vb (PP ++ [o]) (QQ ++ [n]) []) := twb.less
             have FC : Hid (Fr [] w wb) := Fr.ofBelow (((FA.out.alloc _).below (Nat.le_refl _) (by simp)).trans hbb)
             clear twb hbb)
          | (refine step_tw2 rfl _ _ rfl HI.out (q := wP.heap.size + 1) (s := n) rfl rfl TA.out (by simp) FA.out.size HLP.out.2 ?_
             intro vb wb twb hbb
             have TC : Hid (TW w.heap.size wb va vb (PP ++ [o]) (QQ ++ [n]) []) := twb.less
             have FC : Hid (Fr [] w wb) := Fr.ofBelow ((FA.out.below (Nat.le_refl _) (by simp)).trans hbb)
             clear twb hbb)
          | (refine step_tw2 rfl _ _ rfl HI.out (q := wP.heap.size) (s := n) rfl rfl TA.out (by simp) FA.out.size HLP.out.2 ?_
             intro vb wb twb hbb
             have TC : Hid (TW w.heap.size wb va vb (PP ++ [o]) (QQ ++ [n]) []) := twb.less
             have FC : Hid (Fr [] w wb) := Fr.ofBelow ((FA.out.below (Nat.le_refl _) (by simp)).trans hbb)
             clear twb hbb))
      all_goals have HTC : Hid (TW w.heap.size wb va vb (fsts (l.take (k + 1))) (snds (l.take (k + 1))) []) := by rw [Hid, HTP.out.1, HTP.out.2]; exact TC.out
      all_goals clear TC
      all_goals go_wp2
      all_goals go_roundw
      all_goals first
        | exact ⟨k + 1, by omega, by go_num, HTC.out, FC.out⟩
        | (simp [intOf]; omega)
    · have HTC : Hid (TW w.heap.size wr u5 u6 (fsts l) (snds l) []) := by
        have := HTW.out
        rw [List.take_of_length_le (by omega)] at this
        exact this
      have HIN : Hid ((∀ z ∈ fsts l, in64 z) ∧ (∀ z ∈ snds l, in64 z)) := by
        constructor
        · intro z hz
          obtain ⟨s, hs, rfl⟩ := List.mem_map.1 hz
          exact (H64.out s hs).1
        · intro z hz
          obtain ⟨s, hs, rfl⟩ := List.mem_map.1 hz
          exact (H64.out s hs).2
      have HP : Hid (ISrc wr u5 (fsts l)) := HTC.out.rows.1.src HIN.out.1
      have HQ : Hid (ISrc wr u6 (snds l)) := HTC.out.rows.2.src HIN.out.2
      have HAP : Hid (ape l = (if risesB (-1048576) (fsts l) = true then dle (snds l) else 11)) := ape_small HL.out
      clear HTW HTC
      go_wp2_with fail
      refine (rising_any u5 (fsts l) wr HP.out).mono ?_
      rintro e w2 ⟨rfl, hf2⟩
      have HF2 : Hid (Fr [] w w2) := HF.out.trans hf2 (by simp)
      have HQ2 : Hid (ISrc w2 u6 (snds l)) := HQ.out.kept hf2
      clear hf2 HP HQ HF
      by_cases hr : rises (-1048576) (fsts l)
      · have HA2 : Hid (ape l = dle (snds l)) := by rw [Hid, HAP.out, if_pos ((risesB_iff _ _).2 hr)]
        rw [decide_eq_true hr]
        clear hr HAP
        go_wp2_with fail
        refine (ldeltas_any u6 (snds l) w2 HQ2.out (by rw [snds_length]; have := HL.out; omega)).mono ?_
        rintro e w3 ⟨y, rfl, _, hf3⟩
        have HF3 : Hid (Fr [] w w3) := HF2.out.trans hf3 (by simp)
        have HQ3 : Hid (ISrc w3 u6 (snds l)) := HQ2.out.kept hf3
        clear hf3 HF2 HQ2
        rcases dlo_dle (snds l) with ⟨h1, h2⟩ | ⟨h1, h2⟩
        · have HE : Hid (ape l = 0) := by rw [Hid, HA2.out, h2]
          rw [h1]
          clear h1 h2 HA2
          go_wp2
          go_ret3
          exact ⟨_, _, by rw [HE.out]; rfl, fun _ => HQ3.out, HF3.out⟩
        · have HE : Hid (ape l = 28) := by rw [Hid, HA2.out, h2]
          rw [h1]
          clear h1 h2 HA2
          go_wp2
          go_ret3
          exact ⟨_, _, by rw [HE.out]; rfl, (fun h => by rw [HE.out] at h; cases h), HF3.out⟩
      · have HE : Hid (ape l = 11) := by rw [Hid, HAP.out, if_neg (fun h => hr ((risesB_iff _ _).1 h))]
        rw [decide_eq_false hr]
        clear hr HAP
        go_wp2
        go_ret3
        exact ⟨_, _, by rw [HE.out]; rfl, (fun h => by rw [HE.out] at h; cases h), HF2.out⟩

set_option maxHeartbeats 2000000 in
theorem below9_any (v : Value) (l : List Int) (w : World) (h : ISrc w v l) :
    Calls Try.prog 47 #[v] w fun e w' => e = .returned (.bool (!nng l)) ∧ w = w' := by
  obtain ⟨ao, cap, rfl, hcap, hmax, _, b, off, ha, hc⟩ := h
  have HC : Hid (∀ j s, l[j]? = some s → w.cell? ⟨b, off + j, none⟩ = some (.int .i64 s)) := hc
  have HA : Hid (0 < l.length → ao = some ⟨b, off, none⟩) := ha
  have hml : l.length ≤ 9223372036854775807 := by unfold maxLen at hmax; omega
  clear hc ha
  go_enter Try.func47, Try.ntmps47
  go_wp2
  go_loopw [7] (fun i wr => ∃ (k : Nat), k ≤ l.length ∧ i = .int .i64 (k : Int) ∧ nng (l.take k) = true ∧ wr = w) (fun i _ => l.length - (intOf i).toNat)
  case atStart => exact ⟨0, by omega, rfl, by simp [nng], rfl⟩
  case round =>
    obtain ⟨k, hk, rfl, hn, rfl⟩ := hrel
    have HN : Hid (nng (l.take k) = true) := hn
    clear hn
    by_cases hlt : k < l.length
    · obtain rfl := HA.out (by omega)
      obtain ⟨s, hs⟩ := at_lt hlt
      have c0 := HC.out k s hs
      have HS : Hid (l[k]? = some s) := hs
      clear hs
      by_cases h0 : s < 0
      · have HE : Hid ((!nng l) = true) := by
          rw [Hid, Bool.not_eq_true', Bool.eq_false_iff]
          intro h
          have := nng_iff.1 h s (List.mem_of_getElem? HS.out)
          omega
        go_wp2
        go_ret
        exact ⟨by rw [HE.out]; rfl, rfl⟩
      · have HN2 : Hid (nng (l.take (k + 1)) = true) := by
          rw [Hid, take_at HS.out]
          have := HN.out
          simp only [nng, List.all_append, List.all_cons, List.all_nil, Bool.and_eq_true, Bool.and_true] at this ⊢
          exact ⟨this, decide_eq_true (by omega)⟩
        go_wp2
        go_roundw
        case rel => first | exact ⟨k + 1, by omega, by go_num, HN2.out, trivial⟩ | exact ⟨_, _, ⟨k + 1, by omega, rfl, HN2.out⟩, rfl, by go_num⟩
        case measure => simp [intOf]; omega
    · have HE : Hid ((!nng l) = false) := by
        have := HN.out
        rw [List.take_of_length_le (by omega)] at this
        rw [Hid, this]; rfl
      go_wp2
      go_ret
      exact ⟨by rw [HE.out]; rfl, rfl⟩

set_option maxHeartbeats 4000000 in
theorem makes_any (v vp vn : Value) (h : Hs) (p n : List Sp) (w : World) (hh : HSrc w v h) (hp : SSrc w vp p) (hn : SSrc w vn n) (hlp : p.length ≤ 300) (hln : n.length ≤ 300) :
    Calls Try.prog 24 #[v, vp, vn] w fun e w' => e = .returned (.int .i64 (mke h p n)) ∧ Fr [] w w' := by
  have HP : Hid (SSrc w vp p) := hp
  have HN : Hid (SSrc w vn n) := hn
  have HL : Hid (p.length ≤ 300 ∧ n.length ≤ 300) := ⟨hlp, hln⟩
  have HM : Hid (mke h p n = mka h p n) := mke_mka h (by obtain ⟨_, _, _, _, _, h64, _⟩ := hp; exact h64) (by obtain ⟨_, _, _, _, _, h64, _⟩ := hn; exact h64)
  obtain ⟨po, pc, no, nc, qo, qc, ro, rc, rfl, hin, _⟩ := hh.opens
  have HIN : Hid (in64 h.s ∧ inu h.z ∧ inu h.zc ∧ inu h.c ∧ inu h.sm) := hin
  obtain ⟨ao, ac, rfl, _⟩ := hp
  obtain ⟨bo, bc, rfl, _⟩ := hn
  clear hh hin hlp hln
  go_enter Try.func24, Try.ntmps24
  have HN0 : Hid (Nine (w.alloc (.cells #[.int .i64 h.s, .int .u64 h.z, .int .u64 h.zc, .int .u64 h.c, .int .u64 h.sm, .slice po h.P.length pc, .slice no h.N.length nc, .slice qo h.pd.length qc, .slice ro h.nd.length rc] 26)) w.heap.size #[.int .i64 h.s, .int .u64 h.z, .int .u64 h.zc, .int .u64 h.c, .int .u64 h.sm, .slice po h.P.length pc, .slice no h.N.length nc, .slice qo h.pd.length qc, .slice ro h.nd.length rc]) := Nine.new _ _
  have HF0 : Hid (Fr [] w (w.alloc (.cells #[.int .i64 h.s, .int .u64 h.z, .int .u64 h.zc, .int .u64 h.c, .int .u64 h.sm, .slice po h.P.length pc, .slice no h.N.length nc, .slice qo h.pd.length qc, .slice ro h.nd.length rc] 26))) := (Fr.refl [] w).alloc _
  go_wp2_with fail
  refine (apart9_any _ p _ (HP.out.kept HF0.out) HL.out.1).mono ?_
  rintro e w1 ⟨x, y, rfl, hy, hf1⟩
  have HF1 : Hid (Fr [] w w1) := HF0.out.trans hf1 (by simp)
  have HN1 : Hid (Nine w1 w.heap.size #[.int .i64 h.s, .int .u64 h.z, .int .u64 h.zc, .int .u64 h.c, .int .u64 h.sm, .slice po h.P.length pc, .slice no h.N.length nc, .slice qo h.pd.length qc, .slice ro h.nd.length rc]) := HN0.out.kept hf1 (by simp)
  have HY : Hid (ape p = 0 → ISrc w1 y (snds p)) := hy
  clear hf1 hy HN0 HF0
  by_cases h1 : ape p = 0
  case neg =>
    have HE : Hid (mke h p n = ape p) := by rw [Hid, HM.out]; unfold mka; rw [if_neg h1]
    go_wp2
    go_ret
    exact ⟨by rw [HE.out]; rfl, HF1.out⟩
  have HY1 : Hid (ISrc w1 y (snds p)) := HY.out h1
  have HA1 : Hid (ape p = 0) := h1
  rw [h1]
  clear h1 HY
  go_wp2_with fail
  refine (apart9_any _ n _ (HN.out.kept HF1.out) HL.out.2).mono ?_
  rintro e w2 ⟨x2, y2, rfl, hy, hf2⟩
  have HF2 : Hid (Fr [] w w2) := HF1.out.trans hf2 (by simp)
  have HN2 : Hid (Nine w2 w.heap.size #[.int .i64 h.s, .int .u64 h.z, .int .u64 h.zc, .int .u64 h.c, .int .u64 h.sm, .slice po h.P.length pc, .slice no h.N.length nc, .slice qo h.pd.length qc, .slice ro h.nd.length rc]) := HN1.out.kept hf2 (by simp)
  have HYn : Hid (ape n = 0 → ISrc w2 y2 (snds n)) := hy
  have HYp : Hid (ISrc w2 y (snds p)) := HY1.out.kept hf2
  clear hf2 hy HN1 HF1 HY1
  by_cases h2 : ape n = 0
  case neg =>
    have HE : Hid (mke h p n = ape n) := by rw [Hid, HM.out]; unfold mka; rw [if_pos HA1.out, if_neg h2]
    go_wp2
    go_ret
    exact ⟨by rw [HE.out]; rfl, HF2.out⟩
  have HY2 : Hid (ISrc w2 y2 (snds n)) := HYn.out h2
  have HA2 : Hid (ape n = 0) := h2
  rw [h2]
  clear h2 HYn
  have c0 := HN2.out.cell 0 rfl
  have c1 := HN2.out.cell 1 rfl
  have c2 := HN2.out.cell 2 rfl
  have c3 := HN2.out.cell 3 rfl
  have c4 := HN2.out.cell 4 rfl
  have c5 := HN2.out.cell 5 rfl
  have c6 := HN2.out.cell 6 rfl
  have c7 := HN2.out.cell 7 rfl
  have c8 := HN2.out.cell 8 rfl
  go_wp2_with fail
  refine (lhead_any h.s h.z w2).mono ?_
  rintro e w3 ⟨rfl, rfl⟩
  by_cases h3 : hde h.s h.z = 0
  case neg =>
    have HE : Hid (mke h p n = hde h.s h.z) := by rw [Hid, HM.out]; unfold mka; rw [if_pos HA1.out, if_pos HA2.out, if_neg h3]
    go_wp2
    go_ret
    exact ⟨by rw [HE.out]; rfl, HF2.out⟩
  have HD : Hid (hde h.s h.z = 0) := h3
  rw [h3]
  clear h3
  go_wp2_with fail
  refine (below9_any _ (snds p) _ HYp.out).mono ?_
  rintro e w4 ⟨rfl, rfl⟩
  cases h4 : nng (snds p) with
  | false =>
    have HE : Hid (mke h p n = 22) := by rw [Hid, HM.out]; unfold mka; rw [if_pos HA1.out, if_pos HA2.out, if_pos HD.out, if_neg (by rw [h4]; decide)]
    clear h4
    go_wp2
    go_ret
    exact ⟨by rw [HE.out]; rfl, HF2.out⟩
  | true =>
    have H4 : Hid (nng (snds p) = true) := h4
    clear h4
    go_wp2_with fail
    refine (below9_any _ (snds n) _ HY2.out).mono ?_
    rintro e w5 ⟨rfl, rfl⟩
    cases h5 : nng (snds n) with
    | false =>
      have HE : Hid (mke h p n = 22) := by rw [Hid, HM.out]; unfold mka; rw [if_pos HA1.out, if_pos HA2.out, if_pos HD.out, if_pos H4.out, if_neg (by rw [h5]; decide)]
      clear h5
      go_wp2
      go_ret
      exact ⟨by rw [HE.out]; rfl, HF2.out⟩
    | true =>
      have H5 : Hid (nng (snds n) = true) := h5
      have HE : Hid (mke h p n = fte h.zc h.c h.sm (snds p) (snds n)) := by rw [Hid, HM.out]; unfold mka; rw [if_pos HA1.out, if_pos HA2.out, if_pos HD.out, if_pos H4.out, if_pos h5]
      clear h5
      go_wp2_with fail
      refine (lfits9_any h.zc h.c h.sm y y2 (snds p) (snds n) _ HIN.out.2.2 HYp.out HY2.out (nng_iff.1 H4.out) (nng_iff.1 H5.out)).mono ?_
      rintro e w6 ⟨rfl, rfl⟩
      go_wp2
      go_ret
      exact ⟨by rw [HE.out]; rfl, HF2.out⟩
end Go.Proofs.Ytjkiiccdcjcfbaa
