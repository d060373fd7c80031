/-
  FhistPairs: the walk.
-/
import Derived.Test.YtoaibabkkphlaaaGG
namespace Go.Proofs.Ytoaibabkkphlaaa
open Go.RowKit Mem Spans
set_option linter.unusedSimpArgs false
set_option linter.unusedVariables false
set_option maxRecDepth 100000

set_option maxHeartbeats 16000000 in
theorem fpairs_walk (v0 : Value) (h : Fs) (d : Int) (w : World) (w0 : FSrc w v0 h) (w1 : (Lit.int .i64 d).wf = true) :
    Calls Try.prog 4 #[v0, .int .i64 d] w fun e w' => e = .returned (.bool true) ∧ Below w.heap.size w w' := by
  have HH : Hid (∀ wx, Fr [] w wx → FSrc wx v0 h) := fun wx hx => w0.kept hx
  have HFI : Hid (fin9 h) := w0.fin
  obtain ⟨po, pc, no, nc, qo, qc, ro, rc, rfl, _, hsr, _⟩ := w0.opens
  have HSR : Hid (SSrc w (.slice po h.P.length pc) h.P ∧ SSrc w (.slice no h.N.length nc) h.N ∧ USrc w (.slice qo h.pd.length qc) h.pd ∧ USrc w (.slice ro h.nd.length rc) h.nd) := hsr
  clear w0 w1 hsr
  go_enter Try.func4, Try.ntmps4
  have HN0 : Hid (NineF (w.alloc (.cells #[.int .i64 h.s, .int .u64 h.z, .int .u64 h.zc, .int .u64 h.c, .int .u64 h.sm, .slice po h.P.length pc, .slice no h.N.length nc, .slice qo h.pd.length qc, .slice ro h.nd.length rc] 26)) w.heap.size #[.int .i64 h.s, .int .u64 h.z, .int .u64 h.zc, .int .u64 h.c, .int .u64 h.sm, .slice po h.P.length pc, .slice no h.N.length nc, .slice qo h.pd.length qc, .slice ro h.nd.length rc]) := NineF.new _ _
  have HF0 : Hid (Fr [] w (w.alloc (.cells #[.int .i64 h.s, .int .u64 h.z, .int .u64 h.zc, .int .u64 h.c, .int .u64 h.sm, .slice po h.P.length pc, .slice no h.N.length nc, .slice qo h.pd.length qc, .slice ro h.nd.length rc] 26))) := (Fr.refl [] w).alloc _
  go_wp2_with fail
  refine (fsmall_any _ h _ (HH.out _ HF0.out)).mono ?_
  rintro e w1 ⟨r, rfl, hr, hf1⟩
  have HF1 : Hid (Fr [] w w1) := HF0.out.trans hf1 (by simp)
  have HN1 : Hid (NineF w1 w.heap.size _) := HN0.out.kept hf1 (by simp)
  have HR : Hid (r = true → FewF h) := hr
  clear hf1 hr HN0 HF0
  cases r with
  | false =>
    go_wp2_with fail
    refine (awake10_any w1).mono ?_
    rintro e w2 ⟨rfl, hf2⟩
    have HF2 : Hid (Fr [] w w2) := HF1.out.trans hf2 (by simp)
    clear hf2
    go_wp2
    go_ret
    exact ⟨rfl, HF2.out.below (Nat.le_refl _) (by simp)⟩
  | true =>
    have HLE : Hid (h.P.length ≤ 1024 ∧ h.N.length ≤ 1024) := fewF_le (HR.out rfl)
    clear HR
    have c0 := HN1.out.cell 0 rfl
    have c1 := HN1.out.cell 1 rfl
    have c2 := HN1.out.cell 2 rfl
    have c3 := HN1.out.cell 3 rfl
    have c4 := HN1.out.cell 4 rfl
    have c5 := HN1.out.cell 5 rfl
    have c6 := HN1.out.cell 6 rfl
    have c7 := HN1.out.cell 7 rfl
    have c8 := HN1.out.cell 8 rfl
    go_wp2_with fail
    refine (fpairs_any _ h d _ (HH.out _ HF1.out)).mono ?_
    rintro e w2 ⟨x, rfl, hx, hf2⟩
    have HF2 : Hid (Fr [] w w2) := HF1.out.trans hf2 (by simp)
    have HX : Hid (POwn 43 w1.heap.size w2 x (fprl h d)) := hx
    have HN2 : Hid (NineF w2 w.heap.size _) := HN1.out.kept hf2 (by simp)
    obtain ⟨xa, xc, rfl⟩ := HX.out.val
    clear hx hf2 HN1 HF1 c0 c1 c2 c3 c4 c5 c6 c7 c8
    by_cases hd : d = 0 ∨ d = 1
    case neg =>
      have HP : Hid (fpre h d = 11 ∧ fprl h d = []) := by
        unfold Hid fpre fprl
        rw [if_neg hd, if_neg (fun k => hd (.inl k)), if_neg (fun k => hd (.inr k))]
        exact ⟨rfl, rfl⟩
      have d0 : (d != 0) = true := by simp; omega
      have d1 : (d != 1) = true := by simp; omega
      rw [HP.out.1]
      have hl := HP.out.2
      rw [hl] at HX ⊢
      clear hl HX hd
      go_wp2_with fail
      refine (awake10_any w2).mono ?_
      rintro e w3 ⟨rfl, hf3⟩
      have HF3 : Hid (Fr [] w w3) := HF2.out.trans hf3 (by simp)
      clear hf3
      go_wp2
      go_ret
      exact ⟨rfl, HF3.out.below (Nat.le_refl _) (by simp)⟩
    have HP : Hid (fpre h d = fce h ∧ (fce h ≠ 0 → (fprl h d).length = 0)) := by
      unfold Hid fpre fprl
      rw [if_pos hd]
      refine ⟨rfl, fun k => ?_⟩
      have := fd_nil k
      by_cases h0 : d = 0
      · rw [if_pos h0, this.1]; rfl
      · rw [if_neg h0, if_pos (by omega), this.2]; rfl
    rw [HP.out.1]
    have dd : ((d != 0) && (d != 1)) = false := by rcases hd with rfl | rfl <;> rfl
    have c0 := HN2.out.cell 0 rfl
    have c1 := HN2.out.cell 1 rfl
    have c2 := HN2.out.cell 2 rfl
    have c3 := HN2.out.cell 3 rfl
    have c4 := HN2.out.cell 4 rfl
    have c5 := HN2.out.cell 5 rfl
    have c6 := HN2.out.cell 6 rfl
    have c7 := HN2.out.cell 7 rfl
    have c8 := HN2.out.cell 8 rfl
    have HREF : Hid (∀ wx, Fr [] w wx → Calls Try.prog 16 #[.agg #[.int .i64 h.s, .int .u64 h.z, .int .u64 h.zc, .int .u64 h.c, .int .u64 h.sm, .slice po h.P.length pc, .slice no h.N.length nc, .slice qo h.pd.length qc, .slice ro h.nd.length rc]] wx fun e w' => ∃ u, e = .returned u ∧ FSrc w' u h ∧ Fr [] wx w') := fun wx hx => fref_any _ h wx (HH.out _ hx) HLE.out
    rcases hd with rfl | rfl
    · clear dd
      have hpl : fprl h 0 = (fdp h) := by unfold fprl; rw [if_pos rfl]
      rw [hpl] at HX HP ⊢
      clear hpl
      go_wp2_with fail
      refine (HREF.out _ HF2.out).mono ?_
      rintro e w3 ⟨u, rfl, hu, hf3⟩
      have HF3 : Hid (Fr [] w w3) := HF2.out.trans hf3 (by simp)
      have HX3 : Hid (POwn 43 w1.heap.size w3 (.slice xa (fdp h).length xc) (fdp h)) := HX.out.kept hf3
      have HN3 : Hid (NineF w3 w.heap.size _) := HN2.out.kept hf3 (by simp)
      have HU : Hid (FSrc w3 u h) := hu
      clear hf3 hu c0 c1 c2 c3 c4 c5 c6 c7 c8 HX HN2 HF2
      go_wp2_with fail
      refine (lcheck10_any _ h _ HU.out).mono ?_
      rintro e w4 ⟨rfl, hf4⟩
      have HF4 : Hid (Fr [] w w4) := HF3.out.trans hf4 (by simp)
      have HX4 : Hid (POwn 43 w1.heap.size w4 (.slice xa (fdp h).length xc) (fdp h)) := HX3.out.kept hf4
      have HN4 : Hid (NineF w4 w.heap.size _) := HN3.out.kept hf4 (by simp)
      clear hf4 HX3 HN3 HU HF3
      by_cases hk : fce h = 0
      case neg =>
        have hl := HP.out.2 hk
        have hb : (fce h != 0) = true := by simpa using hk
        rw [hl]
        clear hl hk
        generalize fce h = C at *
        go_wp2_with fail
        refine (awake10_any w4).mono ?_
        rintro e w5 ⟨rfl, hf5⟩
        have HF5 : Hid (Fr [] w w5) := HF4.out.trans hf5 (by simp)
        clear hf5
        go_wp2
        go_ret
        exact ⟨rfl, HF5.out.below (Nat.le_refl _) (by simp)⟩
      have HK : Hid (fce h = 0) := hk
      have HZ := fce_zero.1 hk
      have HZP : Hid (fsd h.P h.pd = 0 ∧ fsd h.N h.nd = 0) := HZ.2
      have HLD : Hid (fdp h = fsl h.P h.pd ∧ fdn h = fsl h.N h.nd) := by unfold Hid fdp fdn; rw [if_pos hk, if_pos hk]; exact ⟨rfl, rfl⟩
      rw [hk]
      clear hk HZ
      have c5 := HN4.out.cell 5 rfl
      have c7 := HN4.out.cell 7 rfl
      have c6 := HN4.out.cell 6 rfl
      have c8 := HN4.out.cell 8 rfl
      have HQ : Hid (∀ n, Fr [] w (w4.drewN n) ∧ POwn 43 w1.heap.size (w4.drewN n) (.slice xa (fdp h).length xc) (fdp h)) := fun n => ⟨HF4.out.trans (fr_drewN w4 n) (by simp), HX4.out.kept (fr_drewN w4 n)⟩
      have M6 : ∀ n, (w4.drewN n).cell? ⟨w.heap.size, 6, none⟩ = some (.slice no h.N.length nc) := fun n => (fr_drewN w4 n).cell_some c6 List.not_mem_nil
      have M8 : ∀ n, (w4.drewN n).cell? ⟨w.heap.size, 8, none⟩ = some (.slice ro h.nd.length rc) := fun n => (fr_drewN w4 n).cell_some c8 List.not_mem_nil
      clear HF4 HX4 HN4 HP
      go_wp2_with fail
      go_quiet (fail)
      have HF5 : Hid (Fr [] w (w4.drewN nq)) := (HQ.out nq).1
      have HX5 : Hid (POwn 43 w1.heap.size (w4.drewN nq) (.slice xa (fdp h).length xc) (fdp h)) := (HQ.out nq).2
      clear HQ M6 M8 c5 c6 c7 c8
      generalize w4.drewN nq = w5 at HF5 HX5 ⊢
      have HL : Hid ((fdp h).length ≤ 4096) := fdp_le h
      have HPS : Hid (PSrc w5 (.slice xa (fdp h).length xc) (fdp h)) := HX5.out.src (fdp_in h HFI.out)
      obtain ⟨_, _, hv, hcap, hmax, _, b, off, ha, hc⟩ := HPS.out
      simp only [Value.slice.injEq] at hv
      obtain ⟨rfl, _, rfl⟩ := hv
      have HC : Hid (∀ j s, (fdp h)[j]? = some s → w5.cell? ⟨b, off + j * 2, none⟩ = some (.int .i64 s.1) ∧ w5.cell? ⟨b, off + j * 2 + 1, none⟩ = some (.int .u64 s.2)) := hc
      have HA : Hid (0 < (fdp h).length → xa = some ⟨b, off, none⟩) := ha
      obtain ⟨i0, hi⟩ := info_uint64
      have HI : Hid (UInfo 22 i0) := hi
      obtain ⟨i1, hi1⟩ := ninfo_int
      have HI1 : Hid (NInfo 3 i1) := hi1
      have hml : (fdp h).length ≤ 9223372036854775807 := by have := HL.out; omega
      clear hc ha hi hi1 HPS
      go_wp2
      go_loopw [10, 11, 68] (fun p q i wr => ∃ (k : Nat), k ≤ (fdp h).length ∧ i = .int .i64 (k : Int) ∧ TWU w5.heap.size wr p q (fsts ((fdp h).take k)) (snds ((fdp h).take k)) [] ∧ Fr [] w5 wr) (fun _ _ i _ => (fdp h).length - (intOf i).toNat)
      case atStart => exact ⟨0, by omega, rfl, by simpa [fsts, snds] using TWU.nil w5.heap.size w5, Fr.refl _ _⟩
      case round =>
        obtain ⟨k, hk, rfl, htw, hf⟩ := hrel
        have HF : Hid (Fr [] w5 wr) := hf
        have HTW : Hid (TWU w5.heap.size wr u10 u11 (fsts ((fdp h).take k)) (snds ((fdp h).take k)) []) := htw
        clear hf htw
        by_cases hlt : k < (fdp h).length
        · obtain rfl := HA.out (by omega)
          obtain ⟨s, hs⟩ := at_lt hlt
          have c0 : wr.cell? ⟨b, off + k * 2, none⟩ = some (.int .i64 s.1) := HF.out.cell_some (HC.out k s hs).1 (by simp)
          have c1 : wr.cell? ⟨b, off + k * 2 + 1, none⟩ = some (.int .u64 s.2) := HF.out.cell_some (HC.out k s hs).2 (by simp)
          have HTP : Hid (fsts ((fdp h).take (k + 1)) = fsts ((fdp h).take k) ++ [s.1] ∧ snds ((fdp h).take (k + 1)) = snds ((fdp h).take k) ++ [s.2]) := by rw [Hid, take_at hs]; simp [fsts, snds]
          have HLP : Hid ((fsts ((fdp h).take k)).length ≤ 1000000 ∧ (snds ((fdp h).take k)).length ≤ 1000000) := by
            rw [Hid, fsts_length, snds_length, List.length_take]; have := HL.out; omega
          clear hs
          obtain ⟨o, n⟩ := s
          simp only at c0 c1
          have HTW2 : Hid (TWU w5.heap.size (wr.alloc (.cells #[.int .i64 o, .int .u64 n] 43)) u10 u11 (fsts ((fdp h).take k)) (snds ((fdp h).take k)) [((wr.heap.size, 0), .int .i64 o), ((wr.heap.size, 1), .int .u64 n)]) := HTW.out.pair rfl (.int .i64 o) (.int .u64 n) _
          have HF2 : Hid (Fr [] w5 (wr.alloc (.cells #[.int .i64 o, .int .u64 n] 43))) := HF.out.alloc _
          go_upto_region 17 with fail
          generalize hPP : fsts ((fdp h).take k) = PP at *
          generalize hQQ : snds ((fdp h).take k) = QQ at *
          clear hPP hQQ HTW HF c0 c1
          generalize wr.alloc (.cells _ _) = wP at HTW2 HF2 ⊢
          generalize wr.heap.size = G at HTW2 ⊢
          have HSZ : Hid (w5.heap.size ≤ wP.heap.size) := HF2.out.size
          have T1 : Hid (TWU w5.heap.size (World.drew (wP.alloc (.cells #[.int .i64 o] 3))) u10 u11 PP QQ [((wP.heap.size, 0), .int .i64 o), ((G, 0), .int .i64 o), ((G, 1), .int .u64 n)]) := (HTW2.out.lit rfl (.int .i64 o) 3).kept (Fr.refl _ _).drew
          have T2 : Hid (TWU w5.heap.size (World.drew ((wP.alloc (.cells #[.int .i64 o] 3)).alloc (.cells #[.int .u64 n] 22))) u10 u11 PP QQ [((wP.heap.size + 1, 0), .int .u64 n), ((wP.heap.size, 0), .int .i64 o), ((G, 0), .int .i64 o), ((G, 1), .int .u64 n)]) := ((HTW2.out.lit rfl (.int .i64 o) 3).lit (World.size_alloc _ _) (.int .u64 n) 22).kept (Fr.refl _ _).drew
          have T3 : Hid (TWU w5.heap.size (World.drew ((wP.alloc (.cells #[.int .u64 n] 22)).alloc (.cells #[.int .i64 o] 3))) u10 u11 PP QQ [((wP.heap.size + 1, 0), .int .i64 o), ((wP.heap.size, 0), .int .u64 n), ((G, 0), .int .i64 o), ((G, 1), .int .u64 n)]) := ((HTW2.out.lit rfl (.int .u64 n) 22).lit (World.size_alloc _ _) (.int .i64 o) 3).kept (Fr.refl _ _).drew
          have F1 : Hid (∀ (t : TypeId) (x : Value), Fr [] w5 (World.drew (wP.alloc (.cells #[x] t)))) := fun t x => (HF2.out.alloc _).drew
          have F2 : Hid (∀ (t : TypeId) (x : Value) (t2 : TypeId) (x2 : Value), Fr [] w5 (World.drew ((wP.alloc (.cells #[x] t)).alloc (.cells #[x2] t2)))) := fun t x t2 x2 => ((HF2.out.alloc _).alloc _).drew
          have d0 : wP.cell? ⟨G, 0, none⟩ = some (.int .i64 o) := HTW2.out.cell (c := ((G, 0), .int .i64 o)) (by simp)
          have d1 : wP.cell? ⟨G, 1, none⟩ = some (.int .u64 n) := HTW2.out.cell (c := ((G, 1), .int .u64 n)) (by simp)
          have dA0 : ∀ ob, (wP.alloc ob).cell? ⟨G, 0, none⟩ = some (.int .i64 o) := fun ob => ((Fr.refl [] wP).alloc ob).cell_some d0 List.not_mem_nil
          have dA1 : ∀ ob, (wP.alloc ob).cell? ⟨G, 1, none⟩ = some (.int .u64 n) := fun ob => ((Fr.refl [] wP).alloc ob).cell_some d1 List.not_mem_nil
          have hB1 : w5.heap.size ≤ wP.heap.size + 1 := by have := HSZ.out; omega
          have hB2 : w5.heap.size ≤ wP.heap.size + 1 + 1 := by omega
          go_region_law (first
              | (refine step_twu1 rfl _ _ rfl HI1.out (q := wP.heap.size) (s := o) rfl rfl T1.out (by simp) (by simpa using hB1) HLP.out.1 ?_
                 intro va wa twa hba
                 have TA : Hid (TWU w5.heap.size wa va u11 (PP ++ [o]) QQ _) := twa
                 have FA : Hid (Fr [] w5 wa) := Fr.ofBelow (((F1.out _ _).below (Nat.le_refl _) (by simp)).trans hba)
                 have TB : Hid (TWU w5.heap.size (wa.alloc (.cells #[.int .u64 n] 22)) va u11 (PP ++ [o]) QQ (((wa.heap.size, 0), .int .u64 n) :: _)) := twa.lit rfl (.int .u64 n) 22
                 have hB3 : w5.heap.size ≤ wa.heap.size + 1 := by have := FA.out.size; omega
                 have z1 : wa.cell? ⟨G, 1, none⟩ = some (.int .u64 n) := twa.cell (c := ((G, 1), .int .u64 n)) (by simp)
                 clear twa hba)
              | (refine step_twu1 rfl _ _ rfl HI1.out (q := wP.heap.size) (s := o) rfl rfl T2.out (by simp) (by simpa using hB2) HLP.out.1 ?_
                 intro va wa twa hba
                 have TA : Hid (TWU w5.heap.size wa va u11 (PP ++ [o]) QQ _) := twa
                 have FA : Hid (Fr [] w5 wa) := Fr.ofBelow (((F2.out _ _ _ _).below (Nat.le_refl _) (by simp)).trans hba)
                 have z1 : wa.cell? ⟨G, 1, none⟩ = some (.int .u64 n) := twa.cell (c := ((G, 1), .int .u64 n)) (by simp)
                 clear twa hba)
              | (refine step_twu1 rfl _ _ rfl HI1.out (q := wP.heap.size + 1) (s := o) rfl rfl T3.out (by simp) (by simpa using hB2) HLP.out.1 ?_
                 intro va wa twa hba
                 have TA : Hid (TWU w5.heap.size wa va u11 (PP ++ [o]) QQ _) := twa
                 have FA : Hid (Fr [] w5 wa) := Fr.ofBelow (((F2.out _ _ _ _).below (Nat.le_refl _) (by simp)).trans hba)
                 have z1 : wa.cell? ⟨G, 1, none⟩ = some (.int .u64 n) := twa.cell (c := ((G, 1), .int .u64 n)) (by simp)
                 clear twa hba)
              | (refine step_twu2 rfl _ _ rfl HI.out (q := wa.heap.size) (s := n) rfl rfl TB.out (by simp) (by simpa using hB3) HLP.out.2 ?_
                 intro vb wb twb hbb
                 have TC : Hid (TWU w5.heap.size wb va vb (PP ++ [o]) (QQ ++ [n]) []) := twb.less
                 have FC : Hid (Fr [] w5 wb) := Fr.ofBelow (((FA.out.alloc _).below (Nat.le_refl _) (by simp)).trans hbb)
                 clear twb hbb)
              | (refine step_twu2 rfl _ _ rfl HI.out (q := wP.heap.size + 1) (s := n) rfl rfl TA.out (by simp) FA.out.size HLP.out.2 ?_
                 intro vb wb twb hbb
                 have TC : Hid (TWU w5.heap.size wb va vb (PP ++ [o]) (QQ ++ [n]) []) := twb.less
                 have FC : Hid (Fr [] w5 wb) := Fr.ofBelow ((FA.out.below (Nat.le_refl _) (by simp)).trans hbb)
                 clear twb hbb)
              | (refine step_twu2 rfl _ _ rfl HI.out (q := wP.heap.size) (s := n) rfl rfl TA.out (by simp) FA.out.size HLP.out.2 ?_
                 intro vb wb twb hbb
                 have TC : Hid (TWU w5.heap.size wb va vb (PP ++ [o]) (QQ ++ [n]) []) := twb.less
                 have FC : Hid (Fr [] w5 wb) := Fr.ofBelow ((FA.out.below (Nat.le_refl _) (by simp)).trans hbb)
                 clear twb hbb))
          all_goals have HTC : Hid (TWU w5.heap.size wb va vb (fsts ((fdp h).take (k + 1))) (snds ((fdp h).take (k + 1))) []) := by rw [Hid, HTP.out.1, HTP.out.2]; exact TC.out
          all_goals clear TC
          all_goals go_wp2
          all_goals go_roundw
          all_goals first
            | exact ⟨k + 1, by omega, by go_num, HTC.out, FC.out⟩
            | (simp [intOf]; omega)
        · have HTC : Hid (TWU w5.heap.size wr u10 u11 (fsts (fdp h)) (snds (fdp h)) []) := by
            have := HTW.out
            rw [List.take_of_length_le (by omega)] at this
            exact this
          have HEQ : Hid (pls h.P = fsts (fdp h) ∧ h.pd = snds (fdp h)) := by rw [Hid, HLD.out.1]; exact ⟨(fsl_zip HZP.out.1).2.1.symm, (fsl_zip HZP.out.1).2.2.symm⟩
          have HRS : Hid (ISrc wr u10 (fsts (fdp h)) ∧ USrc wr u11 (snds (fdp h))) := by
            have hin := (fdp_in h HFI.out)
            refine ⟨IOwn.src HTC.out.rows.1 (fun z hz => ?_), HTC.out.rows.2.src (fun z hz => ?_)⟩
            · obtain ⟨s, hs, rfl⟩ := List.mem_map.1 hz; exact (hin s hs).1
            · obtain ⟨s, hs, rfl⟩ := List.mem_map.1 hz; exact (hin s hs).2
          have HFW : Hid (Fr [] w wr) := HF5.out.trans HF.out (by simp)
          clear HTC HTW HF
          go_wp2_with fail
          refine (places10_any _ _ h.P (fsts (fdp h)) wr (HSR.out.1.kept HFW.out) HRS.out.1 HLE.out.1 (fsd_zero.1 HZP.out.1).1 HEQ.out.1).mono ?_
          rintro e wx ⟨rfl, hfx⟩
          have HFX : Hid (Fr [] wr wx) := hfx
          clear hfx
          go_wp2_with fail
          refine (sameU10_any _ _ h.pd wx (by rw [HEQ.out.2]; exact HRS.out.2.kept HFX.out) (HSR.out.2.2.1.kept (HFW.out.trans HFX.out (by simp)))).mono ?_
          rintro e wy ⟨rfl, hfy⟩
          have HFY : Hid (Fr [] w wy) := (HFW.out.trans HFX.out (by simp)).trans hfy (by simp)
          clear hfy
          go_wp2_with fail
          refine (awake10_any wy).mono ?_
          rintro e wz ⟨rfl, hfz⟩
          have HFZ : Hid (Fr [] w wz) := HFY.out.trans hfz (by simp)
          clear hfz
          go_wp2
          go_ret
          exact ⟨rfl, HFZ.out.below (Nat.le_refl _) (by simp)⟩
    · clear dd
      have hpl : fprl h 1 = (fdn h) := by unfold fprl; rw [if_neg (by decide), if_pos rfl]
      rw [hpl] at HX HP ⊢
      clear hpl
      go_wp2_with fail
      refine (HREF.out _ HF2.out).mono ?_
      rintro e w3 ⟨u, rfl, hu, hf3⟩
      have HF3 : Hid (Fr [] w w3) := HF2.out.trans hf3 (by simp)
      have HX3 : Hid (POwn 43 w1.heap.size w3 (.slice xa (fdn h).length xc) (fdn h)) := HX.out.kept hf3
      have HN3 : Hid (NineF w3 w.heap.size _) := HN2.out.kept hf3 (by simp)
      have HU : Hid (FSrc w3 u h) := hu
      clear hf3 hu c0 c1 c2 c3 c4 c5 c6 c7 c8 HX HN2 HF2
      go_wp2_with fail
      refine (lcheck10_any _ h _ HU.out).mono ?_
      rintro e w4 ⟨rfl, hf4⟩
      have HF4 : Hid (Fr [] w w4) := HF3.out.trans hf4 (by simp)
      have HX4 : Hid (POwn 43 w1.heap.size w4 (.slice xa (fdn h).length xc) (fdn h)) := HX3.out.kept hf4
      have HN4 : Hid (NineF w4 w.heap.size _) := HN3.out.kept hf4 (by simp)
      clear hf4 HX3 HN3 HU HF3
      by_cases hk : fce h = 0
      case neg =>
        have hl := HP.out.2 hk
        have hb : (fce h != 0) = true := by simpa using hk
        rw [hl]
        clear hl hk
        generalize fce h = C at *
        go_wp2_with fail
        refine (awake10_any w4).mono ?_
        rintro e w5 ⟨rfl, hf5⟩
        have HF5 : Hid (Fr [] w w5) := HF4.out.trans hf5 (by simp)
        clear hf5
        go_wp2
        go_ret
        exact ⟨rfl, HF5.out.below (Nat.le_refl _) (by simp)⟩
      have HK : Hid (fce h = 0) := hk
      have HZ := fce_zero.1 hk
      have HZP : Hid (fsd h.P h.pd = 0 ∧ fsd h.N h.nd = 0) := HZ.2
      have HLD : Hid (fdp h = fsl h.P h.pd ∧ fdn h = fsl h.N h.nd) := by unfold Hid fdp fdn; rw [if_pos hk, if_pos hk]; exact ⟨rfl, rfl⟩
      rw [hk]
      clear hk HZ
      have c5 := HN4.out.cell 5 rfl
      have c7 := HN4.out.cell 7 rfl
      have c6 := HN4.out.cell 6 rfl
      have c8 := HN4.out.cell 8 rfl
      have HQ : Hid (∀ n, Fr [] w (w4.drewN n) ∧ POwn 43 w1.heap.size (w4.drewN n) (.slice xa (fdn h).length xc) (fdn h)) := fun n => ⟨HF4.out.trans (fr_drewN w4 n) (by simp), HX4.out.kept (fr_drewN w4 n)⟩
      have M6 : ∀ n, (w4.drewN n).cell? ⟨w.heap.size, 6, none⟩ = some (.slice no h.N.length nc) := fun n => (fr_drewN w4 n).cell_some c6 List.not_mem_nil
      have M8 : ∀ n, (w4.drewN n).cell? ⟨w.heap.size, 8, none⟩ = some (.slice ro h.nd.length rc) := fun n => (fr_drewN w4 n).cell_some c8 List.not_mem_nil
      clear HF4 HX4 HN4 HP
      go_wp2_with fail
      go_quiet (fail)
      have HQ2 : Hid (∀ n, Fr [] w ((w4.drewN nq).drewN n) ∧ POwn 43 w1.heap.size ((w4.drewN nq).drewN n) (.slice xa (fdn h).length xc) (fdn h)) := fun n => ⟨(HQ.out nq).1.trans (fr_drewN _ n) (by simp), (HQ.out nq).2.kept (fr_drewN _ n)⟩
      have m6 := M6 nq
      have m8 := M8 nq
      clear HQ M6 M8 c5 c6 c7 c8
      generalize w4.drewN nq = w4b at HQ2 m6 m8 ⊢
      go_wp2_with fail
      go_quiet (fail)
      have HF5 : Hid (Fr [] w (w4b.drewN nq)) := (HQ2.out nq).1
      have HX5 : Hid (POwn 43 w1.heap.size (w4b.drewN nq) (.slice xa (fdn h).length xc) (fdn h)) := (HQ2.out nq).2
      clear HQ2 m6 m8
      generalize w4b.drewN nq = w5 at HF5 HX5 ⊢
      have HL : Hid ((fdn h).length ≤ 4096) := fdn_le h
      have HPS : Hid (PSrc w5 (.slice xa (fdn h).length xc) (fdn h)) := HX5.out.src (fdn_in h HFI.out)
      obtain ⟨_, _, hv, hcap, hmax, _, b, off, ha, hc⟩ := HPS.out
      simp only [Value.slice.injEq] at hv
      obtain ⟨rfl, _, rfl⟩ := hv
      have HC : Hid (∀ j s, (fdn h)[j]? = some s → w5.cell? ⟨b, off + j * 2, none⟩ = some (.int .i64 s.1) ∧ w5.cell? ⟨b, off + j * 2 + 1, none⟩ = some (.int .u64 s.2)) := hc
      have HA : Hid (0 < (fdn h).length → xa = some ⟨b, off, none⟩) := ha
      obtain ⟨i0, hi⟩ := info_uint64
      have HI : Hid (UInfo 22 i0) := hi
      obtain ⟨i1, hi1⟩ := ninfo_int
      have HI1 : Hid (NInfo 3 i1) := hi1
      have hml : (fdn h).length ≤ 9223372036854775807 := by have := HL.out; omega
      clear hc ha hi hi1 HPS
      go_wp2
      go_loopw [10, 11, 68] (fun p q i wr => ∃ (k : Nat), k ≤ (fdn h).length ∧ i = .int .i64 (k : Int) ∧ TWU w5.heap.size wr p q (fsts ((fdn h).take k)) (snds ((fdn h).take k)) [] ∧ Fr [] w5 wr) (fun _ _ i _ => (fdn h).length - (intOf i).toNat)
      case atStart => exact ⟨0, by omega, rfl, by simpa [fsts, snds] using TWU.nil w5.heap.size w5, Fr.refl _ _⟩
      case round =>
        obtain ⟨k, hk, rfl, htw, hf⟩ := hrel
        have HF : Hid (Fr [] w5 wr) := hf
        have HTW : Hid (TWU w5.heap.size wr u10 u11 (fsts ((fdn h).take k)) (snds ((fdn h).take k)) []) := htw
        clear hf htw
        by_cases hlt : k < (fdn h).length
        · obtain rfl := HA.out (by omega)
          obtain ⟨s, hs⟩ := at_lt hlt
          have c0 : wr.cell? ⟨b, off + k * 2, none⟩ = some (.int .i64 s.1) := HF.out.cell_some (HC.out k s hs).1 (by simp)
          have c1 : wr.cell? ⟨b, off + k * 2 + 1, none⟩ = some (.int .u64 s.2) := HF.out.cell_some (HC.out k s hs).2 (by simp)
          have HTP : Hid (fsts ((fdn h).take (k + 1)) = fsts ((fdn h).take k) ++ [s.1] ∧ snds ((fdn h).take (k + 1)) = snds ((fdn h).take k) ++ [s.2]) := by rw [Hid, take_at hs]; simp [fsts, snds]
          have HLP : Hid ((fsts ((fdn h).take k)).length ≤ 1000000 ∧ (snds ((fdn h).take k)).length ≤ 1000000) := by
            rw [Hid, fsts_length, snds_length, List.length_take]; have := HL.out; omega
          clear hs
          obtain ⟨o, n⟩ := s
          simp only at c0 c1
          have HTW2 : Hid (TWU w5.heap.size (wr.alloc (.cells #[.int .i64 o, .int .u64 n] 43)) u10 u11 (fsts ((fdn h).take k)) (snds ((fdn h).take k)) [((wr.heap.size, 0), .int .i64 o), ((wr.heap.size, 1), .int .u64 n)]) := HTW.out.pair rfl (.int .i64 o) (.int .u64 n) _
          have HF2 : Hid (Fr [] w5 (wr.alloc (.cells #[.int .i64 o, .int .u64 n] 43))) := HF.out.alloc _
          go_upto_region 17 with fail
          generalize hPP : fsts ((fdn h).take k) = PP at *
          generalize hQQ : snds ((fdn h).take k) = QQ at *
          clear hPP hQQ HTW HF c0 c1
          generalize wr.alloc (.cells _ _) = wP at HTW2 HF2 ⊢
          generalize wr.heap.size = G at HTW2 ⊢
          have HSZ : Hid (w5.heap.size ≤ wP.heap.size) := HF2.out.size
          have T1 : Hid (TWU w5.heap.size (World.drew (wP.alloc (.cells #[.int .i64 o] 3))) u10 u11 PP QQ [((wP.heap.size, 0), .int .i64 o), ((G, 0), .int .i64 o), ((G, 1), .int .u64 n)]) := (HTW2.out.lit rfl (.int .i64 o) 3).kept (Fr.refl _ _).drew
          have T2 : Hid (TWU w5.heap.size (World.drew ((wP.alloc (.cells #[.int .i64 o] 3)).alloc (.cells #[.int .u64 n] 22))) u10 u11 PP QQ [((wP.heap.size + 1, 0), .int .u64 n), ((wP.heap.size, 0), .int .i64 o), ((G, 0), .int .i64 o), ((G, 1), .int .u64 n)]) := ((HTW2.out.lit rfl (.int .i64 o) 3).lit (World.size_alloc _ _) (.int .u64 n) 22).kept (Fr.refl _ _).drew
          have T3 : Hid (TWU w5.heap.size (World.drew ((wP.alloc (.cells #[.int .u64 n] 22)).alloc (.cells #[.int .i64 o] 3))) u10 u11 PP QQ [((wP.heap.size + 1, 0), .int .i64 o), ((wP.heap.size, 0), .int .u64 n), ((G, 0), .int .i64 o), ((G, 1), .int .u64 n)]) := ((HTW2.out.lit rfl (.int .u64 n) 22).lit (World.size_alloc _ _) (.int .i64 o) 3).kept (Fr.refl _ _).drew
          have F1 : Hid (∀ (t : TypeId) (x : Value), Fr [] w5 (World.drew (wP.alloc (.cells #[x] t)))) := fun t x => (HF2.out.alloc _).drew
          have F2 : Hid (∀ (t : TypeId) (x : Value) (t2 : TypeId) (x2 : Value), Fr [] w5 (World.drew ((wP.alloc (.cells #[x] t)).alloc (.cells #[x2] t2)))) := fun t x t2 x2 => ((HF2.out.alloc _).alloc _).drew
          have d0 : wP.cell? ⟨G, 0, none⟩ = some (.int .i64 o) := HTW2.out.cell (c := ((G, 0), .int .i64 o)) (by simp)
          have d1 : wP.cell? ⟨G, 1, none⟩ = some (.int .u64 n) := HTW2.out.cell (c := ((G, 1), .int .u64 n)) (by simp)
          have dA0 : ∀ ob, (wP.alloc ob).cell? ⟨G, 0, none⟩ = some (.int .i64 o) := fun ob => ((Fr.refl [] wP).alloc ob).cell_some d0 List.not_mem_nil
          have dA1 : ∀ ob, (wP.alloc ob).cell? ⟨G, 1, none⟩ = some (.int .u64 n) := fun ob => ((Fr.refl [] wP).alloc ob).cell_some d1 List.not_mem_nil
          have hB1 : w5.heap.size ≤ wP.heap.size + 1 := by have := HSZ.out; omega
          have hB2 : w5.heap.size ≤ wP.heap.size + 1 + 1 := by omega
          go_region_law (first
              | (refine step_twu1 rfl _ _ rfl HI1.out (q := wP.heap.size) (s := o) rfl rfl T1.out (by simp) (by simpa using hB1) HLP.out.1 ?_
                 intro va wa twa hba
                 have TA : Hid (TWU w5.heap.size wa va u11 (PP ++ [o]) QQ _) := twa
                 have FA : Hid (Fr [] w5 wa) := Fr.ofBelow (((F1.out _ _).below (Nat.le_refl _) (by simp)).trans hba)
                 have TB : Hid (TWU w5.heap.size (wa.alloc (.cells #[.int .u64 n] 22)) va u11 (PP ++ [o]) QQ (((wa.heap.size, 0), .int .u64 n) :: _)) := twa.lit rfl (.int .u64 n) 22
                 have hB3 : w5.heap.size ≤ wa.heap.size + 1 := by have := FA.out.size; omega
                 have z1 : wa.cell? ⟨G, 1, none⟩ = some (.int .u64 n) := twa.cell (c := ((G, 1), .int .u64 n)) (by simp)
                 clear twa hba)
              | (refine step_twu1 rfl _ _ rfl HI1.out (q := wP.heap.size) (s := o) rfl rfl T2.out (by simp) (by simpa using hB2) HLP.out.1 ?_
                 intro va wa twa hba
                 have TA : Hid (TWU w5.heap.size wa va u11 (PP ++ [o]) QQ _) := twa
                 have FA : Hid (Fr [] w5 wa) := Fr.ofBelow (((F2.out _ _ _ _).below (Nat.le_refl _) (by simp)).trans hba)
                 have z1 : wa.cell? ⟨G, 1, none⟩ = some (.int .u64 n) := twa.cell (c := ((G, 1), .int .u64 n)) (by simp)
                 clear twa hba)
              | (refine step_twu1 rfl _ _ rfl HI1.out (q := wP.heap.size + 1) (s := o) rfl rfl T3.out (by simp) (by simpa using hB2) HLP.out.1 ?_
                 intro va wa twa hba
                 have TA : Hid (TWU w5.heap.size wa va u11 (PP ++ [o]) QQ _) := twa
                 have FA : Hid (Fr [] w5 wa) := Fr.ofBelow (((F2.out _ _ _ _).below (Nat.le_refl _) (by simp)).trans hba)
                 have z1 : wa.cell? ⟨G, 1, none⟩ = some (.int .u64 n) := twa.cell (c := ((G, 1), .int .u64 n)) (by simp)
                 clear twa hba)
              | (refine step_twu2 rfl _ _ rfl HI.out (q := wa.heap.size) (s := n) rfl rfl TB.out (by simp) (by simpa using hB3) HLP.out.2 ?_
                 intro vb wb twb hbb
                 have TC : Hid (TWU w5.heap.size wb va vb (PP ++ [o]) (QQ ++ [n]) []) := twb.less
                 have FC : Hid (Fr [] w5 wb) := Fr.ofBelow (((FA.out.alloc _).below (Nat.le_refl _) (by simp)).trans hbb)
                 clear twb hbb)
              | (refine step_twu2 rfl _ _ rfl HI.out (q := wP.heap.size + 1) (s := n) rfl rfl TA.out (by simp) FA.out.size HLP.out.2 ?_
                 intro vb wb twb hbb
                 have TC : Hid (TWU w5.heap.size wb va vb (PP ++ [o]) (QQ ++ [n]) []) := twb.less
                 have FC : Hid (Fr [] w5 wb) := Fr.ofBelow ((FA.out.below (Nat.le_refl _) (by simp)).trans hbb)
                 clear twb hbb)
              | (refine step_twu2 rfl _ _ rfl HI.out (q := wP.heap.size) (s := n) rfl rfl TA.out (by simp) FA.out.size HLP.out.2 ?_
                 intro vb wb twb hbb
                 have TC : Hid (TWU w5.heap.size wb va vb (PP ++ [o]) (QQ ++ [n]) []) := twb.less
                 have FC : Hid (Fr [] w5 wb) := Fr.ofBelow ((FA.out.below (Nat.le_refl _) (by simp)).trans hbb)
                 clear twb hbb))
          all_goals have HTC : Hid (TWU w5.heap.size wb va vb (fsts ((fdn h).take (k + 1))) (snds ((fdn h).take (k + 1))) []) := by rw [Hid, HTP.out.1, HTP.out.2]; exact TC.out
          all_goals clear TC
          all_goals go_wp2
          all_goals go_roundw
          all_goals first
            | exact ⟨k + 1, by omega, by go_num, HTC.out, FC.out⟩
            | (simp [intOf]; omega)
        · have HTC : Hid (TWU w5.heap.size wr u10 u11 (fsts (fdn h)) (snds (fdn h)) []) := by
            have := HTW.out
            rw [List.take_of_length_le (by omega)] at this
            exact this
          have HEQ : Hid (pls h.N = fsts (fdn h) ∧ h.nd = snds (fdn h)) := by rw [Hid, HLD.out.2]; exact ⟨(fsl_zip HZP.out.2).2.1.symm, (fsl_zip HZP.out.2).2.2.symm⟩
          have HRS : Hid (ISrc wr u10 (fsts (fdn h)) ∧ USrc wr u11 (snds (fdn h))) := by
            have hin := (fdn_in h HFI.out)
            refine ⟨IOwn.src HTC.out.rows.1 (fun z hz => ?_), HTC.out.rows.2.src (fun z hz => ?_)⟩
            · obtain ⟨s, hs, rfl⟩ := List.mem_map.1 hz; exact (hin s hs).1
            · obtain ⟨s, hs, rfl⟩ := List.mem_map.1 hz; exact (hin s hs).2
          have HFW : Hid (Fr [] w wr) := HF5.out.trans HF.out (by simp)
          clear HTC HTW HF
          go_wp2_with fail
          refine (places10_any _ _ h.N (fsts (fdn h)) wr (HSR.out.2.1.kept HFW.out) HRS.out.1 HLE.out.2 (fsd_zero.1 HZP.out.2).1 HEQ.out.1).mono ?_
          rintro e wx ⟨rfl, hfx⟩
          have HFX : Hid (Fr [] wr wx) := hfx
          clear hfx
          go_wp2_with fail
          refine (sameU10_any _ _ h.nd wx (by rw [HEQ.out.2]; exact HRS.out.2.kept HFX.out) (HSR.out.2.2.2.kept (HFW.out.trans HFX.out (by simp)))).mono ?_
          rintro e wy ⟨rfl, hfy⟩
          have HFY : Hid (Fr [] w wy) := (HFW.out.trans HFX.out (by simp)).trans hfy (by simp)
          clear hfy
          go_wp2_with fail
          refine (awake10_any wy).mono ?_
          rintro e wz ⟨rfl, hfz⟩
          have HFZ : Hid (Fr [] w wz) := HFY.out.trans hfz (by simp)
          clear hfz
          go_wp2
          go_ret
          exact ⟨rfl, HFZ.out.below (Nat.le_refl _) (by simp)⟩
end Go.Proofs.Ytoaibabkkphlaaa
