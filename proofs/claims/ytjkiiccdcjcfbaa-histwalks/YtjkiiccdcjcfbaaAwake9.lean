/-
  The fixed answers that each statement of layer 9 asks: one, awake.
-/
import Derived.Test.YtjkiiccdcjcfbaaRef9E
namespace Go.Proofs.Ytjkiiccdcjcfbaa
open Go.RowKit Mem Spans
set_option linter.unusedSimpArgs false
set_option linter.unusedVariables false
set_option maxRecDepth 100000

theorem Try.infoSpans : (Try.prog.info? 23).map (fun i => i.size) = some 1 := by kernel_rfl
theorem run_field5 (w : World) (a0 a1 a2 a3 a4 a5 a6 a7 a8 : Value) : (Instr.field 26 (.agg #[a0, a1, a2, a3, a4, a5, a6, a7, a8]) 5).run Try.prog w = .ok a5 w := by
  obtain ⟨i, hi, hs⟩ := Option.map_eq_some_iff.1 Try.infoSpans
  unfold Instr.field
  simp [Sem.run_bind, run_underlying Try.underlying26, part, asAgg, sizeOf, typeInfo, hi, hs]

def hone : Hs := ⟨0, 1, 1, 6, 0, [(3, 2)], [], [5, -5], []⟩
def hbad : Hs := ⟨0, 1, 1, 7, 0, [(3, 2)], [], [5, -5], []⟩
def hcan : Hs := ⟨0, 1, 1, 6, 0, [(3, 1)], [], [5], []⟩
theorem k_che : che hone = 0 := by decide +kernel
theorem k_sdp : sdp hone = [(3, 5), (4, 0)] := by decide +kernel
theorem k_bad : che hbad = 22 := by decide +kernel
theorem k_cae : cae hone = 0 := by decide +kernel
theorem k_mke : mke hone [(3, 5), (4, 0)] [] = 0 := by decide +kernel
theorem k_ove : ove hcan [(3, 2)] [] = 0 := by decide +kernel
theorem k_cah : cah hone = hcan := by unfold cah mkh mks; rw [if_pos k_che, if_pos (by decide +kernel)]; rw [show sdp hone = [(3, 5), (4, 0)] from k_sdp, show sdn hone = [] from by decide +kernel]; simp only [hone, hcan, Hs.mk.injEq]; decide +kernel
theorem k_mkh : mkh hone [(3, 5), (4, 0)] [] = hone := by unfold mkh mks; rw [if_pos k_mke]; simp only [hone, Hs.mk.injEq]; decide +kernel
theorem k_ovh : ovh hcan [(3, 2)] [] = hone := by unfold ovh ovs; rw [if_pos k_ove]; simp only [hone, hcan, Hs.mk.injEq]; decide +kernel
theorem k_eq1 : heq hone hone = true := by decide +kernel
theorem k_eq2 : heq hone hcan = true := by decide +kernel
theorem k_eq3 : heq hone hbad = false := by decide +kernel
theorem k_nan : nan 9223372036854775807 = true := by decide +kernel
theorem hone_in : hin hone := by unfold hin hone in64; decide
theorem hcan_in : hin hcan := by unfold hin hcan in64; decide

theorem hist_res1 {fn : Func} {p : Tmp} (h : fn.results = #[.cell p 26]) (tmps : Array Value) (w : World) (g : Nat) (a0 a1 a2 a3 a4 a5 a6 a7 a8 : Value)
    (hp : tmps.getD p undef = .pointer (some ⟨g, 0, none⟩)) (hg : Nine w g #[a0, a1, a2, a3, a4, a5, a6, a7, a8]) : (results fn tmps).run Try.prog w = .ok (.agg #[a0, a1, a2, a3, a4, a5, a6, a7, a8]) w :=
  results_cell_row h tmps w g 26 #[a0, a1, a2, a3, a4, a5, a6, a7, a8] (0, 0) _ hp hg Try.underlying26 rfl Try.sizeOf26
set_option maxHeartbeats 1000000 in
theorem one_any (w : World) : Calls Try.prog 41 #[] w fun e w' => ∃ u, e = .returned u ∧ HOwn w.heap.size w' u hone ∧ Fr [] w w' := by
  go_enter Try.func41, Try.ntmps41
  go_wp2
  have n1 := nine_mid w #[.int .i64 0, .int .u64 1, .int .u64 1, .int .u64 6, .int .u64 0, .slice (some ⟨w.heap.size + 1, 0, none⟩) 1 1, .slice none 0 0, .slice (some ⟨w.heap.size + 1 + 1, 0, none⟩) 2 2, .slice none 0 0] (.cells #[.int .i64 3, .int .i64 2] 79)
  have s1 := lit_sp' (B := w.heap.size) 79 (w.alloc (.cells #[.int .i64 0, .int .u64 1, .int .u64 1, .int .u64 6, .int .u64 0, .slice (some ⟨w.heap.size + 1, 0, none⟩) 1 1, .slice none 0 0, .slice (some ⟨w.heap.size + 1 + 1, 0, none⟩) 2 2, .slice none 0 0] 26)) [(3, 2)] (World.size_alloc _ _) (by omega) (by simp) (by unfold maxLen; simp)
  have s2 := lit_n (B := w.heap.size) (g := w.heap.size + 1 + 1) 2 ((w.alloc (.cells #[.int .i64 0, .int .u64 1, .int .u64 1, .int .u64 6, .int .u64 0, .slice (some ⟨w.heap.size + 1, 0, none⟩) 1 1, .slice none 0 0, .slice (some ⟨w.heap.size + 1 + 1, 0, none⟩) 2 2, .slice none 0 0] 26)).alloc (.cells #[.int .i64 3, .int .i64 2] 79)) [5, -5] (by simp) (by omega) (by simp) (by unfold maxLen; simp)
  refine bodyPost_ret (hist_res1 rfl _ _ w.heap.size _ _ _ _ _ _ _ _ _ rfl (n1.kept ((Fr.refl [] _).alloc _) (by simp))) rfl ?_
  exact ⟨_, rfl, ⟨_, _, _, _, rfl, by unfold in64 hone; decide, by unfold inu hone; decide, s1.kept ((Fr.refl [] _).alloc _), .inl ⟨rfl, rfl⟩, s2, .inl ⟨rfl, rfl⟩⟩, (((Fr.refl [] w).alloc _).alloc _).alloc _⟩

theorem prl0 : prl hone 0 = [(3, 5), (4, 0)] := by unfold prl; rw [if_pos rfl]; exact k_sdp
theorem pre0 : pre hone 0 = 0 := by unfold pre; rw [if_pos (.inl rfl)]; exact k_che
theorem HOwn.opens {B : Nat} {w : World} {v : Value} {h : Hs} (k : HOwn B w v h) (i : hin h) : ∃ a1 c1 a2 c2 a3 c3 a4 c4, v = .agg #[.int .i64 h.s, .int .u64 h.z, .int .u64 h.zc, .int .u64 h.c, .int .u64 h.sm, .slice a1 h.P.length c1, .slice a2 h.N.length c2, .slice a3 h.pd.length c3, .slice a4 h.nd.length c4] ∧ HSrc w v h := by
  obtain ⟨a1, c1, a2, c2, a3, c3, a4, c4, e⟩ := k.form
  exact ⟨a1, c1, a2, c2, a3, c3, a4, c4, e, k.src i⟩

set_option maxHeartbeats 3000000 in
theorem awake9_any (w : World) : Calls Try.prog 11 #[] w fun e w' => e = .returned (.bool true) ∧ Fr [] w w' := by
  have HONE : Hid (∀ wx, Fr [] w wx → Calls Try.prog 41 #[] wx fun e w' => ∃ u, e = .returned u ∧ HSrc w' u hone ∧ Fr [] wx w' ∧ Fr [] w w') := by
    intro wx hx
    refine (one_any wx).mono ?_
    rintro e w' ⟨u, rfl, hu, hf⟩
    exact ⟨u, rfl, hu.src hone_in, hf, hx.trans hf (by simp)⟩
  go_enter Try.func11, Try.ntmps11
  go_wp2_with fail
  refine (HONE.out w (Fr.refl _ _)).mono ?_
  rintro e w1 ⟨u1, rfl, hu1, _, hf1⟩
  have HF1 : Hid (Fr [] w w1) := hf1
  have HU1 : Hid (HSrc w1 u1 hone) := hu1
  clear hu1 hf1
  go_wp2_with fail
  refine (hpairs_any _ hone 0 w1 HU1.out).mono ?_
  rintro e w2 ⟨x, rfl, hx, hf2⟩
  rw [pre0]
  rw [prl0] at hx
  have HF2 : Hid (Fr [] w w2) := HF1.out.trans hf2 (by simp)
  obtain ⟨xg, xc, rfl, hxl, hxc⟩ := hx.cells2 (by simp)
  have HX : Hid (SSrc w2 (.slice (some ⟨xg, 0, none⟩) 2 xc) [(3, 5), (4, 0)]) := hx.src (by unfold in64; decide)
  have HXC : Hid (w2.cell? ⟨xg, 1, none⟩ = some (.int .i64 5) ∧ w2.cell? ⟨xg, 2, none⟩ = some (.int .i64 4)) := ⟨(hxc 0 _ rfl).2, (hxc 1 _ rfl).1⟩
  clear hx hxl hxc hf2 HU1 HF1
  simp only [List.length_cons, List.length_nil, Nat.reduceAdd]
  go_wp2_with fail
  refine (HONE.out w2 HF2.out).mono ?_
  rintro e w3 ⟨u3, rfl, hu3, hf23, hf3⟩
  have HF3 : Hid (Fr [] w w3) := hf3
  have HF23 : Hid (Fr [] w2 w3) := hf23
  have HU3 : Hid (HSrc w3 u3 hone) := hu3
  clear hu3 hf3 hf23
  go_wp2_with fail
  refine (hcanon_any _ hone w3 HU3.out).mono ?_
  rintro e w4 ⟨u4, rfl, hu4, hf4⟩
  rw [k_cae]
  rw [k_cah] at hu4
  obtain ⟨a1, c1, a2, c2, a3, c3, a4, c4, rfl, hs4⟩ : ∃ a1 c1 a2 c2 a3 c3 a4 c4, u4 = .agg #[.int .i64 0, .int .u64 1, .int .u64 1, .int .u64 6, .int .u64 0, .slice a1 1 c1, .slice a2 0 c2, .slice a3 1 c3, .slice a4 0 c4] ∧ HSrc w4 u4 hcan := hu4.opens hcan_in
  have HC4 : Hid (HSrc w4 _ hcan) := hs4
  have HF4 : Hid (Fr [] w w4) := HF3.out.trans hf4 (by simp)
  have HF24 : Hid (Fr [] w2 w4) := HF23.out.trans hf4 (by simp)
  clear hu4 hs4 hf4 HU3 HF3 HF23
  have HNA : Hid (Nine (w4.alloc (.cells #[.int .i64 0, .int .u64 1, .int .u64 1, .int .u64 6, .int .u64 0, .slice a1 1 c1, .slice a2 0 c2, .slice a3 1 c3, .slice a4 0 c4] 26)) w4.heap.size #[.int .i64 0, .int .u64 1, .int .u64 1, .int .u64 6, .int .u64 0, .slice a1 1 c1, .slice a2 0 c2, .slice a3 1 c3, .slice a4 0 c4]) := Nine.new _ _
  have HWA : Hid (Fr [] w (w4.alloc (.cells #[.int .i64 0, .int .u64 1, .int .u64 1, .int .u64 6, .int .u64 0, .slice a1 1 c1, .slice a2 0 c2, .slice a3 1 c3, .slice a4 0 c4] 26)) ∧ Fr [] w2 (w4.alloc (.cells #[.int .i64 0, .int .u64 1, .int .u64 1, .int .u64 6, .int .u64 0, .slice a1 1 c1, .slice a2 0 c2, .slice a3 1 c3, .slice a4 0 c4] 26))) := ⟨HF4.out.alloc _, HF24.out.alloc _⟩
  have HCA : Hid (HSrc (w4.alloc (.cells #[.int .i64 0, .int .u64 1, .int .u64 1, .int .u64 6, .int .u64 0, .slice a1 1 c1, .slice a2 0 c2, .slice a3 1 c3, .slice a4 0 c4] 26)) (.agg #[.int .i64 0, .int .u64 1, .int .u64 1, .int .u64 6, .int .u64 0, .slice a1 1 c1, .slice a2 0 c2, .slice a3 1 c3, .slice a4 0 c4]) hcan) := HC4.out.kept ((Fr.refl [] _).alloc _)
  clear HC4 HF4 HF24
  go_upto_region 3 with fail
  generalize w4.alloc (.cells _ _) = wA at HNA HWA HCA ⊢
  generalize w4.heap.size = G3 at HNA ⊢
  go_wp2_with fail
  refine (HONE.out wA HWA.out.1).mono ?_
  rintro e w5 ⟨u5, rfl, hu5, hfA5, hf5⟩
  obtain ⟨b1, d1, b2, d2, b3, d3, b4, d4, rfl, hsr5⟩ : ∃ b1 d1 b2 d2 b3 d3 b4 d4, u5 = .agg #[.int .i64 0, .int .u64 1, .int .u64 1, .int .u64 6, .int .u64 0, .slice b1 1 d1, .slice b2 0 d2, .slice b3 2 d3, .slice b4 0 d4] ∧ SSrc w5 (.slice b1 1 d1) hone.P ∧ SSrc w5 (.slice b2 0 d2) hone.N ∧ ISrc w5 (.slice b3 2 d3) hone.pd ∧ ISrc w5 (.slice b4 0 d4) hone.nd := by
    obtain ⟨b1, d1, b2, d2, b3, d3, b4, d4, e, _, hsr5, _⟩ := hu5.opens
    exact ⟨b1, d1, b2, d2, b3, d3, b4, d4, e, hsr5⟩
  have HB5 : Hid (HSrc w5 (.agg #[.int .i64 0, .int .u64 1, .int .u64 1, .int .u64 7, .int .u64 0, .slice b1 1 d1, .slice b2 0 d2, .slice b3 2 d3, .slice b4 0 d4]) hbad) := ⟨_, _, _, _, rfl, by unfold in64 hbad; decide, by unfold inu hbad; decide, hsr5.1, hsr5.2.1, hsr5.2.2.1, hsr5.2.2.2⟩
  have HF5 : Hid (Fr [] w w5) := hf5
  have HFA5 : Hid (Fr [] wA w5) := hfA5
  clear hu5 hfA5 hf5 hsr5
  have HNB : Hid (Nine (w5.alloc (.cells #[.int .i64 0, .int .u64 1, .int .u64 1, .int .u64 7, .int .u64 0, .slice b1 1 d1, .slice b2 0 d2, .slice b3 2 d3, .slice b4 0 d4] 26)) w5.heap.size #[.int .i64 0, .int .u64 1, .int .u64 1, .int .u64 7, .int .u64 0, .slice b1 1 d1, .slice b2 0 d2, .slice b3 2 d3, .slice b4 0 d4]) := Nine.new _ _
  have HWB : Hid (Fr [] w (w5.alloc (.cells #[.int .i64 0, .int .u64 1, .int .u64 1, .int .u64 7, .int .u64 0, .slice b1 1 d1, .slice b2 0 d2, .slice b3 2 d3, .slice b4 0 d4] 26)) ∧ Fr [] wA (w5.alloc (.cells #[.int .i64 0, .int .u64 1, .int .u64 1, .int .u64 7, .int .u64 0, .slice b1 1 d1, .slice b2 0 d2, .slice b3 2 d3, .slice b4 0 d4] 26))) := ⟨HF5.out.alloc _, HFA5.out.alloc _⟩
  have HBB : Hid (HSrc (w5.alloc (.cells #[.int .i64 0, .int .u64 1, .int .u64 1, .int .u64 7, .int .u64 0, .slice b1 1 d1, .slice b2 0 d2, .slice b3 2 d3, .slice b4 0 d4] 26)) (.agg #[.int .i64 0, .int .u64 1, .int .u64 1, .int .u64 7, .int .u64 0, .slice b1 1 d1, .slice b2 0 d2, .slice b3 2 d3, .slice b4 0 d4]) hbad) := HB5.out.kept ((Fr.refl [] _).alloc _)
  clear HB5 HF5 HFA5
  go_upto_region 5 with fail
  generalize w5.alloc (.cells _ _) = wB at HNB HWB HBB ⊢
  generalize w5.heap.size = G5 at HNB ⊢
  have HNA2 : Hid (Nine wB G3 #[.int .i64 0, .int .u64 1, .int .u64 1, .int .u64 6, .int .u64 0, .slice a1 1 c1, .slice a2 0 c2, .slice a3 1 c3, .slice a4 0 c4]) := HNA.out.kept HWB.out.2 (by simp)
  have HCB : Hid (HSrc wB (.agg #[.int .i64 0, .int .u64 1, .int .u64 1, .int .u64 6, .int .u64 0, .slice a1 1 c1, .slice a2 0 c2, .slice a3 1 c3, .slice a4 0 c4]) hcan) := HCA.out.kept HWB.out.2
  have HF2B : Hid (Fr [] w2 wB) := HWA.out.2.trans HWB.out.2 (by simp)
  have HWB1 : Hid (Fr [] w wB) := HWB.out.1
  have x0 : wB.cell? ⟨xg, 1, none⟩ = some (.int .i64 5) := HF2B.out.cell_some HXC.out.1 (by simp)
  have x1 : wB.cell? ⟨xg, 2, none⟩ = some (.int .i64 4) := HF2B.out.cell_some HXC.out.2 (by simp)
  have e7 := HNA2.out.cell 7 rfl
  have g0 := HNB.out.cell 0 rfl
  have g1 := HNB.out.cell 1 rfl
  have g2 := HNB.out.cell 2 rfl
  have g3 := HNB.out.cell 3 rfl
  have g4 := HNB.out.cell 4 rfl
  have g5 := HNB.out.cell 5 rfl
  have g6 := HNB.out.cell 6 rfl
  have g7 := HNB.out.cell 7 rfl
  have g8 := HNB.out.cell 8 rfl
  clear HNA HWA HCA HWB HXC
  go_wp2_with fail
  refine (hcheck_any _ hbad wB HBB.out).mono ?_
  rintro e w6 ⟨rfl, hf6⟩
  rw [k_bad]
  have HF6 : Hid (Fr [] w w6) := HWB1.out.trans hf6 (by simp)
  have HFB6 : Hid (Fr [] wB w6) := hf6
  clear hf6 x0 x1 e7 g0 g1 g2 g3 g4 g5 g6 g7 g8
  go_wp2_with fail
  refine (HONE.out w6 HF6.out).mono ?_
  rintro e w7 ⟨u7, rfl, hu7, hf67, hf7⟩
  have HF7 : Hid (Fr [] w w7) := hf7
  have HFB7 : Hid (Fr [] wB w7) := HFB6.out.trans hf67 (by simp)
  have HU7 : Hid (HSrc w7 u7 hone) := hu7
  clear hu7 hf67 hf7 HF6 HFB6
  go_wp2_with fail
  refine (make_any _ _ _ hone [(3, 5), (4, 0)] [] w7 HU7.out (HX.out.kept (HF2B.out.trans HFB7.out (by simp))) (SSrc.nil _) (by simp) (by simp)).mono ?_
  rintro e w8 ⟨u8, rfl, hu8, hf8⟩
  rw [k_mke]
  rw [k_mkh] at hu8
  obtain ⟨m1, n1, m2, n2, m3, n3, m4, n4, rfl, hs8⟩ : ∃ m1 n1 m2 n2 m3 n3 m4 n4, u8 = .agg #[.int .i64 0, .int .u64 1, .int .u64 1, .int .u64 6, .int .u64 0, .slice m1 1 n1, .slice m2 0 n2, .slice m3 2 n3, .slice m4 0 n4] ∧ HSrc w8 u8 hone := hu8.opens hone_in
  have HNC : Hid (Nine (w8.alloc (.cells #[.int .i64 0, .int .u64 1, .int .u64 1, .int .u64 6, .int .u64 0, .slice m1 1 n1, .slice m2 0 n2, .slice m3 2 n3, .slice m4 0 n4] 26)) w8.heap.size #[.int .i64 0, .int .u64 1, .int .u64 1, .int .u64 6, .int .u64 0, .slice m1 1 n1, .slice m2 0 n2, .slice m3 2 n3, .slice m4 0 n4]) := Nine.new _ _
  have HWC : Hid (Fr [] w (w8.alloc (.cells #[.int .i64 0, .int .u64 1, .int .u64 1, .int .u64 6, .int .u64 0, .slice m1 1 n1, .slice m2 0 n2, .slice m3 2 n3, .slice m4 0 n4] 26)) ∧ Fr [] wB (w8.alloc (.cells #[.int .i64 0, .int .u64 1, .int .u64 1, .int .u64 6, .int .u64 0, .slice m1 1 n1, .slice m2 0 n2, .slice m3 2 n3, .slice m4 0 n4] 26))) := ⟨(HF7.out.trans hf8 (by simp)).alloc _, (HFB7.out.trans hf8 (by simp)).alloc _⟩
  have HMC : Hid (HSrc (w8.alloc (.cells #[.int .i64 0, .int .u64 1, .int .u64 1, .int .u64 6, .int .u64 0, .slice m1 1 n1, .slice m2 0 n2, .slice m3 2 n3, .slice m4 0 n4] 26)) (.agg #[.int .i64 0, .int .u64 1, .int .u64 1, .int .u64 6, .int .u64 0, .slice m1 1 n1, .slice m2 0 n2, .slice m3 2 n3, .slice m4 0 n4]) hone) := hs8.kept ((Fr.refl [] _).alloc _)
  clear hu8 hs8 hf8 HF7 HFB7 HU7
  go_upto_region 8 with fail
  generalize w8.alloc (.cells _ _) = wC at HNC HWC HMC ⊢
  generalize w8.heap.size = G6 at HNC ⊢
  have HNA3 : Hid (Nine wC G3 #[.int .i64 0, .int .u64 1, .int .u64 1, .int .u64 6, .int .u64 0, .slice a1 1 c1, .slice a2 0 c2, .slice a3 1 c3, .slice a4 0 c4]) := HNA2.out.kept HWC.out.2 (by simp)
  have HNB3 : Hid (Nine wC G5 #[.int .i64 0, .int .u64 1, .int .u64 1, .int .u64 7, .int .u64 0, .slice b1 1 d1, .slice b2 0 d2, .slice b3 2 d3, .slice b4 0 d4]) := HNB.out.kept HWC.out.2 (by simp)
  have HCC : Hid (HSrc wC (.agg #[.int .i64 0, .int .u64 1, .int .u64 1, .int .u64 6, .int .u64 0, .slice a1 1 c1, .slice a2 0 c2, .slice a3 1 c3, .slice a4 0 c4]) hcan) := HCB.out.kept HWC.out.2
  have HBC : Hid (HSrc wC (.agg #[.int .i64 0, .int .u64 1, .int .u64 1, .int .u64 7, .int .u64 0, .slice b1 1 d1, .slice b2 0 d2, .slice b3 2 d3, .slice b4 0 d4]) hbad) := HBB.out.kept HWC.out.2
  have HFC : Hid (Fr [] w wC) := HWC.out.1
  clear HNA2 HNB HCB HBB HWC HWB1 HX HF2B
  have q0 := HNA3.out.cell 0 rfl
  have q1 := HNA3.out.cell 1 rfl
  have q2 := HNA3.out.cell 2 rfl
  have q3 := HNA3.out.cell 3 rfl
  have q4 := HNA3.out.cell 4 rfl
  have q5 := HNA3.out.cell 5 rfl
  have q6 := HNA3.out.cell 6 rfl
  have q7 := HNA3.out.cell 7 rfl
  have q8 := HNA3.out.cell 8 rfl
  have qf := run_field5
  have F0 : Fr [] wC wC.drew := (Fr.refl _ _).drew
  have FZ : Fr [] wC (World.drew (wC.alloc (.cells #[.int .i64 0, .int .u64 0, .int .u64 0, .int .u64 0, .int .u64 0, .slice none 0 0, .slice none 0 0, .slice none 0 0, .slice none 0 0] 26))) := ((Fr.refl _ _).alloc _).drew
  have NZ : Hid (Nine (World.drew (wC.alloc (.cells #[.int .i64 0, .int .u64 0, .int .u64 0, .int .u64 0, .int .u64 0, .slice none 0 0, .slice none 0 0, .slice none 0 0, .slice none 0 0] 26))) wC.heap.size #[.int .i64 0, .int .u64 0, .int .u64 0, .int .u64 0, .int .u64 0, .slice none 0 0, .slice none 0 0, .slice none 0 0, .slice none 0 0]) := Nine.new wC _
  have HO1 : Hid (∀ wx, Fr [] wC wx → Calls Try.prog 41 #[] wx fun e w' => ∃ u, e = .returned u ∧ HSrc w' u hone ∧ Fr [] wC w' ∧ Fr [] wx w') := by
    intro wx hx
    refine (HONE.out wx (HFC.out.trans hx (by simp))).mono ?_
    rintro e w' ⟨u, rfl, hu, hf, _⟩
    exact ⟨u, rfl, hu, hx.trans hf (by simp), hf⟩
  have HO2 : Hid (∀ wx p, Fr [] wC wx → SSrc wx p hone.P → Calls Try.prog 36 #[.agg #[.int .i64 0, .int .u64 1, .int .u64 1, .int .u64 6, .int .u64 0, .slice a1 1 c1, .slice a2 0 c2, .slice a3 1 c3, .slice a4 0 c4], p, .slice none 0 0] wx fun e w' => ∃ u, e = .returned (.tuple #[u, .int .i64 0]) ∧ HKeep wx.heap.size w' u hone ∧ Fr [] wC w' ∧ Fr [] wx w') := by
    intro wx p hx hp
    refine (over_any _ _ _ hcan [(3, 2)] [] wx (HCC.out.kept hx) hp (SSrc.nil _)).mono ?_
    rintro e w' ⟨u, rfl, hu, hf⟩
    rw [k_ovh] at hu
    exact ⟨u, by rw [k_ove], hu, hx.trans hf (by simp), hf⟩
  have hopens : ∀ {B : Nat} {wb : World} {ub : Value}, HKeep B wb ub hone → ∃ b1 d1 b2 d2 b3 d3 b4 d4, ub = .agg #[.int .i64 0, .int .u64 1, .int .u64 1, .int .u64 6, .int .u64 0, .slice b1 1 d1, .slice b2 0 d2, .slice b3 2 d3, .slice b4 0 d4] ∧ HKeep B wb ub hone := by
    intro B wb ub h
    obtain ⟨b1, d1, b2, d2, b3, d3, b4, d4, e, _⟩ := h.src.opens
    exact ⟨b1, d1, b2, d2, b3, d3, b4, d4, e, h⟩
  have hG3 : G3 < wC.heap.size := HNA3.out.lt
  have HNE : Hid (∀ wx, Fr [] wC wx → G3 ≠ wx.heap.size ∧ wx.heap.size ≠ G3) := fun wx hx => by have := hx.size; omega
  have ne0 := (HNE.out _ (Fr.refl _ _)).1
  have ne1 := (HNE.out _ (Fr.refl _ _)).2
  clear hG3
  go_cut [8, 9] from 65 to 71 (fun c8 c9 wx => ∃ G8 o1 p1 o2 p2 o3 p3 o4 p4, c8 = .pointer (some ⟨G8, 0, none⟩) ∧ c9 = .int .i64 0 ∧ Nine wx G8 #[.int .i64 0, .int .u64 1, .int .u64 1, .int .u64 6, .int .u64 0, .slice o1 1 p1, .slice o2 0 p2, .slice o3 2 p3, .slice o4 0 p4] ∧ HSrc wx (.agg #[.int .i64 0, .int .u64 1, .int .u64 1, .int .u64 6, .int .u64 0, .slice o1 1 p1, .slice o2 0 p2, .slice o3 2 p3, .slice o4 0 p4]) hone ∧ Fr [] wC wx)
  case first =>
    go_region_held3 (fun w' => w'.cell? ⟨G3, 0, none⟩ = some (.int .i64 0) ∧ w'.cell? ⟨G3, 1, none⟩ = some (.int .u64 1) ∧ w'.cell? ⟨G3, 2, none⟩ = some (.int .u64 1) ∧ w'.cell? ⟨G3, 3, none⟩ = some (.int .u64 6) ∧ w'.cell? ⟨G3, 4, none⟩ = some (.int .u64 0) ∧ w'.cell? ⟨G3, 5, none⟩ = some (.slice a1 1 c1) ∧ w'.cell? ⟨G3, 6, none⟩ = some (.slice a2 0 c2) ∧ w'.cell? ⟨G3, 7, none⟩ = some (.slice a3 1 c3) ∧ w'.cell? ⟨G3, 8, none⟩ = some (.slice a4 0 c4)) (go_keep) (first
      | (go_at_call 41; first
        | (with_reducible refine (HO1.out _ F0).mono ?_; rintro e wa ⟨ua, rfl, hua, hfa, hfxa⟩; have ka0 := hfa.cell_some q0 (by simp); have ka1 := hfa.cell_some q1 (by simp); have ka2 := hfa.cell_some q2 (by simp); have ka3 := hfa.cell_some q3 (by simp); have ka4 := hfa.cell_some q4 (by simp); have ka5 := hfa.cell_some q5 (by simp); have ka6 := hfa.cell_some q6 (by simp); have ka7 := hfa.cell_some q7 (by simp); have ka8 := hfa.cell_some q8 (by simp); obtain ⟨b11, d11, b12, d12, b13, d13, b14, d14, rfl, _, hsra, _⟩ := hua.opens; have hsra1 := hsra.1; have ne2 := (HNE.out _ hfa).1; have ne3 := (HNE.out _ hfa).2)
        | (with_reducible refine (HO1.out _ FZ).mono ?_; rintro e wa ⟨ua, rfl, hua, hfa, hfxa⟩; have n8 := NZ.out.kept hfxa List.not_mem_nil; have ka0 := hfa.cell_some q0 (by simp); have ka1 := hfa.cell_some q1 (by simp); have ka2 := hfa.cell_some q2 (by simp); have ka3 := hfa.cell_some q3 (by simp); have ka4 := hfa.cell_some q4 (by simp); have ka5 := hfa.cell_some q5 (by simp); have ka6 := hfa.cell_some q6 (by simp); have ka7 := hfa.cell_some q7 (by simp); have ka8 := hfa.cell_some q8 (by simp); obtain ⟨b11, d11, b12, d12, b13, d13, b14, d14, rfl, _, hsra, _⟩ := hua.opens; have hsra1 := hsra.1; have ne2 := (HNE.out _ hfa).1; have ne3 := (HNE.out _ hfa).2))
      | (go_at_call 36; first
        | (with_reducible refine (HO2.out _ _ hfa hsra1).mono ?_; rintro e wb ⟨ub, rfl, hub, hfb, hfxb⟩; (try (have n8b := n8.kept hfxb List.not_mem_nil; have z0 := n8b.cell 0 rfl; have z1 := n8b.cell 1 rfl; have z2 := n8b.cell 2 rfl; have z3 := n8b.cell 3 rfl; have z4 := n8b.cell 4 rfl; have z5 := n8b.cell 5 rfl; have z6 := n8b.cell 6 rfl; have z7 := n8b.cell 7 rfl; have z8 := n8b.cell 8 rfl; have y0 := n8b.frozen 0; have y1 := n8b.frozen 1; have y2 := n8b.frozen 2; have y3 := n8b.frozen 3; have y4 := n8b.frozen 4; have y5 := n8b.frozen 5; have y6 := n8b.frozen 6; have y7 := n8b.frozen 7; have y8 := n8b.frozen 8)); have kb0 := hfb.cell_some q0 (by simp); have kb1 := hfb.cell_some q1 (by simp); have kb2 := hfb.cell_some q2 (by simp); have kb3 := hfb.cell_some q3 (by simp); have kb4 := hfb.cell_some q4 (by simp); have kb5 := hfb.cell_some q5 (by simp); have kb6 := hfb.cell_some q6 (by simp); have kb7 := hfb.cell_some q7 (by simp); have kb8 := hfb.cell_some q8 (by simp); obtain ⟨b21, d21, b22, d22, b23, d23, b24, d24, rfl, hubs⟩ : ∃ b1 d1 b2 d2 b3 d3 b4 d4, ub = .agg #[.int .i64 0, .int .u64 1, .int .u64 1, .int .u64 6, .int .u64 0, .slice b1 1 d1, .slice b2 0 d2, .slice b3 2 d3, .slice b4 0 d4] ∧ HKeep _ wb ub hone := hopens hub)
        | (with_reducible refine (HO2.out _ _ (hfa.alloc _) (hsra1.kept ((Fr.refl [] _).alloc _))).mono ?_; rintro e wb ⟨ub, rfl, hub, hfb, hfxb⟩; have n8b := (Nine.new wa _).kept hfxb List.not_mem_nil; have z0 := n8b.cell 0 rfl; have z1 := n8b.cell 1 rfl; have z2 := n8b.cell 2 rfl; have z3 := n8b.cell 3 rfl; have z4 := n8b.cell 4 rfl; have z5 := n8b.cell 5 rfl; have z6 := n8b.cell 6 rfl; have z7 := n8b.cell 7 rfl; have z8 := n8b.cell 8 rfl; have y0 := n8b.frozen 0; have y1 := n8b.frozen 1; have y2 := n8b.frozen 2; have y3 := n8b.frozen 3; have y4 := n8b.frozen 4; have y5 := n8b.frozen 5; have y6 := n8b.frozen 6; have y7 := n8b.frozen 7; have y8 := n8b.frozen 8; have kb0 := hfb.cell_some q0 (by simp); have kb1 := hfb.cell_some q1 (by simp); have kb2 := hfb.cell_some q2 (by simp); have kb3 := hfb.cell_some q3 (by simp); have kb4 := hfb.cell_some q4 (by simp); have kb5 := hfb.cell_some q5 (by simp); have kb6 := hfb.cell_some q6 (by simp); have kb7 := hfb.cell_some q7 (by simp); have kb8 := hfb.cell_some q8 (by simp); obtain ⟨b21, d21, b22, d22, b23, d23, b24, d24, rfl, hubs⟩ : ∃ b1 d1 b2 d2 b3 d3 b4 d4, ub = .agg #[.int .i64 0, .int .u64 1, .int .u64 1, .int .u64 6, .int .u64 0, .slice b1 1 d1, .slice b2 0 d2, .slice b3 2 d3, .slice b4 0 d4] ∧ HKeep _ wb ub hone := hopens hub)))
    · go_wp2_with fail
      go_meet
      exact ⟨_, _, _, _, _, _, _, _, _, rfl, rfl, Nine.new wb _, hubs.src.kept ((Fr.refl [] _).alloc _), hfb.alloc _⟩
    · go_wp2_with fail
      go_meet
      exact ⟨_, _, _, _, _, _, _, _, _, rfl, rfl, set9_nine n8b _ _ _ _ _ _ _ _ _, hubs [wa.heap.size] _ (set9_fr (Fr.refl _ _) (.inl (List.mem_singleton.2 rfl)) _ _ _ _ _ _ _ _ _) (by simp), set9_fr hfb (.inr hfa.size) _ _ _ _ _ _ _ _ _⟩
    · go_wp2_with fail
      go_meet
      have hsz := hfxa.size
      exact ⟨_, _, _, _, _, _, _, _, _, rfl, rfl, set9_nine n8b _ _ _ _ _ _ _ _ _, hubs [wC.heap.size] _ (set9_fr (Fr.refl _ _) (.inl (List.mem_singleton.2 rfl)) _ _ _ _ _ _ _ _ _) (by simp at hsz ⊢; omega), set9_fr hfb (.inr (Nat.le_refl _)) _ _ _ _ _ _ _ _ _⟩
  case rest =>
    obtain ⟨G8, o1, p1, o2, p2, o3, p3, o4, p4, rfl, rfl, hn8, hs8, hfc⟩ := hcut
    clear q0 q1 q2 q3 q4 q5 q6 q7 q8 ne0 ne1 FZ F0
    have N6 : Hid (Nine wc G6 #[.int .i64 0, .int .u64 1, .int .u64 1, .int .u64 6, .int .u64 0, .slice m1 1 n1, .slice m2 0 n2, .slice m3 2 n3, .slice m4 0 n4]) := HNC.out.kept hfc (by simp)
    have N8 : Hid (Nine wc G8 #[.int .i64 0, .int .u64 1, .int .u64 1, .int .u64 6, .int .u64 0, .slice o1 1 p1, .slice o2 0 p2, .slice o3 2 p3, .slice o4 0 p4]) := hn8
    have N3 : Hid (Nine wc G3 #[.int .i64 0, .int .u64 1, .int .u64 1, .int .u64 6, .int .u64 0, .slice a1 1 c1, .slice a2 0 c2, .slice a3 1 c3, .slice a4 0 c4]) := HNA3.out.kept hfc (by simp)
    have N5 : Hid (Nine wc G5 #[.int .i64 0, .int .u64 1, .int .u64 1, .int .u64 7, .int .u64 0, .slice b1 1 d1, .slice b2 0 d2, .slice b3 2 d3, .slice b4 0 d4]) := HNB3.out.kept hfc (by simp)
    have SM : Hid (HSrc wc (.agg #[.int .i64 0, .int .u64 1, .int .u64 1, .int .u64 6, .int .u64 0, .slice m1 1 n1, .slice m2 0 n2, .slice m3 2 n3, .slice m4 0 n4]) hone) := HMC.out.kept hfc
    have SO : Hid (HSrc wc (.agg #[.int .i64 0, .int .u64 1, .int .u64 1, .int .u64 6, .int .u64 0, .slice o1 1 p1, .slice o2 0 p2, .slice o3 2 p3, .slice o4 0 p4]) hone) := hs8
    have SC : Hid (HSrc wc (.agg #[.int .i64 0, .int .u64 1, .int .u64 1, .int .u64 6, .int .u64 0, .slice a1 1 c1, .slice a2 0 c2, .slice a3 1 c3, .slice a4 0 c4]) hcan) := HCC.out.kept hfc
    have SB : Hid (HSrc wc (.agg #[.int .i64 0, .int .u64 1, .int .u64 1, .int .u64 7, .int .u64 0, .slice b1 1 d1, .slice b2 0 d2, .slice b3 2 d3, .slice b4 0 d4]) hbad) := HBC.out.kept hfc
    have HF : Hid (Fr [] w wc) := HFC.out.trans hfc (by simp)
    clear hn8 hs8 hfc HNC HNA3 HNB3 HMC HCC HBC HFC HO1 HO2 NZ HNE hopens
    have HP1 : Hid (∀ wx, Fr [] wc wx → Calls Try.prog 41 #[] wx fun e w' => ∃ u, e = .returned u ∧ HSrc w' u hone ∧ Fr [] wc w') := by
      intro wx hx
      refine (HONE.out wx (HF.out.trans hx (by simp))).mono ?_
      rintro e w' ⟨u, rfl, hu, hf, _⟩
      exact ⟨u, rfl, hu, hx.trans hf (by simp)⟩
    have HP2 : Hid (∀ wx u, Fr [] wc wx → HSrc wx u hone → Calls Try.prog 34 #[.agg #[.int .i64 0, .int .u64 1, .int .u64 1, .int .u64 6, .int .u64 0, .slice m1 1 n1, .slice m2 0 n2, .slice m3 2 n3, .slice m4 0 n4], u] wx fun e w' => e = .returned (.bool true) ∧ Fr [] wc w') := by
      intro wx u hx hu
      refine (hequal_any _ _ hone hone wx (SM.out.kept hx) hu).mono ?_
      rintro e w' ⟨rfl, hf⟩
      exact ⟨by rw [k_eq1], hx.trans hf (by simp)⟩
    have HP3 : Hid (∀ wx, Fr [] wc wx → Calls Try.prog 34 #[.agg #[.int .i64 0, .int .u64 1, .int .u64 1, .int .u64 6, .int .u64 0, .slice o1 1 p1, .slice o2 0 p2, .slice o3 2 p3, .slice o4 0 p4], .agg #[.int .i64 0, .int .u64 1, .int .u64 1, .int .u64 6, .int .u64 0, .slice a1 1 c1, .slice a2 0 c2, .slice a3 1 c3, .slice a4 0 c4]] wx fun e w' => e = .returned (.bool true) ∧ Fr [] wc w') := by
      intro wx hx
      refine (hequal_any _ _ hone hcan wx (SO.out.kept hx) (SC.out.kept hx)).mono ?_
      rintro e w' ⟨rfl, hf⟩
      exact ⟨by rw [k_eq2], hx.trans hf (by simp)⟩
    have HP4 : Hid (∀ wx u, Fr [] wc wx → HSrc wx u hone → Calls Try.prog 34 #[u, .agg #[.int .i64 0, .int .u64 1, .int .u64 1, .int .u64 7, .int .u64 0, .slice b1 1 d1, .slice b2 0 d2, .slice b3 2 d3, .slice b4 0 d4]] wx fun e w' => e = .returned (.bool false) ∧ Fr [] wc w') := by
      intro wx u hx hu
      refine (hequal_any _ _ hone hbad wx hu (SB.out.kept hx)).mono ?_
      rintro e w' ⟨rfl, hf⟩
      exact ⟨by rw [k_eq3], hx.trans hf (by simp)⟩
    have HP5 : Hid (∀ wx, Calls Try.prog 15 #[.int .u64 9223372036854775807] wx fun e w' => e = .returned (.bool true) ∧ wx = w') := by
      intro wx
      refine (nan_any _ wx (by unfold inu; omega)).mono ?_
      rintro e w' ⟨rfl, h⟩
      exact ⟨by rw [k_nan], h⟩
    have HP6 : Hid (∀ wx, Calls Try.prog 17 #[.int .u64 0] wx fun e w' => e = .returned (.bool true) ∧ wx = w') := by
      intro wx
      refine (threshold_any _ wx).mono ?_
      rintro e w' ⟨rfl, h⟩
      exact ⟨by rw [decide_eq_true (by omega)], h⟩
    have LG60 : ∀ wx, Fr [] wc wx → wx.cell? ⟨G6, 0, none⟩ = some (.int .i64 0) := fun wx hx => hx.cell_some (N6.out.cell 0 rfl) List.not_mem_nil
    have LG61 : ∀ wx, Fr [] wc wx → wx.cell? ⟨G6, 1, none⟩ = some (.int .u64 1) := fun wx hx => hx.cell_some (N6.out.cell 1 rfl) List.not_mem_nil
    have LG62 : ∀ wx, Fr [] wc wx → wx.cell? ⟨G6, 2, none⟩ = some (.int .u64 1) := fun wx hx => hx.cell_some (N6.out.cell 2 rfl) List.not_mem_nil
    have LG63 : ∀ wx, Fr [] wc wx → wx.cell? ⟨G6, 3, none⟩ = some (.int .u64 6) := fun wx hx => hx.cell_some (N6.out.cell 3 rfl) List.not_mem_nil
    have LG64 : ∀ wx, Fr [] wc wx → wx.cell? ⟨G6, 4, none⟩ = some (.int .u64 0) := fun wx hx => hx.cell_some (N6.out.cell 4 rfl) List.not_mem_nil
    have LG65 : ∀ wx, Fr [] wc wx → wx.cell? ⟨G6, 5, none⟩ = some (.slice m1 1 n1) := fun wx hx => hx.cell_some (N6.out.cell 5 rfl) List.not_mem_nil
    have LG66 : ∀ wx, Fr [] wc wx → wx.cell? ⟨G6, 6, none⟩ = some (.slice m2 0 n2) := fun wx hx => hx.cell_some (N6.out.cell 6 rfl) List.not_mem_nil
    have LG67 : ∀ wx, Fr [] wc wx → wx.cell? ⟨G6, 7, none⟩ = some (.slice m3 2 n3) := fun wx hx => hx.cell_some (N6.out.cell 7 rfl) List.not_mem_nil
    have LG68 : ∀ wx, Fr [] wc wx → wx.cell? ⟨G6, 8, none⟩ = some (.slice m4 0 n4) := fun wx hx => hx.cell_some (N6.out.cell 8 rfl) List.not_mem_nil
    have LG80 : ∀ wx, Fr [] wc wx → wx.cell? ⟨G8, 0, none⟩ = some (.int .i64 0) := fun wx hx => hx.cell_some (N8.out.cell 0 rfl) List.not_mem_nil
    have LG81 : ∀ wx, Fr [] wc wx → wx.cell? ⟨G8, 1, none⟩ = some (.int .u64 1) := fun wx hx => hx.cell_some (N8.out.cell 1 rfl) List.not_mem_nil
    have LG82 : ∀ wx, Fr [] wc wx → wx.cell? ⟨G8, 2, none⟩ = some (.int .u64 1) := fun wx hx => hx.cell_some (N8.out.cell 2 rfl) List.not_mem_nil
    have LG83 : ∀ wx, Fr [] wc wx → wx.cell? ⟨G8, 3, none⟩ = some (.int .u64 6) := fun wx hx => hx.cell_some (N8.out.cell 3 rfl) List.not_mem_nil
    have LG84 : ∀ wx, Fr [] wc wx → wx.cell? ⟨G8, 4, none⟩ = some (.int .u64 0) := fun wx hx => hx.cell_some (N8.out.cell 4 rfl) List.not_mem_nil
    have LG85 : ∀ wx, Fr [] wc wx → wx.cell? ⟨G8, 5, none⟩ = some (.slice o1 1 p1) := fun wx hx => hx.cell_some (N8.out.cell 5 rfl) List.not_mem_nil
    have LG86 : ∀ wx, Fr [] wc wx → wx.cell? ⟨G8, 6, none⟩ = some (.slice o2 0 p2) := fun wx hx => hx.cell_some (N8.out.cell 6 rfl) List.not_mem_nil
    have LG87 : ∀ wx, Fr [] wc wx → wx.cell? ⟨G8, 7, none⟩ = some (.slice o3 2 p3) := fun wx hx => hx.cell_some (N8.out.cell 7 rfl) List.not_mem_nil
    have LG88 : ∀ wx, Fr [] wc wx → wx.cell? ⟨G8, 8, none⟩ = some (.slice o4 0 p4) := fun wx hx => hx.cell_some (N8.out.cell 8 rfl) List.not_mem_nil
    have LG30 : ∀ wx, Fr [] wc wx → wx.cell? ⟨G3, 0, none⟩ = some (.int .i64 0) := fun wx hx => hx.cell_some (N3.out.cell 0 rfl) List.not_mem_nil
    have LG31 : ∀ wx, Fr [] wc wx → wx.cell? ⟨G3, 1, none⟩ = some (.int .u64 1) := fun wx hx => hx.cell_some (N3.out.cell 1 rfl) List.not_mem_nil
    have LG32 : ∀ wx, Fr [] wc wx → wx.cell? ⟨G3, 2, none⟩ = some (.int .u64 1) := fun wx hx => hx.cell_some (N3.out.cell 2 rfl) List.not_mem_nil
    have LG33 : ∀ wx, Fr [] wc wx → wx.cell? ⟨G3, 3, none⟩ = some (.int .u64 6) := fun wx hx => hx.cell_some (N3.out.cell 3 rfl) List.not_mem_nil
    have LG34 : ∀ wx, Fr [] wc wx → wx.cell? ⟨G3, 4, none⟩ = some (.int .u64 0) := fun wx hx => hx.cell_some (N3.out.cell 4 rfl) List.not_mem_nil
    have LG35 : ∀ wx, Fr [] wc wx → wx.cell? ⟨G3, 5, none⟩ = some (.slice a1 1 c1) := fun wx hx => hx.cell_some (N3.out.cell 5 rfl) List.not_mem_nil
    have LG36 : ∀ wx, Fr [] wc wx → wx.cell? ⟨G3, 6, none⟩ = some (.slice a2 0 c2) := fun wx hx => hx.cell_some (N3.out.cell 6 rfl) List.not_mem_nil
    have LG37 : ∀ wx, Fr [] wc wx → wx.cell? ⟨G3, 7, none⟩ = some (.slice a3 1 c3) := fun wx hx => hx.cell_some (N3.out.cell 7 rfl) List.not_mem_nil
    have LG38 : ∀ wx, Fr [] wc wx → wx.cell? ⟨G3, 8, none⟩ = some (.slice a4 0 c4) := fun wx hx => hx.cell_some (N3.out.cell 8 rfl) List.not_mem_nil
    have LG50 : ∀ wx, Fr [] wc wx → wx.cell? ⟨G5, 0, none⟩ = some (.int .i64 0) := fun wx hx => hx.cell_some (N5.out.cell 0 rfl) List.not_mem_nil
    have LG51 : ∀ wx, Fr [] wc wx → wx.cell? ⟨G5, 1, none⟩ = some (.int .u64 1) := fun wx hx => hx.cell_some (N5.out.cell 1 rfl) List.not_mem_nil
    have LG52 : ∀ wx, Fr [] wc wx → wx.cell? ⟨G5, 2, none⟩ = some (.int .u64 1) := fun wx hx => hx.cell_some (N5.out.cell 2 rfl) List.not_mem_nil
    have LG53 : ∀ wx, Fr [] wc wx → wx.cell? ⟨G5, 3, none⟩ = some (.int .u64 7) := fun wx hx => hx.cell_some (N5.out.cell 3 rfl) List.not_mem_nil
    have LG54 : ∀ wx, Fr [] wc wx → wx.cell? ⟨G5, 4, none⟩ = some (.int .u64 0) := fun wx hx => hx.cell_some (N5.out.cell 4 rfl) List.not_mem_nil
    have LG55 : ∀ wx, Fr [] wc wx → wx.cell? ⟨G5, 5, none⟩ = some (.slice b1 1 d1) := fun wx hx => hx.cell_some (N5.out.cell 5 rfl) List.not_mem_nil
    have LG56 : ∀ wx, Fr [] wc wx → wx.cell? ⟨G5, 6, none⟩ = some (.slice b2 0 d2) := fun wx hx => hx.cell_some (N5.out.cell 6 rfl) List.not_mem_nil
    have LG57 : ∀ wx, Fr [] wc wx → wx.cell? ⟨G5, 7, none⟩ = some (.slice b3 2 d3) := fun wx hx => hx.cell_some (N5.out.cell 7 rfl) List.not_mem_nil
    have LG58 : ∀ wx, Fr [] wc wx → wx.cell? ⟨G5, 8, none⟩ = some (.slice b4 0 d4) := fun wx hx => hx.cell_some (N5.out.cell 8 rfl) List.not_mem_nil
    have F0 : Fr [] wc wc.drew := (Fr.refl _ _).drew
    go_wp2_with fail
    go_region_held3 (fun w' => w'.cell? ⟨G6, 0, none⟩ = some (.int .i64 0) ∧ w'.cell? ⟨G6, 1, none⟩ = some (.int .u64 1) ∧ w'.cell? ⟨G6, 2, none⟩ = some (.int .u64 1) ∧ w'.cell? ⟨G6, 3, none⟩ = some (.int .u64 6) ∧ w'.cell? ⟨G6, 4, none⟩ = some (.int .u64 0) ∧ w'.cell? ⟨G6, 5, none⟩ = some (.slice m1 1 n1) ∧ w'.cell? ⟨G6, 6, none⟩ = some (.slice m2 0 n2) ∧ w'.cell? ⟨G6, 7, none⟩ = some (.slice m3 2 n3) ∧ w'.cell? ⟨G6, 8, none⟩ = some (.slice m4 0 n4) ∧ w'.cell? ⟨G8, 0, none⟩ = some (.int .i64 0) ∧ w'.cell? ⟨G8, 1, none⟩ = some (.int .u64 1) ∧ w'.cell? ⟨G8, 2, none⟩ = some (.int .u64 1) ∧ w'.cell? ⟨G8, 3, none⟩ = some (.int .u64 6) ∧ w'.cell? ⟨G8, 4, none⟩ = some (.int .u64 0) ∧ w'.cell? ⟨G8, 5, none⟩ = some (.slice o1 1 p1) ∧ w'.cell? ⟨G8, 6, none⟩ = some (.slice o2 0 p2) ∧ w'.cell? ⟨G8, 7, none⟩ = some (.slice o3 2 p3) ∧ w'.cell? ⟨G8, 8, none⟩ = some (.slice o4 0 p4) ∧ w'.cell? ⟨G3, 0, none⟩ = some (.int .i64 0) ∧ w'.cell? ⟨G3, 1, none⟩ = some (.int .u64 1) ∧ w'.cell? ⟨G3, 2, none⟩ = some (.int .u64 1) ∧ w'.cell? ⟨G3, 3, none⟩ = some (.int .u64 6) ∧ w'.cell? ⟨G3, 4, none⟩ = some (.int .u64 0) ∧ w'.cell? ⟨G3, 5, none⟩ = some (.slice a1 1 c1) ∧ w'.cell? ⟨G3, 6, none⟩ = some (.slice a2 0 c2) ∧ w'.cell? ⟨G3, 7, none⟩ = some (.slice a3 1 c3) ∧ w'.cell? ⟨G3, 8, none⟩ = some (.slice a4 0 c4) ∧ w'.cell? ⟨G5, 0, none⟩ = some (.int .i64 0) ∧ w'.cell? ⟨G5, 1, none⟩ = some (.int .u64 1) ∧ w'.cell? ⟨G5, 2, none⟩ = some (.int .u64 1) ∧ w'.cell? ⟨G5, 3, none⟩ = some (.int .u64 7) ∧ w'.cell? ⟨G5, 4, none⟩ = some (.int .u64 0) ∧ w'.cell? ⟨G5, 5, none⟩ = some (.slice b1 1 d1) ∧ w'.cell? ⟨G5, 6, none⟩ = some (.slice b2 0 d2) ∧ w'.cell? ⟨G5, 7, none⟩ = some (.slice b3 2 d3) ∧ w'.cell? ⟨G5, 8, none⟩ = some (.slice b4 0 d4)) (go_keep) (first
      | (go_at_call 41; first
        | (with_reducible refine (HP1.out _ F0).mono ?_; rintro e wz ⟨ua, rfl, hua, hz1⟩)
        | (with_reducible refine (HP1.out _ hz3).mono ?_; rintro e wz4 ⟨ub, rfl, hub, hz4⟩))
      | (go_at_call 34; first
        | (with_reducible refine (HP2.out _ _ hz1 hua).mono ?_; rintro e wz2 ⟨rfl, hz2⟩)
        | (with_reducible refine (HP3.out _ hz2).mono ?_; rintro e wz3 ⟨rfl, hz3⟩)
        | (with_reducible refine (HP4.out _ _ hz4 hub).mono ?_; rintro e wz5 ⟨rfl, hz5⟩))
      | (go_at_call 15; with_reducible refine (HP5.out _).mono ?_; rintro e wz6 ⟨rfl, rfl⟩)
      | (go_at_call 17; with_reducible refine (HP6.out _).mono ?_; rintro e wz7 ⟨rfl, rfl⟩))
    all_goals (go_wp2_with fail)
    all_goals (go_ret)
    all_goals exact ⟨rfl, HF.out.trans hz5 (by simp)⟩
end Go.Proofs.Ytjkiiccdcjcfbaa
