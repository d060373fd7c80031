/-
  The fixed answers that each statement of layer 10 asks: one, awake.
-/
import Derived.Test.YtoaibabkkphlaaaFBack
import Derived.Test.YtoaibabkkphlaaaFEqual
import Derived.Test.YtoaibabkkphlaaaFOver
namespace Go.Proofs.Ytoaibabkkphlaaa
open Go.RowKit Mem Spans
set_option linter.unusedSimpArgs false
set_option linter.unusedVariables false
set_option maxRecDepth 100000

theorem Try.infoSpansF : (Try.prog.info? 23).map (fun i => i.size) = some 1 := by kernel_rfl
theorem frun_field5 (w : World) (a0 a1 a2 a3 a4 a5 a6 a7 a8 : Value) : (Instr.field 26 (.agg #[a0, a1, a2, a3, a4, a5, a6, a7, a8]) 5).run Try.prog w = .ok a5 w := by
  obtain ⟨i, hi, hs⟩ := Option.map_eq_some_iff.1 Try.infoSpansF
  unfold Instr.field
  simp [Sem.run_bind, run_underlying Try.underlying26, part, asAgg, sizeOf, typeInfo, hi, hs]

def fone : Fs := ⟨0, 1, 4602678819172646912, 4613937818241073152, 0, [(3, 2)], [], [4613937818241073152, 0], []⟩
def fbad : Fs := ⟨0, 1, 4602678819172646912, 9223372036854775808, 0, [(3, 2)], [], [4613937818241073152, 0], []⟩
def fcan : Fs := ⟨0, 1, 4602678819172646912, 4613937818241073152, 0, [(3, 1)], [], [4613937818241073152], []⟩
theorem kf_che : fce fone = 0 := by decide +kernel
theorem kf_sdp : fdp fone = [(3, 4613937818241073152), (4, 0)] := by decide +kernel
theorem kf_bad : fce fbad = 22 := by decide +kernel
theorem kf_cae : fae fone = 0 := by decide +kernel
theorem kf_mke : mfe fone [(3, 4613937818241073152), (4, 0)] [] = 0 := by decide +kernel
theorem kf_ove : fove fcan [(3, 2)] [] = 0 := by decide +kernel
theorem kf_cah : fah fone = fcan := by unfold fah mfh mkf; rw [if_pos kf_che, if_pos (by decide +kernel)]; rw [show fdp fone = [(3, 4613937818241073152), (4, 0)] from kf_sdp, show fdn fone = [] from by decide +kernel]; simp only [fone, fcan, Fs.mk.injEq]; decide +kernel
theorem kf_mkh : mfh fone [(3, 4613937818241073152), (4, 0)] [] = fone := by unfold mfh mkf; rw [if_pos kf_mke]; simp only [fone, Fs.mk.injEq]; decide +kernel
theorem kf_ovh : fovh fcan [(3, 2)] [] = fone := by unfold fovh fovs; rw [if_pos kf_ove]; simp only [fone, fcan, Fs.mk.injEq]; decide +kernel
theorem kf_eq1 : feq fone fone = true := by decide +kernel
theorem kf_eq2 : feq fone fcan = true := by decide +kernel
theorem kf_eq3 : feq fone fbad = false := by decide +kernel
theorem kf_bke : bke fone = 10 := by decide +kernel
theorem kf_w3 : wvI 4613937818241073152 = 3 ∧ wbI 4613937818241073152 = true := by decide +kernel
theorem kf_wh : wvI 4602678819172646912 = 0 ∧ wbI 4602678819172646912 = false := by decide +kernel
theorem kf_f3 : flI 3 = 4613937818241073152 := by decide +kernel
theorem fone_in : fin9 fone := by unfold fin9 fone in64 inu; decide
theorem fcan_in : fin9 fcan := by unfold fin9 fcan in64 inu; decide

theorem fhist_res1 {fn : Func} {p : Tmp} (h : fn.results = #[.cell p 26]) (tmps : Array Value) (w : World) (g : Nat) (a0 a1 a2 a3 a4 a5 a6 a7 a8 : Value)
    (hp : tmps.getD p undef = .pointer (some ⟨g, 0, none⟩)) (hg : NineF w g #[a0, a1, a2, a3, a4, a5, a6, a7, a8]) : (results fn tmps).run Try.prog w = .ok (.agg #[a0, a1, a2, a3, a4, a5, a6, a7, a8]) w :=
  results_cell_row h tmps w g 26 #[a0, a1, a2, a3, a4, a5, a6, a7, a8] (0, 0) _ hp hg Try.underlying26 rfl Try.sizeOf26
set_option maxHeartbeats 1000000 in
theorem fone_any (w : World) : Calls Try.prog 48 #[] w fun e w' => ∃ u, e = .returned u ∧ FOwn w.heap.size w' u fone ∧ Fr [] w w' := by
  go_enter Try.func48, Try.ntmps48
  go_wp2
  have n1 := nineF_mid w #[.int .i64 0, .int .u64 1, .int .u64 4602678819172646912, .int .u64 4613937818241073152, .int .u64 0, .slice (some ⟨w.heap.size + 1, 0, none⟩) 1 1, .slice none 0 0, .slice (some ⟨w.heap.size + 1 + 1, 0, none⟩) 2 2, .slice none 0 0] (.cells #[.int .i64 3, .int .i64 2] 95)
  have s1 := lit_sp' (B := w.heap.size) 95 (w.alloc (.cells #[.int .i64 0, .int .u64 1, .int .u64 4602678819172646912, .int .u64 4613937818241073152, .int .u64 0, .slice (some ⟨w.heap.size + 1, 0, none⟩) 1 1, .slice none 0 0, .slice (some ⟨w.heap.size + 1 + 1, 0, none⟩) 2 2, .slice none 0 0] 26)) [(3, 2)] (World.size_alloc _ _) (by omega) (by simp) (by unfold maxLen; simp)
  have s2 := lit_u (B := w.heap.size) (g := w.heap.size + 1 + 1) 22 ((w.alloc (.cells #[.int .i64 0, .int .u64 1, .int .u64 4602678819172646912, .int .u64 4613937818241073152, .int .u64 0, .slice (some ⟨w.heap.size + 1, 0, none⟩) 1 1, .slice none 0 0, .slice (some ⟨w.heap.size + 1 + 1, 0, none⟩) 2 2, .slice none 0 0] 26)).alloc (.cells #[.int .i64 3, .int .i64 2] 95)) [4613937818241073152, 0] (by simp) (by omega) (by simp) (by unfold maxLen; simp)
  refine bodyPost_ret (fhist_res1 rfl _ _ w.heap.size _ _ _ _ _ _ _ _ _ rfl (n1.kept ((Fr.refl [] _).alloc _) (by simp))) rfl ?_
  exact ⟨_, rfl, ⟨_, _, _, _, rfl, by unfold in64 fone; decide, by unfold inu fone; decide, s1.kept ((Fr.refl [] _).alloc _), .inl ⟨rfl, rfl⟩, s2, .inl ⟨rfl, rfl⟩⟩, (((Fr.refl [] w).alloc _).alloc _).alloc _⟩

theorem fprl0 : fprl fone 0 = [(3, 4613937818241073152), (4, 0)] := by unfold fprl; rw [if_pos rfl]; exact kf_sdp
theorem fpre0 : fpre fone 0 = 0 := by unfold fpre; rw [if_pos (.inl rfl)]; exact kf_che
theorem FOwn.opens {B : Nat} {w : World} {v : Value} {h : Fs} (k : FOwn B w v h) (i : fin9 h) : ∃ a1 c1 a2 c2 a3 c3 a4 c4, v = .agg #[.int .i64 h.s, .int .u64 h.z, .int .u64 h.zc, .int .u64 h.c, .int .u64 h.sm, .slice a1 h.P.length c1, .slice a2 h.N.length c2, .slice a3 h.pd.length c3, .slice a4 h.nd.length c4] ∧ FSrc w v h := by
  obtain ⟨a1, c1, a2, c2, a3, c3, a4, c4, e⟩ := k.form
  exact ⟨a1, c1, a2, c2, a3, c3, a4, c4, e, k.src i⟩

set_option maxHeartbeats 3000000 in
theorem awake10_any (w : World) : Calls Try.prog 13 #[] w fun e w' => e = .returned (.bool true) ∧ Fr [] w w' := by
  have HONE : Hid (∀ wx, Fr [] w wx → Calls Try.prog 48 #[] wx fun e w' => ∃ u, e = .returned u ∧ FSrc w' u fone ∧ Fr [] wx w' ∧ Fr [] w w') := by
    intro wx hx
    refine (fone_any wx).mono ?_
    rintro e w' ⟨u, rfl, hu, hf⟩
    exact ⟨u, rfl, hu.src fone_in, hf, hx.trans hf (by simp)⟩
  go_enter Try.func13, Try.ntmps13
  go_wp2_with fail
  refine (HONE.out w (Fr.refl _ _)).mono ?_
  rintro e w1 ⟨u1, rfl, hu1, _, hf1⟩
  have HF1 : Hid (Fr [] w w1) := hf1
  have HU1 : Hid (FSrc w1 u1 fone) := hu1
  clear hu1 hf1
  go_wp2_with fail
  refine (fpairs_any _ fone 0 w1 HU1.out).mono ?_
  rintro e w2 ⟨x, rfl, hx, hf2⟩
  rw [fpre0]
  rw [fprl0] at hx
  have HF2 : Hid (Fr [] w w2) := HF1.out.trans hf2 (by simp)
  obtain ⟨xg, xc, rfl, hxl, hxc⟩ := hx.cells2 (by simp)
  have HX : Hid (PSrc w2 (.slice (some ⟨xg, 0, none⟩) 2 xc) [(3, 4613937818241073152), (4, 0)]) := hx.src (by unfold in64 inu; decide)
  have HXC : Hid (w2.cell? ⟨xg, 1, none⟩ = some (.int .u64 4613937818241073152)) := (hxc 0 _ rfl).2
  clear hx hxl hxc hf2 HU1 HF1
  simp only [List.length_cons, List.length_nil, Nat.reduceAdd]
  go_wp2_with fail
  refine (HONE.out w2 HF2.out).mono ?_
  rintro e w3 ⟨u3, rfl, hu3, hf23, hf3⟩
  have HF3 : Hid (Fr [] w w3) := hf3
  have HF23 : Hid (Fr [] w2 w3) := hf23
  have HU3 : Hid (FSrc w3 u3 fone) := hu3
  clear hu3 hf3 hf23
  go_wp2_with fail
  refine (fcanon_any _ fone w3 HU3.out).mono ?_
  rintro e w4 ⟨u4, rfl, hu4, hf4⟩
  rw [kf_cae]
  rw [kf_cah] at hu4
  obtain ⟨a1, c1, a2, c2, a3, c3, a4, c4, rfl, hs4⟩ : ∃ a1 c1 a2 c2 a3 c3 a4 c4, u4 = .agg #[.int .i64 0, .int .u64 1, .int .u64 4602678819172646912, .int .u64 4613937818241073152, .int .u64 0, .slice a1 1 c1, .slice a2 0 c2, .slice a3 1 c3, .slice a4 0 c4] ∧ FSrc w4 u4 fcan := hu4.opens fcan_in
  have HC4 : Hid (FSrc w4 _ fcan) := hs4
  have HF4 : Hid (Fr [] w w4) := HF3.out.trans hf4 (by simp)
  have HF24 : Hid (Fr [] w2 w4) := HF23.out.trans hf4 (by simp)
  clear hu4 hs4 hf4 HU3 HF3 HF23
  have HNA : Hid (NineF (w4.alloc (.cells #[.int .i64 0, .int .u64 1, .int .u64 4602678819172646912, .int .u64 4613937818241073152, .int .u64 0, .slice a1 1 c1, .slice a2 0 c2, .slice a3 1 c3, .slice a4 0 c4] 26)) w4.heap.size #[.int .i64 0, .int .u64 1, .int .u64 4602678819172646912, .int .u64 4613937818241073152, .int .u64 0, .slice a1 1 c1, .slice a2 0 c2, .slice a3 1 c3, .slice a4 0 c4]) := NineF.new _ _
  have HWA : Hid (Fr [] w (w4.alloc (.cells #[.int .i64 0, .int .u64 1, .int .u64 4602678819172646912, .int .u64 4613937818241073152, .int .u64 0, .slice a1 1 c1, .slice a2 0 c2, .slice a3 1 c3, .slice a4 0 c4] 26)) ∧ Fr [] w2 (w4.alloc (.cells #[.int .i64 0, .int .u64 1, .int .u64 4602678819172646912, .int .u64 4613937818241073152, .int .u64 0, .slice a1 1 c1, .slice a2 0 c2, .slice a3 1 c3, .slice a4 0 c4] 26))) := ⟨HF4.out.alloc _, HF24.out.alloc _⟩
  have HCA : Hid (FSrc (w4.alloc (.cells #[.int .i64 0, .int .u64 1, .int .u64 4602678819172646912, .int .u64 4613937818241073152, .int .u64 0, .slice a1 1 c1, .slice a2 0 c2, .slice a3 1 c3, .slice a4 0 c4] 26)) (.agg #[.int .i64 0, .int .u64 1, .int .u64 4602678819172646912, .int .u64 4613937818241073152, .int .u64 0, .slice a1 1 c1, .slice a2 0 c2, .slice a3 1 c3, .slice a4 0 c4]) fcan) := HC4.out.kept ((Fr.refl [] _).alloc _)
  clear HC4 HF4 HF24
  go_upto_region 3 with fail
  generalize w4.alloc (.cells _ _) = wA at HNA HWA HCA ⊢
  generalize w4.heap.size = G3 at HNA ⊢
  go_wp2_with fail
  refine (HONE.out wA HWA.out.1).mono ?_
  rintro e w5 ⟨u5, rfl, hu5, hfA5, hf5⟩
  obtain ⟨b1, d1, b2, d2, b3, d3, b4, d4, rfl, hsr5⟩ : ∃ b1 d1 b2 d2 b3 d3 b4 d4, u5 = .agg #[.int .i64 0, .int .u64 1, .int .u64 4602678819172646912, .int .u64 4613937818241073152, .int .u64 0, .slice b1 1 d1, .slice b2 0 d2, .slice b3 2 d3, .slice b4 0 d4] ∧ SSrc w5 (.slice b1 1 d1) fone.P ∧ SSrc w5 (.slice b2 0 d2) fone.N ∧ USrc w5 (.slice b3 2 d3) fone.pd ∧ USrc w5 (.slice b4 0 d4) fone.nd := by
    obtain ⟨b1, d1, b2, d2, b3, d3, b4, d4, e, _, hsr5, _⟩ := hu5.opens
    exact ⟨b1, d1, b2, d2, b3, d3, b4, d4, e, hsr5⟩
  have HB5 : Hid (FSrc w5 (.agg #[.int .i64 0, .int .u64 1, .int .u64 4602678819172646912, .int .u64 9223372036854775808, .int .u64 0, .slice b1 1 d1, .slice b2 0 d2, .slice b3 2 d3, .slice b4 0 d4]) fbad) := ⟨_, _, _, _, rfl, by unfold in64 fbad; decide, by unfold inu fbad; decide, hsr5.1, hsr5.2.1, hsr5.2.2.1, hsr5.2.2.2⟩
  have HF5 : Hid (Fr [] w w5) := hf5
  have HFA5 : Hid (Fr [] wA w5) := hfA5
  clear hu5 hfA5 hf5 hsr5
  have HNB : Hid (NineF (w5.alloc (.cells #[.int .i64 0, .int .u64 1, .int .u64 4602678819172646912, .int .u64 9223372036854775808, .int .u64 0, .slice b1 1 d1, .slice b2 0 d2, .slice b3 2 d3, .slice b4 0 d4] 26)) w5.heap.size #[.int .i64 0, .int .u64 1, .int .u64 4602678819172646912, .int .u64 9223372036854775808, .int .u64 0, .slice b1 1 d1, .slice b2 0 d2, .slice b3 2 d3, .slice b4 0 d4]) := NineF.new _ _
  have HWB : Hid (Fr [] w (w5.alloc (.cells #[.int .i64 0, .int .u64 1, .int .u64 4602678819172646912, .int .u64 9223372036854775808, .int .u64 0, .slice b1 1 d1, .slice b2 0 d2, .slice b3 2 d3, .slice b4 0 d4] 26)) ∧ Fr [] wA (w5.alloc (.cells #[.int .i64 0, .int .u64 1, .int .u64 4602678819172646912, .int .u64 9223372036854775808, .int .u64 0, .slice b1 1 d1, .slice b2 0 d2, .slice b3 2 d3, .slice b4 0 d4] 26))) := ⟨HF5.out.alloc _, HFA5.out.alloc _⟩
  have HBB : Hid (FSrc (w5.alloc (.cells #[.int .i64 0, .int .u64 1, .int .u64 4602678819172646912, .int .u64 9223372036854775808, .int .u64 0, .slice b1 1 d1, .slice b2 0 d2, .slice b3 2 d3, .slice b4 0 d4] 26)) (.agg #[.int .i64 0, .int .u64 1, .int .u64 4602678819172646912, .int .u64 9223372036854775808, .int .u64 0, .slice b1 1 d1, .slice b2 0 d2, .slice b3 2 d3, .slice b4 0 d4]) fbad) := HB5.out.kept ((Fr.refl [] _).alloc _)
  clear HB5 HF5 HFA5
  go_upto_region 5 with fail
  generalize w5.alloc (.cells _ _) = wB at HNB HWB HBB ⊢
  generalize w5.heap.size = G5 at HNB ⊢
  have HNA2 : Hid (NineF wB G3 #[.int .i64 0, .int .u64 1, .int .u64 4602678819172646912, .int .u64 4613937818241073152, .int .u64 0, .slice a1 1 c1, .slice a2 0 c2, .slice a3 1 c3, .slice a4 0 c4]) := HNA.out.kept HWB.out.2 (by simp)
  have HCB : Hid (FSrc wB (.agg #[.int .i64 0, .int .u64 1, .int .u64 4602678819172646912, .int .u64 4613937818241073152, .int .u64 0, .slice a1 1 c1, .slice a2 0 c2, .slice a3 1 c3, .slice a4 0 c4]) fcan) := HCA.out.kept HWB.out.2
  have HF2B : Hid (Fr [] w2 wB) := HWA.out.2.trans HWB.out.2 (by simp)
  have HWB1 : Hid (Fr [] w wB) := HWB.out.1
  have x0 : wB.cell? ⟨xg, 1, none⟩ = some (.int .u64 4613937818241073152) := HF2B.out.cell_some HXC.out (by simp)
  have e7 := HNA2.out.cell 7 rfl
  have g0 := HNB.out.cell 0 rfl
  have g1 := HNB.out.cell 1 rfl
  have g2 := HNB.out.cell 2 rfl
  have g3 := HNB.out.cell 3 rfl
  have g4 := HNB.out.cell 4 rfl
  have g5 := HNB.out.cell 5 rfl
  have g6 := HNB.out.cell 6 rfl
  have g7 := HNB.out.cell 7 rfl
  have g8 := HNB.out.cell 8 rfl
  clear HNA HWA HCA HWB HXC
  go_wp2_with fail
  refine (fcheck_any _ fbad wB HBB.out).mono ?_
  rintro e w6 ⟨rfl, hf6⟩
  rw [kf_bad]
  have HF6 : Hid (Fr [] w w6) := HWB1.out.trans hf6 (by simp)
  have HFB6 : Hid (Fr [] wB w6) := hf6
  clear hf6 x0 e7 g0 g1 g2 g3 g4 g5 g6 g7 g8
  go_wp2_with fail
  refine (HONE.out w6 HF6.out).mono ?_
  rintro e w7 ⟨u7, rfl, hu7, hf67, hf7⟩
  have HF7 : Hid (Fr [] w w7) := hf7
  have HFB7 : Hid (Fr [] wB w7) := HFB6.out.trans hf67 (by simp)
  have HU7 : Hid (FSrc w7 u7 fone) := hu7
  clear hu7 hf67 hf7 HF6 HFB6
  go_wp2_with fail
  refine (fmake_any _ _ _ fone [(3, 4613937818241073152), (4, 0)] [] w7 HU7.out (HX.out.kept (HF2B.out.trans HFB7.out (by simp))) (PSrc.nil _) (by simp) (by simp)).mono ?_
  rintro e w8 ⟨u8, rfl, hu8, hf8⟩
  rw [kf_mke]
  rw [kf_mkh] at hu8
  obtain ⟨m1, n1, m2, n2, m3, n3, m4, n4, rfl, hs8⟩ : ∃ m1 n1 m2 n2 m3 n3 m4 n4, u8 = .agg #[.int .i64 0, .int .u64 1, .int .u64 4602678819172646912, .int .u64 4613937818241073152, .int .u64 0, .slice m1 1 n1, .slice m2 0 n2, .slice m3 2 n3, .slice m4 0 n4] ∧ FSrc w8 u8 fone := hu8.opens fone_in
  have HNC : Hid (NineF (w8.alloc (.cells #[.int .i64 0, .int .u64 1, .int .u64 4602678819172646912, .int .u64 4613937818241073152, .int .u64 0, .slice m1 1 n1, .slice m2 0 n2, .slice m3 2 n3, .slice m4 0 n4] 26)) w8.heap.size #[.int .i64 0, .int .u64 1, .int .u64 4602678819172646912, .int .u64 4613937818241073152, .int .u64 0, .slice m1 1 n1, .slice m2 0 n2, .slice m3 2 n3, .slice m4 0 n4]) := NineF.new _ _
  have HWC : Hid (Fr [] w (w8.alloc (.cells #[.int .i64 0, .int .u64 1, .int .u64 4602678819172646912, .int .u64 4613937818241073152, .int .u64 0, .slice m1 1 n1, .slice m2 0 n2, .slice m3 2 n3, .slice m4 0 n4] 26)) ∧ Fr [] wB (w8.alloc (.cells #[.int .i64 0, .int .u64 1, .int .u64 4602678819172646912, .int .u64 4613937818241073152, .int .u64 0, .slice m1 1 n1, .slice m2 0 n2, .slice m3 2 n3, .slice m4 0 n4] 26))) := ⟨(HF7.out.trans hf8 (by simp)).alloc _, (HFB7.out.trans hf8 (by simp)).alloc _⟩
  have HMC : Hid (FSrc (w8.alloc (.cells #[.int .i64 0, .int .u64 1, .int .u64 4602678819172646912, .int .u64 4613937818241073152, .int .u64 0, .slice m1 1 n1, .slice m2 0 n2, .slice m3 2 n3, .slice m4 0 n4] 26)) (.agg #[.int .i64 0, .int .u64 1, .int .u64 4602678819172646912, .int .u64 4613937818241073152, .int .u64 0, .slice m1 1 n1, .slice m2 0 n2, .slice m3 2 n3, .slice m4 0 n4]) fone) := hs8.kept ((Fr.refl [] _).alloc _)
  clear hu8 hs8 hf8 HF7 HFB7 HU7
  go_upto_region 8 with fail
  generalize w8.alloc (.cells _ _) = wC at HNC HWC HMC ⊢
  generalize w8.heap.size = G6 at HNC ⊢
  have HNA3 : Hid (NineF wC G3 #[.int .i64 0, .int .u64 1, .int .u64 4602678819172646912, .int .u64 4613937818241073152, .int .u64 0, .slice a1 1 c1, .slice a2 0 c2, .slice a3 1 c3, .slice a4 0 c4]) := HNA2.out.kept HWC.out.2 (by simp)
  have HNB3 : Hid (NineF wC G5 #[.int .i64 0, .int .u64 1, .int .u64 4602678819172646912, .int .u64 9223372036854775808, .int .u64 0, .slice b1 1 d1, .slice b2 0 d2, .slice b3 2 d3, .slice b4 0 d4]) := HNB.out.kept HWC.out.2 (by simp)
  have HCC : Hid (FSrc wC (.agg #[.int .i64 0, .int .u64 1, .int .u64 4602678819172646912, .int .u64 4613937818241073152, .int .u64 0, .slice a1 1 c1, .slice a2 0 c2, .slice a3 1 c3, .slice a4 0 c4]) fcan) := HCB.out.kept HWC.out.2
  have HBC : Hid (FSrc wC (.agg #[.int .i64 0, .int .u64 1, .int .u64 4602678819172646912, .int .u64 9223372036854775808, .int .u64 0, .slice b1 1 d1, .slice b2 0 d2, .slice b3 2 d3, .slice b4 0 d4]) fbad) := HBB.out.kept HWC.out.2
  have HFC : Hid (Fr [] w wC) := HWC.out.1
  clear HNA2 HNB HCB HBB HWC HWB1 HX HF2B
  have q0 := HNA3.out.cell 0 rfl
  have q1 := HNA3.out.cell 1 rfl
  have q2 := HNA3.out.cell 2 rfl
  have q3 := HNA3.out.cell 3 rfl
  have q4 := HNA3.out.cell 4 rfl
  have q5 := HNA3.out.cell 5 rfl
  have q6 := HNA3.out.cell 6 rfl
  have q7 := HNA3.out.cell 7 rfl
  have q8 := HNA3.out.cell 8 rfl
  have qf := frun_field5
  have F0 : Fr [] wC wC.drew := (Fr.refl _ _).drew
  have FZ : Fr [] wC (World.drew (wC.alloc (.cells #[.int .i64 0, .int .u64 0, .int .u64 0, .int .u64 0, .int .u64 0, .slice none 0 0, .slice none 0 0, .slice none 0 0, .slice none 0 0] 26))) := ((Fr.refl _ _).alloc _).drew
  have NZ : Hid (NineF (World.drew (wC.alloc (.cells #[.int .i64 0, .int .u64 0, .int .u64 0, .int .u64 0, .int .u64 0, .slice none 0 0, .slice none 0 0, .slice none 0 0, .slice none 0 0] 26))) wC.heap.size #[.int .i64 0, .int .u64 0, .int .u64 0, .int .u64 0, .int .u64 0, .slice none 0 0, .slice none 0 0, .slice none 0 0, .slice none 0 0]) := NineF.new wC _
  have HO1 : Hid (∀ wx, Fr [] wC wx → Calls Try.prog 48 #[] wx fun e w' => ∃ u, e = .returned u ∧ FSrc w' u fone ∧ Fr [] wC w' ∧ Fr [] wx w') := by
    intro wx hx
    refine (HONE.out wx (HFC.out.trans hx (by simp))).mono ?_
    rintro e w' ⟨u, rfl, hu, hf, _⟩
    exact ⟨u, rfl, hu, hx.trans hf (by simp), hf⟩
  have HO2 : Hid (∀ wx p, Fr [] wC wx → SSrc wx p fone.P → Calls Try.prog 32 #[.agg #[.int .i64 0, .int .u64 1, .int .u64 4602678819172646912, .int .u64 4613937818241073152, .int .u64 0, .slice a1 1 c1, .slice a2 0 c2, .slice a3 1 c3, .slice a4 0 c4], p, .slice none 0 0] wx fun e w' => ∃ u, e = .returned (.tuple #[u, .int .i64 0]) ∧ FKeep wx.heap.size w' u fone ∧ Fr [] wC w' ∧ Fr [] wx w') := by
    intro wx p hx hp
    refine (fover_any _ _ _ fcan [(3, 2)] [] wx (HCC.out.kept hx) hp (SSrc.nil _)).mono ?_
    rintro e w' ⟨u, rfl, hu, hf⟩
    rw [kf_ovh] at hu
    exact ⟨u, by rw [kf_ove], hu, hx.trans hf (by simp), hf⟩
  have hopens : ∀ {B : Nat} {wb : World} {ub : Value}, FKeep B wb ub fone → ∃ b1 d1 b2 d2 b3 d3 b4 d4, ub = .agg #[.int .i64 0, .int .u64 1, .int .u64 4602678819172646912, .int .u64 4613937818241073152, .int .u64 0, .slice b1 1 d1, .slice b2 0 d2, .slice b3 2 d3, .slice b4 0 d4] ∧ FKeep B wb ub fone := by
    intro B wb ub h
    obtain ⟨b1, d1, b2, d2, b3, d3, b4, d4, e, _⟩ := h.src.opens
    exact ⟨b1, d1, b2, d2, b3, d3, b4, d4, e, h⟩
  have hG3 : G3 < wC.heap.size := HNA3.out.lt
  have HNE : Hid (∀ wx, Fr [] wC wx → G3 ≠ wx.heap.size ∧ wx.heap.size ≠ G3) := fun wx hx => by have := hx.size; omega
  have ne0 := (HNE.out _ (Fr.refl _ _)).1
  have ne1 := (HNE.out _ (Fr.refl _ _)).2
  clear hG3
  go_cut [8, 9] from 65 to 71 (fun c8 c9 wx => ∃ G8 o1 p1 o2 p2 o3 p3 o4 p4, c8 = .pointer (some ⟨G8, 0, none⟩) ∧ c9 = .int .i64 0 ∧ NineF wx G8 #[.int .i64 0, .int .u64 1, .int .u64 4602678819172646912, .int .u64 4613937818241073152, .int .u64 0, .slice o1 1 p1, .slice o2 0 p2, .slice o3 2 p3, .slice o4 0 p4] ∧ FSrc wx (.agg #[.int .i64 0, .int .u64 1, .int .u64 4602678819172646912, .int .u64 4613937818241073152, .int .u64 0, .slice o1 1 p1, .slice o2 0 p2, .slice o3 2 p3, .slice o4 0 p4]) fone ∧ Fr [] wC wx)
  case first =>
    go_region_held3 (fun w' => w'.cell? ⟨G3, 0, none⟩ = some (.int .i64 0) ∧ w'.cell? ⟨G3, 1, none⟩ = some (.int .u64 1) ∧ w'.cell? ⟨G3, 2, none⟩ = some (.int .u64 4602678819172646912) ∧ w'.cell? ⟨G3, 3, none⟩ = some (.int .u64 4613937818241073152) ∧ w'.cell? ⟨G3, 4, none⟩ = some (.int .u64 0) ∧ w'.cell? ⟨G3, 5, none⟩ = some (.slice a1 1 c1) ∧ w'.cell? ⟨G3, 6, none⟩ = some (.slice a2 0 c2) ∧ w'.cell? ⟨G3, 7, none⟩ = some (.slice a3 1 c3) ∧ w'.cell? ⟨G3, 8, none⟩ = some (.slice a4 0 c4)) (go_keep) (first
      | (go_at_call 48; first
        | (with_reducible refine (HO1.out _ F0).mono ?_; rintro e wa ⟨ua, rfl, hua, hfa, hfxa⟩; have ka0 := hfa.cell_some q0 (by simp); have ka1 := hfa.cell_some q1 (by simp); have ka2 := hfa.cell_some q2 (by simp); have ka3 := hfa.cell_some q3 (by simp); have ka4 := hfa.cell_some q4 (by simp); have ka5 := hfa.cell_some q5 (by simp); have ka6 := hfa.cell_some q6 (by simp); have ka7 := hfa.cell_some q7 (by simp); have ka8 := hfa.cell_some q8 (by simp); obtain ⟨b11, d11, b12, d12, b13, d13, b14, d14, rfl, _, hsra, _⟩ := hua.opens; have hsra1 := hsra.1; have ne2 := (HNE.out _ hfa).1; have ne3 := (HNE.out _ hfa).2)
        | (with_reducible refine (HO1.out _ FZ).mono ?_; rintro e wa ⟨ua, rfl, hua, hfa, hfxa⟩; have n8 := NZ.out.kept hfxa List.not_mem_nil; have ka0 := hfa.cell_some q0 (by simp); have ka1 := hfa.cell_some q1 (by simp); have ka2 := hfa.cell_some q2 (by simp); have ka3 := hfa.cell_some q3 (by simp); have ka4 := hfa.cell_some q4 (by simp); have ka5 := hfa.cell_some q5 (by simp); have ka6 := hfa.cell_some q6 (by simp); have ka7 := hfa.cell_some q7 (by simp); have ka8 := hfa.cell_some q8 (by simp); obtain ⟨b11, d11, b12, d12, b13, d13, b14, d14, rfl, _, hsra, _⟩ := hua.opens; have hsra1 := hsra.1; have ne2 := (HNE.out _ hfa).1; have ne3 := (HNE.out _ hfa).2))
      | (go_at_call 32; first
        | (with_reducible refine (HO2.out _ _ hfa hsra1).mono ?_; rintro e wb ⟨ub, rfl, hub, hfb, hfxb⟩; (try (have n8b := n8.kept hfxb List.not_mem_nil; have z0 := n8b.cell 0 rfl; have z1 := n8b.cell 1 rfl; have z2 := n8b.cell 2 rfl; have z3 := n8b.cell 3 rfl; have z4 := n8b.cell 4 rfl; have z5 := n8b.cell 5 rfl; have z6 := n8b.cell 6 rfl; have z7 := n8b.cell 7 rfl; have z8 := n8b.cell 8 rfl; have y0 := n8b.frozen 0; have y1 := n8b.frozen 1; have y2 := n8b.frozen 2; have y3 := n8b.frozen 3; have y4 := n8b.frozen 4; have y5 := n8b.frozen 5; have y6 := n8b.frozen 6; have y7 := n8b.frozen 7; have y8 := n8b.frozen 8)); have kb0 := hfb.cell_some q0 (by simp); have kb1 := hfb.cell_some q1 (by simp); have kb2 := hfb.cell_some q2 (by simp); have kb3 := hfb.cell_some q3 (by simp); have kb4 := hfb.cell_some q4 (by simp); have kb5 := hfb.cell_some q5 (by simp); have kb6 := hfb.cell_some q6 (by simp); have kb7 := hfb.cell_some q7 (by simp); have kb8 := hfb.cell_some q8 (by simp); obtain ⟨b21, d21, b22, d22, b23, d23, b24, d24, rfl, hubs⟩ : ∃ b1 d1 b2 d2 b3 d3 b4 d4, ub = .agg #[.int .i64 0, .int .u64 1, .int .u64 4602678819172646912, .int .u64 4613937818241073152, .int .u64 0, .slice b1 1 d1, .slice b2 0 d2, .slice b3 2 d3, .slice b4 0 d4] ∧ FKeep _ wb ub fone := hopens hub)
        | (with_reducible refine (HO2.out _ _ (hfa.alloc _) (hsra1.kept ((Fr.refl [] _).alloc _))).mono ?_; rintro e wb ⟨ub, rfl, hub, hfb, hfxb⟩; have n8b := (NineF.new wa _).kept hfxb List.not_mem_nil; have z0 := n8b.cell 0 rfl; have z1 := n8b.cell 1 rfl; have z2 := n8b.cell 2 rfl; have z3 := n8b.cell 3 rfl; have z4 := n8b.cell 4 rfl; have z5 := n8b.cell 5 rfl; have z6 := n8b.cell 6 rfl; have z7 := n8b.cell 7 rfl; have z8 := n8b.cell 8 rfl; have y0 := n8b.frozen 0; have y1 := n8b.frozen 1; have y2 := n8b.frozen 2; have y3 := n8b.frozen 3; have y4 := n8b.frozen 4; have y5 := n8b.frozen 5; have y6 := n8b.frozen 6; have y7 := n8b.frozen 7; have y8 := n8b.frozen 8; have kb0 := hfb.cell_some q0 (by simp); have kb1 := hfb.cell_some q1 (by simp); have kb2 := hfb.cell_some q2 (by simp); have kb3 := hfb.cell_some q3 (by simp); have kb4 := hfb.cell_some q4 (by simp); have kb5 := hfb.cell_some q5 (by simp); have kb6 := hfb.cell_some q6 (by simp); have kb7 := hfb.cell_some q7 (by simp); have kb8 := hfb.cell_some q8 (by simp); obtain ⟨b21, d21, b22, d22, b23, d23, b24, d24, rfl, hubs⟩ : ∃ b1 d1 b2 d2 b3 d3 b4 d4, ub = .agg #[.int .i64 0, .int .u64 1, .int .u64 4602678819172646912, .int .u64 4613937818241073152, .int .u64 0, .slice b1 1 d1, .slice b2 0 d2, .slice b3 2 d3, .slice b4 0 d4] ∧ FKeep _ wb ub fone := hopens hub)))
    · go_wp2_with fail
      go_meet
      exact ⟨_, _, _, _, _, _, _, _, _, rfl, rfl, NineF.new wb _, hubs.src.kept ((Fr.refl [] _).alloc _), hfb.alloc _⟩
    · go_wp2_with fail
      go_meet
      exact ⟨_, _, _, _, _, _, _, _, _, rfl, rfl, set9_nineF n8b _ _ _ _ _ _ _ _ _, hubs [wa.heap.size] _ (set9_fr (Fr.refl _ _) (.inl (List.mem_singleton.2 rfl)) _ _ _ _ _ _ _ _ _) (by simp), set9_fr hfb (.inr hfa.size) _ _ _ _ _ _ _ _ _⟩
    · go_wp2_with fail
      go_meet
      have hsz := hfxa.size
      exact ⟨_, _, _, _, _, _, _, _, _, rfl, rfl, set9_nineF n8b _ _ _ _ _ _ _ _ _, hubs [wC.heap.size] _ (set9_fr (Fr.refl _ _) (.inl (List.mem_singleton.2 rfl)) _ _ _ _ _ _ _ _ _) (by simp at hsz ⊢; omega), set9_fr hfb (.inr (Nat.le_refl _)) _ _ _ _ _ _ _ _ _⟩
  case rest =>
    obtain ⟨G8, o1, p1, o2, p2, o3, p3, o4, p4, rfl, rfl, hn8, hs8, hfc⟩ := hcut
    clear q0 q1 q2 q3 q4 q5 q6 q7 q8 ne0 ne1 FZ F0
    have N6 : Hid (NineF wc G6 #[.int .i64 0, .int .u64 1, .int .u64 4602678819172646912, .int .u64 4613937818241073152, .int .u64 0, .slice m1 1 n1, .slice m2 0 n2, .slice m3 2 n3, .slice m4 0 n4]) := HNC.out.kept hfc (by simp)
    have N8 : Hid (NineF wc G8 #[.int .i64 0, .int .u64 1, .int .u64 4602678819172646912, .int .u64 4613937818241073152, .int .u64 0, .slice o1 1 p1, .slice o2 0 p2, .slice o3 2 p3, .slice o4 0 p4]) := hn8
    have N3 : Hid (NineF wc G3 #[.int .i64 0, .int .u64 1, .int .u64 4602678819172646912, .int .u64 4613937818241073152, .int .u64 0, .slice a1 1 c1, .slice a2 0 c2, .slice a3 1 c3, .slice a4 0 c4]) := HNA3.out.kept hfc (by simp)
    have N5 : Hid (NineF wc G5 #[.int .i64 0, .int .u64 1, .int .u64 4602678819172646912, .int .u64 9223372036854775808, .int .u64 0, .slice b1 1 d1, .slice b2 0 d2, .slice b3 2 d3, .slice b4 0 d4]) := HNB3.out.kept hfc (by simp)
    have SM : Hid (FSrc wc (.agg #[.int .i64 0, .int .u64 1, .int .u64 4602678819172646912, .int .u64 4613937818241073152, .int .u64 0, .slice m1 1 n1, .slice m2 0 n2, .slice m3 2 n3, .slice m4 0 n4]) fone) := HMC.out.kept hfc
    have SO : Hid (FSrc wc (.agg #[.int .i64 0, .int .u64 1, .int .u64 4602678819172646912, .int .u64 4613937818241073152, .int .u64 0, .slice o1 1 p1, .slice o2 0 p2, .slice o3 2 p3, .slice o4 0 p4]) fone) := hs8
    have SC : Hid (FSrc wc (.agg #[.int .i64 0, .int .u64 1, .int .u64 4602678819172646912, .int .u64 4613937818241073152, .int .u64 0, .slice a1 1 c1, .slice a2 0 c2, .slice a3 1 c3, .slice a4 0 c4]) fcan) := HCC.out.kept hfc
    have SB : Hid (FSrc wc (.agg #[.int .i64 0, .int .u64 1, .int .u64 4602678819172646912, .int .u64 9223372036854775808, .int .u64 0, .slice b1 1 d1, .slice b2 0 d2, .slice b3 2 d3, .slice b4 0 d4]) fbad) := HBC.out.kept hfc
    have HF : Hid (Fr [] w wc) := HFC.out.trans hfc (by simp)
    clear hn8 hs8 hfc HNC HNA3 HNB3 HMC HCC HBC HFC HO1 HO2 NZ HNE hopens
    have HONE2 : Hid (∀ wx, Fr [] wc wx → Calls Try.prog 48 #[] wx fun e w' => ∃ u, e = .returned u ∧ FSrc w' u fone ∧ Fr [] wx w' ∧ Fr [] w w') := fun wx hx => HONE.out wx (HF.out.trans hx (by simp))
    have HW3 : Hid (∀ wx, Calls Try.prog 37 #[.int .u64 4613937818241073152] wx fun e w' => e = .returned (.tuple #[.int .u64 3, .bool true]) ∧ wx = w') := by
      intro wx
      refine (wholeI_any 4613937818241073152 wx (by unfold inu; omega)).mono ?_
      rintro e w' ⟨rfl, h⟩
      exact ⟨by rw [kf_w3.1, kf_w3.2], h⟩
    have HWH : Hid (∀ wx, Calls Try.prog 37 #[.int .u64 4602678819172646912] wx fun e w' => e = .returned (.tuple #[.int .u64 0, .bool false]) ∧ wx = w') := by
      intro wx
      refine (wholeI_any 4602678819172646912 wx (by unfold inu; omega)).mono ?_
      rintro e w' ⟨rfl, h⟩
      exact ⟨by rw [kf_wh.1, kf_wh.2], h⟩
    go_wp2_with fail
    refine (HW3.out _).mono ?_
    rintro e wq ⟨rfl, rfl⟩
    go_wp2_with fail
    refine (HWH.out _).mono ?_
    rintro e wq ⟨rfl, rfl⟩
    clear HW3 HWH
    go_wp2_with fail
    refine (HONE2.out wc (Fr.refl _ _)).mono ?_
    rintro e w9 ⟨u9, rfl, hu9, hf9, _⟩
    have HU9 : Hid (FSrc w9 u9 fone) := hu9
    have HF9 : Hid (Fr [] wc w9) := hf9
    clear hu9 hf9 HONE2
    go_wp2_with fail
    refine (back_any _ fone w9 HU9.out).mono ?_
    rintro e wt ⟨ut, rfl, hut, hft⟩
    rw [kf_bke]
    have hbz : bkh fone = hzero := by unfold bkh; rw [if_neg (by rw [kf_bke]; decide)]
    rw [hbz] at hut
    obtain ⟨z1, y1, z2, y2, z3, y3, z4, y4, rfl⟩ : ∃ z1 y1 z2 y2 z3 y3 z4 y4, ut = .agg #[.int .i64 0, .int .u64 0, .int .u64 0, .int .u64 0, .int .u64 0, .slice z1 0 y1, .slice z2 0 y2, .slice z3 0 y3, .slice z4 0 y4] := by
      obtain ⟨b1, d1, b2, d2, b3, d3, b4, d4, e, _⟩ := hut.src.opens
      exact ⟨b1, d1, b2, d2, b3, d3, b4, d4, e⟩
    have HFD : Hid (Fr [] wc (wt.alloc (.cells #[.int .i64 0, .int .u64 0, .int .u64 0, .int .u64 0, .int .u64 0, .slice z1 0 y1, .slice z2 0 y2, .slice z3 0 y3, .slice z4 0 y4] 70))) := (HF9.out.trans hft (by simp)).alloc _
    clear hut hft hbz HU9 HF9
    go_upto_region 12 with fail
    generalize wt.alloc (.cells _ _) = wd at HFD ⊢
    have N6' := N6.out.kept HFD.out (by simp)
    have N8' := N8.out.kept HFD.out (by simp)
    have N3' := N3.out.kept HFD.out (by simp)
    have N5' := N5.out.kept HFD.out (by simp)
    have SM' := SM.out.kept HFD.out
    have SO' := SO.out.kept HFD.out
    have SC' := SC.out.kept HFD.out
    have SB' := SB.out.kept HFD.out
    have HF' := HF.out.trans HFD.out (by simp)
    clear N6 N8 N3 N5 SM SO SC SB HF HFD
    have N6 : Hid (NineF wd G6 _) := N6'
    have N8 : Hid (NineF wd G8 _) := N8'
    have N3 : Hid (NineF wd G3 _) := N3'
    have N5 : Hid (NineF wd G5 _) := N5'
    have SM : Hid (FSrc wd _ fone) := SM'
    have SO : Hid (FSrc wd _ fone) := SO'
    have SC : Hid (FSrc wd _ fcan) := SC'
    have SB : Hid (FSrc wd _ fbad) := SB'
    have HF : Hid (Fr [] w wd) := HF'
    clear N6' N8' N3' N5' SM' SO' SC' SB' HF'
    have HP1 : Hid (∀ wx, Fr [] wd wx → Calls Try.prog 48 #[] wx fun e w' => ∃ u, e = .returned u ∧ FSrc w' u fone ∧ Fr [] wd w') := by
      intro wx hx
      refine (HONE.out wx (HF.out.trans hx (by simp))).mono ?_
      rintro e w' ⟨u, rfl, hu, hf, _⟩
      exact ⟨u, rfl, hu, hx.trans hf (by simp)⟩
    have HP2 : Hid (∀ wx u, Fr [] wd wx → FSrc wx u fone → Calls Try.prog 30 #[.agg #[.int .i64 0, .int .u64 1, .int .u64 4602678819172646912, .int .u64 4613937818241073152, .int .u64 0, .slice m1 1 n1, .slice m2 0 n2, .slice m3 2 n3, .slice m4 0 n4], u] wx fun e w' => e = .returned (.bool true) ∧ Fr [] wd w') := by
      intro wx u hx hu
      refine (fequal_any _ _ fone fone wx (SM.out.kept hx) hu).mono ?_
      rintro e w' ⟨rfl, hf⟩
      exact ⟨by rw [kf_eq1], hx.trans hf (by simp)⟩
    have HP3 : Hid (∀ wx, Fr [] wd wx → Calls Try.prog 30 #[.agg #[.int .i64 0, .int .u64 1, .int .u64 4602678819172646912, .int .u64 4613937818241073152, .int .u64 0, .slice o1 1 p1, .slice o2 0 p2, .slice o3 2 p3, .slice o4 0 p4], .agg #[.int .i64 0, .int .u64 1, .int .u64 4602678819172646912, .int .u64 4613937818241073152, .int .u64 0, .slice a1 1 c1, .slice a2 0 c2, .slice a3 1 c3, .slice a4 0 c4]] wx fun e w' => e = .returned (.bool true) ∧ Fr [] wd w') := by
      intro wx hx
      refine (fequal_any _ _ fone fcan wx (SO.out.kept hx) (SC.out.kept hx)).mono ?_
      rintro e w' ⟨rfl, hf⟩
      exact ⟨by rw [kf_eq2], hx.trans hf (by simp)⟩
    have HP4 : Hid (∀ wx u, Fr [] wd wx → FSrc wx u fone → Calls Try.prog 30 #[u, .agg #[.int .i64 0, .int .u64 1, .int .u64 4602678819172646912, .int .u64 9223372036854775808, .int .u64 0, .slice b1 1 d1, .slice b2 0 d2, .slice b3 2 d3, .slice b4 0 d4]] wx fun e w' => e = .returned (.bool false) ∧ Fr [] wd w') := by
      intro wx u hx hu
      refine (fequal_any _ _ fone fbad wx hu (SB.out.kept hx)).mono ?_
      rintro e w' ⟨rfl, hf⟩
      exact ⟨by rw [kf_eq3], hx.trans hf (by simp)⟩
    have HP5 : Hid (∀ wx, Calls Try.prog 39 #[.int .u64 3] wx fun e w' => e = .returned (.int .u64 4613937818241073152) ∧ wx = w') := by
      intro wx
      refine (floatI_any 3 wx (by unfold inu; omega)).mono ?_
      rintro e w' ⟨rfl, h⟩
      exact ⟨by rw [kf_f3], h⟩
    have HP6 : Hid (∀ wx, Calls Try.prog 17 #[.int .u64 0] wx fun e w' => e = .returned (.bool true) ∧ wx = w') := by
      intro wx
      refine (right_any 0 wx).mono ?_
      rintro e w' ⟨rfl, h⟩
      exact ⟨rfl, h⟩
    have LG60 : ∀ wx, Fr [] wd wx → wx.cell? ⟨G6, 0, none⟩ = some (.int .i64 0) := fun wx hx => hx.cell_some (N6.out.cell 0 rfl) List.not_mem_nil
    have LG61 : ∀ wx, Fr [] wd wx → wx.cell? ⟨G6, 1, none⟩ = some (.int .u64 1) := fun wx hx => hx.cell_some (N6.out.cell 1 rfl) List.not_mem_nil
    have LG62 : ∀ wx, Fr [] wd wx → wx.cell? ⟨G6, 2, none⟩ = some (.int .u64 4602678819172646912) := fun wx hx => hx.cell_some (N6.out.cell 2 rfl) List.not_mem_nil
    have LG63 : ∀ wx, Fr [] wd wx → wx.cell? ⟨G6, 3, none⟩ = some (.int .u64 4613937818241073152) := fun wx hx => hx.cell_some (N6.out.cell 3 rfl) List.not_mem_nil
    have LG64 : ∀ wx, Fr [] wd wx → wx.cell? ⟨G6, 4, none⟩ = some (.int .u64 0) := fun wx hx => hx.cell_some (N6.out.cell 4 rfl) List.not_mem_nil
    have LG65 : ∀ wx, Fr [] wd wx → wx.cell? ⟨G6, 5, none⟩ = some (.slice m1 1 n1) := fun wx hx => hx.cell_some (N6.out.cell 5 rfl) List.not_mem_nil
    have LG66 : ∀ wx, Fr [] wd wx → wx.cell? ⟨G6, 6, none⟩ = some (.slice m2 0 n2) := fun wx hx => hx.cell_some (N6.out.cell 6 rfl) List.not_mem_nil
    have LG67 : ∀ wx, Fr [] wd wx → wx.cell? ⟨G6, 7, none⟩ = some (.slice m3 2 n3) := fun wx hx => hx.cell_some (N6.out.cell 7 rfl) List.not_mem_nil
    have LG68 : ∀ wx, Fr [] wd wx → wx.cell? ⟨G6, 8, none⟩ = some (.slice m4 0 n4) := fun wx hx => hx.cell_some (N6.out.cell 8 rfl) List.not_mem_nil
    have LG80 : ∀ wx, Fr [] wd wx → wx.cell? ⟨G8, 0, none⟩ = some (.int .i64 0) := fun wx hx => hx.cell_some (N8.out.cell 0 rfl) List.not_mem_nil
    have LG81 : ∀ wx, Fr [] wd wx → wx.cell? ⟨G8, 1, none⟩ = some (.int .u64 1) := fun wx hx => hx.cell_some (N8.out.cell 1 rfl) List.not_mem_nil
    have LG82 : ∀ wx, Fr [] wd wx → wx.cell? ⟨G8, 2, none⟩ = some (.int .u64 4602678819172646912) := fun wx hx => hx.cell_some (N8.out.cell 2 rfl) List.not_mem_nil
    have LG83 : ∀ wx, Fr [] wd wx → wx.cell? ⟨G8, 3, none⟩ = some (.int .u64 4613937818241073152) := fun wx hx => hx.cell_some (N8.out.cell 3 rfl) List.not_mem_nil
    have LG84 : ∀ wx, Fr [] wd wx → wx.cell? ⟨G8, 4, none⟩ = some (.int .u64 0) := fun wx hx => hx.cell_some (N8.out.cell 4 rfl) List.not_mem_nil
    have LG85 : ∀ wx, Fr [] wd wx → wx.cell? ⟨G8, 5, none⟩ = some (.slice o1 1 p1) := fun wx hx => hx.cell_some (N8.out.cell 5 rfl) List.not_mem_nil
    have LG86 : ∀ wx, Fr [] wd wx → wx.cell? ⟨G8, 6, none⟩ = some (.slice o2 0 p2) := fun wx hx => hx.cell_some (N8.out.cell 6 rfl) List.not_mem_nil
    have LG87 : ∀ wx, Fr [] wd wx → wx.cell? ⟨G8, 7, none⟩ = some (.slice o3 2 p3) := fun wx hx => hx.cell_some (N8.out.cell 7 rfl) List.not_mem_nil
    have LG88 : ∀ wx, Fr [] wd wx → wx.cell? ⟨G8, 8, none⟩ = some (.slice o4 0 p4) := fun wx hx => hx.cell_some (N8.out.cell 8 rfl) List.not_mem_nil
    have LG30 : ∀ wx, Fr [] wd wx → wx.cell? ⟨G3, 0, none⟩ = some (.int .i64 0) := fun wx hx => hx.cell_some (N3.out.cell 0 rfl) List.not_mem_nil
    have LG31 : ∀ wx, Fr [] wd wx → wx.cell? ⟨G3, 1, none⟩ = some (.int .u64 1) := fun wx hx => hx.cell_some (N3.out.cell 1 rfl) List.not_mem_nil
    have LG32 : ∀ wx, Fr [] wd wx → wx.cell? ⟨G3, 2, none⟩ = some (.int .u64 4602678819172646912) := fun wx hx => hx.cell_some (N3.out.cell 2 rfl) List.not_mem_nil
    have LG33 : ∀ wx, Fr [] wd wx → wx.cell? ⟨G3, 3, none⟩ = some (.int .u64 4613937818241073152) := fun wx hx => hx.cell_some (N3.out.cell 3 rfl) List.not_mem_nil
    have LG34 : ∀ wx, Fr [] wd wx → wx.cell? ⟨G3, 4, none⟩ = some (.int .u64 0) := fun wx hx => hx.cell_some (N3.out.cell 4 rfl) List.not_mem_nil
    have LG35 : ∀ wx, Fr [] wd wx → wx.cell? ⟨G3, 5, none⟩ = some (.slice a1 1 c1) := fun wx hx => hx.cell_some (N3.out.cell 5 rfl) List.not_mem_nil
    have LG36 : ∀ wx, Fr [] wd wx → wx.cell? ⟨G3, 6, none⟩ = some (.slice a2 0 c2) := fun wx hx => hx.cell_some (N3.out.cell 6 rfl) List.not_mem_nil
    have LG37 : ∀ wx, Fr [] wd wx → wx.cell? ⟨G3, 7, none⟩ = some (.slice a3 1 c3) := fun wx hx => hx.cell_some (N3.out.cell 7 rfl) List.not_mem_nil
    have LG38 : ∀ wx, Fr [] wd wx → wx.cell? ⟨G3, 8, none⟩ = some (.slice a4 0 c4) := fun wx hx => hx.cell_some (N3.out.cell 8 rfl) List.not_mem_nil
    have LG50 : ∀ wx, Fr [] wd wx → wx.cell? ⟨G5, 0, none⟩ = some (.int .i64 0) := fun wx hx => hx.cell_some (N5.out.cell 0 rfl) List.not_mem_nil
    have LG51 : ∀ wx, Fr [] wd wx → wx.cell? ⟨G5, 1, none⟩ = some (.int .u64 1) := fun wx hx => hx.cell_some (N5.out.cell 1 rfl) List.not_mem_nil
    have LG52 : ∀ wx, Fr [] wd wx → wx.cell? ⟨G5, 2, none⟩ = some (.int .u64 4602678819172646912) := fun wx hx => hx.cell_some (N5.out.cell 2 rfl) List.not_mem_nil
    have LG53 : ∀ wx, Fr [] wd wx → wx.cell? ⟨G5, 3, none⟩ = some (.int .u64 9223372036854775808) := fun wx hx => hx.cell_some (N5.out.cell 3 rfl) List.not_mem_nil
    have LG54 : ∀ wx, Fr [] wd wx → wx.cell? ⟨G5, 4, none⟩ = some (.int .u64 0) := fun wx hx => hx.cell_some (N5.out.cell 4 rfl) List.not_mem_nil
    have LG55 : ∀ wx, Fr [] wd wx → wx.cell? ⟨G5, 5, none⟩ = some (.slice b1 1 d1) := fun wx hx => hx.cell_some (N5.out.cell 5 rfl) List.not_mem_nil
    have LG56 : ∀ wx, Fr [] wd wx → wx.cell? ⟨G5, 6, none⟩ = some (.slice b2 0 d2) := fun wx hx => hx.cell_some (N5.out.cell 6 rfl) List.not_mem_nil
    have LG57 : ∀ wx, Fr [] wd wx → wx.cell? ⟨G5, 7, none⟩ = some (.slice b3 2 d3) := fun wx hx => hx.cell_some (N5.out.cell 7 rfl) List.not_mem_nil
    have LG58 : ∀ wx, Fr [] wd wx → wx.cell? ⟨G5, 8, none⟩ = some (.slice b4 0 d4) := fun wx hx => hx.cell_some (N5.out.cell 8 rfl) List.not_mem_nil
    have F0 : Fr [] wd wd.drew := (Fr.refl _ _).drew
    go_region_held3 (fun w' => w'.cell? ⟨G6, 0, none⟩ = some (.int .i64 0) ∧ w'.cell? ⟨G6, 1, none⟩ = some (.int .u64 1) ∧ w'.cell? ⟨G6, 2, none⟩ = some (.int .u64 4602678819172646912) ∧ w'.cell? ⟨G6, 3, none⟩ = some (.int .u64 4613937818241073152) ∧ w'.cell? ⟨G6, 4, none⟩ = some (.int .u64 0) ∧ w'.cell? ⟨G6, 5, none⟩ = some (.slice m1 1 n1) ∧ w'.cell? ⟨G6, 6, none⟩ = some (.slice m2 0 n2) ∧ w'.cell? ⟨G6, 7, none⟩ = some (.slice m3 2 n3) ∧ w'.cell? ⟨G6, 8, none⟩ = some (.slice m4 0 n4) ∧ w'.cell? ⟨G8, 0, none⟩ = some (.int .i64 0) ∧ w'.cell? ⟨G8, 1, none⟩ = some (.int .u64 1) ∧ w'.cell? ⟨G8, 2, none⟩ = some (.int .u64 4602678819172646912) ∧ w'.cell? ⟨G8, 3, none⟩ = some (.int .u64 4613937818241073152) ∧ w'.cell? ⟨G8, 4, none⟩ = some (.int .u64 0) ∧ w'.cell? ⟨G8, 5, none⟩ = some (.slice o1 1 p1) ∧ w'.cell? ⟨G8, 6, none⟩ = some (.slice o2 0 p2) ∧ w'.cell? ⟨G8, 7, none⟩ = some (.slice o3 2 p3) ∧ w'.cell? ⟨G8, 8, none⟩ = some (.slice o4 0 p4) ∧ w'.cell? ⟨G3, 0, none⟩ = some (.int .i64 0) ∧ w'.cell? ⟨G3, 1, none⟩ = some (.int .u64 1) ∧ w'.cell? ⟨G3, 2, none⟩ = some (.int .u64 4602678819172646912) ∧ w'.cell? ⟨G3, 3, none⟩ = some (.int .u64 4613937818241073152) ∧ w'.cell? ⟨G3, 4, none⟩ = some (.int .u64 0) ∧ w'.cell? ⟨G3, 5, none⟩ = some (.slice a1 1 c1) ∧ w'.cell? ⟨G3, 6, none⟩ = some (.slice a2 0 c2) ∧ w'.cell? ⟨G3, 7, none⟩ = some (.slice a3 1 c3) ∧ w'.cell? ⟨G3, 8, none⟩ = some (.slice a4 0 c4) ∧ w'.cell? ⟨G5, 0, none⟩ = some (.int .i64 0) ∧ w'.cell? ⟨G5, 1, none⟩ = some (.int .u64 1) ∧ w'.cell? ⟨G5, 2, none⟩ = some (.int .u64 4602678819172646912) ∧ w'.cell? ⟨G5, 3, none⟩ = some (.int .u64 9223372036854775808) ∧ w'.cell? ⟨G5, 4, none⟩ = some (.int .u64 0) ∧ w'.cell? ⟨G5, 5, none⟩ = some (.slice b1 1 d1) ∧ w'.cell? ⟨G5, 6, none⟩ = some (.slice b2 0 d2) ∧ w'.cell? ⟨G5, 7, none⟩ = some (.slice b3 2 d3) ∧ w'.cell? ⟨G5, 8, none⟩ = some (.slice b4 0 d4)) (go_keep) (first
      | (go_at_call 48; first
        | (with_reducible refine (HP1.out _ F0).mono ?_; rintro e wz ⟨ua, rfl, hua, hz1⟩)
        | (with_reducible refine (HP1.out _ hz3).mono ?_; rintro e wz4 ⟨ub, rfl, hub, hz4⟩))
      | (go_at_call 30; first
        | (with_reducible refine (HP2.out _ _ hz1 hua).mono ?_; rintro e wz2 ⟨rfl, hz2⟩)
        | (with_reducible refine (HP3.out _ hz2).mono ?_; rintro e wz3 ⟨rfl, hz3⟩)
        | (with_reducible refine (HP4.out _ _ hz4 hub).mono ?_; rintro e wz5 ⟨rfl, hz5⟩))
      | (go_at_call 39; with_reducible refine (HP5.out _).mono ?_; rintro e wz6 ⟨rfl, rfl⟩)
      | (go_at_call 17; with_reducible refine (HP6.out _).mono ?_; rintro e wz7 ⟨rfl, rfl⟩))
    all_goals (go_wp2_with fail)
    all_goals (go_ret)
    all_goals exact ⟨rfl, HF.out.trans hz5 (by simp)⟩
end Go.Proofs.Ytoaibabkkphlaaa
