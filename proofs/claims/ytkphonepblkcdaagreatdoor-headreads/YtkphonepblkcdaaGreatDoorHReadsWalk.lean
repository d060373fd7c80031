/-
  The walk of tidepolelaw14.HeadReads: it returns true, whatever it is given, and writes nothing that was there.
-/
import Derived.Test.YtkphonepblkcdaaGreatDoorHChecksWalk14
import Derived.Test.YtkphonepblkcdaaGreatDoorRef14P
namespace Go.Proofs.YtkphonepblkcdaaGreatDoor
open Go.RowKit Mem Spans Bits Groups Thrs
set_option linter.unusedSimpArgs false
set_option linter.unusedVariables false
set_option maxRecDepth 100000

/-- The law's premises on its input, all but the good case: the fixed answer alone. -/
def BadIn (len : Nat) (n : Int) : Prop := 150 < len ∨ n < 0 ∨ 8 * (len : Int) < n

set_option maxHeartbeats 2000000 in
theorem hreads_bad (a0 : Option Addr) (len0 cap0 : Nat) (a1 : Int) (w : World) (hL : LaidW w) (hb : BadIn len0 a1) (hm : len0 ≤ maxLen) :
    Calls Tryz.prog 5 #[.slice a0 len0 cap0, .int .i64 a1] w fun e w' => e = .returned (.bool true) ∧ Fr [] w w' := by
  have hout : (decide (150 < (len0 : Int)) = true) ∨ (decide (150 < (len0 : Int)) = false ∧ decide (a1 < 0) = true) ∨ (decide (150 < (len0 : Int)) = false ∧ decide (a1 < 0) = false ∧ decide (8 * (len0 : Int) < a1) = true ∧ len0 ≤ 150) := by
    unfold BadIn at hb
    simp only [decide_eq_true_eq, decide_eq_false_iff_not]
    omega
  have HAW : Hid (∀ wx, Fr [] w wx → Calls Tryz.prog 7 #[] wx fun e w' => e = .returned (.bool true) ∧ Fr [] w w') := hL.aw
  clear hb hm hL
  rcases hout with h1 | ⟨h1, h2⟩ | ⟨h1, h2, h3, h4⟩
  all_goals
    go_enter Tryz.func5, Tryz.ntmps5
    go_wp2_with fail
    refine (HAW.out w (Fr.refl _ _)).mono ?_
    rintro e w' ⟨rfl, hf⟩
    go_wp2_with fail
    go_ret
    exact ⟨by first | rfl | trivial, hf⟩

set_option maxHeartbeats 8000000 in
theorem hreads_good (a0 : Option Addr) (cap0 : Nat) (bs : List Nat) (n : Nat) (w : World) (hL : LaidW w) (hsrc : Src w (.slice a0 bs.length cap0) bs) (hlen : bs.length ≤ 150) (hn : n ≤ 8 * bs.length) :
    Calls Tryz.prog 5 #[.slice a0 bs.length cap0, .int .i64 (n : Int)] w fun e w' => e = .returned (.bool true) ∧ Fr [] w w' := by
  have H256 : Hid (∀ x ∈ bs, x < 256) := by obtain ⟨_, _, _, _, _, _, h⟩ := hsrc; exact h
  have HRUN : Hid (∀ wx, Fr [] w wx → (convert 54 9 (.slice a0 bs.length cap0)).run Tryz.prog wx = .ok (.string (str bs)) wx) := fun wx hx => run_str (hsrc.kept hx (by simp))
  have HSRC : Hid (Src w (.slice a0 bs.length cap0) bs) := hsrc
  have HLW : Hid (LaidW w) := hL
  clear hsrc hL
  have d1 : decide (150 < (bs.length : Int)) = false := decide_eq_false (by omega)
  have d2 : decide ((n : Int) < 0) = false := decide_eq_false (by omega)
  have d3 : decide (8 * (bs.length : Int) < (n : Int)) = false := decide_eq_false (by omega)
  have HNN : Hid (n ≤ 1200 ∧ nbs n ≤ bs.length) := ⟨by omega, nbs_le hn⟩
  have HTX : Hid (∀ w : World, Calls Tryz.prog 27 #[.string (str bs), .int .i64 (n : Int)] w fun e w' => e = .returned (.string (txt (unpack bs n))) ∧ w = w') := fun w => text_any bs n w H256.out hn (by omega)
  obtain ⟨R, hTT⟩ : ∃ R, R = unpack bs n := ⟨_, rfl⟩
  have HTL : Hid (R.length = n) := by rw [Hid, hTT]; simp
  rw [← hTT] at HTX
  have HTT : Hid (R = unpack bs n) := hTT
  have HAW : Hid (∀ wx, Fr [] w wx → Calls Tryz.prog 7 #[] wx fun e w' => e = .returned (.bool true) ∧ Fr [] w w') := HLW.out.aw
  have hLx := HLW.out
  have HEN : Hid (∀ W, Fr [] w W → Env noSa W ∧ Tab W) := fun W f => ⟨hLx.env.kept0 f, hLx.2.1.kept f (by simp)⟩
  have HGL : Hid (2 ≤ w.heap.size ∧ 0 < w.heap.size) := ⟨hLx.2.2, hLx.2.1.lt⟩
  clear hTT hLx
  go_enter Tryz.func5, Tryz.ntmps5
  go_wp2_with fail
  refine (newReader_ok _ bs n w HSRC.out HNN.out.2 (by have := HNN.out; omega)).mono ?_
  rintro e w1 ⟨q, hq, rfl, hr1, hqz, hhz, hf1⟩
  rw [← HTT.out] at hr1
  have HR1 : Hid (Rd w1 q hq R 0 n false) := hr1
  have HF1 : Hid (Fr [] w w1) := hf1
  have HQZ : Hid (w.heap.size ≤ q) := hqz
  clear hr1 hf1 hqz hhz
  go_wp2_with fail
  refine (hdGet_any noSa w1 q hq R 0 n false (HEN.out _ HF1.out).1 (by have := HQZ.out; have := HGL.out; omega) (HEN.out _ HF1.out).2 (by have := HQZ.out; have := HGL.out; omega) HR1.out (by rw [HTL.out]; have := HNN.out; omega)).mono ?_
  rintro e w2 ⟨u, v, rfl, hgt⟩
  have hrest : rest R 0 n = R := by have := rest_whole R; rwa [HTL.out] at this
  rw [hrest] at hgt
  have HBK : Hid ((rdH R).e = 0 → R.take (rdH R).u = hbits (rdH R).h ∧ (rdH R).u ≤ R.length ∧ (hce (rdH R).h).1 = 0) := rdH_back
  have HPA : Hid (∀ W, Calls Tryz.prog 26 #[.string (txt R)] W fun e w' => ∃ u X v, e = .returned (.tuple #[u, X, v]) ∧ LParse R (rdH R) W w' u X v ∧ Fr [] W w') := fun W => lparse14_any R W (by rw [HTL.out]; have := HNN.out; omega)
  clear hrest
  generalize rdH R = G at *
  obtain ⟨hv, hz, ho, hf2⟩ := hgt
  have HF2 : Hid (Fr [] w w2) := HF1.out.trans hf2 (by have := HQZ.out; simp; omega)
  clear hf2 HR1
  by_cases h0 : G.e = 0
  case neg =>
    have HV : Hid (IsErr w2 v G.e G.p G.n) := hv
    obtain ⟨bq, rfl⟩ := hv.some h0
    obtain rfl := hz h0
    have HNE : Hid (¬ G.e = 0) := h0
    have HX : Hid (Six (w2.alloc (.cells #[.int .i64 0, .int .i64 0, .int .i64 0, .int .u64 0, .slice none 0 0, .slice none 0 0] 25)) w2.heap.size #[.int .i64 0, .int .i64 0, .int .i64 0, .int .u64 0, .slice none 0 0, .slice none 0 0]) := Six.new _ _
    have HX3 : Hid (Fr [] w2 (w2.alloc (.cells #[.int .i64 0, .int .i64 0, .int .i64 0, .int .u64 0, .slice none 0 0, .slice none 0 0] 25))) := (Fr.refl [] _).alloc _
    clear hv hz ho h0 HBK
    go_upto_region 7 with fail
    generalize w2.alloc _ = w3 at *
    generalize w2.heap.size = XX at *
    have HF3 : Hid (Fr [] w w3) := HF2.out.trans HX3.out (by simp)
    have hrun := HRUN.out w3 HF3.out
    go_wp2_with fail
    refine (HTX.out w3).mono ?_
    rintro e w4 ⟨rfl, rfl⟩
    go_wp2_with fail
    refine (HPA.out w3).mono ?_
    rintro e w4 ⟨u2, X2, v2, rfl, hlp, hf4⟩
    obtain ⟨rfl, rfl, rfl⟩ := hlp.1 HNE.out
    have HX4 : Hid (Fr [] w3 w4) := hf4
    clear hlp hf4 hrun
    unfold wrV
    have HWB : Hid (WrB ((w4.alloc (.cells #[.int .i64 0, .int .i64 0, .int .i64 0, .int .u64 0, .slice none 0 0, .slice none 0 0] 32)).alloc (.cells #[.int .i64 G.e, .string G.p, .int .i64 (G.n : Int)] 35)) (w4.heap.size + 1) G.e G.p (G.n : Int)) := by
      have := WrB.new (w4.alloc (.cells #[.int .i64 0, .int .i64 0, .int .i64 0, .int .u64 0, .slice none 0 0, .slice none 0 0] 32)) G.e G.p (G.n : Int)
      rwa [World.size_alloc] at this
    have HX5 : Hid (Fr [] w4 ((w4.alloc (.cells #[.int .i64 0, .int .i64 0, .int .i64 0, .int .u64 0, .slice none 0 0, .slice none 0 0] 32)).alloc (.cells #[.int .i64 G.e, .string G.p, .int .i64 (G.n : Int)] 35))) := ((Fr.refl [] _).alloc _).alloc _
    go_upto_region 8 with fail
    generalize ((w4.alloc (.cells #[.int .i64 0, .int .i64 0, .int .i64 0, .int .u64 0, .slice none 0 0, .slice none 0 0] 32)).alloc (.cells #[.int .i64 G.e, .string G.p, .int .i64 (G.n : Int)] 35)) = w5 at *
    generalize w4.heap.size + 1 = WB at *
    have HX35 : Hid (Fr [] w3 w5) := HX4.out.trans HX5.out (by simp)
    have HF5 : Hid (Fr [] w w5) := HF3.out.trans HX35.out (by simp)
    have c0 : w5.cell? ⟨WB, 0, none⟩ = some (.int .i64 G.e) := by rw [cell_at HWB.out]; rfl
    have c1 : w5.cell? ⟨WB, 1, none⟩ = some (.string G.p) := by rw [cell_at HWB.out]; rfl
    have c2 : w5.cell? ⟨WB, 2, none⟩ = some (.int .i64 (G.n : Int)) := by rw [cell_at HWB.out]; rfl
    have hEb : (G.e == 0) = false := beq_eq_false_iff_ne.2 HNE.out
    have hEc : (G.e != 0) = true := bne_iff_ne.2 HNE.out
    have HV5 : Hid (IsErr w5 (.iface 110 (.pointer (some ⟨bq, 0, none⟩))) G.e G.p G.n) := (HV.out.kept HX3.out).kept HX35.out
    clear HV
    generalize G.e = C at *
    generalize G.p = M at *
    generalize (G.n : Int) = K at *
    go_wp2_with fail
    refine (tells14_any noSa w5 _ C M K (HEN.out _ HF5.out).1 (by have := HGL.out; have := HF5.out.size; omega) HV5.out HNE.out).mono ?_
    rintro e w6 ⟨rfl, hf6⟩
    have HX36 : Hid (Fr [] w3 w6) := HX35.out.trans hf6 (by simp)
    clear hf6 c0 c1 c2
    have k0 : w6.cell? ⟨XX, 0, none⟩ = some (.int .i64 0) := HX36.out.cell_some (HX.out.cell 0 rfl) List.not_mem_nil
    have k1 : w6.cell? ⟨XX, 1, none⟩ = some (.int .i64 0) := HX36.out.cell_some (HX.out.cell 1 rfl) List.not_mem_nil
    have k2 : w6.cell? ⟨XX, 2, none⟩ = some (.int .i64 0) := HX36.out.cell_some (HX.out.cell 2 rfl) List.not_mem_nil
    have k3 : w6.cell? ⟨XX, 3, none⟩ = some (.int .u64 0) := HX36.out.cell_some (HX.out.cell 3 rfl) List.not_mem_nil
    have k4 : w6.cell? ⟨XX, 4, none⟩ = some (.slice none 0 0) := HX36.out.cell_some (HX.out.cell 4 rfl) List.not_mem_nil
    have k5 : w6.cell? ⟨XX, 5, none⟩ = some (.slice none 0 0) := HX36.out.cell_some (HX.out.cell 5 rfl) List.not_mem_nil
    have HNS : Hid (∀ W, HdSrc W (.agg #[.int .i64 0, .int .i64 0, .int .i64 0, .int .u64 0, .slice none 0 0, .slice none 0 0]) noHd) := fun W => ⟨none, 0, none, 0, rfl, noHd_hin, SSrc.nil W, SSrc.nil W⟩
    go_wp2_with fail
    refine (hdEqual_any _ _ noHd noHd w6 (HNS.out _) (HNS.out _)).mono ?_
    rintro e w7 ⟨rfl, hf7⟩
    rw [hdq_self]
    have HF7 : Hid (Fr [] w w7) := (HF3.out.trans HX36.out (by simp)).trans hf7 (by simp)
    clear hf7 k0 k1 k2 k3 k4 k5
    go_wp2_with fail
    refine (HAW.out _ HF7.out).mono ?_
    rintro e w8 ⟨rfl, hf⟩
    go_wp2
    go_ret
    exact ⟨by first | rfl | trivial, hf⟩
  rw [h0] at hv
  obtain rfl := hv.nil
  obtain ⟨hown, hrd⟩ := ho h0
  obtain ⟨hb1, hb2, hb3⟩ := HBK.out h0
  rw [Nat.zero_add] at hrd
  have HR2 : Hid (Rd w2 q hq R G.u n false) := hrd
  have HBB : Hid (G.u ≤ R.length ∧ (hce G.h).1 = 0) := ⟨hb2, hb3⟩
  obtain ⟨po, pc, no, nc, rfl, hin, ho1, ho2, ho3, ho4⟩ := hown
  have HO2 : Hid (∀ W, Fr [] w2 W → HdSrc W (.agg #[.int .i64 G.h.v, .int .i64 G.h.h, .int .i64 G.h.s, .int .u64 (G.h.z : Int), .slice po G.h.P.length pc, .slice no G.h.N.length nc]) G.h) := fun W f => ⟨po, pc, no, nc, rfl, hin, (ho1.src ho3).kept f, (ho2.src ho4).kept f⟩
  have HZE : Hid (G.e = 0) := h0
  clear hv hz ho h0 HBK hb1 hb2 hb3 hrd hin ho1 ho2 ho3 ho4
  have HLP : Hid (∀ W w' u X v, LParse R G W w' u X v → HdSrc w' u G.h ∧ X = .string (txt (R.drop G.u)) ∧ v = wrV 0 ⟨#[]⟩ 0) := fun W w' u X v h => h.2 HZE.out
  generalize hGu : G.u = U at *
  generalize hGh : G.h = H at *
  clear hGu hGh
  have HX : Hid (Six (w2.alloc (.cells #[.int .i64 H.v, .int .i64 H.h, .int .i64 H.s, .int .u64 (H.z : Int), .slice po H.P.length pc, .slice no H.N.length nc] 25)) w2.heap.size #[.int .i64 H.v, .int .i64 H.h, .int .i64 H.s, .int .u64 (H.z : Int), .slice po H.P.length pc, .slice no H.N.length nc]) := Six.new _ _
  have HX3 : Hid (Fr [] w2 (w2.alloc (.cells #[.int .i64 H.v, .int .i64 H.h, .int .i64 H.s, .int .u64 (H.z : Int), .slice po H.P.length pc, .slice no H.N.length nc] 25))) := (Fr.refl [] _).alloc _
  go_upto_region 7 with fail
  generalize w2.alloc _ = w3 at *
  generalize w2.heap.size = XX at *
  have HF3 : Hid (Fr [] w w3) := HF2.out.trans HX3.out (by simp)
  have hrun := HRUN.out w3 HF3.out
  go_wp2_with fail
  refine (HTX.out w3).mono ?_
  rintro e w4 ⟨rfl, rfl⟩
  go_wp2_with fail
  refine (HPA.out w3).mono ?_
  rintro e w4 ⟨u2, X2, v2, rfl, hlp, hf4⟩
  obtain ⟨hsr, rfl, rfl⟩ := HLP.out _ _ _ _ _ hlp
  have HX4 : Hid (Fr [] w3 w4) := hf4
  have HW4 : Hid (∀ W, Fr [] w4 W → HdSrc W u2 H) := fun W f => hsr.kept f
  obtain ⟨qo, qc, mo, mc, rfl, _⟩ := hsr
  clear hlp hf4 hrun HLP HPA
  unfold wrV
  have HWB : Hid (WrB ((w4.alloc (.cells #[.int .i64 H.v, .int .i64 H.h, .int .i64 H.s, .int .u64 (H.z : Int), .slice qo H.P.length qc, .slice mo H.N.length mc] 32)).alloc (.cells #[.int .i64 0, .string ⟨#[]⟩, .int .i64 0] 35)) (w4.heap.size + 1) 0 ⟨#[]⟩ 0) := by
    have := WrB.new (w4.alloc (.cells #[.int .i64 H.v, .int .i64 H.h, .int .i64 H.s, .int .u64 (H.z : Int), .slice qo H.P.length qc, .slice mo H.N.length mc] 32)) 0 ⟨#[]⟩ 0
    rwa [World.size_alloc] at this
  have HX5 : Hid (Fr [] w4 ((w4.alloc (.cells #[.int .i64 H.v, .int .i64 H.h, .int .i64 H.s, .int .u64 (H.z : Int), .slice qo H.P.length qc, .slice mo H.N.length mc] 32)).alloc (.cells #[.int .i64 0, .string ⟨#[]⟩, .int .i64 0] 35))) := ((Fr.refl [] _).alloc _).alloc _
  have HWT : Hid (Six' 32 ((w4.alloc (.cells #[.int .i64 H.v, .int .i64 H.h, .int .i64 H.s, .int .u64 (H.z : Int), .slice qo H.P.length qc, .slice mo H.N.length mc] 32)).alloc (.cells #[.int .i64 0, .string ⟨#[]⟩, .int .i64 0] 35)) w4.heap.size #[.int .i64 H.v, .int .i64 H.h, .int .i64 H.s, .int .u64 (H.z : Int), .slice qo H.P.length qc, .slice mo H.N.length mc]) := by
    unfold Six'
    rw [Hid, Below.heap_alloc _ _ _ (by simp)]
    exact heap_alloc_new _ _
  go_upto_region 8 with fail
  generalize ((w4.alloc (.cells #[.int .i64 H.v, .int .i64 H.h, .int .i64 H.s, .int .u64 (H.z : Int), .slice qo H.P.length qc, .slice mo H.N.length mc] 32)).alloc (.cells #[.int .i64 0, .string ⟨#[]⟩, .int .i64 0] 35)) = w5 at *
  generalize w4.heap.size + 1 = WB at *
  generalize w4.heap.size = WT at *
  have HX35 : Hid (Fr [] w3 w5) := HX4.out.trans HX5.out (by simp)
  have HF5 : Hid (Fr [] w w5) := HF3.out.trans HX35.out (by simp)
  have c0 : w5.cell? ⟨WB, 0, none⟩ = some (.int .i64 0) := by rw [cell_at HWB.out]; rfl
  have L0 : ∀ W, Fr [] w5 W → W.cell? ⟨XX, 0, none⟩ = some (.int .i64 H.v) := fun W f => (HX35.out.trans f (by simp)).cell_some (HX.out.cell 0 rfl) List.not_mem_nil
  have L1 : ∀ W, Fr [] w5 W → W.cell? ⟨XX, 1, none⟩ = some (.int .i64 H.h) := fun W f => (HX35.out.trans f (by simp)).cell_some (HX.out.cell 1 rfl) List.not_mem_nil
  have L2 : ∀ W, Fr [] w5 W → W.cell? ⟨XX, 2, none⟩ = some (.int .i64 H.s) := fun W f => (HX35.out.trans f (by simp)).cell_some (HX.out.cell 2 rfl) List.not_mem_nil
  have L3 : ∀ W, Fr [] w5 W → W.cell? ⟨XX, 3, none⟩ = some (.int .u64 (H.z : Int)) := fun W f => (HX35.out.trans f (by simp)).cell_some (HX.out.cell 3 rfl) List.not_mem_nil
  have L4 : ∀ W, Fr [] w5 W → W.cell? ⟨XX, 4, none⟩ = some (.slice po H.P.length pc) := fun W f => (HX35.out.trans f (by simp)).cell_some (HX.out.cell 4 rfl) List.not_mem_nil
  have L5 : ∀ W, Fr [] w5 W → W.cell? ⟨XX, 5, none⟩ = some (.slice no H.N.length nc) := fun W f => (HX35.out.trans f (by simp)).cell_some (HX.out.cell 5 rfl) List.not_mem_nil
  have M0 : ∀ W, Fr [] w5 W → W.cell? ⟨WT, 0, none⟩ = some (.int .i64 H.v) := fun W f => f.cell_some (HWT.out.cell 0 rfl) List.not_mem_nil
  have M1 : ∀ W, Fr [] w5 W → W.cell? ⟨WT, 1, none⟩ = some (.int .i64 H.h) := fun W f => f.cell_some (HWT.out.cell 1 rfl) List.not_mem_nil
  have M2 : ∀ W, Fr [] w5 W → W.cell? ⟨WT, 2, none⟩ = some (.int .i64 H.s) := fun W f => f.cell_some (HWT.out.cell 2 rfl) List.not_mem_nil
  have M3 : ∀ W, Fr [] w5 W → W.cell? ⟨WT, 3, none⟩ = some (.int .u64 (H.z : Int)) := fun W f => f.cell_some (HWT.out.cell 3 rfl) List.not_mem_nil
  have M4 : ∀ W, Fr [] w5 W → W.cell? ⟨WT, 4, none⟩ = some (.slice qo H.P.length qc) := fun W f => f.cell_some (HWT.out.cell 4 rfl) List.not_mem_nil
  have M5 : ∀ W, Fr [] w5 W → W.cell? ⟨WT, 5, none⟩ = some (.slice mo H.N.length mc) := fun W f => f.cell_some (HWT.out.cell 5 rfl) List.not_mem_nil
  have HR5 : Hid (Rd w5 q hq R U n false) := (HR2.out.kept HX3.out (by simp) (by simp)).kept HX35.out (by simp) (by simp)
  have hbl := HBB.out
  obtain ⟨a1, a2, a3, a4, a5, a6, a7, a8, a9⟩ := hce_zero hbl.2
  have hPl := sce_len a8
  have hNl := sce_len a9
  have HP1 : Hid (∀ wx, Fr [] w5 wx → Calls Tryz.prog 10 #[.agg #[.int .i64 H.v, .int .i64 H.h, .int .i64 H.s, .int .u64 (H.z : Int), .slice po H.P.length pc, .slice no H.N.length nc]] wx fun e w' => ∃ u, e = .returned u ∧ HdSrc w' u H ∧ Fr [] w5 w') := by
    intro wx hx
    refine (ref14_any _ H wx (HO2.out _ ((HX3.out.trans HX35.out (by simp)).trans hx (by simp))) ⟨hPl, hNl⟩).mono ?_
    rintro e w' ⟨u, rfl, hu, h⟩
    exact ⟨u, rfl, hu, hx.trans h (by simp)⟩
  have HP2 : Hid (∀ wx u, Fr [] w5 wx → HdSrc wx u H → Calls Tryz.prog 9 #[u, .agg #[.int .i64 H.v, .int .i64 H.h, .int .i64 H.s, .int .u64 (H.z : Int), .slice qo H.P.length qc, .slice mo H.N.length mc]] wx fun e w' => e = .returned (.bool true) ∧ Fr [] w5 w') := by
    intro wx u hx hu
    refine (one14_any _ _ H H wx hu (HW4.out _ (HX5.out.trans hx (by simp)))).mono ?_
    rintro e w' ⟨rfl, h⟩
    exact ⟨by rw [hdq_self], hx.trans h (by simp)⟩
  have HP3 : Hid (∀ wx, Fr [] w5 wx → Calls Tryz.prog 25 #[.pointer (some ⟨q, 0, none⟩)] wx fun e w' => e = .returned (.int .i64 ((n - U : Nat) : Int)) ∧ Fr [] w5 w') := by
    intro wx hx
    refine (left_any wx q hq R U n false (HR5.out.kept hx (by simp) (by simp)) (by rw [HTL.out]; have := HNN.out; omega)).mono ?_
    rintro e w' ⟨rfl, h⟩
    exact ⟨rfl, hx.trans h (by simp)⟩
  have HP4 : Hid (∀ wx, Fr [] w5 wx → Calls Tryz.prog 7 #[] wx fun e w' => e = .returned (.bool true) ∧ Fr [] w5 w') := by
    intro wx hx
    have hwx := HF5.out.trans hx (by simp)
    refine (awake14_any noSa wx (HEN.out _ hwx).1 (HEN.out _ hwx).2 (by have := HGL.out; have := hwx.size; omega)).mono ?_
    rintro e w' ⟨rfl, h⟩
    exact ⟨rfl, hx.trans h (by simp)⟩
  have hsz : (txt (R.drop U)).size = n - U := by rw [txt_size, List.length_drop, HTL.out]
  clear hbl a1 a2 a3 a4 a5 a6 a7 a8 a9 hPl hNl d1 d2 d3 hlen hn
  generalize txt (R.drop U) = TX at *
  generalize n - U = NU at *
  have F0 : Fr [] w5 w5.drew := (Fr.refl _ _).drew
  go_wp2_with fail
  go_region_held3 (fun w' => w'.cell? ⟨XX, 0, none⟩ = some (.int .i64 H.v) ∧ w'.cell? ⟨XX, 1, none⟩ = some (.int .i64 H.h) ∧ w'.cell? ⟨XX, 2, none⟩ = some (.int .i64 H.s) ∧ w'.cell? ⟨XX, 3, none⟩ = some (.int .u64 (H.z : Int)) ∧ w'.cell? ⟨XX, 4, none⟩ = some (.slice po H.P.length pc) ∧ w'.cell? ⟨XX, 5, none⟩ = some (.slice no H.N.length nc) ∧ w'.cell? ⟨WT, 0, none⟩ = some (.int .i64 H.v) ∧ w'.cell? ⟨WT, 1, none⟩ = some (.int .i64 H.h) ∧ w'.cell? ⟨WT, 2, none⟩ = some (.int .i64 H.s) ∧ w'.cell? ⟨WT, 3, none⟩ = some (.int .u64 (H.z : Int)) ∧ w'.cell? ⟨WT, 4, none⟩ = some (.slice qo H.P.length qc) ∧ w'.cell? ⟨WT, 5, none⟩ = some (.slice mo H.N.length mc)) (go_keep) (first
    | (go_at_call 10; with_reducible refine (HP1.out _ F0).mono ?_; rintro e wa ⟨ua, rfl, hua, hfa⟩)
    | (go_at_call 9; with_reducible refine (HP2.out _ _ hfa hua).mono ?_; rintro e wb ⟨rfl, hfb⟩)
    | (go_at_call 25; with_reducible refine (HP3.out _ hfb).mono ?_; rintro e wc ⟨rfl, hfc⟩)
    | (go_at_call 7; with_reducible refine (HP4.out _ hfc).mono ?_; rintro e wd ⟨rfl, hfd⟩))
  all_goals (go_wp2)
  all_goals (go_ret)
  all_goals exact ⟨by first | rfl | trivial, HF5.out.trans hfd (by simp)⟩

theorem hreads_walk (a0 : Option Addr) (len0 cap0 : Nat) (z0 : List Int) (a1 : Int) (w : World) (hL : LaidW w) (w0 : IsRow .u8 w a0 len0 cap0 z0) (w1 : (Lit.int .i64 a1).wf = true) :
    Calls Tryz.prog 5 #[.slice a0 len0 cap0, .int .i64 a1] w fun e w' => e = .returned (.bool true) ∧ Fr [] w w' := by
  obtain ⟨bs, hbl, hsrc⟩ := w0.src
  subst hbl
  by_cases hbad : 150 < bs.length ∨ a1 < 0 ∨ 8 * (bs.length : Int) < a1
  · refine hreads_bad a0 bs.length cap0 a1 w hL hbad ?_
    obtain ⟨ao, cap, e, h1, h2, _⟩ := hsrc
    omega
  · obtain ⟨n, rfl⟩ := Int.eq_ofNat_of_zero_le (show 0 ≤ a1 by omega)
    exact hreads_good a0 cap0 bs n w hL hsrc (by omega) (by omega)
end Go.Proofs.YtkphonepblkcdaaGreatDoor
