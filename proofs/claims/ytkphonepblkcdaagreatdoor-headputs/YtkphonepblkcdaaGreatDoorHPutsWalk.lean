/-
  The walk of tidepolelaw14.HeadPuts: it returns true, whatever it is given, and writes nothing that was there.
-/
import Derived.Test.YtkphonepblkcdaaGreatDoorHChecksWalk14
import Derived.Test.YtkphonepblkcdaaGreatDoorRef14B
import Derived.Test.YtkphonepblkcdaaGreatDoorRBit
namespace Go.Proofs.YtkphonepblkcdaaGreatDoor
open Go.RowKit Mem Spans Bits Groups Thrs
set_option linter.unusedSimpArgs false
set_option linter.unusedVariables false
set_option maxRecDepth 100000

theorem rep_succ (k : Nat) : List.replicate k true ++ [true] = List.replicate (k + 1) true := List.replicate_succ'.symm

set_option maxHeartbeats 8000000 in
theorem hputs_walk (x : Value) (a : Hd) (n0 : Int) (w : World) (hL : LaidW w) (ha : HdSrc w x a) (hn0 : (Lit.int .i64 n0).wf = true) :
    Calls Tryz.prog 4 #[x, .int .i64 n0] w fun e w' => e = .returned (.bool true) ∧ Fr [] w w' := by
  have HSA : Hid (∀ W, Fr [] w W → HdSrc W x a) := fun W f => ha.kept f
  have HAW : Hid (∀ wx, Fr [] w wx → Calls Tryz.prog 7 #[] wx fun e w' => e = .returned (.bool true) ∧ Fr [] w w') := hL.aw
  have HEN : Hid (∀ W, Fr [] w W → Env noSa W ∧ Tab W) := fun W f => ⟨hL.env.kept0 f, hL.2.1.kept f (by simp)⟩
  have HGL : Hid (2 ≤ w.heap.size ∧ 0 < w.heap.size) := ⟨hL.2.2, hL.2.1.lt⟩
  obtain ⟨po, pc, no, nc, rfl, _, hp1, hn1⟩ := ha
  have HS1 : Hid (∀ W, Fr [] w W → SSrc W (.slice po a.P.length pc) a.P) := fun W f => hp1.kept f
  have HS2 : Hid (∀ W, Fr [] w W → SSrc W (.slice no a.N.length nc) a.N) := fun W f => hn1.kept f
  clear hp1 hn1 hL hn0
  go_enter Tryz.func4, Tryz.ntmps4
  have HC0 : Hid (Six (w.alloc (.cells #[.int .i64 a.v, .int .i64 a.h, .int .i64 a.s, .int .u64 (a.z : Int), .slice po a.P.length pc, .slice no a.N.length nc] 25)) w.heap.size #[.int .i64 a.v, .int .i64 a.h, .int .i64 a.s, .int .u64 (a.z : Int), .slice po a.P.length pc, .slice no a.N.length nc]) := Six.new _ _
  have HF0 : Hid (Fr [] w (w.alloc (.cells #[.int .i64 a.v, .int .i64 a.h, .int .i64 a.s, .int .u64 (a.z : Int), .slice po a.P.length pc, .slice no a.N.length nc] 25))) := (Fr.refl _ _).alloc _
  go_upto_region 1 with fail
  generalize (w.alloc (.cells #[.int .i64 a.v, .int .i64 a.h, .int .i64 a.s, .int .u64 (a.z : Int), .slice po a.P.length pc, .slice no a.N.length nc] 25)) = w0 at *
  have HSL : Hid (w.heap.size < w0.heap.size) := HC0.out.lt
  go_wp2_with fail
  refine (newWriter_ok _ [] 0 w0 (Src.nil w0) (by decide) (by decide)).mono ?_
  rintro e w1 ⟨p, g, rfl, hw1, hp, hg, hf1⟩
  have HW1 : Hid (Wr w1 p g []) := hw1
  have HF1 : Hid (Fr [] w w1) := HF0.out.trans hf1 (by simp)
  have HC1 : Hid (Six w1 w.heap.size #[.int .i64 a.v, .int .i64 a.h, .int .i64 a.s, .int .u64 (a.z : Int), .slice po a.P.length pc, .slice no a.N.length nc]) := HC0.out.kept hf1 (by simp)
  have HPG : Hid (w.heap.size < p ∧ w.heap.size < g ∧ p < w1.heap.size ∧ g < w1.heap.size ∧ w.heap.size ≤ w1.heap.size) := by
    have h1 := HSL.out; have h2 := hw1.lt; have h3 := HF1.out.size
    rw [Hid]; omega
  clear hw1 hp hg hf1 HC0 HF0 HSL
  have HKB : Hid (w.heap.size ∉ [p, g]) := by have := HPG.out; rw [Hid]; simp; omega
  have HL : Hid (∀ W, Fr [p, g] w1 W → W.cell? ⟨w.heap.size, 0, none⟩ = some (.int .i64 a.v) ∧ W.cell? ⟨w.heap.size, 1, none⟩ = some (.int .i64 a.h) ∧ W.cell? ⟨w.heap.size, 2, none⟩ = some (.int .i64 a.s) ∧ W.cell? ⟨w.heap.size, 3, none⟩ = some (.int .u64 (a.z : Int)) ∧ W.cell? ⟨w.heap.size, 4, none⟩ = some (.slice po a.P.length pc) ∧ W.cell? ⟨w.heap.size, 5, none⟩ = some (.slice no a.N.length nc)) := fun W f => ⟨f.cell_some (HC1.out.cell 0 rfl) HKB.out, f.cell_some (HC1.out.cell 1 rfl) HKB.out, f.cell_some (HC1.out.cell 2 rfl) HKB.out, f.cell_some (HC1.out.cell 3 rfl) HKB.out, f.cell_some (HC1.out.cell 4 rfl) HKB.out, f.cell_some (HC1.out.cell 5 rfl) HKB.out⟩
  by_cases hbad : n0 < 0 ∨ 20 < n0
  · rcases hbad with h | h
    all_goals
      go_wp2_with fail
      refine (HAW.out _ HF1.out).mono ?_
      rintro e w' ⟨rfl, hf⟩
      go_wp2
      go_ret
      exact ⟨rfl, hf⟩
  obtain ⟨n, rfl⟩ := Int.eq_ofNat_of_zero_le (show 0 ≤ n0 by omega)
  have hn20 : n ≤ 20 := by omega
  have d1 : decide ((n : Int) < 0) = false := decide_eq_false (by omega)
  have d2 : decide ((20 : Int) < (n : Int)) = false := decide_eq_false (by omega)
  have d3 : decide (20 < n) = false := decide_eq_false (by omega)
  clear hbad
  obtain ⟨x0, x1, x2, x3, x4, x5⟩ := HL.out w1 (Fr.refl _ _)
  go_wp2_with fail
  refine (few14_any _ a.P w1 (HS1.out _ HF1.out)).mono ?_
  rintro e w2 ⟨r, rfl, hr, hf2⟩
  have HR : Hid (r = true → a.P.length ≤ 400) := hr
  have HX2 : Hid (Fr [] w1 w2) := hf2
  clear hr hf2 x0 x1 x2 x3 x4 x5
  cases r with
  | false =>
    go_wp2_with fail
    refine (HAW.out _ (HF1.out.trans HX2.out (by simp))).mono ?_
    rintro e w' ⟨rfl, hf⟩
    go_wp2
    go_ret
    exact ⟨rfl, hf⟩
  | true =>
  have HQ1 : Hid (a.P.length ≤ 400) := HR.out rfl
  clear HR
  obtain ⟨x0, x1, x2, x3, x4, x5⟩ := HL.out w2 HX2.out.nil
  go_wp2_with fail
  refine (few14_any _ a.N w2 (HS2.out _ (HF1.out.trans HX2.out (by simp)))).mono ?_
  rintro e w3 ⟨r, rfl, hr, hf3⟩
  have HR : Hid (r = true → a.N.length ≤ 400) := hr
  have HX3 : Hid (Fr [] w1 w3) := HX2.out.trans hf3 (by simp)
  clear hr hf3 x0 x1 x2 x3 x4 x5 HX2
  cases r with
  | false =>
    go_wp2_with fail
    refine (HAW.out _ (HF1.out.trans HX3.out (by simp))).mono ?_
    rintro e w' ⟨rfl, hf⟩
    go_wp2
    go_ret
    exact ⟨rfl, hf⟩
  | true =>
  have HLA : Hid (a.P.length ≤ 400 ∧ a.N.length ≤ 400) := ⟨HQ1.out, HR.out rfl⟩
  have HW3 : Hid (Wr w3 p g []) := HW1.out.kept HX3.out (by simp) (by simp)
  clear HR HQ1 HS1 HS2 HW1
  go_wp2_with fail
  go_loopw [53] (fun i wr => ∃ (k gk : Nat), k ≤ n ∧ i = .int .i64 (k : Int) ∧ Wr wr p gk (List.replicate k true) ∧ (gk = g ∨ w1.heap.size ≤ gk) ∧ Fr [p, g] w1 wr) (fun i _ => n - (intOf i).toNat)
  case atStart => exact ⟨0, g, by omega, rfl, HW3.out, .inl rfl, HX3.out.nil⟩
  case round =>
  obtain ⟨k, gk, hk, rfl, hw, hgk, hfr⟩ := hrel
  have HW : Hid (Wr wr p gk (List.replicate k true)) := hw
  have HG : Hid (gk = g ∨ w1.heap.size ≤ gk) := hgk
  have HFR : Hid (Fr [p, g] w1 wr) := hfr
  clear hw hgk hfr HW3 HX3
  by_cases hlt : k < n
  · have dk : decide ((k : Int) < (n : Int)) = true := decide_eq_true (by omega)
    go_wp2_with fail
    refine (bit_any wr p gk _ true HW.out (by simp; omega)).mono ?_
    rintro e w4 ⟨rfl, g4, hw4, hg4, hf4⟩
    rw [rep_succ] at hw4
    have HW4 : Hid (Wr w4 p g4 (List.replicate (k + 1) true)) := hw4
    have HG4 : Hid (g4 = g ∨ w1.heap.size ≤ g4) := by
      rcases hg4 with rfl | h2
      · exact HG.out
      · exact .inr (Nat.le_trans HFR.out.size h2)
    have HF4 : Hid (Fr [p, g] w1 w4) := Mem.Fr.two HFR.out hf4 HG.out
    clear hw4 hg4 hf4
    go_wp2
    go_roundw
    case rel => exact ⟨k + 1, g4, by omega, by go_num, HW4.out, HG4.out, HF4.out⟩
    case measure => simp [intOf]; omega
  have hkn : k = n := by omega
  subst hkn
  have dk : decide ((k : Int) < (k : Int)) = false := decide_eq_false (by omega)
  clear hlt hk
  have HFW : Hid (∀ W, Fr [p, g] w1 W → Fr [] w W) := fun W f => HF1.out.trans f (by have := HPG.out; simp; omega)
  obtain ⟨x0, x1, x2, x3, x4, x5⟩ := HL.out wr HFR.out
  have HRF : Hid (∀ wx, Fr [] w wx → Calls Tryz.prog 10 #[.agg #[.int .i64 a.v, .int .i64 a.h, .int .i64 a.s, .int .u64 (a.z : Int), .slice po a.P.length pc, .slice no a.N.length nc]] wx fun e w' => ∃ u, e = .returned u ∧ HdSrc w' u a ∧ Fr [] wx w') := fun wx hx => ref14_any _ a wx (HSA.out _ hx) (by have := HLA.out; omega)
  have HZ : Hid ((hce a).1 = 0 → wrH a = wrV 0 ⟨#[]⟩ 0) := fun h => by unfold wrH; rw [if_pos h]
  have HN : Hid (¬ (hce a).1 = 0 → wrH a = wrV (hce a).1 (hce a).2 0) := fun h => by unfold wrH; rw [if_neg h]
  by_cases hC : (hce a).1 = 0
  case neg =>
    go_wp2_with fail
    refine (hdPut_no noSa wr p _ a (HEN.out _ (HFW.out _ HFR.out)).1 (HSA.out _ (HFW.out _ HFR.out)) hC).mono ?_
    rintro e w4 ⟨v, rfl, hv, hf4⟩
    have HLN : Hid ((if (hce a).1 = 0 then (hbits a).length else 0 : Nat) = 0) := if_neg hC
    have HLE : Hid (∀ W, Fr [] w W → Calls Tryz.prog 18 #[.agg #[.int .i64 a.v, .int .i64 a.h, .int .i64 a.s, .int .u64 (a.z : Int), .slice po a.P.length pc, .slice no a.N.length nc]] W fun e w' => e = .returned (.int .i64 ((if (hce a).1 = 0 then (hbits a).length else 0 : Nat) : Int)) ∧ Fr [] W w') := fun W f => hdLen_any noSa W _ a (HEN.out W f).1 (HEN.out W f).2 (HSA.out W f)
    rw [HLN.out] at HLE
    have HWE : Hid (wrH a = wrV (hce a).1 (hce a).2 0) := HN.out hC
    have HNE : Hid (¬ (hce a).1 = 0) := hC
    clear HZ HN HLN hC
    generalize (hce a).1 = C at *
    generalize (hce a).2 = M at *
    have HV : Hid (IsErr w4 v C M 0) := hv
    obtain ⟨bq, rfl⟩ := hv.some HNE.out
    have HW4 : Hid (Wr w4 p gk (List.replicate k true)) := HW.out.kept hf4 (by simp) (by simp)
    have HX4 : Hid (Fr [p, g] w1 w4) := HFR.out.trans hf4 (by simp)
    clear hv hf4 x0 x1 x2 x3 x4 x5 HW HFR
    obtain ⟨x0, x1, x2, x3, x4, x5⟩ := HL.out w4 HX4.out
    go_wp2_with fail
    refine (HRF.out _ (HFW.out _ HX4.out)).mono ?_
    rintro e w5 ⟨u, rfl, hu, hf5⟩
    have HU : Hid (HdSrc w5 u a) := hu
    have HG5 : Hid (Fr [] w4 w5) := hf5
    clear hu hf5 x0 x1 x2 x3 x4 x5
    go_wp2_with fail
    refine (lcheck14_any u a w5 HU.out).mono ?_
    rintro e w6 ⟨rfl, hf6⟩
    rw [HWE.out]
    have HG6 : Hid (Fr [] w4 w6) := HG5.out.trans hf6 (by simp)
    clear hf6 HG5 HU
    unfold wrV
    have HB : Hid (WrB (w6.alloc (.cells #[.int .i64 C, .string M, .int .i64 0] 35)) w6.heap.size C M 0) := WrB.new _ _ _ _
    have HG7 : Hid (Fr [] w4 (w6.alloc (.cells #[.int .i64 C, .string M, .int .i64 0] 35))) := HG6.out.alloc _
    go_upto_region 10 with fail
    generalize w6.alloc (.cells #[.int .i64 C, .string M, .int .i64 0] 35) = w7 at *
    generalize w6.heap.size = WB at *
    have hCb : (C == 0) = false := beq_eq_false_iff_ne.2 HNE.out
    have c0 : w7.cell? ⟨WB, 0, none⟩ = some (.int .i64 C) := by rw [cell_at HB.out]; rfl
    have c1 : w7.cell? ⟨WB, 1, none⟩ = some (.string M) := by rw [cell_at HB.out]; rfl
    have c2 : w7.cell? ⟨WB, 2, none⟩ = some (.int .i64 0) := by rw [cell_at HB.out]; rfl
    have HX7 : Hid (Fr [p, g] w1 w7) := HX4.out.trans HG7.out (by simp)
    have HF7 : Hid (Fr [] w w7) := HFW.out _ HX7.out
    go_wp2_with fail
    refine (tells14_any noSa w7 _ C M 0 (HEN.out _ HF7.out).1 (by have := HGL.out; have := HF7.out.size; omega) (HV.out.kept HG7.out) HNE.out).mono ?_
    rintro e w8 ⟨rfl, hf8⟩
    have HX8 : Hid (Fr [p, g] w1 w8) := HX7.out.trans hf8 (by simp)
    have HW8 : Hid (Wr w8 p gk (List.replicate k true)) := (HW4.out.kept HG7.out (by simp) (by simp)).kept hf8 (by simp) (by simp)
    clear hf8 c0 c1 c2
    go_wp2_with fail
    refine (len_any w8 p gk _ HW8.out).mono ?_
    rintro e w9 ⟨rfl, rfl⟩
    rw [List.length_replicate]
    obtain ⟨x0, x1, x2, x3, x4, x5⟩ := HL.out w8 HX8.out
    go_wp2_with fail
    refine (HLE.out w8 (HFW.out _ HX8.out)).mono ?_
    rintro e w9 ⟨rfl, hf9⟩
    have HF9 : Hid (Fr [] w w9) := (HFW.out _ HX8.out).trans hf9 (by simp)
    clear hf9 x0 x1 x2 x3 x4 x5
    go_wp2_with fail
    refine (HAW.out _ HF9.out).mono ?_
    rintro e w10 ⟨rfl, hf⟩
    go_wp2
    go_ret
    exact ⟨rfl, hf⟩
  have HCZ : Hid ((hce a).1 = 0) := hC
  have HWE : Hid (wrH a = wrV 0 ⟨#[]⟩ 0) := HZ.out hC
  have HLQ : Hid ((if (hce a).1 = 0 then (hbits a).length else 0 : Nat) = (hbits a).length) := if_pos hC
  have HLE : Hid (∀ W, Fr [] w W → Calls Tryz.prog 18 #[.agg #[.int .i64 a.v, .int .i64 a.h, .int .i64 a.s, .int .u64 (a.z : Int), .slice po a.P.length pc, .slice no a.N.length nc]] W fun e w' => e = .returned (.int .i64 ((hbits a).length : Nat)) ∧ Fr [] W w') := by
    intro W f
    have h1 := hdLen_any noSa W _ a (HEN.out W f).1 (HEN.out W f).2 (HSA.out W f)
    rwa [HLQ.out] at h1
  have HBT : Hid (∀ W u, HdSrc W u a → Calls Tryz.prog 19 #[u] W fun e w' => e = .returned (.string (txt (hbits a))) ∧ Fr [] W w') := fun W u hu => lbits14_any u a W hu (by have := HLA.out; omega)
  have HRD : Hid (rdH (hbits a) = ⟨a, (hbits a).length, 0, nmNeg, 0⟩) := by
    have := rdH_put a [] hC
    rwa [List.append_nil] at this
  have hbl := hbits_le a
  have HBL : Hid ((hbits a).length ≤ 115600) := by have := HLA.out; rw [Hid]; omega
  clear hbl HZ HN hC HLQ
  go_wp2_with fail
  refine (hdPut_ok noSa wr p gk _ _ a (HEN.out _ (HFW.out _ HFR.out)).1 (by have := HPG.out; have := HGL.out; omega) (HEN.out _ (HFW.out _ HFR.out)).2 (by have := HPG.out; have := HGL.out; omega) (by have h1 := HPG.out; have h2 := HGL.out; have h3 := HG.out; omega) HW.out (fun W f => HSA.out W (HFW.out _ (Mem.Fr.two HFR.out f HG.out))) HCZ.out (by simp; omega)).mono ?_
  rintro e w4 ⟨rfl, g4, hw4, hg4, hf4⟩
  have HX4 : Hid (Fr [p, g] w1 w4) := Mem.Fr.two HFR.out hf4 HG.out
  obtain ⟨L, hLq⟩ : ∃ L, L = List.replicate k true ++ hbits a := ⟨_, rfl⟩
  rw [← hLq] at hw4
  have HW4 : Hid (Wr w4 p g4 L) := hw4
  have HLq : Hid (L = List.replicate k true ++ hbits a) := hLq
  have HLL : Hid (L.length = k + (hbits a).length) := by rw [Hid, hLq, List.length_append, List.length_replicate]
  have HEX : Hid (L.drop k = hbits a) := by rw [Hid, hLq]; exact List.drop_left' (by simp)
  clear hw4 hg4 hf4 hLq HW HFR HG x0 x1 x2 x3 x4 x5
  generalize hbits a = B at *
  obtain ⟨x0, x1, x2, x3, x4, x5⟩ := HL.out w4 HX4.out
  go_wp2_with fail
  refine (HRF.out _ (HFW.out _ HX4.out)).mono ?_
  rintro e w5 ⟨u, rfl, hu, hf5⟩
  have HU : Hid (HdSrc w5 u a) := hu
  have HG5 : Hid (Fr [] w4 w5) := hf5
  clear hu hf5 x0 x1 x2 x3 x4 x5
  go_wp2_with fail
  refine (lcheck14_any u a w5 HU.out).mono ?_
  rintro e w6 ⟨rfl, hf6⟩
  rw [HWE.out]
  have HG6 : Hid (Fr [] w4 w6) := HG5.out.trans hf6 (by simp)
  clear hf6 HG5 HU
  unfold wrV
  have HB : Hid (WrB (w6.alloc (.cells #[.int .i64 0, .string ⟨#[]⟩, .int .i64 0] 35)) w6.heap.size 0 ⟨#[]⟩ 0) := WrB.new _ _ _ _
  have HG7 : Hid (Fr [] w4 (w6.alloc (.cells #[.int .i64 0, .string ⟨#[]⟩, .int .i64 0] 35))) := HG6.out.alloc _
  go_upto_region 10 with fail
  generalize w6.alloc (.cells #[.int .i64 0, .string ⟨#[]⟩, .int .i64 0] 35) = w7 at *
  generalize w6.heap.size = WB at *
  have c0 : w7.cell? ⟨WB, 0, none⟩ = some (.int .i64 0) := by rw [cell_at HB.out]; rfl
  have HX7 : Hid (Fr [p, g] w1 w7) := HX4.out.trans HG7.out (by simp)
  have HW7 : Hid (Wr w7 p g4 L) := HW4.out.kept HG7.out (by simp) (by simp)
  clear HG6 HG7 HB HW4
  obtain ⟨x0, x1, x2, x3, x4, x5⟩ := HL.out w7 HX7.out
  go_wp2_with fail
  refine (HRF.out _ (HFW.out _ HX7.out)).mono ?_
  rintro e w8 ⟨u, rfl, hu, hf8⟩
  have HU : Hid (HdSrc w8 u a) := hu
  have HX8 : Hid (Fr [p, g] w1 w8) := HX7.out.trans hf8 (by simp)
  have HW8 : Hid (Wr w8 p g4 L) := HW7.out.kept hf8 (by simp) (by simp)
  clear hu hf8 x0 x1 x2 x3 x4 x5 c0
  go_wp2_with fail
  refine (HBT.out _ _ HU.out).mono ?_
  rintro e w9 ⟨rfl, hf9⟩
  have HX9 : Hid (Fr [p, g] w1 w9) := HX8.out.trans hf9 (by simp)
  have HW9 : Hid (Wr w9 p g4 L) := HW8.out.kept hf9 (by simp) (by simp)
  clear hf9 HU
  have hszB : (txt B).size = B.length := txt_size B
  have hszL : (txt L).size = L.length := txt_size L
  have hLl := HLL.out
  have hBl := HBL.out
  have hLi : (L.length : Int) = (k : Int) + (B.length : Int) := by omega
  have HLI : Hid ((L.length : Int) = (k : Int) + (B.length : Int)) := hLi
  have hwsum : wrap64 ((k : Int) + (B.length : Int)) = (L.length : Int) := by unfold wrap64; omega
  have hwsum2 : IntKind.i64.wrap ((k : Int) + (B.length : Int)) = (L.length : Int) := by rw [IntKind.wrap_i64]; omega
  clear hLi hLl hBl
  go_wp2_with fail
  refine (len_any w9 p g4 L HW9.out).mono ?_
  rintro e w10 ⟨rfl, rfl⟩
  obtain ⟨x0, x1, x2, x3, x4, x5⟩ := HL.out w9 HX9.out
  go_wp2_with fail
  refine (HLE.out w9 (HFW.out _ HX9.out)).mono ?_
  rintro e w10 ⟨rfl, hf10⟩
  have HX10 : Hid (Fr [p, g] w1 w10) := HX9.out.trans hf10 (by simp)
  have HW10 : Hid (Wr w10 p g4 L) := HW9.out.kept hf10 (by simp) (by simp)
  clear hf10 x0 x1 x2 x3 x4 x5
  have hkL : (k : Int) ≤ (L.length : Int) := by have := HLL.out; omega
  have hkL2 : k ≤ L.length := by have := HLL.out; omega
  have hex : (txt L).extract k L.length = txt B := by have h1 := txtH_drop L k; rw [txt_size] at h1; rw [h1, HEX.out]
  have hLm : L.length ≤ 200000 := by have := HLL.out; have := HBL.out; omega
  have HLM : Hid (L.length ≤ 200000) := hLm
  go_wp2_with fail
  refine (lbits_any w10 p g4 L HW10.out (by have := HLM.out; omega)).mono ?_
  rintro e w11 ⟨rfl, hf11⟩
  have HX11 : Hid (Fr [p, g] w1 w11) := HX10.out.trans hf11 (by simp)
  have HW11 : Hid (Wr w11 p g4 L) := HW10.out.kept hf11 (by simp) (by simp)
  clear hf11
  go_wp2_with fail
  refine (lbits_any w11 p g4 L HW11.out (by have := HLM.out; omega)).mono ?_
  rintro e w12 ⟨rfl, hf12⟩
  have HX12 : Hid (Fr [p, g] w1 w12) := HX11.out.trans hf12 (by simp)
  have HW12 : Hid (Wr w12 p g4 L) := HW11.out.kept hf12 (by simp) (by simp)
  clear hf12
  go_wp2_with fail
  refine (bytes_any w12 p g4 L HW12.out (by have := HLM.out; omega)).mono ?_
  rintro e w13 ⟨g13, rfl, hg13, hz13, hf13⟩
  have HX13 : Hid (Fr [p, g] w1 w13) := HX12.out.trans hf13 (by simp)
  have HW13 : Hid (Wr w13 p g4 L) := HW12.out.kept hf13 (by simp) (by simp)
  have HSR : Hid (Src w13 (.slice (some ⟨g13, 0, none⟩) (nbs L.length) (nbs L.length)) (pack L)) := Wr.src (Row.made hg13 (by have := HLM.out; unfold maxLen nbs; omega) (by simp))
  clear hg13 hz13 hf13 hwsum hwsum2 hkL hkL2 hex hszB hszL hLm
  go_wp2_with fail
  refine (len_any w13 p g4 L HW13.out).mono ?_
  rintro e w14 ⟨rfl, rfl⟩
  go_wp2_with fail
  refine (newReader_ok _ (pack L) L.length w13 HSR.out (by simp) (by have := HLM.out; omega)).mono ?_
  rintro e w14 ⟨q, hq, rfl, hr14, hqz, hhz, hf14⟩
  rw [unpack_pack] at hr14
  have HR14 : Hid (Rd w14 q hq L 0 L.length false) := hr14
  have HF13 : Hid (Fr [] w w13) := HFW.out _ HX13.out
  have HC13 : Hid (Six w13 w.heap.size #[.int .i64 a.v, .int .i64 a.h, .int .i64 a.s, .int .u64 (a.z : Int), .slice po a.P.length pc, .slice no a.N.length nc]) := HC1.out.kept HX13.out HKB.out
  have HY14 : Hid (Fr [] w13 w14) := hf14
  have HQZ : Hid (w13.heap.size ≤ q ∧ w.heap.size ≤ w13.heap.size) := ⟨hqz, HF13.out.size⟩
  have HK : Hid (∀ W, Fr [] w13 W → W.cell? ⟨w.heap.size, 0, none⟩ = some (.int .i64 a.v) ∧ W.cell? ⟨w.heap.size, 1, none⟩ = some (.int .i64 a.h) ∧ W.cell? ⟨w.heap.size, 2, none⟩ = some (.int .i64 a.s) ∧ W.cell? ⟨w.heap.size, 3, none⟩ = some (.int .u64 (a.z : Int)) ∧ W.cell? ⟨w.heap.size, 4, none⟩ = some (.slice po a.P.length pc) ∧ W.cell? ⟨w.heap.size, 5, none⟩ = some (.slice no a.N.length nc)) := fun W f => ⟨f.cell_some (HC13.out.cell 0 rfl) List.not_mem_nil, f.cell_some (HC13.out.cell 1 rfl) List.not_mem_nil, f.cell_some (HC13.out.cell 2 rfl) List.not_mem_nil, f.cell_some (HC13.out.cell 3 rfl) List.not_mem_nil, f.cell_some (HC13.out.cell 4 rfl) List.not_mem_nil, f.cell_some (HC13.out.cell 5 rfl) List.not_mem_nil⟩
  clear hr14 hqz hhz hf14 HSR HW13 HL HC1 HX13 HX12 HX11 HX10 HX9 HX8 HX7 HX4
  go_wp2_with fail
  go_loopw [142] (fun i wr => ∃ (j : Nat), j ≤ k ∧ i = .int .i64 (j : Int) ∧ Rd wr q hq L j L.length false ∧ Fr [] w13 wr) (fun i _ => k - (intOf i).toNat)
  case atStart => exact ⟨0, by omega, rfl, HR14.out, HY14.out⟩
  case round =>
  obtain ⟨j, hj, rfl, hr, hf⟩ := hrel
  have HR : Hid (Rd wr q hq L j L.length false) := hr
  have HY : Hid (Fr [] w13 wr) := hf
  clear hr hf HR14 HY14
  by_cases hlt : j < k
  · have dj : decide ((j : Int) < (k : Int)) = true := decide_eq_true (by omega)
    go_wp2_with fail
    refine (rbit_ok wr q hq L j L.length false HR.out (by have := HLM.out; omega) (by have := HLL.out; omega)).mono ?_
    rintro e w15 ⟨rfl, hr, hf⟩
    have HR2 : Hid (Rd w15 q hq L (j + 1) L.length false) := hr
    have HY2 : Hid (Fr [] w13 w15) := HY.out.trans hf (by have := HQZ.out; simp; omega)
    clear hr hf
    go_wp2
    go_roundw
    case rel => exact ⟨j + 1, by omega, by go_num, HR2.out, HY2.out⟩
    case measure => simp [intOf]; omega
  have hjk : j = k := by omega
  subst hjk
  have dj : decide ((j : Int) < (j : Int)) = false := decide_eq_false (by omega)
  clear hlt hj dk
  have HFF : Hid (∀ W, Fr [] w13 W → Fr [] w W) := fun W f => HF13.out.trans f (by simp)
  have HRS : Hid (rest L j L.length = B) := by
    have h1 : rest L j L.length = L.drop j := by unfold rest; rw [List.take_length]
    rw [Hid, h1, HEX.out]
  go_wp2_with fail
  refine (hdGet_any noSa wr q hq L j L.length false (HEN.out _ (HFF.out _ HY.out)).1 (by have := HQZ.out; have := HGL.out; omega) (HEN.out _ (HFF.out _ HY.out)).2 (by have := HQZ.out; have := HGL.out; omega) HR.out (by have := HLM.out; omega)).mono ?_
  rintro e w15 ⟨u, v, rfl, hgt⟩
  rw [HRS.out, HRD.out] at hgt
  obtain ⟨hv, _, ho, hf15⟩ := hgt
  obtain rfl := hv.nil
  obtain ⟨⟨po2, pc2, no2, nc2, rfl, hin, ho1, ho2, ho3, ho4⟩, hrd⟩ := ho rfl
  have HR15 : Hid (Rd w15 q hq L L.length L.length false) := by
    have h1 : j + B.length = L.length := HLL.out.symm
    simp only [h1] at hrd
    exact hrd
  have HY15 : Hid (Fr [] w13 w15) := HY.out.trans hf15 (by have := HQZ.out; simp; omega)
  simp only
  have HO15 : Hid (∀ W, Fr [] w15 W → HdSrc W (.agg #[.int .i64 a.v, .int .i64 a.h, .int .i64 a.s, .int .u64 (a.z : Int), .slice po2 a.P.length pc2, .slice no2 a.N.length nc2]) a) := fun W f => ⟨po2, pc2, no2, nc2, rfl, hin, (ho1.src ho3).kept f, (ho2.src ho4).kept f⟩
  clear hv ho hf15 hin ho1 ho2 ho3 ho4 hrd HR HY
  have HXB : Hid (Six (w15.alloc (.cells #[.int .i64 a.v, .int .i64 a.h, .int .i64 a.s, .int .u64 (a.z : Int), .slice po2 a.P.length pc2, .slice no2 a.N.length nc2] 25)) w15.heap.size #[.int .i64 a.v, .int .i64 a.h, .int .i64 a.s, .int .u64 (a.z : Int), .slice po2 a.P.length pc2, .slice no2 a.N.length nc2]) := Six.new _ _
  have HX16 : Hid (Fr [] w15 (w15.alloc (.cells #[.int .i64 a.v, .int .i64 a.h, .int .i64 a.s, .int .u64 (a.z : Int), .slice po2 a.P.length pc2, .slice no2 a.N.length nc2] 25))) := (Fr.refl [] _).alloc _
  go_upto_region 23 with fail
  generalize w15.alloc _ = w16 at *
  generalize w15.heap.size = XX at *
  have HY16 : Hid (Fr [] w13 w16) := HY15.out.trans HX16.out (by simp)
  have e0 : w16.cell? ⟨XX, 0, none⟩ = some (.int .i64 a.v) := HXB.out.cell 0 rfl
  have e1 : w16.cell? ⟨XX, 1, none⟩ = some (.int .i64 a.h) := HXB.out.cell 1 rfl
  have e2 : w16.cell? ⟨XX, 2, none⟩ = some (.int .i64 a.s) := HXB.out.cell 2 rfl
  have e3 : w16.cell? ⟨XX, 3, none⟩ = some (.int .u64 (a.z : Int)) := HXB.out.cell 3 rfl
  have e4 : w16.cell? ⟨XX, 4, none⟩ = some (.slice po2 a.P.length pc2) := HXB.out.cell 4 rfl
  have e5 : w16.cell? ⟨XX, 5, none⟩ = some (.slice no2 a.N.length nc2) := HXB.out.cell 5 rfl
  obtain ⟨x0, x1, x2, x3, x4, x5⟩ := HK.out w16 HY16.out
  go_wp2_with fail
  refine (hdEqual_any _ _ a a w16 (HO15.out w16 HX16.out) (HSA.out w16 (HFF.out _ HY16.out))).mono ?_
  rintro e w17 ⟨rfl, hf17⟩
  rw [hdq_self]
  have HY17 : Hid (Fr [] w13 w17) := HY16.out.trans hf17 (by simp)
  have HR17 : Hid (Rd w17 q hq L L.length L.length false) := (HR15.out.kept HX16.out (by simp) (by simp)).kept hf17 (by simp) (by simp)
  clear hf17 x0 x1 x2 x3 x4 x5 e0 e1 e2 e3 e4 e5
  go_wp2_with fail
  refine (left_any w17 q hq L L.length L.length false HR17.out (by have := HLM.out; omega)).mono ?_
  rintro e w18 ⟨rfl, hf18⟩
  rw [Nat.sub_self]
  have HF18 : Hid (Fr [] w w18) := HFF.out _ (HY17.out.trans hf18 (by simp))
  clear hf18
  go_wp2_with fail
  refine (HAW.out _ HF18.out).mono ?_
  rintro e w19 ⟨rfl, hf⟩
  go_wp2
  go_ret
  exact ⟨rfl, hf⟩
end Go.Proofs.YtkphonepblkcdaaGreatDoor
