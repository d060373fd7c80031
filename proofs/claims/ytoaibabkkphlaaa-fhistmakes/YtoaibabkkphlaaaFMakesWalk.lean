/-
  FhistMakes: the walk.
-/
import Derived.Test.YtoaibabkkphlaaaGG
import Derived.Test.YtoaibabkkphlaaaGM
import Derived.Test.YtoaibabkkphlaaaGJ
import Derived.Test.YtoaibabkkphlaaaGB
namespace Go.Proofs.Ytoaibabkkphlaaa
open Go.RowKit Mem Spans
set_option linter.unusedSimpArgs false
set_option linter.unusedVariables false
set_option maxRecDepth 100000

theorem fpe_small {l : List Sp} (hl : l.length ≤ 300) : fpe l = (if risesB (-1048576) (fsts l) = true then 0 else 11) := by
  unfold fpe
  by_cases h : risesB (-1048576) (fsts l) = true
  · rw [if_pos h]
    refine frm_zero.2 ⟨(risesB_iff _ _).1 h, by rw [fsts_length]; omega, ?_⟩
    rw [rns_runs]
    have := rn_le_length none (fsts l)
    rw [fsts_length] at this
    omega
  · rw [if_neg h]
    unfold frm
    rw [if_neg h]
open Classical in
theorem rising10_any (v : Value) (zs : List Int) (w : World) (h : ISrc w v zs) :
    Calls Try.prog 24 #[v] w fun e w' => e = .returned (.bool (risesB (-1048576) zs)) ∧ Fr [] w w' := by
  refine (rising_any v zs w h).mono ?_
  rintro e w' ⟨rfl, hf⟩
  refine ⟨?_, hf⟩
  congr 2
  by_cases k : rises (-1048576) zs
  · rw [decide_eq_true k, (risesB_iff _ _).2 k]
  · rw [decide_eq_false k]
    symm
    rw [Bool.eq_false_iff]
    exact fun e => k ((risesB_iff _ _).1 e)
theorem rgts_app (a b : List Int) : rgts (a ++ b) = (rgts a && rgts b) := by unfold rgts; rw [List.all_append]
/-- What the document asks of Make, of few pairs. -/
theorem mfe_small {h : Fs} {p n : List Sp} (hp : p.length ≤ 300) (hn : n.length ≤ 300) :
    mfe h p n = if risesB (-1048576) (fsts p) = true ∧ risesB (-1048576) (fsts n) = true then (if fde h.s h.z h.zc h.c = 0 then (if rgts (snds p ++ snds n) = true then 0 else 22) else fde h.s h.z h.zc h.c) else 11 := by
  rw [mfe_mfa]
  unfold mfa
  rw [fpe_small hp, fpe_small hn, rgts_app]
  by_cases h1 : risesB (-1048576) (fsts p) = true
  · rw [if_pos h1, if_pos rfl]
    by_cases h2 : risesB (-1048576) (fsts n) = true
    · have hb : risesB (-1048576) (fsts p) = true ∧ risesB (-1048576) (fsts n) = true := ⟨h1, h2⟩
      rw [if_pos h2, if_pos rfl, if_pos hb]
      by_cases h3 : fde h.s h.z h.zc h.c = 0
      · rw [if_pos h3, if_pos h3]
        cases rgts (snds p) <;> cases rgts (snds n) <;> rfl
      · rw [if_neg h3, if_neg h3]
    · rw [if_neg h2, if_neg (by decide), if_neg (fun k => h2 k.2)]
  · rw [if_neg h1, if_neg (by decide), if_neg (fun k => h1 k.1)]
theorem made_ok {h : Fs} {p n : List Sp} (k : mfe h p n = 0) : mfh h p n = mkf h p n ∧ fce (mkf h p n) = 0 ∧ cnn (mkf h p n).P = true ∧ cnn (mkf h p n).N = true ∧ (chk (mkf h p n).P = 0 ∧ pls (mkf h p n).P = fsts p) ∧ (chk (mkf h p n).N = 0 ∧ pls (mkf h p n).N = fsts n) ∧ (mkf h p n).pd = snds p ∧ (mkf h p n).nd = snds n := by
  have m := mkf_sd k
  have kz := fce_zero.1 m.1
  have e : fpe p = 0 ∧ fpe n = 0 := by
    have kk := k
    rw [mfe_mfa] at kk
    unfold mfa at kk
    by_cases h1 : fpe p = 0
    · rw [if_pos h1] at kk
      by_cases h2 : fpe n = 0
      · exact ⟨h1, h2⟩
      · rw [if_neg h2] at kk; exact absurd kk h2
    · rw [if_neg h1] at kk; exact absurd kk h1
  have f1 := fp_sde e.1
  have f2 := fp_sde e.2
  refine ⟨by unfold mfh; rw [if_pos k], m.1, m.2.2.2.1, m.2.2.2.2, ⟨(fsd_zero.1 kz.2.1).1, f1.2.2.1⟩, ⟨(fsd_zero.1 kz.2.2).1, f2.2.2.1⟩, f1.2.1, f2.2.1⟩
/-- A histogram without buckets. -/
def bar (h : Fs) : Fs := ⟨h.s, h.z, h.zc, h.c, h.sm, [], [], [], []⟩
theorem bar_fce (h : Fs) : fce (bar h) = fde h.s h.z h.zc h.c := by
  unfold fce bar
  simp only
  have e : fsd [] [] = 0 := by decide
  rw [e, if_pos rfl]
  split
  · rename_i h1; exact h1.symm
  · rfl
theorem bar_src {h : Fs} (w : World) (hi : in64 h.s ∧ inu h.z ∧ inu h.zc ∧ inu h.c ∧ inu h.sm) : FSrc w (.agg #[.int .i64 h.s, .int .u64 h.z, .int .u64 h.zc, .int .u64 h.c, .int .u64 h.sm, .slice none 0 0, .slice none 0 0, .slice none 0 0, .slice none 0 0]) (bar h) :=
  ⟨_, _, _, _, rfl, hi.1, hi.2, SSrc.nil w, SSrc.nil w, USrc.nil w, USrc.nil w⟩
theorem NineG.set4 {w : World} {g : Nat} {a0 a1 a2 a3 a4 a5 a6 a7 a8 : Value} (h : NineG w g #[a0, a1, a2, a3, a4, a5, a6, a7, a8]) (x y z t : Value) :
    NineG ((((w.setCell ⟨g, 5, none⟩ x).setCell ⟨g, 6, none⟩ y).setCell ⟨g, 7, none⟩ z).setCell ⟨g, 8, none⟩ t) g #[a0, a1, a2, a3, a4, x, y, z, t] := by
  unfold NineG at h ⊢
  simp [World.setCell, Array.getElem?_modify, h]
theorem fsrc4 {w : World} {h : Fs} {s z zc c sm : Value} {a1 a2 a3 a4 : Option Addr} {n1 n2 n3 n4 c1 c2 c3 c4 : Nat} (k : FSrc w (.agg #[s, z, zc, c, sm, .slice a1 n1 c1, .slice a2 n2 c2, .slice a3 n3 c3, .slice a4 n4 c4]) h) :
    SSrc w (.slice a1 n1 c1) h.P ∧ SSrc w (.slice a2 n2 c2) h.N ∧ USrc w (.slice a3 n3 c3) h.pd ∧ USrc w (.slice a4 n4 c4) h.nd := by
  obtain ⟨_, _, _, _, hv, _, _, k1, k2, k3, k4⟩ := k
  simp only [Value.agg.injEq, Array.mk.injEq, List.cons.injEq, and_true, true_and] at hv
  obtain ⟨rfl, rfl, rfl, rfl, rfl, h1, h2, h3, h4⟩ := hv
  exact ⟨h1 ▸ k1, h2 ▸ k2, h3 ▸ k3, h4 ▸ k4⟩

set_option maxHeartbeats 16000000 in
theorem fmakes_walk (v0 : Value) (h : Fs) (a1 : Option Addr) (len1 l1 : Nat) (p : List Sp) (a2 : Option Addr) (len2 l2 : Nat) (n : List Sp) (w : World) (w0 : FSrc w v0 h) (w1 : IsPU w a1 len1 l1 p) (w2 : IsPU w a2 len2 l2 n)
    (hB : h.P.length * 16 ≤ 140737488351232 ∧ h.N.length * 16 ≤ 140737488351232) :
    Calls Try.prog 5 #[v0, .slice a1 len1 l1, .slice a2 len2 l2] w fun e w' => e = .returned (.bool true) ∧ Below w.heap.size w w' := by
  obtain ⟨rfl, hs1⟩ := w1
  obtain ⟨rfl, hs2⟩ := w2
  have HP : Hid (∀ wx, Fr [] w wx → PSrc wx (.slice a1 p.length l1) p) := fun wx hx => hs1.kept hx
  have HQ : Hid (∀ wx, Fr [] w wx → PSrc wx (.slice a2 n.length l2) n) := fun wx hx => hs2.kept hx
  have HH : Hid (∀ wx, Fr [] w wx → FSrc wx v0 h) := fun wx hx => w0.kept hx
  have HFI : Hid (fin9 h) := w0.fin
  have HPI : Hid ((∀ s ∈ p, in64 s.1 ∧ inu s.2) ∧ (∀ s ∈ n, in64 s.1 ∧ inu s.2)) := ⟨hs1.ins, hs2.ins⟩
  have HBG : Hid (h.P.length * 16 ≤ 140737488351232 ∧ h.N.length * 16 ≤ 140737488351232) := hB
  have HIN : Hid (in64 h.s ∧ inu h.z ∧ inu h.zc ∧ inu h.c ∧ inu h.sm) := by obtain ⟨_, _, _, _, _, _, _, _, _, hi, _⟩ := w0.opens; exact hi
  obtain ⟨po, pc, no, nc, qo, qc, ro, rc, rfl, -⟩ := w0.opens
  clear w0 hs1 hs2 hB
  go_enter Try.func5, Try.ntmps5
  have HN0 : Hid (NineF (w.alloc (.cells #[.int .i64 h.s, .int .u64 h.z, .int .u64 h.zc, .int .u64 h.c, .int .u64 h.sm, .slice po h.P.length pc, .slice no h.N.length nc, .slice qo h.pd.length qc, .slice ro h.nd.length rc] 26)) w.heap.size #[.int .i64 h.s, .int .u64 h.z, .int .u64 h.zc, .int .u64 h.c, .int .u64 h.sm, .slice po h.P.length pc, .slice no h.N.length nc, .slice qo h.pd.length qc, .slice ro h.nd.length rc]) := NineF.new _ _
  have HF0 : Hid (Fr [] w (w.alloc (.cells #[.int .i64 h.s, .int .u64 h.z, .int .u64 h.zc, .int .u64 h.c, .int .u64 h.sm, .slice po h.P.length pc, .slice no h.N.length nc, .slice qo h.pd.length qc, .slice ro h.nd.length rc] 26))) := (Fr.refl [] w).alloc _
  generalize hW0 : w.alloc (.cells #[.int .i64 h.s, .int .u64 h.z, .int .u64 h.zc, .int .u64 h.c, .int .u64 h.sm, .slice po h.P.length pc, .slice no h.N.length nc, .slice qo h.pd.length qc, .slice ro h.nd.length rc] 26) = wz at *
  by_cases hlp : p.length ≤ 300
  case neg =>
    go_wp2_with fail
    refine (awake10_any _).mono ?_
    rintro e wz9 ⟨rfl, hfz⟩
    have HFZ : Hid (Fr [] w wz9) := HF0.out.trans hfz (by simp)
    clear hfz
    go_wp2
    go_ret
    exact ⟨rfl, HFZ.out.below (Nat.le_refl _) (by simp)⟩
  by_cases hln : n.length ≤ 300
  case neg =>
    go_wp2_with fail
    refine (awake10_any _).mono ?_
    rintro e wz9 ⟨rfl, hfz⟩
    have HFZ : Hid (Fr [] w wz9) := HF0.out.trans hfz (by simp)
    clear hfz
    go_wp2
    go_ret
    exact ⟨rfl, HFZ.out.below (Nat.le_refl _) (by simp)⟩
  have HL : Hid (p.length ≤ 300 ∧ n.length ≤ 300) := ⟨hlp, hln⟩
  have q0 := HN0.out.cell 0 rfl
  have q1 := HN0.out.cell 1 rfl
  have q2 := HN0.out.cell 2 rfl
  have q3 := HN0.out.cell 3 rfl
  have q4 := HN0.out.cell 4 rfl
  have q5 := HN0.out.cell 5 rfl
  have q6 := HN0.out.cell 6 rfl
  have q7 := HN0.out.cell 7 rfl
  have q8 := HN0.out.cell 8 rfl
  go_wp2_with fail
  refine (fmake_any _ _ _ h p n _ (HH.out _ HF0.out) (HP.out _ HF0.out) (HQ.out _ HF0.out) (by have := HL.out.1; omega) (by have := HL.out.2; omega)).mono ?_
  rintro e w2 ⟨u, rfl, hu, hf2⟩
  have HKZ : Hid (mfe h p n = 0 → mfh h p n = mkf h p n ∧ fce (mkf h p n) = 0 ∧ cnn (mkf h p n).P = true ∧ cnn (mkf h p n).N = true ∧ (chk (mkf h p n).P = 0 ∧ pls (mkf h p n).P = fsts p) ∧ (chk (mkf h p n).N = 0 ∧ pls (mkf h p n).N = fsts n) ∧ (mkf h p n).pd = snds p ∧ (mkf h p n).nd = snds n) := made_ok
  have HKN : Hid (mfe h p n ≠ 0 → mfh h p n = fzero) := fun k => by unfold mfh; rw [if_neg k]
  have HMF : Hid (fin9 (mfh h p n)) := mfh_in _ _ _ HPI.out.1 HPI.out.2
  generalize mfh h p n = c at hu HKZ HKN HMF
  obtain ⟨ca1, cc1, ca2, cc2, ca3, cc3, ca4, cc4, rfl⟩ := hu.form
  have HNA : Hid (NineF (w2.alloc (.cells #[.int .i64 c.s, .int .u64 c.z, .int .u64 c.zc, .int .u64 c.c, .int .u64 c.sm, .slice ca1 c.P.length cc1, .slice ca2 c.N.length cc2, .slice ca3 c.pd.length cc3, .slice ca4 c.nd.length cc4] 26)) w2.heap.size #[.int .i64 c.s, .int .u64 c.z, .int .u64 c.zc, .int .u64 c.c, .int .u64 c.sm, .slice ca1 c.P.length cc1, .slice ca2 c.N.length cc2, .slice ca3 c.pd.length cc3, .slice ca4 c.nd.length cc4]) := NineF.new _ _
  have HWA : Hid (Fr [] w (w2.alloc (.cells #[.int .i64 c.s, .int .u64 c.z, .int .u64 c.zc, .int .u64 c.c, .int .u64 c.sm, .slice ca1 c.P.length cc1, .slice ca2 c.N.length cc2, .slice ca3 c.pd.length cc3, .slice ca4 c.nd.length cc4] 26)) ∧ Fr [] wz (w2.alloc (.cells #[.int .i64 c.s, .int .u64 c.z, .int .u64 c.zc, .int .u64 c.c, .int .u64 c.sm, .slice ca1 c.P.length cc1, .slice ca2 c.N.length cc2, .slice ca3 c.pd.length cc3, .slice ca4 c.nd.length cc4] 26))) := ⟨(HF0.out.trans hf2 (by simp)).alloc _, hf2.alloc _⟩
  have HCA : Hid (FSrc (w2.alloc (.cells #[.int .i64 c.s, .int .u64 c.z, .int .u64 c.zc, .int .u64 c.c, .int .u64 c.sm, .slice ca1 c.P.length cc1, .slice ca2 c.N.length cc2, .slice ca3 c.pd.length cc3, .slice ca4 c.nd.length cc4] 26)) (.agg #[.int .i64 c.s, .int .u64 c.z, .int .u64 c.zc, .int .u64 c.c, .int .u64 c.sm, .slice ca1 c.P.length cc1, .slice ca2 c.N.length cc2, .slice ca3 c.pd.length cc3, .slice ca4 c.nd.length cc4]) c) := (hu.src HMF.out).kept ((Fr.refl [] _).alloc _)
  clear hu hf2 q0 q1 q2 q3 q4 q5 q6 q7 q8
  go_upto_region 4 with fail
  generalize w2.alloc (.cells _ _) = wA at HNA HWA HCA ⊢
  generalize w2.heap.size = G3 at HNA ⊢
  have HFA : Hid (Fr [] w wA) := HWA.out.1
  have HN2 : Hid (NineF wA w.heap.size #[.int .i64 h.s, .int .u64 h.z, .int .u64 h.zc, .int .u64 h.c, .int .u64 h.sm, .slice po h.P.length pc, .slice no h.N.length nc, .slice qo h.pd.length qc, .slice ro h.nd.length rc]) := HN0.out.kept HWA.out.2 (by simp)
  clear HWA HN0 HF0
  have HAP : Hid (∀ wx, Fr [] w wx → Calls Try.prog 23 #[.slice a1 p.length l1] wx fun e w' => ∃ x xc y yc, e = .returned (.tuple #[.slice x p.length xc, .slice y p.length yc]) ∧ ISrc w' (.slice x p.length xc) (fsts p) ∧ USrc w' (.slice y p.length yc) (snds p) ∧ Fr [] wx w') := by
    intro wx hx
    refine (apart10_any _ p wx (HP.out _ hx) HL.out.1).mono ?_
    rintro e w' ⟨x, y, rfl, hx1, hy1, hf⟩
    have s1 := IOwn.src hx1 (fun z hz => by obtain ⟨s, hs, rfl⟩ := List.mem_map.1 hz; exact (HPI.out.1 s hs).1)
    have s2 := UOwn.src hy1 (fun z hz => by obtain ⟨s, hs, rfl⟩ := List.mem_map.1 hz; exact (HPI.out.1 s hs).2)
    have s3 := s1
    have s4 := s2
    obtain ⟨xo, xc, rfl, _⟩ := s3
    obtain ⟨yo, yc, rfl, _⟩ := s4
    rw [fsts_length] at s1
    rw [snds_length] at s2
    exact ⟨xo, xc, yo, yc, by rw [fsts_length, snds_length], s1, s2, hf⟩
  have HAQ : Hid (∀ wx, Fr [] w wx → Calls Try.prog 23 #[.slice a2 n.length l2] wx fun e w' => ∃ x xc y yc, e = .returned (.tuple #[.slice x n.length xc, .slice y n.length yc]) ∧ ISrc w' (.slice x n.length xc) (fsts n) ∧ USrc w' (.slice y n.length yc) (snds n) ∧ Fr [] wx w') := by
    intro wx hx
    refine (apart10_any _ n wx (HQ.out _ hx) HL.out.2).mono ?_
    rintro e w' ⟨x, y, rfl, hx1, hy1, hf⟩
    have s1 := IOwn.src hx1 (fun z hz => by obtain ⟨s, hs, rfl⟩ := List.mem_map.1 hz; exact (HPI.out.2 s hs).1)
    have s2 := UOwn.src hy1 (fun z hz => by obtain ⟨s, hs, rfl⟩ := List.mem_map.1 hz; exact (HPI.out.2 s hs).2)
    have s3 := s1
    have s4 := s2
    obtain ⟨xo, xc, rfl, _⟩ := s3
    obtain ⟨yo, yc, rfl, _⟩ := s4
    rw [fsts_length] at s1
    rw [snds_length] at s2
    exact ⟨xo, xc, yo, yc, by rw [fsts_length, snds_length], s1, s2, hf⟩
  go_wp2_with fail
  refine (HAP.out wA HFA.out).mono ?_
  rintro e w3 ⟨xo, xc, yo, yc, rfl, hx, hy, hf3⟩
  have HX3 : Hid (ISrc w3 (.slice xo p.length xc) (fsts p)) := hx
  have HY3 : Hid (USrc w3 (.slice yo p.length yc) (snds p)) := hy
  have HF3 : Hid (Fr [] wA w3) := hf3
  clear hx hy hf3
  go_wp2_with fail
  refine (HAQ.out w3 (HFA.out.trans HF3.out (by simp))).mono ?_
  rintro e w4 ⟨tq, tc, vo, vc, rfl, hx, hy, hf4⟩
  have HT4 : Hid (ISrc w4 (.slice tq n.length tc) (fsts n)) := hx
  have HV4 : Hid (USrc w4 (.slice vo n.length vc) (snds n)) := hy
  have HX4 : Hid (ISrc w4 (.slice xo p.length xc) (fsts p)) := HX3.out.kept hf4
  have HY4 : Hid (USrc w4 (.slice yo p.length yc) (snds p)) := HY3.out.kept hf4
  have HFA4 : Hid (Fr [] wA w4) := HF3.out.trans hf4 (by simp)
  have HF4 : Hid (Fr [] w w4) := HFA.out.trans HFA4.out (by simp)
  have HN4 : Hid (NineF w4 w.heap.size #[.int .i64 h.s, .int .u64 h.z, .int .u64 h.zc, .int .u64 h.c, .int .u64 h.sm, .slice po h.P.length pc, .slice no h.N.length nc, .slice qo h.pd.length qc, .slice ro h.nd.length rc]) := HN2.out.kept HFA4.out (by simp)
  have HG4 : Hid (NineF w4 G3 #[.int .i64 c.s, .int .u64 c.z, .int .u64 c.zc, .int .u64 c.c, .int .u64 c.sm, .slice ca1 c.P.length cc1, .slice ca2 c.N.length cc2, .slice ca3 c.pd.length cc3, .slice ca4 c.nd.length cc4]) := HNA.out.kept HFA4.out (by simp)
  have HC4 : Hid (FSrc w4 (.agg #[.int .i64 c.s, .int .u64 c.z, .int .u64 c.zc, .int .u64 c.c, .int .u64 c.sm, .slice ca1 c.P.length cc1, .slice ca2 c.N.length cc2, .slice ca3 c.pd.length cc3, .slice ca4 c.nd.length cc4]) c) := HCA.out.kept HFA4.out
  clear hx hy hf4 HX3 HY3 HF3 HFA4 HFA HN2 HNA HCA HAP HAQ
  have q0 := HN4.out.cell 0 rfl
  have q1 := HN4.out.cell 1 rfl
  have q2 := HN4.out.cell 2 rfl
  have q3 := HN4.out.cell 3 rfl
  have q4 := HN4.out.cell 4 rfl
  have q5 := HN4.out.cell 5 rfl
  have q6 := HN4.out.cell 6 rfl
  have q7 := HN4.out.cell 7 rfl
  have q8 := HN4.out.cell 8 rfl
  go_wp2_with fail
  refine (frefB_any _ h w4 (HH.out _ HF4.out) HBG.out).mono ?_
  rintro e w5 ⟨u5, rfl, hu5, hf5⟩
  obtain ⟨ba1, bc1, ba2, bc2, ba3, bc3, ba4, bc4, rfl, -⟩ := hu5.opens
  have HNB : Hid (NineG (w5.alloc (.cells #[.int .i64 h.s, .int .u64 h.z, .int .u64 h.zc, .int .u64 h.c, .int .u64 h.sm, .slice ba1 h.P.length bc1, .slice ba2 h.N.length bc2, .slice ba3 h.pd.length bc3, .slice ba4 h.nd.length bc4] 34)) w5.heap.size #[.int .i64 h.s, .int .u64 h.z, .int .u64 h.zc, .int .u64 h.c, .int .u64 h.sm, .slice ba1 h.P.length bc1, .slice ba2 h.N.length bc2, .slice ba3 h.pd.length bc3, .slice ba4 h.nd.length bc4]) := NineG.new _ _
  have HWB : Hid (Fr [] w4 (w5.alloc (.cells #[.int .i64 h.s, .int .u64 h.z, .int .u64 h.zc, .int .u64 h.c, .int .u64 h.sm, .slice ba1 h.P.length bc1, .slice ba2 h.N.length bc2, .slice ba3 h.pd.length bc3, .slice ba4 h.nd.length bc4] 34))) := hf5.alloc _
  have HGT : Hid (w4.heap.size ≤ w5.heap.size) := hf5.size
  clear hu5 hf5 q0 q1 q2 q3 q4 q5 q6 q7 q8
  go_upto_region 7 with fail
  have HG5 : Hid (w4.heap.size ≤ w5.heap.size) := HGT
  generalize w5.alloc (.cells _ _) = w5b at HNB HWB ⊢
  generalize w5.heap.size = G5 at HNB HG5 HGT ⊢
  have n5 := HNB.out.cell 5 rfl
  have n6 := HNB.out.cell 6 rfl
  have n7 := HNB.out.cell 7 rfl
  have n8 := HNB.out.cell 8 rfl
  have f5 := HNB.out.frozen 5
  have f6 := HNB.out.frozen 6
  have f7 := HNB.out.frozen 7
  have f8 := HNB.out.frozen 8
  have HNC : Hid (NineG ((((w5b.setCell ⟨G5, 5, none⟩ (.slice none 0 0)).setCell ⟨G5, 6, none⟩ (.slice none 0 0)).setCell ⟨G5, 7, none⟩ (.slice none 0 0)).setCell ⟨G5, 8, none⟩ (.slice none 0 0)) G5 #[.int .i64 h.s, .int .u64 h.z, .int .u64 h.zc, .int .u64 h.c, .int .u64 h.sm, .slice none 0 0, .slice none 0 0, .slice none 0 0, .slice none 0 0]) := NineG.set4 HNB.out _ _ _ _
  have HWS : Hid (Fr [G5] w5b ((((w5b.setCell ⟨G5, 5, none⟩ (.slice none 0 0)).setCell ⟨G5, 6, none⟩ (.slice none 0 0)).setCell ⟨G5, 7, none⟩ (.slice none 0 0)).setCell ⟨G5, 8, none⟩ (.slice none 0 0))) := ((((Fr.refl _ _).setCell _ _ (.inl (by simp))).setCell _ _ (.inl (by simp))).setCell _ _ (.inl (by simp))).setCell _ _ (.inl (by simp))
  have HWC : Hid (Fr [] w4 ((((w5b.setCell ⟨G5, 5, none⟩ (.slice none 0 0)).setCell ⟨G5, 6, none⟩ (.slice none 0 0)).setCell ⟨G5, 7, none⟩ (.slice none 0 0)).setCell ⟨G5, 8, none⟩ (.slice none 0 0))) := HWB.out.trans HWS.out (by have := HG5.out; simp; omega)
  clear HWS HWB HNB HGT
  go_upto_region 8 with fail
  clear n5 n6 n7 n8 f5 f6 f7 f8
  generalize ((((w5b.setCell ⟨G5, 5, none⟩ (.slice none 0 0)).setCell ⟨G5, 6, none⟩ (.slice none 0 0)).setCell ⟨G5, 7, none⟩ (.slice none 0 0)).setCell ⟨G5, 8, none⟩ (.slice none 0 0)) = w6 at HNC HWC ⊢
  have b0 := HNC.out.cell 0 rfl
  have b1 := HNC.out.cell 1 rfl
  have b2 := HNC.out.cell 2 rfl
  have b3 := HNC.out.cell 3 rfl
  have b4 := HNC.out.cell 4 rfl
  have b5 := HNC.out.cell 5 rfl
  have b6 := HNC.out.cell 6 rfl
  have b7 := HNC.out.cell 7 rfl
  have b8 := HNC.out.cell 8 rfl
  go_wp2_with fail
  refine (lcheck10_any _ (bar h) w6 (bar_src w6 HIN.out)).mono ?_
  rintro e w7 ⟨rfl, hf7⟩
  rw [bar_fce]
  have HMS0 := mfe_small (h := h) HL.out.1 HL.out.2
  generalize fde h.s h.z h.zc h.c = D at HMS0 ⊢
  have HWD : Hid (Fr [] w4 w7) := HWC.out.trans hf7 (by simp)
  have HF7 : Hid (Fr [] w w7) := HF4.out.trans HWD.out (by simp)
  have HG7 : Hid (NineF w7 G3 #[.int .i64 c.s, .int .u64 c.z, .int .u64 c.zc, .int .u64 c.c, .int .u64 c.sm, .slice ca1 c.P.length cc1, .slice ca2 c.N.length cc2, .slice ca3 c.pd.length cc3, .slice ca4 c.nd.length cc4]) := HG4.out.kept HWD.out (by simp)
  have HC7 : Hid (FSrc w7 (.agg #[.int .i64 c.s, .int .u64 c.z, .int .u64 c.zc, .int .u64 c.c, .int .u64 c.sm, .slice ca1 c.P.length cc1, .slice ca2 c.N.length cc2, .slice ca3 c.pd.length cc3, .slice ca4 c.nd.length cc4]) c) := HC4.out.kept HWD.out
  have HN7 : Hid (NineF w7 w.heap.size #[.int .i64 h.s, .int .u64 h.z, .int .u64 h.zc, .int .u64 h.c, .int .u64 h.sm, .slice po h.P.length pc, .slice no h.N.length nc, .slice qo h.pd.length qc, .slice ro h.nd.length rc]) := HN4.out.kept HWD.out (by simp)
  have HT7 : Hid (ISrc w7 (.slice tq n.length tc) (fsts n)) := HT4.out.kept HWD.out
  have HV7 : Hid (USrc w7 (.slice vo n.length vc) (snds n)) := HV4.out.kept HWD.out
  have HX7 : Hid (ISrc w7 (.slice xo p.length xc) (fsts p)) := HX4.out.kept HWD.out
  have HY7 : Hid (USrc w7 (.slice yo p.length yc) (snds p)) := HY4.out.kept HWD.out
  clear hf7 HWC HWD HNC HG4 HC4 HN4 HT4 HV4 HX4 HY4 HF4 HG5 b0 b1 b2 b3 b4 b5 b6 b7 b8
  have FL : Fr [] w7 (w7.alloc (.cells #[] 22)) := (Fr.refl _ _).alloc _
  have OL : Hid (OU w7.heap.size (w7.alloc (.cells #[] 22)) (.slice (some ⟨w7.heap.size, 0, none⟩) 0 0) []) := OU.lit w7 [] (Nat.le_refl _) (by unfold maxLen; simp)
  have hl0 : ([] : List Int).length + (snds p).length ≤ 1000000 := by have := HL.out.1; rw [snds_length]; simp; omega
  have hl1 : (snds p).length + (snds n).length ≤ 1000000 := by have := HL.out; rw [snds_length, snds_length]; omega
  obtain ⟨A, hA⟩ : ∃ A, A = snds p ++ snds n := ⟨_, rfl⟩
  have HAE : Hid (A = snds p ++ snds n) := hA
  have HMS : Hid (mfe h p n = if risesB (-1048576) (fsts p) = true ∧ risesB (-1048576) (fsts n) = true then (if D = 0 then (if rgts A = true then 0 else 22) else D) else 11) := by rw [Hid, hA]; exact HMS0
  clear HMS0
  have HLL : Hid (A.length ≤ 600) := by have := HL.out; rw [Hid, hA, List.length_append, snds_length, snds_length]; omega
  clear hA
  go_wp2_with (at_builtin; first
    | (refine wpList_append_us _ rfl _ _ rfl (B := w7.heap.size) (xs := []) (ys := snds p) FL.size rfl rfl OL.out (HY7.out.kept FL) hl0 ?_
       intro va wa hva hba
       have hfa : Fr [] w7 wa := Fr.ofBelow (((FL).below (Nat.le_refl _) (by simp)).trans hba)
       have OA : Hid (OU w7.heap.size wa va (snds p)) := hva
       clear hva hba)
    | (refine wpList_append_us _ rfl _ _ rfl (B := w7.heap.size) (xs := snds p) (ys := snds n) hfa.size rfl rfl OA.out (HV7.out.kept hfa) hl1 ?_
       intro vb wb hvb hbb
       have hfb : Fr [] w7 wb := Fr.ofBelow ((hfa.below (Nat.le_refl _) (by simp)).trans hbb)
       have OB0 : OU w7.heap.size wb vb A := by rw [HAE.out]; exact hvb
       have OB : Hid (OU w7.heap.size wb vb A) := OB0
       obtain ⟨vba, vbc, rfl⟩ := OB.out.val
       clear hvb hbb OB0))
  have HFB : Hid (Fr [] w7 wb) := hfb
  clear hfa hfb OA OL FL hl0 hl1
  have HUB : Hid (USrc wb (.slice vba A.length vbc) A) := OB.out.src (by
    intro z hz
    rw [HAE.out] at hz
    rcases List.mem_append.1 hz with h1 | h1
    · obtain ⟨s, hs, rfl⟩ := List.mem_map.1 h1; exact (HPI.out.1 s hs).2
    · obtain ⟨s, hs, rfl⟩ := List.mem_map.1 h1; exact (HPI.out.2 s hs).2)
  obtain ⟨_, _, hv, _, _, _, b, off, ha, hc⟩ := HUB.out
  simp only [Value.slice.injEq] at hv
  obtain ⟨rfl, _, rfl⟩ := hv
  have HC : Hid (∀ j s, A[j]? = some s → wb.cell? ⟨b, off + j, none⟩ = some (.int .u64 s)) := hc
  have HA : Hid (0 < A.length → vba = some ⟨b, off, none⟩) := ha
  have hml : A.length ≤ 9223372036854775807 := by have := HLL.out; omega
  clear ha hc HUB OB
  go_loopw [14, 57] (fun f i wr => ∃ (k : Nat) (W : Int), k ≤ A.length ∧ i = .int .i64 (k : Int) ∧ f = .int .i64 W ∧ W = (if D = 0 then (if rgts (A.take k) = true then 0 else 22) else D) ∧ wr = wb) (fun _ i _ => A.length - (intOf i).toNat)
  case atStart => exact ⟨0, D, by omega, rfl, rfl, by rw [List.take_zero, show rgts [] = true from rfl, if_pos rfl]; split <;> omega, rfl⟩
  case round =>
    obtain ⟨k, W, hk, rfl, rfl, hw, rfl⟩ := hrel
    have HW : Hid (W = (if D = 0 then (if rgts (A.take k) = true then 0 else 22) else D)) := hw
    clear hw
    by_cases hlt : k < A.length
    · obtain rfl := HA.out (by omega)
      obtain ⟨z, hz⟩ := at_lt hlt
      have c0 := HC.out k z hz
      have HT : Hid (rgts (A.take (k + 1)) = (rgts (A.take k) && rgt z)) := by
        rw [Hid, take_at hz, rgts_app]
        unfold rgts
        simp
      clear hz
      by_cases hW : W = 0
      · subst hW
        have HZ : Hid (D = 0 ∧ rgts (A.take k) = true) := by
          have := HW.out
          by_cases h1 : D = 0
          · rw [if_pos h1] at this
            by_cases h2 : rgts (A.take k) = true
            · exact ⟨h1, h2⟩
            · rw [if_neg h2] at this; omega
          · rw [if_neg h1] at this; exact absurd this.symm h1
        go_wp2_with fail
        refine (lright10_any z wr).mono ?_
        rintro e wq ⟨rfl, rfl⟩
        cases hr : rgt z with
        | true =>
          have HN : Hid ((0 : Int) = (if D = 0 then (if rgts (A.take (k + 1)) = true then 0 else 22) else D)) := by rw [Hid, if_pos HZ.out.1, HT.out, HZ.out.2, hr]; rfl
          clear hr
          go_wp2
          go_roundw
          case rel => exact ⟨k + 1, 0, by omega, by go_num, rfl, HN.out, by trivial⟩
          case measure => simp [intOf]; omega
        | false =>
          have HN : Hid ((22 : Int) = (if D = 0 then (if rgts (A.take (k + 1)) = true then 0 else 22) else D)) := by rw [Hid, if_pos HZ.out.1, HT.out, HZ.out.2, hr]; rfl
          clear hr
          go_wp2
          go_roundw
          case rel => exact ⟨k + 1, 22, by omega, by go_num, rfl, HN.out, by trivial⟩
          case measure => simp [intOf]; omega
      · have hb : (W == 0) = false := by simpa using hW
        have HN : Hid (W = (if D = 0 then (if rgts (A.take (k + 1)) = true then 0 else 22) else D)) := by
          have := HW.out
          rw [Hid]
          by_cases h1 : D = 0
          · rw [if_pos h1] at this ⊢
            by_cases h2 : rgts (A.take k) = true
            · rw [if_pos h2] at this; exact absurd this hW
            · rw [if_neg h2] at this
              rw [if_neg (by rw [HT.out]; intro h3; rw [Bool.and_eq_true] at h3; exact h2 h3.1)]
              exact this
          · rw [if_neg h1] at this ⊢; exact this
        go_wp2
        go_roundw
        case rel => exact ⟨k + 1, W, by omega, by go_num, rfl, HN.out, by trivial⟩
        case measure => simp [intOf]; omega
    · have HWE : Hid (W = (if D = 0 then (if rgts A = true then 0 else 22) else D)) := by
        have := HW.out
        rw [List.take_of_length_le (by omega)] at this
        exact this
      clear HW HC HA
      go_wp2_with fail
      refine (rising10_any _ (fsts p) wr (HX7.out.kept HFB.out)).mono ?_
      rintro e w8 ⟨rfl, hf8⟩
      have HF8 : Hid (Fr [] w7 w8) := HFB.out.trans hf8 (by simp)
      clear hf8
      by_cases hr1 : risesB (-1048576) (fsts p) = true
      case neg =>
        have hm : mfe h p n = 11 := by rw [HMS.out, if_neg]; exact fun k => hr1 k.1
        rw [Bool.eq_false_iff.2 hr1]
        have HF9 : Hid (Fr [] w7 w8) := HF8.out
        have HCZ : Hid (FSrc w8 (.agg #[.int .i64 c.s, .int .u64 c.z, .int .u64 c.zc, .int .u64 c.c, .int .u64 c.sm, .slice ca1 c.P.length cc1, .slice ca2 c.N.length cc2, .slice ca3 c.pd.length cc3, .slice ca4 c.nd.length cc4]) fzero) := by have e := HKN.out (by rw [hm]; decide); have := HC7.out.kept HF9.out; rw [e] at this ⊢; exact this
        have HG9 : Hid (NineF w8 G3 #[.int .i64 c.s, .int .u64 c.z, .int .u64 c.zc, .int .u64 c.c, .int .u64 c.sm, .slice ca1 c.P.length cc1, .slice ca2 c.N.length cc2, .slice ca3 c.pd.length cc3, .slice ca4 c.nd.length cc4]) := HG7.out.kept HF9.out (by simp)
        have HFW : Hid (Fr [] w w8) := HF7.out.trans HF9.out (by simp)
        rw [hm]
        have g0 := HG9.out.cell 0 rfl
        have g1 := HG9.out.cell 1 rfl
        have g2 := HG9.out.cell 2 rfl
        have g3 := HG9.out.cell 3 rfl
        have g4 := HG9.out.cell 4 rfl
        have g5 := HG9.out.cell 5 rfl
        have g6 := HG9.out.cell 6 rfl
        have g7 := HG9.out.cell 7 rfl
        have g8 := HG9.out.cell 8 rfl
        clear HKN HKZ HF9 HG9 HG7 HC7 HF7
        go_wp2_with fail
        refine (empty10_any _ w8 HCZ.out).mono ?_
        rintro e wy ⟨rfl, hfy⟩
        have HFY : Hid (Fr [] w wy) := HFW.out.trans hfy (by simp)
        clear hfy g0 g1 g2 g3 g4 g5 g6 g7 g8
        go_wp2_with fail
        refine (awake10_any wy).mono ?_
        rintro e wz9 ⟨rfl, hfz⟩
        have HFZ : Hid (Fr [] w wz9) := HFY.out.trans hfz (by simp)
        clear hfz
        go_wp2
        go_ret
        exact ⟨rfl, HFZ.out.below (Nat.le_refl _) (by simp)⟩
      have HR1 : Hid (risesB (-1048576) (fsts p) = true) := hr1
      rw [hr1]
      clear hr1
      go_wp2_with fail
      refine (rising10_any _ (fsts n) w8 (HT7.out.kept HF8.out)).mono ?_
      rintro e w9 ⟨rfl, hf9⟩
      have HR9 : Hid (Fr [] w7 w9) := HF8.out.trans hf9 (by simp)
      clear hf9 HF8
      by_cases hr2 : risesB (-1048576) (fsts n) = true
      case neg =>
        have hm : mfe h p n = 11 := by rw [HMS.out, if_neg]; exact fun k => hr2 k.2
        rw [Bool.eq_false_iff.2 hr2]
        have HF9 : Hid (Fr [] w7 w9) := HR9.out
        have HCZ : Hid (FSrc w9 (.agg #[.int .i64 c.s, .int .u64 c.z, .int .u64 c.zc, .int .u64 c.c, .int .u64 c.sm, .slice ca1 c.P.length cc1, .slice ca2 c.N.length cc2, .slice ca3 c.pd.length cc3, .slice ca4 c.nd.length cc4]) fzero) := by have e := HKN.out (by rw [hm]; decide); have := HC7.out.kept HF9.out; rw [e] at this ⊢; exact this
        have HG9 : Hid (NineF w9 G3 #[.int .i64 c.s, .int .u64 c.z, .int .u64 c.zc, .int .u64 c.c, .int .u64 c.sm, .slice ca1 c.P.length cc1, .slice ca2 c.N.length cc2, .slice ca3 c.pd.length cc3, .slice ca4 c.nd.length cc4]) := HG7.out.kept HF9.out (by simp)
        have HFW : Hid (Fr [] w w9) := HF7.out.trans HF9.out (by simp)
        rw [hm]
        have g0 := HG9.out.cell 0 rfl
        have g1 := HG9.out.cell 1 rfl
        have g2 := HG9.out.cell 2 rfl
        have g3 := HG9.out.cell 3 rfl
        have g4 := HG9.out.cell 4 rfl
        have g5 := HG9.out.cell 5 rfl
        have g6 := HG9.out.cell 6 rfl
        have g7 := HG9.out.cell 7 rfl
        have g8 := HG9.out.cell 8 rfl
        clear HKN HKZ HF9 HG9 HG7 HC7 HF7
        go_wp2_with fail
        refine (empty10_any _ w9 HCZ.out).mono ?_
        rintro e wy ⟨rfl, hfy⟩
        have HFY : Hid (Fr [] w wy) := HFW.out.trans hfy (by simp)
        clear hfy g0 g1 g2 g3 g4 g5 g6 g7 g8
        go_wp2_with fail
        refine (awake10_any wy).mono ?_
        rintro e wz9 ⟨rfl, hfz⟩
        have HFZ : Hid (Fr [] w wz9) := HFY.out.trans hfz (by simp)
        clear hfz
        go_wp2
        go_ret
        exact ⟨rfl, HFZ.out.below (Nat.le_refl _) (by simp)⟩
      have hm : mfe h p n = W := by rw [HMS.out, if_pos (show risesB (-1048576) (fsts p) = true ∧ risesB (-1048576) (fsts n) = true from ⟨HR1.out, hr2⟩)]; exact HWE.out.symm
      rw [hr2]
      clear hr2 HR1
      by_cases hW : W = 0
      case neg =>
        have hb : (W == 0) = false := by simpa using hW
        have hb2 : (W != 0) = true := by simpa using hW
        have HF9 : Hid (Fr [] w7 w9) := HR9.out
        have HCZ : Hid (FSrc w9 (.agg #[.int .i64 c.s, .int .u64 c.z, .int .u64 c.zc, .int .u64 c.c, .int .u64 c.sm, .slice ca1 c.P.length cc1, .slice ca2 c.N.length cc2, .slice ca3 c.pd.length cc3, .slice ca4 c.nd.length cc4]) fzero) := by have e := HKN.out (by rw [hm]; exact hW); have := HC7.out.kept HF9.out; rw [e] at this ⊢; exact this
        have HG9 : Hid (NineF w9 G3 #[.int .i64 c.s, .int .u64 c.z, .int .u64 c.zc, .int .u64 c.c, .int .u64 c.sm, .slice ca1 c.P.length cc1, .slice ca2 c.N.length cc2, .slice ca3 c.pd.length cc3, .slice ca4 c.nd.length cc4]) := HG7.out.kept HF9.out (by simp)
        have HFW : Hid (Fr [] w w9) := HF7.out.trans HF9.out (by simp)
        rw [hm]
        have g0 := HG9.out.cell 0 rfl
        have g1 := HG9.out.cell 1 rfl
        have g2 := HG9.out.cell 2 rfl
        have g3 := HG9.out.cell 3 rfl
        have g4 := HG9.out.cell 4 rfl
        have g5 := HG9.out.cell 5 rfl
        have g6 := HG9.out.cell 6 rfl
        have g7 := HG9.out.cell 7 rfl
        have g8 := HG9.out.cell 8 rfl
        clear HKN HKZ HF9 HG9 HG7 HC7 HF7
        go_wp2_with fail
        refine (empty10_any _ w9 HCZ.out).mono ?_
        rintro e wy ⟨rfl, hfy⟩
        have HFY : Hid (Fr [] w wy) := HFW.out.trans hfy (by simp)
        clear hfy g0 g1 g2 g3 g4 g5 g6 g7 g8
        go_wp2_with fail
        refine (awake10_any wy).mono ?_
        rintro e wz9 ⟨rfl, hfz⟩
        have HFZ : Hid (Fr [] w wz9) := HFY.out.trans hfz (by simp)
        clear hfz
        go_wp2
        go_ret
        exact ⟨rfl, HFZ.out.below (Nat.le_refl _) (by simp)⟩
      case pos =>
          have HW0 : Hid (W = 0) := hW
          have HK : Hid (mfe h p n = 0) := by rw [Hid, hm, hW]
          have HE : Hid (c.s = h.s ∧ c.z = h.z ∧ c.zc = h.zc ∧ c.c = h.c ∧ c.sm = h.sm) := by rw [Hid, (HKZ.out HK.out).1]; exact ⟨rfl, rfl, rfl, rfl, rfl⟩
          have HE2 : Hid (cnn c.P = true ∧ cnn c.N = true ∧ (chk c.P = 0 ∧ pls c.P = fsts p) ∧ (chk c.N = 0 ∧ pls c.N = fsts n) ∧ c.pd = snds p ∧ c.nd = snds n) := by
            have k := HKZ.out HK.out
            rw [Hid, k.1]
            exact k.2.2
          have HPL : Hid (c.P.length ≤ 1024 ∧ c.N.length ≤ 1024) := ⟨(chk_zero.1 HE2.out.2.2.1.1).1, (chk_zero.1 HE2.out.2.2.2.1.1).1⟩
          have HS4 : Hid (SSrc w7 (.slice ca1 c.P.length cc1) c.P ∧ SSrc w7 (.slice ca2 c.N.length cc2) c.N ∧ USrc w7 (.slice ca3 c.pd.length cc3) (snds p) ∧ USrc w7 (.slice ca4 c.nd.length cc4) (snds n)) := by
            obtain ⟨k1, k2, k3, k4⟩ := fsrc4 HC7.out
            rw [HE2.out.2.2.2.2.1] at k3
            rw [HE2.out.2.2.2.2.2] at k4
            rw [Hid, HE2.out.2.2.2.2.1, HE2.out.2.2.2.2.2]
            exact ⟨k1, k2, k3, k4⟩
          rw [hm]
          subst hW
          have HG9 : Hid (NineF w9 G3 #[.int .i64 c.s, .int .u64 c.z, .int .u64 c.zc, .int .u64 c.c, .int .u64 c.sm, .slice ca1 c.P.length cc1, .slice ca2 c.N.length cc2, .slice ca3 c.pd.length cc3, .slice ca4 c.nd.length cc4]) := HG7.out.kept HR9.out (by simp)
          have HN9 : Hid (NineF w9 w.heap.size #[.int .i64 h.s, .int .u64 h.z, .int .u64 h.zc, .int .u64 h.c, .int .u64 h.sm, .slice po h.P.length pc, .slice no h.N.length nc, .slice qo h.pd.length qc, .slice ro h.nd.length rc]) := HN7.out.kept HR9.out (by simp)
          clear hm HKN HKZ HWE HMS HK
          have g0 := HG9.out.cell 0 rfl
          have g1 := HG9.out.cell 1 rfl
          have g2 := HG9.out.cell 2 rfl
          have g3 := HG9.out.cell 3 rfl
          have g4 := HG9.out.cell 4 rfl
          have g5 := HG9.out.cell 5 rfl
          have g6 := HG9.out.cell 6 rfl
          have g7 := HG9.out.cell 7 rfl
          have g8 := HG9.out.cell 8 rfl
          have q0 := HN9.out.cell 0 rfl
          have q1 := HN9.out.cell 1 rfl
          have q2 := HN9.out.cell 2 rfl
          have q3 := HN9.out.cell 3 rfl
          have q4 := HN9.out.cell 4 rfl
          have q5 := HN9.out.cell 5 rfl
          have q6 := HN9.out.cell 6 rfl
          have q7 := HN9.out.cell 7 rfl
          have q8 := HN9.out.cell 8 rfl
          go_wp2_with fail
          refine (numbers10_any _ _ c h w9 (HC7.out.kept HR9.out) (HH.out _ (HF7.out.trans HR9.out (by simp))) HE.out).mono ?_
          rintro e w10 ⟨rfl, hf10⟩
          have HR10 : Hid (Fr [] w7 w10) := HR9.out.trans hf10 (by simp)
          have HG10 : Hid (NineF w10 G3 #[.int .i64 c.s, .int .u64 c.z, .int .u64 c.zc, .int .u64 c.c, .int .u64 c.sm, .slice ca1 c.P.length cc1, .slice ca2 c.N.length cc2, .slice ca3 c.pd.length cc3, .slice ca4 c.nd.length cc4]) := HG9.out.kept hf10 (by simp)
          clear HR9 HG9 HN9 hf10 g0 g1 g2 g3 g4 g5 g6 g7 g8 q0 q1 q2 q3 q4 q5 q6 q7 q8
          have g0 := HG10.out.cell 0 rfl
          have g1 := HG10.out.cell 1 rfl
          have g2 := HG10.out.cell 2 rfl
          have g3 := HG10.out.cell 3 rfl
          have g4 := HG10.out.cell 4 rfl
          have g5 := HG10.out.cell 5 rfl
          have g6 := HG10.out.cell 6 rfl
          have g7 := HG10.out.cell 7 rfl
          have g8 := HG10.out.cell 8 rfl
          go_wp2_with fail
          refine (canonical_any _ c.P w10 (HS4.out.1.kept HR10.out)).mono ?_
          rintro e w11 ⟨rfl, hf11⟩
          rw [HE2.out.1]
          have HR11 : Hid (Fr [] w7 w11) := HR10.out.trans hf11 (by simp)
          have HG11 : Hid (NineF w11 G3 #[.int .i64 c.s, .int .u64 c.z, .int .u64 c.zc, .int .u64 c.c, .int .u64 c.sm, .slice ca1 c.P.length cc1, .slice ca2 c.N.length cc2, .slice ca3 c.pd.length cc3, .slice ca4 c.nd.length cc4]) := HG10.out.kept hf11 (by simp)
          clear HR10 HG10 hf11 g0 g1 g2 g3 g4 g5 g6 g7 g8
          have g0 := HG11.out.cell 0 rfl
          have g1 := HG11.out.cell 1 rfl
          have g2 := HG11.out.cell 2 rfl
          have g3 := HG11.out.cell 3 rfl
          have g4 := HG11.out.cell 4 rfl
          have g5 := HG11.out.cell 5 rfl
          have g6 := HG11.out.cell 6 rfl
          have g7 := HG11.out.cell 7 rfl
          have g8 := HG11.out.cell 8 rfl
          go_wp2_with fail
          refine (canonical_any _ c.N w11 (HS4.out.2.1.kept HR11.out)).mono ?_
          rintro e w12 ⟨rfl, hf12⟩
          rw [HE2.out.2.1]
          have HR12 : Hid (Fr [] w7 w12) := HR11.out.trans hf12 (by simp)
          have HG12 : Hid (NineF w12 G3 #[.int .i64 c.s, .int .u64 c.z, .int .u64 c.zc, .int .u64 c.c, .int .u64 c.sm, .slice ca1 c.P.length cc1, .slice ca2 c.N.length cc2, .slice ca3 c.pd.length cc3, .slice ca4 c.nd.length cc4]) := HG11.out.kept hf12 (by simp)
          clear HR11 HG11 hf12 g0 g1 g2 g3 g4 g5 g6 g7 g8
          have g0 := HG12.out.cell 0 rfl
          have g1 := HG12.out.cell 1 rfl
          have g2 := HG12.out.cell 2 rfl
          have g3 := HG12.out.cell 3 rfl
          have g4 := HG12.out.cell 4 rfl
          have g5 := HG12.out.cell 5 rfl
          have g6 := HG12.out.cell 6 rfl
          have g7 := HG12.out.cell 7 rfl
          have g8 := HG12.out.cell 8 rfl
          go_wp2_with fail
          refine (places10_any _ _ c.P (fsts p) w12 (HS4.out.1.kept HR12.out) (HX7.out.kept HR12.out) HPL.out.1 HE2.out.2.2.1.1 HE2.out.2.2.1.2).mono ?_
          rintro e w13 ⟨rfl, hf13⟩
          have HR13 : Hid (Fr [] w7 w13) := HR12.out.trans hf13 (by simp)
          have HG13 : Hid (NineF w13 G3 #[.int .i64 c.s, .int .u64 c.z, .int .u64 c.zc, .int .u64 c.c, .int .u64 c.sm, .slice ca1 c.P.length cc1, .slice ca2 c.N.length cc2, .slice ca3 c.pd.length cc3, .slice ca4 c.nd.length cc4]) := HG12.out.kept hf13 (by simp)
          clear HR12 HG12 hf13 g0 g1 g2 g3 g4 g5 g6 g7 g8
          have g0 := HG13.out.cell 0 rfl
          have g1 := HG13.out.cell 1 rfl
          have g2 := HG13.out.cell 2 rfl
          have g3 := HG13.out.cell 3 rfl
          have g4 := HG13.out.cell 4 rfl
          have g5 := HG13.out.cell 5 rfl
          have g6 := HG13.out.cell 6 rfl
          have g7 := HG13.out.cell 7 rfl
          have g8 := HG13.out.cell 8 rfl
          go_wp2_with fail
          refine (places10_any _ _ c.N (fsts n) w13 (HS4.out.2.1.kept HR13.out) (HT7.out.kept HR13.out) HPL.out.2 HE2.out.2.2.2.1.1 HE2.out.2.2.2.1.2).mono ?_
          rintro e w14 ⟨rfl, hf14⟩
          have HR14 : Hid (Fr [] w7 w14) := HR13.out.trans hf14 (by simp)
          have HG14 : Hid (NineF w14 G3 #[.int .i64 c.s, .int .u64 c.z, .int .u64 c.zc, .int .u64 c.c, .int .u64 c.sm, .slice ca1 c.P.length cc1, .slice ca2 c.N.length cc2, .slice ca3 c.pd.length cc3, .slice ca4 c.nd.length cc4]) := HG13.out.kept hf14 (by simp)
          clear HR13 HG13 hf14 g0 g1 g2 g3 g4 g5 g6 g7 g8
          have g0 := HG14.out.cell 0 rfl
          have g1 := HG14.out.cell 1 rfl
          have g2 := HG14.out.cell 2 rfl
          have g3 := HG14.out.cell 3 rfl
          have g4 := HG14.out.cell 4 rfl
          have g5 := HG14.out.cell 5 rfl
          have g6 := HG14.out.cell 6 rfl
          have g7 := HG14.out.cell 7 rfl
          have g8 := HG14.out.cell 8 rfl
          go_wp2_with fail
          refine (sameU10_any _ _ (snds p) w14 (HS4.out.2.2.1.kept HR14.out) (HY7.out.kept HR14.out)).mono ?_
          rintro e w15 ⟨rfl, hf15⟩
          have HR15 : Hid (Fr [] w7 w15) := HR14.out.trans hf15 (by simp)
          have HG15 : Hid (NineF w15 G3 #[.int .i64 c.s, .int .u64 c.z, .int .u64 c.zc, .int .u64 c.c, .int .u64 c.sm, .slice ca1 c.P.length cc1, .slice ca2 c.N.length cc2, .slice ca3 c.pd.length cc3, .slice ca4 c.nd.length cc4]) := HG14.out.kept hf15 (by simp)
          clear HR14 HG14 hf15 g0 g1 g2 g3 g4 g5 g6 g7 g8
          have g0 := HG15.out.cell 0 rfl
          have g1 := HG15.out.cell 1 rfl
          have g2 := HG15.out.cell 2 rfl
          have g3 := HG15.out.cell 3 rfl
          have g4 := HG15.out.cell 4 rfl
          have g5 := HG15.out.cell 5 rfl
          have g6 := HG15.out.cell 6 rfl
          have g7 := HG15.out.cell 7 rfl
          have g8 := HG15.out.cell 8 rfl
          go_wp2_with fail
          refine (sameU10_any _ _ (snds n) w15 (HS4.out.2.2.2.kept HR15.out) (HV7.out.kept HR15.out)).mono ?_
          rintro e w16 ⟨rfl, hf16⟩
          have HR16 : Hid (Fr [] w7 w16) := HR15.out.trans hf16 (by simp)
          have HG16 : Hid (NineF w16 G3 #[.int .i64 c.s, .int .u64 c.z, .int .u64 c.zc, .int .u64 c.c, .int .u64 c.sm, .slice ca1 c.P.length cc1, .slice ca2 c.N.length cc2, .slice ca3 c.pd.length cc3, .slice ca4 c.nd.length cc4]) := HG15.out.kept hf16 (by simp)
          clear HR15 HG15 hf16 g0 g1 g2 g3 g4 g5 g6 g7 g8
          have HF16 : Hid (Fr [] w w16) := HF7.out.trans HR16.out (by simp)
          go_wp2_with fail
          refine (awake10_any w16).mono ?_
          rintro e wz9 ⟨rfl, hfz⟩
          have HFZ : Hid (Fr [] w wz9) := HF16.out.trans hfz (by simp)
          clear hfz
          go_wp2
          go_ret
          exact ⟨rfl, HFZ.out.below (Nat.le_refl _) (by simp)⟩
end Go.Proofs.Ytoaibabkkphlaaa
