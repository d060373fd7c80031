/-
  Package fhist: Check, sides, Pairs.
-/
import Derived.Test.YtoaibabkkphlaaaFMem
import Derived.Test.YtoaibabkkphlaaaUZip
namespace Go.Proofs.Ytoaibabkkphlaaa
open Go.RowKit Mem Spans
set_option linter.unusedSimpArgs false
set_option linter.unusedVariables false
set_option maxRecDepth 100000

theorem fde_bad {s z zc c e : Int} (h : hde s z = e) (ne : e ≠ 0) : fde s z zc c = e := by unfold fde; rw [if_neg (by rw [h]; exact ne)]; exact h
theorem fce_head {h : Fs} (k : fde h.s h.z h.zc h.c ≠ 0) : fce h = fde h.s h.z h.zc h.c := by unfold fce; rw [if_neg k]
theorem fce_pos {h : Fs} (k : fde h.s h.z h.zc h.c = 0) (k2 : fsd h.P h.pd ≠ 0) : fce h = fsd h.P h.pd := by unfold fce; rw [if_pos k, if_neg k2]
theorem fce_neg {h : Fs} (k : fde h.s h.z h.zc h.c = 0) (k2 : fsd h.P h.pd = 0) : fce h = fsd h.N h.nd := by unfold fce; rw [if_pos k, if_pos k2]

set_option maxHeartbeats 4000000 in
theorem fcheck_any (v : Value) (h : Fs) (w : World) (hh : FSrc w v h) :
    Calls Try.prog 14 #[v] w fun e w' => e = .returned (.int .i64 (fce h)) ∧ Fr [] w w' := by
  obtain ⟨po, pc, no, nc, qo, qc, ro, rc, rfl, hin, hsr, _, _, _, _⟩ := hh.opens
  have HIN : Hid (in64 h.s ∧ inu h.z ∧ inu h.zc ∧ inu h.c ∧ inu h.sm) := hin
  have HSR : Hid (SSrc w (.slice po h.P.length pc) h.P ∧ SSrc w (.slice no h.N.length nc) h.N ∧ USrc w (.slice qo h.pd.length qc) h.pd ∧ USrc w (.slice ro h.nd.length rc) h.nd) := hsr
  clear hh hin hsr
  obtain ⟨s, z, zc, c, sm, P, N, pd, nd⟩ := h
  simp only at HIN HSR ⊢
  go_enter Try.func14, Try.ntmps14
  have HN0 : Hid (NineF (w.alloc (.cells #[.int .i64 s, .int .u64 z, .int .u64 zc, .int .u64 c, .int .u64 sm, .slice po P.length pc, .slice no N.length nc, .slice qo pd.length qc, .slice ro nd.length rc] 26)) w.heap.size #[.int .i64 s, .int .u64 z, .int .u64 zc, .int .u64 c, .int .u64 sm, .slice po P.length pc, .slice no N.length nc, .slice qo pd.length qc, .slice ro nd.length rc]) := NineF.new _ _
  have HF0 : Hid (Fr [] w (w.alloc (.cells #[.int .i64 s, .int .u64 z, .int .u64 zc, .int .u64 c, .int .u64 sm, .slice po P.length pc, .slice no N.length nc, .slice qo pd.length qc, .slice ro nd.length rc] 26))) := (Fr.refl [] w).alloc _
  by_cases h1 : s < -4
  · have HE : Hid (fde s z zc c = 21) := fde_bad (by unfold hde; rw [if_pos (.inl h1)]) (by decide)
    have HC : Hid (fce ⟨s, z, zc, c, sm, P, N, pd, nd⟩ = 21) := by rw [Hid, fce_head (by simp only [HE.out]; decide)]; exact HE.out
    go_wp2
    go_ret
    exact ⟨by rw [HC.out]; rfl, HF0.out⟩
  by_cases h2 : 8 < s
  · have HE : Hid (fde s z zc c = 21) := fde_bad (by unfold hde; rw [if_pos (.inr h2)]) (by decide)
    have HC : Hid (fce ⟨s, z, zc, c, sm, P, N, pd, nd⟩ = 21) := by rw [Hid, fce_head (by simp only [HE.out]; decide)]; exact HE.out
    go_wp2
    go_ret
    exact ⟨by rw [HC.out]; rfl, HF0.out⟩
  go_wp2_with fail
  refine (threshold_any z _).mono ?_
  rintro e w1 ⟨rfl, rfl⟩
  by_cases hz : z < 9218868437227405312
  · have HD : Hid (hde s z = 0) := by unfold Hid hde; rw [if_neg (by omega), if_pos hz]
    rw [decide_eq_true hz]
    clear hz h1 h2
    generalize w.alloc (.cells #[.int .i64 s, .int .u64 z, .int .u64 zc, .int .u64 c, .int .u64 sm, .slice po P.length pc, .slice no N.length nc, .slice qo pd.length qc, .slice ro nd.length rc] 26) = w0 at HN0 HF0 ⊢
    have c2 := HN0.out.cell 2 rfl
    have c3 := HN0.out.cell 3 rfl
    have HU : Hid (USrc (w0.alloc (.cells #[.int .u64 zc, .int .u64 c] 22)) (.slice (some ⟨w0.heap.size, 0, none⟩) 2 2) [zc, c]) := (lit_u 22 w0 [zc, c] rfl (Nat.le_refl _) (by simp) (by unfold maxLen; simp)).src (by
      intro x hx
      simp only [List.mem_cons, List.not_mem_nil, or_false] at hx
      rcases hx with rfl | rfl
      · exact HIN.out.2.2.1
      · exact HIN.out.2.2.2.1)
    have HF1 : Hid (Fr [] w (w0.alloc (.cells #[.int .u64 zc, .int .u64 c] 22))) := HF0.out.alloc _
    have HN1 : Hid (NineF (w0.alloc (.cells #[.int .u64 zc, .int .u64 c] 22)) w.heap.size #[.int .i64 s, .int .u64 z, .int .u64 zc, .int .u64 c, .int .u64 sm, .slice po P.length pc, .slice no N.length nc, .slice qo pd.length qc, .slice ro nd.length rc]) := HN0.out.kept ((Fr.refl [] _).alloc _) (by simp)
    go_wp2_with fail
    refine (allRight_any _ [zc, c] _ HU.out).mono ?_
    rintro e w1 ⟨rfl, rfl⟩
    clear HU c2 c3 HN0 HF0
    generalize w0.alloc (.cells #[.int .u64 zc, .int .u64 c] 22) = w1 at HN1 HF1 ⊢
    by_cases hr : rgts [zc, c] = true
    · have HE : Hid (fde s z zc c = 0) := by unfold Hid fde; rw [if_pos HD.out, if_pos hr]
      rw [hr]
      clear hr
      have c5 := HN1.out.cell 5 rfl
      have c7 := HN1.out.cell 7 rfl
      go_wp2_with fail
      refine (checkSide_any _ _ P pd _ (HSR.out.1.kept HF1.out) (HSR.out.2.2.1.kept HF1.out)).mono ?_
      rintro e w2 ⟨rfl, hf2⟩
      have HF2 : Hid (Fr [] w w2) := HF1.out.trans hf2 (by simp)
      have HN2 := HN1.out.kept hf2 (by simp)
      clear c5 c7 hf2 HN1 HF1
      have c6 := HN2.cell 6 rfl
      have c8 := HN2.cell 8 rfl
      clear HN2
      by_cases hp : fsd P pd = 0
      · have HC : Hid (fce ⟨s, z, zc, c, sm, P, N, pd, nd⟩ = fsd N nd) := fce_neg HE.out hp
        rw [hp]
        clear hp
        go_wp2_with fail
        refine (checkSide_any _ _ N nd _ (HSR.out.2.1.kept HF2.out) (HSR.out.2.2.2.kept HF2.out)).mono ?_
        rintro e w3 ⟨rfl, hf3⟩
        have HF3 : Hid (Fr [] w w3) := HF2.out.trans hf3 (by simp)
        clear c6 c8 hf3
        go_wp2
        go_ret
        exact ⟨by rw [HC.out]; rfl, HF3.out⟩
      · have HC : Hid (fce ⟨s, z, zc, c, sm, P, N, pd, nd⟩ = fsd P pd) := fce_pos HE.out hp
        go_wp2
        go_ret
        exact ⟨by rw [HC.out]; rfl, HF2.out⟩
    · have hr2 : rgts [zc, c] = false := by simpa using hr
      have HE : Hid (fde s z zc c = 22) := by unfold Hid fde; rw [if_pos HD.out, if_neg hr]
      have HC : Hid (fce ⟨s, z, zc, c, sm, P, N, pd, nd⟩ = 22) := by rw [Hid, fce_head (by simp only [HE.out]; decide)]; exact HE.out
      rw [hr2]
      go_wp2
      go_ret
      exact ⟨by rw [HC.out]; rfl, HF1.out⟩
  · have HE : Hid (fde s z zc c = 11) := fde_bad (by unfold hde; rw [if_neg (by omega), if_neg hz]) (by decide)
    have HC : Hid (fce ⟨s, z, zc, c, sm, P, N, pd, nd⟩ = 11) := by rw [Hid, fce_head (by simp only [HE.out]; decide)]; exact HE.out
    rw [decide_eq_false hz]
    go_wp2
    go_ret
    exact ⟨by rw [HC.out]; rfl, HF0.out⟩

set_option maxHeartbeats 2000000 in
theorem fsides_any (v : Value) (h : Fs) (w : World) (hh : FSrc w v h) :
    Calls Try.prog 53 #[v] w fun e w' => ∃ x y, e = .returned (.tuple #[x, y, .int .i64 (fce h)]) ∧ POwn 43 w.heap.size w' x (fdp h) ∧ POwn 43 w.heap.size w' y (fdn h) ∧ Fr [] w w' := by
  have HH : Hid (∀ wx, Fr [] w wx → FSrc wx v h) := fun wx hx => hh.kept hx
  obtain ⟨po, pc, no, nc, qo, qc, ro, rc, rfl, hin, hsr, _, _, _, _⟩ := hh.opens
  have HSR : Hid (SSrc w (.slice po h.P.length pc) h.P ∧ SSrc w (.slice no h.N.length nc) h.N ∧ USrc w (.slice qo h.pd.length qc) h.pd ∧ USrc w (.slice ro h.nd.length rc) h.nd) := hsr
  clear hh hin hsr
  obtain ⟨s, z, zc, c, sm, P, N, pd, nd⟩ := h
  simp only at HSR ⊢
  go_enter Try.func53, Try.ntmps53
  have HN0 : Hid (NineF (w.alloc (.cells #[.int .i64 s, .int .u64 z, .int .u64 zc, .int .u64 c, .int .u64 sm, .slice po P.length pc, .slice no N.length nc, .slice qo pd.length qc, .slice ro nd.length rc] 26)) w.heap.size #[.int .i64 s, .int .u64 z, .int .u64 zc, .int .u64 c, .int .u64 sm, .slice po P.length pc, .slice no N.length nc, .slice qo pd.length qc, .slice ro nd.length rc]) := NineF.new _ _
  have HF0 : Hid (Fr [] w (w.alloc (.cells #[.int .i64 s, .int .u64 z, .int .u64 zc, .int .u64 c, .int .u64 sm, .slice po P.length pc, .slice no N.length nc, .slice qo pd.length qc, .slice ro nd.length rc] 26))) := (Fr.refl [] w).alloc _
  go_wp2_with fail
  refine (fcheck_any _ ⟨s, z, zc, c, sm, P, N, pd, nd⟩ _ (HH.out _ HF0.out)).mono ?_
  rintro e w1 ⟨rfl, hf1⟩
  have HF1 : Hid (Fr [] w w1) := HF0.out.trans hf1 (by simp)
  have HN1 := HN0.out.kept hf1 (by simp)
  clear hf1 HN0 HF0
  by_cases h0 : fce ⟨s, z, zc, c, sm, P, N, pd, nd⟩ = 0
  · have HC : Hid (fce ⟨s, z, zc, c, sm, P, N, pd, nd⟩ = 0) := h0
    have HP : Hid (fsd P pd = 0 ∧ fsd N nd = 0) := (fce_zero.1 h0).2
    have HD : Hid (fdp ⟨s, z, zc, c, sm, P, N, pd, nd⟩ = fsl P pd ∧ fdn ⟨s, z, zc, c, sm, P, N, pd, nd⟩ = fsl N nd) := by unfold Hid fdp fdn; rw [if_pos h0, if_pos h0]; exact ⟨rfl, rfl⟩
    rw [h0]
    clear h0
    have c5 := HN1.cell 5 rfl
    have c7 := HN1.cell 7 rfl
    have HN1h : Hid (NineF w1 w.heap.size _) := HN1
    clear HN1
    go_wp2_with fail
    refine (zipU_any _ _ P pd _ (HSR.out.1.kept HF1.out) (HSR.out.2.2.1.kept HF1.out)).mono ?_
    rintro e w2 ⟨x, rfl, hx, hf2⟩
    have HF2 : Hid (Fr [] w w2) := HF1.out.trans hf2 (by simp)
    have HX : Hid (POwn 43 w.heap.size w2 x (fsl P pd)) := by rw [← (zpl_fsl HP.out.1).2]; exact hx.mono HF1.out.size
    have HN2 := HN1h.out.kept hf2 (by simp)
    clear c5 c7 hx hf2 HN1h HF1
    have c6 := HN2.cell 6 rfl
    have c8 := HN2.cell 8 rfl
    clear HN2
    rw [(zpl_fsl HP.out.1).1]
    go_wp2_with fail
    refine (zipU_any _ _ N nd _ (HSR.out.2.1.kept HF2.out) (HSR.out.2.2.2.kept HF2.out)).mono ?_
    rintro e w3 ⟨y, rfl, hy, hf3⟩
    have HF3 : Hid (Fr [] w w3) := HF2.out.trans hf3 (by simp)
    have HX3 : Hid (POwn 43 w.heap.size w3 x (fsl P pd)) := HX.out.kept hf3
    have HY3 : Hid (POwn 43 w.heap.size w3 y (fsl N nd)) := by rw [← (zpl_fsl HP.out.2).2]; exact hy.mono HF2.out.size
    clear c6 c8 hy hf3 HX HF2
    rw [(zpl_fsl HP.out.2).1]
    go_wp2
    go_ret3
    exact ⟨_, _, by rw [HC.out]; rfl, by rw [HD.out.1]; exact HX3.out, by rw [HD.out.2]; exact HY3.out, HF3.out⟩
  · have HC : Hid (fdp ⟨s, z, zc, c, sm, P, N, pd, nd⟩ = [] ∧ fdn ⟨s, z, zc, c, sm, P, N, pd, nd⟩ = []) := fd_nil h0
    clear HN1
    go_wp2
    go_ret3
    exact ⟨_, _, rfl, .inl ⟨HC.out.1, rfl⟩, .inl ⟨HC.out.2, rfl⟩, HF1.out⟩

/-- Pairs' answers. -/
def fpre (h : Fs) (d : Int) : Int := if d = 0 ∨ d = 1 then fce h else 11
def fprl (h : Fs) (d : Int) : List Sp := if d = 0 then fdp h else if d = 1 then fdn h else []
set_option maxHeartbeats 1000000 in
theorem fpairs_any (v : Value) (h : Fs) (d : Int) (w : World) (hh : FSrc w v h) :
    Calls Try.prog 19 #[v, .int .i64 d] w fun e w' => ∃ x, e = .returned (.tuple #[x, .int .i64 (fpre h d)]) ∧ POwn 43 w.heap.size w' x (fprl h d) ∧ Fr [] w w' := by
  have HH : Hid (∀ wx, Fr [] w wx → FSrc wx v h) := fun wx hx => hh.kept hx
  obtain ⟨po, pc, no, nc, qo, qc, ro, rc, rfl, _⟩ := hh.opens
  clear hh
  go_enter Try.func19, Try.ntmps19
  by_cases h0 : d = 0
  · have HP : Hid (fpre h d = fce h ∧ fprl h d = fdp h) := by unfold Hid fpre fprl; rw [if_pos (.inl h0), if_pos h0]; exact ⟨rfl, rfl⟩
    subst h0
    go_wp2_with fail
    refine (fsides_any _ h _ (HH.out _ ((Fr.refl [] w).alloc _))).mono ?_
    rintro e w1 ⟨x, y, rfl, hx, hy, hf1⟩
    have HF1 : Hid (Fr [] w w1) := ((Fr.refl [] w).alloc _).trans hf1 (by simp)
    have HX : Hid (POwn 43 w.heap.size w1 x (fdp h)) := hx.mono (by simp)
    clear hf1 hx hy
    go_wp2
    go_ret2
    exact ⟨_, by rw [HP.out.1]; rfl, by rw [HP.out.2]; exact HX.out, HF1.out⟩
  by_cases h1 : d = 1
  · have HP : Hid (fpre h d = fce h ∧ fprl h d = fdn h) := by unfold Hid fpre fprl; rw [if_pos (.inr h1), if_neg h0, if_pos h1]; exact ⟨rfl, rfl⟩
    subst h1
    go_wp2_with fail
    refine (fsides_any _ h _ (HH.out _ ((Fr.refl [] w).alloc _))).mono ?_
    rintro e w1 ⟨x, y, rfl, hx, hy, hf1⟩
    have HF1 : Hid (Fr [] w w1) := ((Fr.refl [] w).alloc _).trans hf1 (by simp)
    have HY : Hid (POwn 43 w.heap.size w1 y (fdn h)) := hy.mono (by simp)
    clear hf1 hx hy
    go_wp2
    go_ret2
    exact ⟨_, by rw [HP.out.1]; rfl, by rw [HP.out.2]; exact HY.out, HF1.out⟩
  · have HP : Hid (fpre h d = 11 ∧ fprl h d = []) := by unfold Hid fpre fprl; rw [if_neg (by omega), if_neg h0, if_neg h1]; exact ⟨rfl, rfl⟩
    have d0 : (d != 0) = true := by simpa using h0
    have d1 : (d != 1) = true := by simpa using h1
    go_wp2
    go_ret2
    exact ⟨_, by rw [HP.out.1]; rfl, .inl ⟨HP.out.2, rfl⟩, (Fr.refl [] w).alloc _⟩
end Go.Proofs.Ytoaibabkkphlaaa
