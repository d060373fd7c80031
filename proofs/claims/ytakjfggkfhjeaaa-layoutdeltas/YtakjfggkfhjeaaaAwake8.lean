/-
  awake of layer 8: a fixed answer: true, and nothing is turned that was there.
-/
import Derived.Test.YtakjfggkfhjeaaaLCompare
import Derived.Test.YtakjfggkfhjeaaaLDeltas
import Derived.Test.YtakjfggkfhjeaaaArgsS
namespace Go.Proofs.Ytakjfggkfhjeaaa
open Go.RowKit Mem Spans
set_option linter.unusedSimpArgs false
set_option linter.unusedVariables false
set_option maxRecDepth 100000

def kA : List Sp := [(3, 2)]
def kB : List Sp := [(4, 1), (1, 1)]
def kV : List Int := [7, 8]
def kD : List Int := [7, 1]
def kF : List Sp := [(2, 1)]
def kG : List Sp := [(0, 1)]
theorem k_une : une kA kB = 0 := by decide
theorem k_cmpA : cmp kA kB kA = kF := by decide
theorem k_cmpB : cmp kA kB kB = kG := by decide
theorem k_exe : exe kV kF = 0 := by decide
theorem k_exv : exv 0 kV kF = [7, 8, 0] := by decide
theorem k_exd : exe kD kF = 0 := by decide
theorem k_edv : edv kD kF = [7, 1, -8] := by decide +kernel
theorem k_cvr : cvr kA kB = false := by
  have h1 : pls (unl kA kB) = [3, 4, 6] := by decide
  have h2 : pls kA = [3, 4] := by decide
  unfold cvr eqn
  rw [h1, h2]
  simp
theorem k_in : (∀ s ∈ kF, in64 s.1 ∧ in64 s.2) ∧ (∀ s ∈ kG, in64 s.1 ∧ in64 s.2) ∧ (∀ s ∈ kA, in64 s.1 ∧ in64 s.2) ∧ (∀ s ∈ kB, in64 s.1 ∧ in64 s.2) := by simp [kF, kG, kA, kB, in64]

set_option maxHeartbeats 4000000 in
theorem awake8_any (w : World) : Calls Try.prog 8 #[] w fun e w' => e = .returned (.bool true) ∧ Fr [] w w' := by
  go_enter Try.func8, Try.ntmps8
  go_wp2_with fail
  have HS0 : Hid (SSrc (w.alloc (.cells (spCells kA).toArray 54)) (.slice (some ⟨w.heap.size, 0, none⟩) 1 1) kA) := (lit_sp 54 w kA (Nat.le_refl _) (by decide) (by unfold maxLen; decide)).src k_in.2.2.1
  have HF0 : Hid (Fr [] w (w.alloc (.cells (spCells kA).toArray 54))) := (Fr.refl _ _).alloc _
  have HS1 : Hid (SSrc ((w.alloc (.cells (spCells kA).toArray 54)).alloc (.cells (spCells kB).toArray 54)) (.slice (some ⟨w.heap.size + 1, 0, none⟩) 2 2) kB) := (lit_sp' (B := 0) 54 (w.alloc (.cells (spCells kA).toArray 54)) kB (World.size_alloc _ _) (Nat.zero_le _) (by decide) (by unfold maxLen; decide)).src k_in.2.2.2
  refine (compare_any _ _ kA kB _ (HS0.out.kept ((Fr.refl _ _).alloc _)) HS1.out).mono ?_
  rintro e w1 ⟨f, g, rfl, hf, hg, hf1⟩
  rw [k_une]
  rw [k_cmpA] at hf
  rw [k_cmpB] at hg
  have HF1 : Hid (Fr [] w w1) := (HF0.out.alloc _).trans hf1 (by simp)
  have HA1 : Hid (SSrc w1 (.slice (some ⟨w.heap.size, 0, none⟩) 1 1) kA) := (HS0.out.kept ((Fr.refl _ _).alloc _)).kept hf1
  have HB1 : Hid (SSrc w1 (.slice (some ⟨w.heap.size + 1, 0, none⟩) 2 2) kB) := HS1.out.kept hf1
  have Hf1 : Hid (SOwn 47 0 w1 f kF) := hf.mono (Nat.zero_le _)
  have Hg1 : Hid (SOwn 47 0 w1 g kG) := hg.mono (Nat.zero_le _)
  clear hf hg hf1 HS0 HS1 HF0
  go_wp2_with fail
  have hV0 := (lit_n (B := 0) 2 w1 kV rfl (Nat.zero_le _) (by decide) (by unfold maxLen; decide)).src (by simp [kV, in64])
  refine (expand_any _ _ kV kF 0 _ hV0 ((Hf1.out.kept ((Fr.refl _ _).alloc _)).src k_in.1) (by decide) (by unfold in64; omega)).mono ?_
  rintro e w2 ⟨v, rfl, hv, hf2⟩
  rw [k_exe]
  rw [k_exv] at hv
  have HFa : Hid (Fr [] w1 w2) := ((Fr.refl _ _).alloc _).trans hf2 (by simp)
  have HF2 : Hid (Fr [] w w2) := HF1.out.trans HFa.out (by simp)
  have HV2 : Hid (NOwn 2 0 w2 v [7, 8, 0]) := hv.mono (Nat.zero_le _)
  have HA2 : Hid (SSrc w2 (.slice (some ⟨w.heap.size, 0, none⟩) 1 1) kA) := HA1.out.kept HFa.out
  have HB2 : Hid (SSrc w2 (.slice (some ⟨w.heap.size + 1, 0, none⟩) 2 2) kB) := HB1.out.kept HFa.out
  have Hf2 : Hid (SOwn 47 0 w2 f kF) := Hf1.out.kept HFa.out
  have Hg2 : Hid (SOwn 47 0 w2 g kG) := Hg1.out.kept HFa.out
  clear hv hf2 hV0 HF1 HA1 HB1 Hf1 Hg1 HFa
  go_wp2_with fail
  have hV0 := (lit_n (B := 0) 2 w2 kD rfl (Nat.zero_le _) (by decide) (by unfold maxLen; decide)).src (by simp [kD, in64])
  refine (expandDeltas_any _ _ kD kF _ hV0 ((Hf2.out.kept ((Fr.refl _ _).alloc _)).src k_in.1) (by decide)).mono ?_
  rintro e w3 ⟨d, rfl, hd, hf3⟩
  rw [k_exd]
  rw [k_edv] at hd
  have HFa : Hid (Fr [] w2 w3) := ((Fr.refl _ _).alloc _).trans hf3 (by simp)
  have HF3 : Hid (Fr [] w w3) := HF2.out.trans HFa.out (by simp)
  have HA3 : Hid (SSrc w3 (.slice (some ⟨w.heap.size, 0, none⟩) 1 1) kA) := HA2.out.kept HFa.out
  have HB3 : Hid (SSrc w3 (.slice (some ⟨w.heap.size + 1, 0, none⟩) 2 2) kB) := HB2.out.kept HFa.out
  obtain ⟨gf, capf, rfl, hcf, cf⟩ := (Hf2.out.kept HFa.out).cells2 (by decide)
  obtain ⟨gg, capg, rfl, hcg, cg⟩ := (Hg2.out.kept HFa.out).cells2 (by decide)
  obtain ⟨gv, capv, rfl, hcv, cv⟩ := (HV2.out.kept HFa.out).cells1 (by decide)
  obtain ⟨gd, capd, rfl, hcd, cd⟩ := hd.cells1 (by decide)
  have f0 : w3.cell? ⟨gf, 0, none⟩ = some (.int .i64 2) := (cf 0 (2, 1) rfl).1
  have f1 : w3.cell? ⟨gf, 1, none⟩ = some (.int .i64 1) := (cf 0 (2, 1) rfl).2
  have g0 : w3.cell? ⟨gg, 0, none⟩ = some (.int .i64 0) := (cg 0 (0, 1) rfl).1
  have g1 : w3.cell? ⟨gg, 1, none⟩ = some (.int .i64 1) := (cg 0 (0, 1) rfl).2
  have v2 : w3.cell? ⟨gv, 2, none⟩ = some (.int .i64 0) := cv 2 0 rfl
  have d2 : w3.cell? ⟨gd, 2, none⟩ = some (.int .i64 (-8)) := cd 2 (-8) rfl
  have e1 : kF.length = 1 := rfl
  have e2 : kG.length = 1 := rfl
  rw [e1] at hcf ⊢
  rw [e2] at hcg ⊢
  simp only [List.length_cons, List.length_nil, Nat.zero_add, Nat.reduceAdd] at hcv hcd ⊢
  clear e1 e2 cf cg cv cd hd hf3 hV0 HF2 HA2 HB2 Hf2 Hg2 HV2 HFa
  go_wp2_with fail
  refine (covers_any _ _ kA kB w3 HA3.out HB3.out).mono ?_
  rintro e w4 ⟨rfl, hf4⟩
  rw [k_cvr]
  have HF4 : Hid (Fr [] w w4) := HF3.out.trans hf4 (by simp)
  clear hf4
  go_wp2
  go_ret
  exact ⟨rfl, HF4.out⟩
end Go.Proofs.Ytakjfggkfhjeaaa
