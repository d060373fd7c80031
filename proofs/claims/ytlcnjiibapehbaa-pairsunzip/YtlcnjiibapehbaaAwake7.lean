/-
  awake of layer 7: a fixed answer: true, and nothing is turned that was there.
-/
import Derived.Test.YtlcnjiibapehbaaPZip
import Derived.Test.YtlcnjiibapehbaaPSums
import Derived.Test.YtlcnjiibapehbaaPUnzip
import Derived.Test.YtlcnjiibapehbaaArgsS
namespace Go.Proofs.Ytlcnjiibapehbaa
open Go.RowKit Mem Spans
set_option linter.unusedSimpArgs false
set_option linter.unusedVariables false
set_option maxRecDepth 100000

def bL : List Sp := [(3, 2)]
def bV : List Int := [5, 0]
def bA : List Int := [3, -1]
def bB : List Int := [9223372036854775807, 1]
def bP : List Sp := [(3, 5), (4, 0)]
theorem bL_zpe : zpe bL bV = 0 := by decide
theorem bL_zpl : zpl bL bV = bP := by decide
theorem bA_abe : abe bA = 0 := by decide
theorem bA_abv : abv bA = [3, 2] := by decide
theorem bB_abe : abe bB = 28 := by decide
theorem bP_frm : frm (fsts bP) = 0 := by decide
theorem bP_frl : frl (fsts bP) = [(3, 2)] := by decide
theorem bP_uzv : uzv bP = [5, 0] := by decide
theorem bP_wio : wio bP 0 = [(3, 5)] := by decide
theorem bP_fnv : fnv bP 3 = 5 := by decide
theorem bP_fnb : fnb bP 3 = true := by decide
theorem bP_in : ∀ s ∈ bP, in64 s.1 ∧ in64 s.2 := by simp [bP, in64]

theorem SOwn.cells2 {e : TypeId} {B : Nat} {w : World} {v : Value} {l : List Sp} (h : SOwn e B w v l) (h0 : 0 < l.length) : ∃ g cap, v = .slice (some ⟨g, 0, none⟩) l.length cap ∧ l.length ≤ cap ∧ ∀ j s, l[j]? = some s → w.cell? ⟨g, j * 2, none⟩ = some (.int .i64 s.1) ∧ w.cell? ⟨g, j * 2 + 1, none⟩ = some (.int .i64 s.2) := by
  rcases h with ⟨h, _⟩ | ⟨g, _, _, hr⟩
  · rw [h] at h0; simp at h0
  · have hr' := hr
    obtain ⟨_, cap, cur, hv, _, hn, hm, _⟩ := hr
    refine ⟨g, cap, hv, hn, fun j s hj => ?_⟩
    have hjl := (List.getElem?_eq_some_iff.1 hj).1
    have c0 := hr'.cell (j * 2) (by omega)
    have c1 := hr'.cell (j * 2 + 1) (by omega)
    rw [c0, c1]
    exact spCells_at l j s hj
theorem NOwn.cells1 {e : TypeId} {B : Nat} {w : World} {v : Value} {l : List Int} (h : NOwn e B w v l) (h0 : 0 < l.length) : ∃ g cap, v = .slice (some ⟨g, 0, none⟩) l.length cap ∧ l.length ≤ cap ∧ ∀ j x, l[j]? = some x → w.cell? ⟨g, j, none⟩ = some (.int .i64 x) := by
  rcases h with ⟨h, _⟩ | ⟨g, _, _, hr⟩
  · rw [h] at h0; simp at h0
  · have hr' := hr
    obtain ⟨_, cap, cur, hv, _, hn, hm, _⟩ := hr
    refine ⟨g, cap, hv, hn, fun j x hj => ?_⟩
    have hjl := (List.getElem?_eq_some_iff.1 hj).1
    rw [hr'.cell j (by omega), inCells, List.getElem?_map, hj]
    rfl

set_option maxHeartbeats 4000000 in
theorem awake7_any (w : World) : Calls Try.prog 9 #[] w fun e w' => e = .returned (.bool true) ∧ Fr [] w w' := by
  go_enter Try.func9, Try.ntmps9
  have HS0 : Hid (SSrc (w.alloc (.cells (spCells bL).toArray 63)) (.slice (some ⟨w.heap.size, 0, none⟩) 1 1) bL) := (lit_sp 63 w bL (Nat.le_refl _) (by decide) (by unfold maxLen; decide)).src (by simp [bL, in64])
  have HF0 : Hid (Fr [] w (w.alloc (.cells (spCells bL).toArray 63))) := (Fr.refl _ _).alloc _
  go_wp2_with fail
  have hV0 := (lit_n 2 (w.alloc (.cells (spCells bL).toArray 63)) bV (World.size_alloc _ _) (Nat.le_refl _) (by decide) (by unfold maxLen; decide)).src (by simp [bV, in64])
  refine (zip_any _ _ bL bV _ (HS0.out.kept ((Fr.refl _ _).alloc _)) hV0).mono ?_
  rintro e w1 ⟨p, rfl, hp, hf1⟩
  rw [bL_zpe]
  rw [bL_zpl] at hp
  have HP1 : Hid (SOwn 36 0 w1 p bP) := hp.mono (Nat.zero_le _)
  have HF1 : Hid (Fr [] w w1) := (HF0.out.alloc _).trans hf1 (by simp)
  clear hp hf1 HS0 HF0 hV0
  go_wp2_with fail
  have hV0 := (lit_n 2 w1 bA rfl (Nat.le_refl _) (by decide) (by unfold maxLen; decide)).src (by simp [bA, in64])
  refine (absolute_any _ bA _ hV0 (by decide)).mono ?_
  rintro e w2 ⟨a, rfl, ha, hf2⟩
  rw [bA_abe]
  rw [bA_abv] at ha
  have HFa : Hid (Fr [] w1 w2) := ((Fr.refl _ _).alloc _).trans hf2 (by simp)
  have HA2 : Hid (NOwn 2 0 w2 a [3, 2]) := ha.mono (Nat.zero_le _)
  have HP2 : Hid (SOwn 36 0 w2 p bP) := HP1.out.kept HFa.out
  have HF2 : Hid (Fr [] w w2) := HF1.out.trans HFa.out (by simp)
  clear ha hf2 HP1 HF1 hV0 HFa
  go_wp2_with fail
  have hV0 := (lit_n 2 w2 bB rfl (Nat.le_refl _) (by decide) (by unfold maxLen; decide)).src (by simp [bB, in64])
  refine (absolute_any _ bB _ hV0 (by decide)).mono ?_
  rintro e w3 ⟨a9, rfl, _, hf3⟩
  rw [bB_abe]
  have HFa : Hid (Fr [] w2 w3) := ((Fr.refl _ _).alloc _).trans hf3 (by simp)
  have HA3 : Hid (NOwn 2 0 w3 a [3, 2]) := HA2.out.kept HFa.out
  have HP3 : Hid (SOwn 36 0 w3 p bP) := HP2.out.kept HFa.out
  have HF3 : Hid (Fr [] w w3) := HF2.out.trans HFa.out (by simp)
  clear hf3 HP2 HF2 hV0 HFa HA2
  go_wp2_with fail
  refine (unzip_any _ bP _ (HP3.out.src bP_in) (by decide)).mono ?_
  rintro e w4 ⟨s, v, rfl, hs, hv, hf4⟩
  rw [bP_frm]
  rw [bP_frl] at hs
  rw [bP_uzv] at hv
  have HA4 : Hid (NOwn 2 0 w4 a [3, 2]) := HA3.out.kept hf4
  have HP4 : Hid (SOwn 36 0 w4 p bP) := HP3.out.kept hf4
  have HF4 : Hid (Fr [] w w4) := HF3.out.trans hf4 (by simp)
  obtain ⟨so, scap, rfl⟩ := hs.val
  obtain ⟨vo, vcap, rfl⟩ := hv.val
  clear hf4 HP3 HF3 HA3 hs hv
  go_wp2_with fail
  refine (without_any _ bP 0 _ (HP4.out.src bP_in) (by decide)).mono ?_
  rintro e w5 ⟨q, rfl, hq, hf5⟩
  rw [bP_wio] at hq
  have HA5 : Hid (NOwn 2 0 w5 a [3, 2]) := HA4.out.kept hf5
  have HP5 : Hid (SOwn 36 0 w5 p bP) := HP4.out.kept hf5
  have HF5 : Hid (Fr [] w w5) := HF4.out.trans hf5 (by simp)
  obtain ⟨qo, qcap, rfl⟩ := hq.val
  clear hf5 HP4 HF4 HA4 hq
  go_wp2_with fail
  refine (find_any _ bP 3 _ (HP5.out.src bP_in)).mono ?_
  rintro e w6 ⟨rfl, hf6⟩
  rw [bP_fnv, bP_fnb]
  obtain ⟨ga, capa, rfl, hca, ca⟩ := (HA5.out.kept hf6).cells1 (by simp)
  obtain ⟨gp, capp, rfl, hcp, cp⟩ := (HP5.out.kept hf6).cells2 (by decide)
  have ca1 : w6.cell? ⟨ga, 1, none⟩ = some (.int .i64 2) := ca 1 2 rfl
  have cp1 : w6.cell? ⟨gp, 2, none⟩ = some (.int .i64 4) := (cp 1 (4, 0) rfl).1
  have HF6 : Hid (Fr [] w w6) := HF5.out.trans hf6 (by simp)
  have hpl : bP.length = 2 := rfl
  rw [hpl] at hcp ⊢
  clear hf6 HP5 HF5 HA5 ca cp hpl
  simp only [List.length_cons, List.length_nil, Nat.zero_add, Nat.reduceAdd] at *
  go_wp2
  go_ret
  exact ⟨rfl, HF6.out⟩
end Go.Proofs.Ytlcnjiibapehbaa
