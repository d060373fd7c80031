/-
  Awake11, Ref11L, Ref11, Ref11G, Entry11.
-/
import Derived.Test.YtnfbmdniomelnaaGF
import Derived.Test.YtnfbmdniomelnaaGG
import Derived.Test.YtnfbmdniomelnaaGH
/-
  The fixed answer that each statement of layer 11 asks: awake.
-/
namespace Go.Proofs.Ytnfbmdniomelnaa
open Go.RowKit Mem Spans
set_option linter.unusedSimpArgs false
set_option linter.unusedVariables false
set_option maxRecDepth 100000

def wkA : Hs := ⟨0, 0, 0, 6, 0, [(3, 2)], [], [5, -4], []⟩
def wkB : Hs := ⟨0, 0, 0, 9, 0, [(3, 1)], [], [9], []⟩
def wkF : Fs := ⟨1, 0, 0, 0, 0, [], [], [], []⟩
def wkG : Fs := ⟨0, 0, 0, 0, 0, [], [], [], []⟩
theorem wk_ab : rie wkA wkB = 0 ∧ riv wkA wkB = (5, 4) := by decide +kernel
theorem wk_ba : rie wkB wkA = 0 ∧ riv wkB wkA = (3, 0) := by decide +kernel
theorem wk_fg : rfe wkF wkG = 0 ∧ rfv wkF wkG = (1, 0) := by decide +kernel
theorem wk_aa : (gon wkA wkA && gon wkA wkA) = true := by decide +kernel

/-- A histogram out of literals: where it lies. -/
theorem lay_at (w : World) (s n c : Int) (d : List Int) (cs : Array Value) (hs : in64 s ∧ in64 n) (hc : inu c) (hd : ∀ z ∈ d, in64 z) (h0 : 0 < d.length) (hl : d.length ≤ 2) (hcs : cs = ⟨d.map (Value.int .i64)⟩) :
    Hid (HSrc (((w.alloc (.cells #[.int .i64 s, .int .i64 n] 63)).alloc (.cells cs 2)).alloc (.cells #[.int .i64 0, .int .u64 0, .int .u64 0, .int .u64 c, .int .u64 0, .slice (some ⟨w.heap.size, 0, none⟩) 1 1, .slice none 0 0, .slice (some ⟨w.heap.size + 1, 0, none⟩) d.length d.length, .slice none 0 0] 26))
        (.agg #[.int .i64 0, .int .u64 0, .int .u64 0, .int .u64 c, .int .u64 0, .slice (some ⟨w.heap.size, 0, none⟩) 1 1, .slice none 0 0, .slice (some ⟨w.heap.size + 1, 0, none⟩) d.length d.length, .slice none 0 0]) ⟨0, 0, 0, c, 0, [(s, n)], [], d, []⟩ ∧
      Nine (((w.alloc (.cells #[.int .i64 s, .int .i64 n] 63)).alloc (.cells cs 2)).alloc (.cells #[.int .i64 0, .int .u64 0, .int .u64 0, .int .u64 c, .int .u64 0, .slice (some ⟨w.heap.size, 0, none⟩) 1 1, .slice none 0 0, .slice (some ⟨w.heap.size + 1, 0, none⟩) d.length d.length, .slice none 0 0] 26)) (w.heap.size + 1 + 1)
        #[.int .i64 0, .int .u64 0, .int .u64 0, .int .u64 c, .int .u64 0, .slice (some ⟨w.heap.size, 0, none⟩) 1 1, .slice none 0 0, .slice (some ⟨w.heap.size + 1, 0, none⟩) d.length d.length, .slice none 0 0] ∧
      Fr [] w (((w.alloc (.cells #[.int .i64 s, .int .i64 n] 63)).alloc (.cells cs 2)).alloc (.cells #[.int .i64 0, .int .u64 0, .int .u64 0, .int .u64 c, .int .u64 0, .slice (some ⟨w.heap.size, 0, none⟩) 1 1, .slice none 0 0, .slice (some ⟨w.heap.size + 1, 0, none⟩) d.length d.length, .slice none 0 0] 26))) := by
  subst hcs
  have s1 := lit_sp' (B := w.heap.size) (g := w.heap.size) 63 w [(s, n)] rfl (by omega) (by simp) (by unfold maxLen; simp)
  have s2 := lit_n (B := w.heap.size) (g := w.heap.size + 1) 2 (w.alloc (.cells #[.int .i64 s, .int .i64 n] 63)) d (by simp) (by omega) h0 (by unfold maxLen; omega)
  have n3 := Nine.new ((w.alloc (.cells #[.int .i64 s, .int .i64 n] 63)).alloc (.cells ⟨d.map (Value.int .i64)⟩ 2)) #[.int .i64 0, .int .u64 0, .int .u64 0, .int .u64 c, .int .u64 0, .slice (some ⟨w.heap.size, 0, none⟩) 1 1, .slice none 0 0, .slice (some ⟨w.heap.size + 1, 0, none⟩) d.length d.length, .slice none 0 0]
  rw [World.size_alloc, World.size_alloc] at n3
  refine ⟨?_, n3, (((Fr.refl [] w).alloc _).alloc _).alloc _⟩
  refine ⟨_, _, _, _, rfl, (by unfold in64; simp), ⟨(by unfold inu; simp), (by unfold inu; simp), hc, (by unfold inu; simp)⟩, ?_, SSrc.nil _, ?_, ISrc.nil _⟩
  · exact (s1.kept (((Fr.refl [] _).alloc _).alloc _)).src (by simpa using hs)
  · exact (s2.kept ((Fr.refl [] _).alloc _)).src hd

set_option maxHeartbeats 3000000 in
theorem awake11_any (w : World) : Calls Try.prog 10 #[] w fun e w' => e = .returned (.bool true) ∧ Fr [] w w' := by
  go_enter Try.func10, Try.ntmps10
  have HA := lay_at w 3 2 6 [5, -4] #[.int .i64 5, .int .i64 (-4)] (by unfold in64; decide) (by unfold inu; decide) (by unfold in64; decide) (by decide) (by decide) rfl
  simp only [List.length_cons, List.length_nil, Nat.reduceAdd] at HA
  go_upto_region 2 with fail
  generalize ((w.alloc (.cells _ _)).alloc (.cells _ _)).alloc (.cells _ _) = wA at HA ⊢
  have HFA : Hid (Fr [] w wA) := HA.out.2.2
  have HB := lay_at wA 3 1 9 [9] #[.int .i64 9] (by unfold in64; decide) (by unfold inu; decide) (by unfold in64; decide) (by decide) (by decide) rfl
  simp only [List.length_cons, List.length_nil, Nat.reduceAdd] at HB
  go_upto_region 3 with fail
  generalize ((wA.alloc (.cells _ _)).alloc (.cells _ _)).alloc (.cells _ _) = wB at HB ⊢
  have HFB : Hid (Fr [] w wB) := HFA.out.trans HB.out.2.2 (by simp)
  have SA : Hid (HSrc wB _ wkA) := HA.out.1.kept HB.out.2.2
  have SB : Hid (HSrc wB _ wkB) := HB.out.1
  have NA : Hid (Nine wB (w.heap.size + 1 + 1) _) := HA.out.2.1.kept HB.out.2.2 (by simp)
  have NB : Hid (Nine wB (wA.heap.size + 1 + 1) _) := HB.out.2.1
  generalize w.heap.size + 1 + 1 = G1 at NA ⊢
  generalize wA.heap.size + 1 + 1 = G2 at NB ⊢
  clear HA HB HFA
  have a0 := NA.out.cell 0 rfl
  have a1 := NA.out.cell 1 rfl
  have a2 := NA.out.cell 2 rfl
  have a3 := NA.out.cell 3 rfl
  have a4 := NA.out.cell 4 rfl
  have a5 := NA.out.cell 5 rfl
  have a6 := NA.out.cell 6 rfl
  have a7 := NA.out.cell 7 rfl
  have a8 := NA.out.cell 8 rfl
  have b0 := NB.out.cell 0 rfl
  have b1 := NB.out.cell 1 rfl
  have b2 := NB.out.cell 2 rfl
  have b3 := NB.out.cell 3 rfl
  have b4 := NB.out.cell 4 rfl
  have b5 := NB.out.cell 5 rfl
  have b6 := NB.out.cell 6 rfl
  have b7 := NB.out.cell 7 rfl
  have b8 := NB.out.cell 8 rfl
  go_wp2_with fail
  refine (ints_any _ _ wkA wkB wB SA.out SB.out).mono ?_
  rintro e1 w1 ⟨rfl, hf1⟩
  rw [wk_ab.1, wk_ab.2]
  have HF1 : Hid (Fr [] w w1) := HFB.out.trans hf1 (by simp)
  have HV1 : Hid ((w1.alloc (.cells #[.int .i64 5, .int .i64 4] 30)).heap[w1.heap.size]? = some (.cells #[.int .i64 5, .int .i64 4] 30 (0, 0)) ∧ Fr [] wB (w1.alloc (.cells #[.int .i64 5, .int .i64 4] 30))) := ⟨heap_alloc_new _ _, hf1.alloc _⟩
  clear hf1
  clear a0 a1 a2 a3 a4 a5 a6 a7 a8 b0 b1 b2 b3 b4 b5 b6 b7 b8
  go_upto_region 4 with fail
  generalize w1.alloc (.cells _ _) = wC at HV1 ⊢
  generalize w1.heap.size = G3 at HV1 ⊢
  have HFC : Hid (Fr [] w wC) := HFB.out.trans HV1.out.2 (by simp)
  have SA2 : Hid (HSrc wC _ wkA) := SA.out.kept HV1.out.2
  have SB2 : Hid (HSrc wC _ wkB) := SB.out.kept HV1.out.2
  have NA2 : Hid (Nine wC G1 _) := NA.out.kept HV1.out.2 (by simp)
  have NB2 : Hid (Nine wC G2 _) := NB.out.kept HV1.out.2 (by simp)
  have VC : Hid (wC.heap[G3]? = _) := HV1.out.1
  clear HV1 SA SB NA NB
  have a0 := NA2.out.cell 0 rfl
  have a1 := NA2.out.cell 1 rfl
  have a2 := NA2.out.cell 2 rfl
  have a3 := NA2.out.cell 3 rfl
  have a4 := NA2.out.cell 4 rfl
  have a5 := NA2.out.cell 5 rfl
  have a6 := NA2.out.cell 6 rfl
  have a7 := NA2.out.cell 7 rfl
  have a8 := NA2.out.cell 8 rfl
  have b0 := NB2.out.cell 0 rfl
  have b1 := NB2.out.cell 1 rfl
  have b2 := NB2.out.cell 2 rfl
  have b3 := NB2.out.cell 3 rfl
  have b4 := NB2.out.cell 4 rfl
  have b5 := NB2.out.cell 5 rfl
  have b6 := NB2.out.cell 6 rfl
  have b7 := NB2.out.cell 7 rfl
  have b8 := NB2.out.cell 8 rfl
  go_wp2_with fail
  refine (ints_any _ _ wkB wkA wC SB2.out SA2.out).mono ?_
  rintro e2 w2 ⟨rfl, hf2⟩
  rw [wk_ba.1, wk_ba.2]
  have HF2 : Hid (Fr [] w w2) := HFC.out.trans hf2 (by simp)
  have HV2 : Hid ((w2.alloc (.cells #[.int .i64 3, .int .i64 0] 30)).heap[w2.heap.size]? = some (.cells #[.int .i64 3, .int .i64 0] 30 (0, 0)) ∧ Fr [] wC (w2.alloc (.cells #[.int .i64 3, .int .i64 0] 30))) := ⟨heap_alloc_new _ _, hf2.alloc _⟩
  clear hf2
  clear a0 a1 a2 a3 a4 a5 a6 a7 a8 b0 b1 b2 b3 b4 b5 b6 b7 b8
  go_upto_region 5 with fail
  generalize w2.alloc (.cells _ _) = wD at HV2 ⊢
  generalize w2.heap.size = G4 at HV2 ⊢
  have HFD : Hid (Fr [] w wD) := HFC.out.trans HV2.out.2 (by simp)
  have SA3 : Hid (HSrc wD _ wkA) := SA2.out.kept HV2.out.2
  have NA3 : Hid (Nine wD G1 _) := NA2.out.kept HV2.out.2 (by simp)
  have VD3 : Hid (wD.heap[G3]? = _) := HV2.out.2.heap VC.out (by simp)
  have VD4 : Hid (wD.heap[G4]? = _) := HV2.out.1
  have SF : Hid (FSrc wD (.agg #[.int .i64 1, .int .u64 0, .int .u64 0, .int .u64 0, .int .u64 0, .slice none 0 0, .slice none 0 0, .slice none 0 0, .slice none 0 0]) wkF) := ⟨_, _, _, _, rfl, by unfold in64 wkF; decide, by unfold inu wkF; decide, SSrc.nil _, SSrc.nil _, USrc.nil _, USrc.nil _⟩
  have SG : Hid (FSrc wD (.agg #[.int .i64 0, .int .u64 0, .int .u64 0, .int .u64 0, .int .u64 0, .slice none 0 0, .slice none 0 0, .slice none 0 0, .slice none 0 0]) wkG) := ⟨_, _, _, _, rfl, by unfold in64 wkG; decide, by unfold inu wkG; decide, SSrc.nil _, SSrc.nil _, USrc.nil _, USrc.nil _⟩
  clear HV2 SA2 SB2 NA2 NB2 VC
  go_wp2_with fail
  refine (rfloats_any _ _ wkF wkG wD SF.out SG.out).mono ?_
  rintro e3 w3 ⟨rfl, hf3⟩
  rw [wk_fg.1, wk_fg.2]
  have HF3 : Hid (Fr [] w w3) := HFD.out.trans hf3 (by simp)
  have HV3 : Hid ((w3.alloc (.cells #[.int .i64 1, .int .i64 0] 30)).heap[w3.heap.size]? = some (.cells #[.int .i64 1, .int .i64 0] 30 (0, 0)) ∧ Fr [] wD (w3.alloc (.cells #[.int .i64 1, .int .i64 0] 30))) := ⟨heap_alloc_new _ _, hf3.alloc _⟩
  clear hf3
  go_upto_region 6 with fail
  generalize w3.alloc (.cells _ _) = wE at HV3 ⊢
  generalize w3.heap.size = G5 at HV3 ⊢
  have HFE : Hid (Fr [] w wE) := HFD.out.trans HV3.out.2 (by simp)
  have SA4 : Hid (HSrc wE _ wkA) := SA3.out.kept HV3.out.2
  have NA4 : Hid (Nine wE G1 _) := NA3.out.kept HV3.out.2 (by simp)
  have v30 := cell_at (HV3.out.2.heap VD3.out (by simp)) 0
  have v31 := cell_at (HV3.out.2.heap VD3.out (by simp)) 1
  have v40 := cell_at (HV3.out.2.heap VD4.out (by simp)) 0
  have v50 := cell_at HV3.out.1 0
  simp at v30 v31 v40 v50
  have a0 := NA4.out.cell 0 rfl
  have a1 := NA4.out.cell 1 rfl
  have a2 := NA4.out.cell 2 rfl
  have a3 := NA4.out.cell 3 rfl
  have a4 := NA4.out.cell 4 rfl
  have a5 := NA4.out.cell 5 rfl
  have a6 := NA4.out.cell 6 rfl
  have a7 := NA4.out.cell 7 rfl
  have a8 := NA4.out.cell 8 rfl
  go_wp2_with fail
  refine (sameR_any _ _ wkA wkA wE SA4.out SA4.out).mono ?_
  rintro e4 w4 ⟨rfl, hf4⟩
  rw [wk_aa]
  have HF4 : Hid (Fr [] w w4) := HFE.out.trans hf4 (by simp)
  clear hf4 v30 v31 v40 v50
  clear a0 a1 a2 a3 a4 a5 a6 a7 a8
  go_wp2_with fail
  refine (name_any 5 w4).mono ?_
  rintro e5 w5 ⟨rfl, rfl⟩
  rw [show nam 5 = ⟨#[112, 111, 115, 105, 116, 105, 118, 101]⟩ from rfl]
  go_wp2
  go_ret
  exact ⟨rfl, HF4.out⟩
end Go.Proofs.Ytnfbmdniomelnaa

/-
  The document's Numbers, Less, Fewer (layer 11).
-/
namespace Go.Proofs.Ytnfbmdniomelnaa
open Go.RowKit Mem Spans
set_option linter.unusedSimpArgs false
set_option linter.unusedVariables false
set_option maxRecDepth 100000

def num (s t z o c d k e : Int) : Int := if t ≠ s then 1 else if o ≠ z then 2 else if d < c then 3 else if e < k then 4 else 0
set_option maxHeartbeats 1000000 in
theorem lnumbers_any (s t z o c d k e : Int) (w : World) :
    Calls Try.prog 33 #[.int .i64 s, .int .i64 t, .int .u64 z, .int .u64 o, .int .u64 c, .int .u64 d, .int .u64 k, .int .u64 e] w fun x w' => x = .returned (.int .i64 (num s t z o c d k e)) ∧ w = w' := by
  go_enter Try.func33, Try.ntmps33
  by_cases h1 : t ≠ s
  · have HE : Hid (num s t z o c d k e = 1) := by unfold Hid num; rw [if_pos h1]
    have d1 : (s != t) = true := by simpa using fun h => h1 h.symm
    go_wp2
    go_ret
    exact ⟨by rw [HE.out]; rfl, rfl⟩
  have d1 : (s != t) = false := by have e : t = s := Decidable.of_not_not h1; simp [e]
  by_cases h2 : o ≠ z
  · have HE : Hid (num s t z o c d k e = 2) := by unfold Hid num; rw [if_neg h1, if_pos h2]
    have d2 : (z != o) = true := by simpa using fun h => h2 h.symm
    go_wp2
    go_ret
    exact ⟨by rw [HE.out]; rfl, rfl⟩
  have d2 : (z != o) = false := by have e : o = z := Decidable.of_not_not h2; simp [e]
  by_cases h3 : d < c
  · have HE : Hid (num s t z o c d k e = 3) := by unfold Hid num; rw [if_neg h1, if_neg h2, if_pos h3]
    go_wp2
    go_ret
    exact ⟨by rw [HE.out]; rfl, rfl⟩
  by_cases h4 : e < k
  · have HE : Hid (num s t z o c d k e = 4) := by unfold Hid num; rw [if_neg h1, if_neg h2, if_neg h3, if_pos h4]
    go_wp2
    go_ret
    exact ⟨by rw [HE.out]; rfl, rfl⟩
  · have HE : Hid (num s t z o c d k e = 0) := by unfold Hid num; rw [if_neg h1, if_neg h2, if_neg h3, if_neg h4]
    go_wp2
    go_ret
    exact ⟨by rw [HE.out]; rfl, rfl⟩

/-- What Less and Fewer tell: where the first one is that is above. -/
def LessAt (A B : List Sp) (i : Int) : Prop := (i = -1 ∧ fal A B = none) ∨ ∃ (k : Nat) (s : Sp), i = (k : Int) ∧ A[k]? = some s ∧ fal A B = some s
theorem fsts_at {l : List Sp} {k : Nat} {s : Sp} (h : l[k]? = some s) : (fsts l)[k]? = some s.1 ∧ (snds l)[k]? = some s.2 := by unfold fsts snds; simp [h]
theorem fsts_len (l : List Sp) : (fsts l).length = l.length ∧ (snds l).length = l.length := by unfold fsts snds; simp

set_option maxHeartbeats 2000000 in
theorem lless_any (v u v2 u2 : Value) (a b : List Sp) (w : World) (h : ISrc w v (fsts a)) (h2 : ISrc w u (snds a)) (h3 : ISrc w v2 (fsts b)) (h4 : ISrc w u2 (snds b)) :
    Calls Try.prog 34 #[v, u, v2, u2] w fun e w' => ∃ i, e = .returned (.int .i64 i) ∧ LessAt a b i ∧ Fr [] w w' := by
  have HB : Hid (ISrc w v2 (fsts b) ∧ ISrc w u2 (snds b)) := ⟨h3, h4⟩
  obtain ⟨ao, cap, rfl, hcap, hmax, _, g, off, hga, hc⟩ := h
  obtain ⟨bo, bcap, rfl, hbcap, hbmax, _, q, qoff, hqa, hd⟩ := h2
  obtain ⟨o3, c3, rfl, _⟩ := h3
  obtain ⟨o4, c4, rfl, _⟩ := h4
  have HL := fsts_len a
  have HC : Hid (∀ j x, (fsts a)[j]? = some x → w.cell? ⟨g, off + j, none⟩ = some (.int .i64 x)) := hc
  have HD : Hid (∀ j x, (snds a)[j]? = some x → w.cell? ⟨q, qoff + j, none⟩ = some (.int .i64 x)) := hd
  rw [HL.1] at hga hcap ⊢
  rw [HL.2] at hqa hbcap ⊢
  have HA : Hid (0 < a.length → ao = some ⟨g, off, none⟩) := hga
  have HA2 : Hid (0 < a.length → bo = some ⟨q, qoff, none⟩) := hqa
  have hml : a.length ≤ 9223372036854775807 := by unfold maxLen at hmax; omega
  clear hc hd hga hqa HL
  go_enter Try.func34, Try.ntmps34
  go_wp2
  go_loopw [9] (fun i wr => ∃ (k : Nat), k ≤ a.length ∧ i = .int .i64 (k : Int) ∧ fal a b = fal (a.drop k) b ∧ Fr [] w wr) (fun i _ => a.length - (intOf i).toNat)
  case atStart => exact ⟨0, by omega, rfl, rfl, Fr.refl _ _⟩
  case round =>
    obtain ⟨k, hk, rfl, hr, hf⟩ := hrel
    have HR : Hid (fal a b = fal (a.drop k) b) := hr
    have HF : Hid (Fr [] w wr) := hf
    clear hr hf
    by_cases hlt : k < a.length
    · obtain rfl := HA.out (by omega)
      obtain rfl := HA2.out (by omega)
      obtain ⟨s, hs⟩ := at_lt hlt
      have c0 : wr.cell? ⟨g, off + k, none⟩ = some (.int .i64 s.1) := HF.out.cell_some (HC.out k _ (fsts_at hs).1) (by simp)
      have c1 : wr.cell? ⟨q, qoff + k, none⟩ = some (.int .i64 s.2) := HF.out.cell_some (HD.out k _ (fsts_at hs).2) (by simp)
      have HS : Hid (a[k]? = some s) := hs
      clear hs
      have HAT : Hid (∀ wx, Fr [] w wx → Calls Try.prog 52 #[(.slice o3 (fsts b).length c3), (.slice o4 (snds b).length c4), .int .i64 s.1] wx fun e w' => e = .returned (.int .i64 (vat b s.1)) ∧ wx = w') := by
        intro wx hx
        refine (lat_any _ _ (fsts b) (snds b) s.1 wx (HB.out.1.kept hx) (HB.out.2.kept hx) (by rw [(fsts_len b).1, (fsts_len b).2]; exact Nat.le_refl _)).mono ?_
        rintro e w' ⟨rfl, h⟩
        exact ⟨by rw [alk_vat], h⟩
      go_wp2_with fail
      go_region_held3 (fun w' => w'.cell? ⟨g, off + k, none⟩ = some (.int .i64 s.1) ∧ w'.cell? ⟨q, qoff + k, none⟩ = some (.int .i64 s.2)) (go_keep) (first
        | (go_at_call 52; refine (HAT.out _ HF.out.drew).mono ?_; rintro e wx ⟨rfl, rfl⟩))
      by_cases hv : vat b s.1 < s.2
      · have HE : Hid (fal a b = some s) := by rw [Hid, HR.out, fal_at HS.out, if_pos hv]
        go_wp2
        go_ret
        exact ⟨_, rfl, .inr ⟨k, s, rfl, HS.out, HE.out⟩, HF.out.drew⟩
      · have HE : Hid (fal a b = fal (a.drop (k + 1)) b) := by rw [Hid, HR.out, fal_at HS.out, if_neg hv]
        go_wp2
        go_roundw
        case rel => first | exact ⟨k + 1, by omega, by go_num, HE.out, HF.out.drew⟩ | exact ⟨_, _, ⟨k + 1, by omega, rfl, HE.out, HF.out.drew⟩, rfl, by go_num⟩
        case measure => simp [intOf]; omega
    · have HE : Hid (fal a b = none) := by rw [Hid, HR.out, fal_end (by omega)]
      go_wp2
      go_ret
      exact ⟨_, rfl, .inl ⟨rfl, HE.out⟩, HF.out⟩
set_option maxHeartbeats 2000000 in
theorem lfewer_any (v u v2 u2 : Value) (a b : List Sp) (w : World) (h : ISrc w v (fsts a)) (h2 : USrc w u (snds a)) (h3 : ISrc w v2 (fsts b)) (h4 : USrc w u2 (snds b)) :
    Calls Try.prog 40 #[v, u, v2, u2] w fun e w' => ∃ i, e = .returned (.int .i64 i) ∧ LessAt a b i ∧ Fr [] w w' := by
  have HB : Hid (ISrc w v2 (fsts b) ∧ USrc w u2 (snds b)) := ⟨h3, h4⟩
  obtain ⟨ao, cap, rfl, hcap, hmax, _, g, off, hga, hc⟩ := h
  obtain ⟨bo, bcap, rfl, hbcap, hbmax, _, q, qoff, hqa, hd⟩ := h2
  obtain ⟨o3, c3, rfl, _⟩ := h3
  obtain ⟨o4, c4, rfl, _⟩ := h4
  have HL := fsts_len a
  have HC : Hid (∀ j x, (fsts a)[j]? = some x → w.cell? ⟨g, off + j, none⟩ = some (.int .i64 x)) := hc
  have HD : Hid (∀ j x, (snds a)[j]? = some x → w.cell? ⟨q, qoff + j, none⟩ = some (.int .u64 x)) := hd
  rw [HL.1] at hga hcap ⊢
  rw [HL.2] at hqa hbcap ⊢
  have HA : Hid (0 < a.length → ao = some ⟨g, off, none⟩) := hga
  have HA2 : Hid (0 < a.length → bo = some ⟨q, qoff, none⟩) := hqa
  have hml : a.length ≤ 9223372036854775807 := by unfold maxLen at hmax; omega
  clear hc hd hga hqa HL
  go_enter Try.func40, Try.ntmps40
  go_wp2
  go_loopw [9] (fun i wr => ∃ (k : Nat), k ≤ a.length ∧ i = .int .i64 (k : Int) ∧ fal a b = fal (a.drop k) b ∧ Fr [] w wr) (fun i _ => a.length - (intOf i).toNat)
  case atStart => exact ⟨0, by omega, rfl, rfl, Fr.refl _ _⟩
  case round =>
    obtain ⟨k, hk, rfl, hr, hf⟩ := hrel
    have HR : Hid (fal a b = fal (a.drop k) b) := hr
    have HF : Hid (Fr [] w wr) := hf
    clear hr hf
    by_cases hlt : k < a.length
    · obtain rfl := HA.out (by omega)
      obtain rfl := HA2.out (by omega)
      obtain ⟨s, hs⟩ := at_lt hlt
      have c0 : wr.cell? ⟨g, off + k, none⟩ = some (.int .i64 s.1) := HF.out.cell_some (HC.out k _ (fsts_at hs).1) (by simp)
      have c1 : wr.cell? ⟨q, qoff + k, none⟩ = some (.int .u64 s.2) := HF.out.cell_some (HD.out k _ (fsts_at hs).2) (by simp)
      have HS : Hid (a[k]? = some s) := hs
      clear hs
      have HAT : Hid (∀ wx, Fr [] w wx → Calls Try.prog 55 #[(.slice o3 (fsts b).length c3), (.slice o4 (snds b).length c4), .int .i64 s.1] wx fun e w' => e = .returned (.int .u64 (vat b s.1)) ∧ wx = w') := by
        intro wx hx
        refine (lat10_any _ _ (fsts b) (snds b) s.1 wx (HB.out.1.kept hx) (HB.out.2.kept hx) (by rw [(fsts_len b).1, (fsts_len b).2]; exact Nat.le_refl _)).mono ?_
        rintro e w' ⟨rfl, h⟩
        exact ⟨by rw [alk_vat], h⟩
      go_wp2_with fail
      go_region_held3 (fun w' => w'.cell? ⟨g, off + k, none⟩ = some (.int .i64 s.1) ∧ w'.cell? ⟨q, qoff + k, none⟩ = some (.int .u64 s.2)) (go_keep) (first
        | (go_at_call 55; refine (HAT.out _ HF.out.drew).mono ?_; rintro e wx ⟨rfl, rfl⟩))
      by_cases hv : vat b s.1 < s.2
      · have HE : Hid (fal a b = some s) := by rw [Hid, HR.out, fal_at HS.out, if_pos hv]
        go_wp2
        go_ret
        exact ⟨_, rfl, .inr ⟨k, s, rfl, HS.out, HE.out⟩, HF.out.drew⟩
      · have HE : Hid (fal a b = fal (a.drop (k + 1)) b) := by rw [Hid, HR.out, fal_at HS.out, if_neg hv]
        go_wp2
        go_roundw
        case rel => first | exact ⟨k + 1, by omega, by go_num, HE.out, HF.out.drew⟩ | exact ⟨_, _, ⟨k + 1, by omega, rfl, HE.out, HF.out.drew⟩, rfl, by go_num⟩
        case measure => simp [intOf]; omega
    · have HE : Hid (fal a b = none) := by rw [Hid, HR.out, fal_end (by omega)]
      go_wp2
      go_ret
      exact ⟨_, rfl, .inl ⟨rfl, HE.out⟩, HF.out⟩
end Go.Proofs.Ytnfbmdniomelnaa

/-
  The document's Ints (layer 11).
-/
namespace Go.Proofs.Ytnfbmdniomelnaa
open Go.RowKit Mem Spans
set_option linter.unusedSimpArgs false
set_option linter.unusedVariables false
set_option maxRecDepth 100000

theorem twoR_at (w : World) (A B : Array Value) : Hid (NineR ((w.alloc (.cells A 37)).alloc (.cells B 37)) w.heap.size A ∧
    NineR ((w.alloc (.cells A 37)).alloc (.cells B 37)) (w.heap.size + 1) B ∧ Fr [] w ((w.alloc (.cells A 37)).alloc (.cells B 37))) :=
  ⟨(NineR.new w A).kept ((Fr.refl [] _).alloc _) (by simp), nineR_top _ _ _, ((Fr.refl [] w).alloc _).alloc _⟩
theorem vnm_num {a b : Hs} (ka : che a = 0) (kb : che b = 0) : num a.s b.s a.z b.z a.c b.c a.zc b.zc = vnm (ctI a) (ctI b) := by
  unfold ctI vnm num; rw [if_pos ka, if_pos kb]

theorem sdp_sps {h : Hs} (k : che h = 0) : (spl h.P h.pd = fsts (sdp h) ∧ svl h.P h.pd = snds (sdp h)) ∧ (spl h.N h.nd = fsts (sdn h) ∧ svl h.N h.nd = snds (sdn h)) := by
  have kz := che_zero.1 k
  have e1 : sdp h = sdl h.P h.pd := by unfold sdp; rw [if_pos k]
  have e2 : sdn h = sdl h.N h.nd := by unfold sdn; rw [if_pos k]
  rw [e1, e2]
  exact ⟨spl_sdl kz.2.1, spl_sdl kz.2.2.1⟩
theorem fsts_in {l : List Sp} (h : ∀ x ∈ l, in64 x.1 ∧ in64 x.2) : (∀ z ∈ fsts l, in64 z) ∧ (∀ z ∈ snds l, in64 z) := by
  unfold fsts snds
  constructor
  · intro z hz; obtain ⟨x, hx, rfl⟩ := List.mem_map.1 hz; exact (h x hx).1
  · intro z hz; obtain ⟨x, hx, rfl⟩ := List.mem_map.1 hz; exact (h x hx).2
theorem isrc_at {w : World} {ao : Option Addr} {n cap : Nat} {zs : List Int} {k : Nat} {z : Int} (h : ISrc w (.slice ao n cap) zs) (hk : zs[k]? = some z) : ∃ b off, ao = some ⟨b, off, none⟩ ∧ w.cell? ⟨b, off + k, none⟩ = some (.int .i64 z) := by
  obtain ⟨ao', cap', e, _, _, _, b, off, ha, hc⟩ := h
  cases e
  have hl := (List.getElem?_eq_some_iff.1 hk).1
  exact ⟨b, off, ha (by omega), hc k z hk⟩

set_option maxHeartbeats 8000000 in
theorem lints_any (u v : Value) (a b : Hs) (w : World) (ha : HSrc w u a) (hb : HSrc w v b) (ka : che a = 0) (kb : che b = 0) :
    Calls Try.prog 15 #[u, v] w fun e w' => e = .returned (.tuple #[.int .i64 (vrd (ctI a) (ctI b)).1, .int .i64 (vrd (ctI a) (ctI b)).2]) ∧ Fr [] w w' := by
  obtain ⟨po, pc, no, nc, qo, qc, ro, rc, rfl, _, hsa, _⟩ := ha.opens
  obtain ⟨so, sc, mo, mc, xo, xc, yo, yc, rfl, _, hsb, _⟩ := hb.opens
  have HSA : Hid (∀ wx, Fr [] w wx → SSrc wx (.slice po a.P.length pc) a.P ∧ SSrc wx (.slice no a.N.length nc) a.N ∧ ISrc wx (.slice qo a.pd.length qc) a.pd ∧ ISrc wx (.slice ro a.nd.length rc) a.nd) := fun wx hx => ⟨hsa.1.kept hx, hsa.2.1.kept hx, hsa.2.2.1.kept hx, hsa.2.2.2.kept hx⟩
  have HSB : Hid (∀ wx, Fr [] w wx → SSrc wx (.slice so b.P.length sc) b.P ∧ SSrc wx (.slice mo b.N.length mc) b.N ∧ ISrc wx (.slice xo b.pd.length xc) b.pd ∧ ISrc wx (.slice yo b.nd.length yc) b.nd) := fun wx hx => ⟨hsb.1.kept hx, hsb.2.1.kept hx, hsb.2.2.1.kept hx, hsb.2.2.2.kept hx⟩
  have HNM : Hid (num a.s b.s a.z b.z a.c b.c a.zc b.zc = vnm (ctI a) (ctI b)) := vnm_num ka kb
  have HKA : Hid (che a = 0) := ka
  have HKB : Hid (che b = 0) := kb
  clear ha hb hsa hsb ka kb
  go_enter Try.func15, Try.ntmps15
  obtain ⟨A0, hA0⟩ : ∃ A0 : Array Value, A0 = #[.int .i64 a.s, .int .u64 a.z, .int .u64 a.zc, .int .u64 a.c, .int .u64 a.sm, .slice po a.P.length pc, .slice no a.N.length nc, .slice qo a.pd.length qc, .slice ro a.nd.length rc] := ⟨_, rfl⟩
  obtain ⟨B0, hB0⟩ : ∃ B0 : Array Value, B0 = #[.int .i64 b.s, .int .u64 b.z, .int .u64 b.zc, .int .u64 b.c, .int .u64 b.sm, .slice so b.P.length sc, .slice mo b.N.length mc, .slice xo b.pd.length xc, .slice yo b.nd.length yc] := ⟨_, rfl⟩
  have HA := twoR_at w A0 B0
  subst hA0
  subst hB0
  go_upto_region 1 with fail
  generalize (w.alloc (.cells _ _)).alloc (.cells _ _) = wA at HA ⊢
  have HFA : Hid (Fr [] w wA) := HA.out.2.2
  have HN : Hid (∀ wx, Fr [] wA wx → NineR wx w.heap.size _ ∧ NineR wx (w.heap.size + 1) _) := fun wx hx => ⟨HA.out.1.kept hx (by simp), HA.out.2.1.kept hx (by simp)⟩
  have HC : Hid ((ctI a).p = sdp a ∧ (ctI a).n = sdn a ∧ (ctI b).p = sdp b ∧ (ctI b).n = sdn b) := by unfold Hid ctI; rw [if_pos HKA.out, if_pos HKB.out]; exact ⟨rfl, rfl, rfl, rfl⟩
  have HSX := sdp_sps HKA.out
  have HSY := sdp_sps HKB.out
  have HPA : Hid ((spl a.P a.pd = fsts (sdp a) ∧ svl a.P a.pd = snds (sdp a)) ∧ (spl a.N a.nd = fsts (sdn a) ∧ svl a.N a.nd = snds (sdn a))) := HSX
  have HPB : Hid ((spl b.P b.pd = fsts (sdp b) ∧ svl b.P b.pd = snds (sdp b)) ∧ (spl b.N b.nd = fsts (sdn b) ∧ svl b.N b.nd = snds (sdn b))) := HSY
  clear HSX HSY
  have HI : Hid ((∀ z ∈ fsts (sdp a), in64 z) ∧ (∀ z ∈ snds (sdp a), in64 z) ∧ (∀ z ∈ fsts (sdn a), in64 z) ∧ (∀ z ∈ snds (sdn a), in64 z)) := ⟨(fsts_in (sdp_in a)).1, (fsts_in (sdp_in a)).2, (fsts_in (sdn_in a)).1, (fsts_in (sdn_in a)).2⟩
  have HJ : Hid ((∀ z ∈ fsts (sdp b), in64 z) ∧ (∀ z ∈ snds (sdp b), in64 z) ∧ (∀ z ∈ fsts (sdn b), in64 z) ∧ (∀ z ∈ snds (sdn b), in64 z)) := ⟨(fsts_in (sdp_in b)).1, (fsts_in (sdp_in b)).2, (fsts_in (sdn_in b)).1, (fsts_in (sdn_in b)).2⟩
  obtain ⟨nA, nB⟩ := HN.out wA (Fr.refl _ _)
  have a0 := nA.cell 0 rfl
  have a1 := nA.cell 1 rfl
  have a2 := nA.cell 2 rfl
  have a3 := nA.cell 3 rfl
  have b0 := nB.cell 0 rfl
  have b1 := nB.cell 1 rfl
  have b2 := nB.cell 2 rfl
  have b3 := nB.cell 3 rfl
  clear nA nB
  go_wp2_with fail
  refine (lnumbers_any a.s b.s a.z b.z a.c b.c a.zc b.zc wA).mono ?_
  rintro e1 w1 ⟨rfl, rfl⟩
  rw [HNM.out]
  clear a0 a1 a2 a3 b0 b1 b2 b3
  by_cases hn : vnm (ctI a) (ctI b) = 0
  case neg =>
    have HE : Hid (vrd (ctI a) (ctI b) = (vnm (ctI a) (ctI b), 0)) := by unfold Hid vrd; rw [if_neg hn]
    have d1 : (vnm (ctI a) (ctI b) != 0) = true := by simpa using hn
    go_wp2
    go_ret2
    exact ⟨by rw [HE.out]; rfl, HFA.out⟩
  have HE0 : Hid (vrd (ctI a) (ctI b) = (match fal (sdp a) (sdp b) with | some x => (5, x.1) | none => (match fal (sdn a) (sdn b) with | some x => (6, x.1) | none => (0, 0)))) := by unfold Hid vrd; rw [if_pos hn, HC.out.1, HC.out.2.1, HC.out.2.2.1, HC.out.2.2.2]; rfl
  rw [hn]
  obtain ⟨nA, nB⟩ := HN.out wA (Fr.refl _ _)
  have a5 := nA.cell 5 rfl
  have a7 := nA.cell 7 rfl
  clear nA nB
  go_wp2_with fail
  refine (lside_any _ _ a.P a.pd wA (HSA.out _ HFA.out).1 (HSA.out _ HFA.out).2.2.1).mono ?_
  rintro e w1 ⟨p1, x1, rfl, hp1, hx1, hf1⟩
  rw [HPA.out.1.1] at hp1
  rw [HPA.out.1.2] at hx1
  have HF1 : Hid (Fr [] w w1) := HFA.out.trans hf1 (by simp)
  have HFA1 : Hid (Fr [] wA w1) := hf1
  have HQ1 : Hid (ISrc w1 p1 (fsts (sdp a)) ∧ ISrc w1 x1 (snds (sdp a))) := ⟨hp1.src HI.out.1, hx1.src HI.out.2.1⟩
  have HFK1 : Hid (Fr [] wA w1) := hf1
  obtain ⟨po1, pc1, rfl, _⟩ := HQ1.out.1
  obtain ⟨xo1, xc1, rfl, _⟩ := HQ1.out.2
  clear hp1 hx1 hf1
  clear a5 a7
  obtain ⟨nA, nB⟩ := HN.out w1 HFA1.out
  have b5 := nB.cell 5 rfl
  have b7 := nB.cell 7 rfl
  clear nA nB
  go_wp2_with fail
  refine (lside_any _ _ b.P b.pd w1 (HSB.out _ HF1.out).1 (HSB.out _ HF1.out).2.2.1).mono ?_
  rintro e w2 ⟨p2, x2, rfl, hp2, hx2, hf2⟩
  rw [HPB.out.1.1] at hp2
  rw [HPB.out.1.2] at hx2
  have HF2 : Hid (Fr [] w w2) := HF1.out.trans hf2 (by simp)
  have HFA2 : Hid (Fr [] wA w2) := HFA1.out.trans hf2 (by simp)
  have HQ2 : Hid (ISrc w2 p2 (fsts (sdp b)) ∧ ISrc w2 x2 (snds (sdp b))) := ⟨hp2.src HJ.out.1, hx2.src HJ.out.2.1⟩
  have HFK2 : Hid (Fr [] w1 w2) := hf2
  obtain ⟨po2, pc2, rfl, _⟩ := HQ2.out.1
  obtain ⟨xo2, xc2, rfl, _⟩ := HQ2.out.2
  clear hp2 hx2 hf2
  clear b5 b7
  have HQ12 : Hid (ISrc w2 _ (fsts (sdp a)) ∧ ISrc w2 _ (snds (sdp a))) := ⟨HQ1.out.1.kept HFK2.out, HQ1.out.2.kept HFK2.out⟩
  clear HQ1
  go_wp2_with fail
  refine (lless_any _ _ _ _ (sdp a) (sdp b) w2 HQ12.out.1 HQ12.out.2 HQ2.out.1 HQ2.out.2).mono ?_
  rintro e w3 ⟨i1, rfl, hi1, hf3⟩
  have HF3 : Hid (Fr [] w w3) := HF2.out.trans hf3 (by simp)
  have HFA3 : Hid (Fr [] wA w3) := HFA2.out.trans hf3 (by simp)
  rcases hi1 with ⟨rfl, hn1⟩ | ⟨k, s, rfl, hk, hs⟩
  case inr =>
    have HE : Hid (vrd (ctI a) (ctI b) = (5, s.1)) := by rw [Hid, HE0.out, hs]
    obtain ⟨g, off, rfl, hc⟩ := isrc_at (HQ12.out.1.kept hf3) (fsts_at hk).1
    have hkl : k < (fsts (sdp a)).length := (List.getElem?_eq_some_iff.1 (fsts_at hk).1).1
    have hkm : k ≤ 4096 := by have h1 := sdp_le a; rw [(fsts_len (sdp a)).1] at hkl; omega
    clear hf3
    go_wp2_with fail
    go_quiet (fail)
    go_wp2
    go_ret2
    exact ⟨by rw [HE.out]; rfl, HF3.out.trans (fr_drewN _ _) (by simp)⟩
  have HE1 : Hid (vrd (ctI a) (ctI b) = (match fal (sdn a) (sdn b) with | some x => (6, x.1) | none => (0, 0))) := by rw [Hid, HE0.out, hn1]
  clear hf3 hn1 HE0 HQ12 HQ2 HFK2
  obtain ⟨nA, nB⟩ := HN.out w3 HFA3.out
  have a6 := nA.cell 6 rfl
  have a8 := nA.cell 8 rfl
  clear nA nB
  go_wp2_with fail
  refine (lside_any _ _ a.N a.nd w3 (HSA.out _ HF3.out).2.1 (HSA.out _ HF3.out).2.2.2).mono ?_
  rintro e w4 ⟨p4, x4, rfl, hp4, hx4, hf4⟩
  rw [HPA.out.2.1] at hp4
  rw [HPA.out.2.2] at hx4
  have HF4 : Hid (Fr [] w w4) := HF3.out.trans hf4 (by simp)
  have HFA4 : Hid (Fr [] wA w4) := HFA3.out.trans hf4 (by simp)
  have HQ4 : Hid (ISrc w4 p4 (fsts (sdn a)) ∧ ISrc w4 x4 (snds (sdn a))) := ⟨hp4.src HI.out.2.2.1, hx4.src HI.out.2.2.2⟩
  have HFK4 : Hid (Fr [] w3 w4) := hf4
  obtain ⟨po4, pc4, rfl, _⟩ := HQ4.out.1
  obtain ⟨xo4, xc4, rfl, _⟩ := HQ4.out.2
  clear hp4 hx4 hf4
  clear a6 a8
  obtain ⟨nA, nB⟩ := HN.out w4 HFA4.out
  have b6 := nB.cell 6 rfl
  have b8 := nB.cell 8 rfl
  clear nA nB
  go_wp2_with fail
  refine (lside_any _ _ b.N b.nd w4 (HSB.out _ HF4.out).2.1 (HSB.out _ HF4.out).2.2.2).mono ?_
  rintro e w5 ⟨p5, x5, rfl, hp5, hx5, hf5⟩
  rw [HPB.out.2.1] at hp5
  rw [HPB.out.2.2] at hx5
  have HF5 : Hid (Fr [] w w5) := HF4.out.trans hf5 (by simp)
  have HFA5 : Hid (Fr [] wA w5) := HFA4.out.trans hf5 (by simp)
  have HQ5 : Hid (ISrc w5 p5 (fsts (sdn b)) ∧ ISrc w5 x5 (snds (sdn b))) := ⟨hp5.src HJ.out.2.2.1, hx5.src HJ.out.2.2.2⟩
  have HFK5 : Hid (Fr [] w4 w5) := hf5
  obtain ⟨po5, pc5, rfl, _⟩ := HQ5.out.1
  obtain ⟨xo5, xc5, rfl, _⟩ := HQ5.out.2
  clear hp5 hx5 hf5
  clear b6 b8
  have HQ45 : Hid (ISrc w5 _ (fsts (sdn a)) ∧ ISrc w5 _ (snds (sdn a))) := ⟨HQ4.out.1.kept HFK5.out, HQ4.out.2.kept HFK5.out⟩
  clear HQ4
  go_wp2_with fail
  refine (lless_any _ _ _ _ (sdn a) (sdn b) w5 HQ45.out.1 HQ45.out.2 HQ5.out.1 HQ5.out.2).mono ?_
  rintro e w6 ⟨i2, rfl, hi2, hf6⟩
  have HF6 : Hid (Fr [] w w6) := HF5.out.trans hf6 (by simp)
  rcases hi2 with ⟨rfl, hn2⟩ | ⟨k, s, rfl, hk, hs⟩
  case inr =>
    have HE : Hid (vrd (ctI a) (ctI b) = (6, s.1)) := by rw [Hid, HE1.out, hs]
    obtain ⟨g, off, rfl, hc⟩ := isrc_at (HQ45.out.1.kept hf6) (fsts_at hk).1
    have hkl : k < (fsts (sdn a)).length := (List.getElem?_eq_some_iff.1 (fsts_at hk).1).1
    have hkm : k ≤ 4096 := by have h1 := sdn_le a; rw [(fsts_len (sdn a)).1] at hkl; omega
    clear hf6
    go_wp2_with fail
    go_quiet (fail)
    go_wp2
    go_ret2
    exact ⟨by rw [HE.out]; rfl, HF6.out.trans (fr_drewN _ _) (by simp)⟩
  have HE : Hid (vrd (ctI a) (ctI b) = (0, 0)) := by rw [Hid, HE1.out, hn2]
  go_wp2
  go_ret2
  exact ⟨by rw [HE.out]; rfl, HF6.out⟩
end Go.Proofs.Ytnfbmdniomelnaa

/-
  The document's Floats (layer 11).
-/
namespace Go.Proofs.Ytnfbmdniomelnaa
open Go.RowKit Mem Spans
set_option linter.unusedSimpArgs false
set_option linter.unusedVariables false
set_option maxRecDepth 100000

theorem twoG_at (w : World) (A B : Array Value) : Hid (NineG ((w.alloc (.cells A 49)).alloc (.cells B 49)) w.heap.size A ∧
    NineG ((w.alloc (.cells A 49)).alloc (.cells B 49)) (w.heap.size + 1) B ∧ Fr [] w ((w.alloc (.cells A 49)).alloc (.cells B 49))) :=
  ⟨(NineG.new w A).kept ((Fr.refl [] _).alloc _) (by simp), nineG_top _ _ _, ((Fr.refl [] w).alloc _).alloc _⟩
theorem vnm_numF {a b : Fs} (ka : fce a = 0) (kb : fce b = 0) : num a.s b.s a.z b.z a.c b.c a.zc b.zc = vnm (ctF a) (ctF b) := by
  unfold ctF vnm num; rw [if_pos ka, if_pos kb]
theorem fdp_sps {h : Fs} (k : fce h = 0) : (chk h.P = 0 ∧ pls h.P = fsts (fdp h) ∧ h.pd = snds (fdp h)) ∧ (chk h.N = 0 ∧ pls h.N = fsts (fdn h) ∧ h.nd = snds (fdn h)) := by
  have kz := fce_zero.1 k
  have e1 : fdp h = fsl h.P h.pd := by unfold fdp; rw [if_pos k]
  have e2 : fdn h = fsl h.N h.nd := by unfold fdn; rw [if_pos k]
  rw [e1, e2]
  exact ⟨⟨(fsd_zero.1 kz.2.1).1, (fsl_zip kz.2.1).2.1.symm, (fsl_zip kz.2.1).2.2.symm⟩, ⟨(fsd_zero.1 kz.2.2).1, (fsl_zip kz.2.2).2.1.symm, (fsl_zip kz.2.2).2.2.symm⟩⟩

set_option maxHeartbeats 8000000 in
theorem lfloats11_any (u v : Value) (a b : Fs) (w : World) (ha : FSrc w u a) (hb : FSrc w v b) (ka : fce a = 0) (kb : fce b = 0) :
    Calls Try.prog 20 #[u, v] w fun e w' => e = .returned (.tuple #[.int .i64 (vrd (ctF a) (ctF b)).1, .int .i64 (vrd (ctF a) (ctF b)).2]) ∧ Fr [] w w' := by
  obtain ⟨po, pc, no, nc, qo, qc, ro, rc, rfl, _, hsa, _⟩ := ha.opens
  obtain ⟨so, sc, mo, mc, xo, xc, yo, yc, rfl, _, hsb, _⟩ := hb.opens
  have HSA : Hid (∀ wx, Fr [] w wx → SSrc wx (.slice po a.P.length pc) a.P ∧ SSrc wx (.slice no a.N.length nc) a.N ∧ USrc wx (.slice qo a.pd.length qc) a.pd ∧ USrc wx (.slice ro a.nd.length rc) a.nd) := fun wx hx => ⟨hsa.1.kept hx, hsa.2.1.kept hx, hsa.2.2.1.kept hx, hsa.2.2.2.kept hx⟩
  have HSB : Hid (∀ wx, Fr [] w wx → SSrc wx (.slice so b.P.length sc) b.P ∧ SSrc wx (.slice mo b.N.length mc) b.N ∧ USrc wx (.slice xo b.pd.length xc) b.pd ∧ USrc wx (.slice yo b.nd.length yc) b.nd) := fun wx hx => ⟨hsb.1.kept hx, hsb.2.1.kept hx, hsb.2.2.1.kept hx, hsb.2.2.2.kept hx⟩
  have HNM : Hid (num a.s b.s a.z b.z a.c b.c a.zc b.zc = vnm (ctF a) (ctF b)) := vnm_numF ka kb
  have HKA : Hid (fce a = 0) := ka
  have HKB : Hid (fce b = 0) := kb
  clear ha hb hsa hsb ka kb
  go_enter Try.func20, Try.ntmps20
  obtain ⟨A0, hA0⟩ : ∃ A0 : Array Value, A0 = #[.int .i64 a.s, .int .u64 a.z, .int .u64 a.zc, .int .u64 a.c, .int .u64 a.sm, .slice po a.P.length pc, .slice no a.N.length nc, .slice qo a.pd.length qc, .slice ro a.nd.length rc] := ⟨_, rfl⟩
  obtain ⟨B0, hB0⟩ : ∃ B0 : Array Value, B0 = #[.int .i64 b.s, .int .u64 b.z, .int .u64 b.zc, .int .u64 b.c, .int .u64 b.sm, .slice so b.P.length sc, .slice mo b.N.length mc, .slice xo b.pd.length xc, .slice yo b.nd.length yc] := ⟨_, rfl⟩
  have HA := twoG_at w A0 B0
  subst hA0
  subst hB0
  go_upto_region 1 with fail
  generalize (w.alloc (.cells _ _)).alloc (.cells _ _) = wA at HA ⊢
  have HFA : Hid (Fr [] w wA) := HA.out.2.2
  have HN : Hid (∀ wx, Fr [] wA wx → NineG wx w.heap.size _ ∧ NineG wx (w.heap.size + 1) _) := fun wx hx => ⟨HA.out.1.kept hx (by simp), HA.out.2.1.kept hx (by simp)⟩
  have HC : Hid ((ctF a).p = fdp a ∧ (ctF a).n = fdn a ∧ (ctF b).p = fdp b ∧ (ctF b).n = fdn b) := by unfold Hid ctF; rw [if_pos HKA.out, if_pos HKB.out]; exact ⟨rfl, rfl, rfl, rfl⟩
  have HPA : Hid ((chk a.P = 0 ∧ pls a.P = fsts (fdp a) ∧ a.pd = snds (fdp a)) ∧ (chk a.N = 0 ∧ pls a.N = fsts (fdn a) ∧ a.nd = snds (fdn a))) := fdp_sps HKA.out
  have HPB : Hid ((chk b.P = 0 ∧ pls b.P = fsts (fdp b) ∧ b.pd = snds (fdp b)) ∧ (chk b.N = 0 ∧ pls b.N = fsts (fdn b) ∧ b.nd = snds (fdn b))) := fdp_sps HKB.out
  have HPa : Hid (∀ wx, Fr [] wA wx → Calls Try.prog 39 #[.slice po a.P.length pc] wx fun e w' => ∃ u, e = .returned u ∧ ISrc w' u (fsts (fdp a)) ∧ Fr [] wA w' ∧ Fr [] wx w') := by
    intro wx hx
    refine (lplaces_any _ a.P wx (HSA.out _ (HFA.out.trans hx (by simp))).1 HPA.out.1.1).mono ?_
    rintro e w' ⟨u, rfl, hu, hf⟩
    rw [HPA.out.1.2.1] at hu
    exact ⟨u, rfl, hu.src (by rw [← HPA.out.1.2.1]; exact pls_in64), hx.trans hf (by simp), hf⟩
  have HPb : Hid (∀ wx, Fr [] wA wx → Calls Try.prog 39 #[.slice so b.P.length sc] wx fun e w' => ∃ u, e = .returned u ∧ ISrc w' u (fsts (fdp b)) ∧ Fr [] wA w' ∧ Fr [] wx w') := by
    intro wx hx
    refine (lplaces_any _ b.P wx (HSB.out _ (HFA.out.trans hx (by simp))).1 HPB.out.1.1).mono ?_
    rintro e w' ⟨u, rfl, hu, hf⟩
    rw [HPB.out.1.2.1] at hu
    exact ⟨u, rfl, hu.src (by rw [← HPB.out.1.2.1]; exact pls_in64), hx.trans hf (by simp), hf⟩
  have HNa : Hid (∀ wx, Fr [] wA wx → Calls Try.prog 39 #[.slice no a.N.length nc] wx fun e w' => ∃ u, e = .returned u ∧ ISrc w' u (fsts (fdn a)) ∧ Fr [] wA w' ∧ Fr [] wx w') := by
    intro wx hx
    refine (lplaces_any _ a.N wx (HSA.out _ (HFA.out.trans hx (by simp))).2.1 HPA.out.2.1).mono ?_
    rintro e w' ⟨u, rfl, hu, hf⟩
    rw [HPA.out.2.2.1] at hu
    exact ⟨u, rfl, hu.src (by rw [← HPA.out.2.2.1]; exact pls_in64), hx.trans hf (by simp), hf⟩
  have HNb : Hid (∀ wx, Fr [] wA wx → Calls Try.prog 39 #[.slice mo b.N.length mc] wx fun e w' => ∃ u, e = .returned u ∧ ISrc w' u (fsts (fdn b)) ∧ Fr [] wA w' ∧ Fr [] wx w') := by
    intro wx hx
    refine (lplaces_any _ b.N wx (HSB.out _ (HFA.out.trans hx (by simp))).2.1 HPB.out.2.1).mono ?_
    rintro e w' ⟨u, rfl, hu, hf⟩
    rw [HPB.out.2.2.1] at hu
    exact ⟨u, rfl, hu.src (by rw [← HPB.out.2.2.1]; exact pls_in64), hx.trans hf (by simp), hf⟩
  obtain ⟨nA, nB⟩ := HN.out wA (Fr.refl _ _)
  have a0 := nA.cell 0 rfl
  have a1 := nA.cell 1 rfl
  have a2 := nA.cell 2 rfl
  have a3 := nA.cell 3 rfl
  have b0 := nB.cell 0 rfl
  have b1 := nB.cell 1 rfl
  have b2 := nB.cell 2 rfl
  have b3 := nB.cell 3 rfl
  clear nA nB
  go_wp2_with fail
  refine (lnumbers_any a.s b.s a.z b.z a.c b.c a.zc b.zc wA).mono ?_
  rintro e1 w1 ⟨rfl, rfl⟩
  rw [HNM.out]
  clear a0 a1 a2 a3 b0 b1 b2 b3
  by_cases hn : vnm (ctF a) (ctF b) = 0
  case neg =>
    have HE : Hid (vrd (ctF a) (ctF b) = (vnm (ctF a) (ctF b), 0)) := by unfold Hid vrd; rw [if_neg hn]
    have d1 : (vnm (ctF a) (ctF b) != 0) = true := by simpa using hn
    go_wp2
    go_ret2
    exact ⟨by rw [HE.out]; rfl, HFA.out⟩
  have HE0 : Hid (vrd (ctF a) (ctF b) = (match fal (fdp a) (fdp b) with | some x => (5, x.1) | none => (match fal (fdn a) (fdn b) with | some x => (6, x.1) | none => (0, 0)))) := by unfold Hid vrd; rw [if_pos hn, HC.out.1, HC.out.2.1, HC.out.2.2.1, HC.out.2.2.2]; rfl
  rw [hn]
  obtain ⟨nA, nB⟩ := HN.out wA (Fr.refl [] wA)
  have a5 := nA.cell 5 rfl
  have b5 := nB.cell 5 rfl
  clear nA nB
  have Z1 : Hid (wA.cell? ⟨w.heap.size, 5, none⟩ = some (.slice po a.P.length pc) ∧ wA.cell? ⟨w.heap.size + 1, 5, none⟩ = some (.slice so b.P.length sc)) := ⟨(HN.out wA (Fr.refl _ _)).1.cell 5 rfl, (HN.out wA (Fr.refl _ _)).2.cell 5 rfl⟩
  have F0 : Fr [] wA (wA).drew := ((Fr.refl [] wA)).drew
  go_wp2_with fail
  go_region_held3 (fun w' => w'.cell? ⟨w.heap.size, 5, none⟩ = some (.slice po a.P.length pc) ∧ w'.cell? ⟨w.heap.size + 1, 5, none⟩ = some (.slice so b.P.length sc)) (go_keep) (first
    | (go_at_call 39; with_reducible refine (HPa.out _ F0).mono ?_; rintro e wa1 ⟨ua1, rfl, hua1, hfa1, hxa1⟩; have ka1 := hfa1.cell_some Z1.out.1 (by simp); have kb1 := hfa1.cell_some Z1.out.2 (by simp))
    | (go_at_call 39; with_reducible refine (HPb.out _ hfa1).mono ?_; rintro e wb1 ⟨ub1, rfl, hub1, hfb1, hxb1⟩; have la1 := hfb1.cell_some Z1.out.1 (by simp); have lb1 := hfb1.cell_some Z1.out.2 (by simp)))
  have HU1 : Hid (ISrc wb1 ua1 (fsts (fdp a)) ∧ ISrc wb1 ub1 (fsts (fdp b))) := ⟨hua1.kept hxb1, hub1⟩
  have HFx1 : Hid (Fr [] w wb1) := HFA.out.trans hfb1 (by simp)
  have HFy1 : Hid (Fr [] wA wb1) := hfb1
  obtain ⟨pa1, qa1, rfl, _⟩ := HU1.out.1
  obtain ⟨pb1, qb1, rfl, _⟩ := HU1.out.2
  clear F0 hua1 hub1 hfa1 hfb1 hxa1 hxb1 ka1 kb1 la1 lb1
  clear a5 b5
  obtain ⟨nA, nB⟩ := HN.out wb1 HFy1.out
  have a7 := nA.cell 7 rfl
  have b7 := nB.cell 7 rfl
  clear nA nB
  go_wp2_with fail
  refine (lfewer_any _ _ _ _ (fdp a) (fdp b) wb1 HU1.out.1 (by rw [← HPA.out.1.2.2]; exact (HSA.out _ HFx1.out).2.2.1) HU1.out.2 (by rw [← HPB.out.1.2.2]; exact (HSB.out _ HFx1.out).2.2.1)).mono ?_
  rintro e wc1 ⟨i1, rfl, hi1, hf1⟩
  have HFz1 : Hid (Fr [] w wc1) := HFx1.out.trans hf1 (by simp)
  have HFw1 : Hid (Fr [] wA wc1) := HFy1.out.trans hf1 (by simp)
  clear a7 b7
  rcases hi1 with ⟨rfl, hn1⟩ | ⟨k, s, rfl, hk, hs⟩
  case inr =>
    have HE : Hid (vrd (ctF a) (ctF b) = (5, s.1)) := by rw [Hid, HE0.out, hs]
    obtain ⟨g, off, rfl, hc⟩ := isrc_at (HU1.out.1.kept hf1) (fsts_at hk).1
    have hkl : k < (fsts (fdp a)).length := (List.getElem?_eq_some_iff.1 (fsts_at hk).1).1
    have hkm : k ≤ 4096 := by have h1 := fdp_le a; rw [(fsts_len (fdp a)).1] at hkl; omega
    clear hf1
    go_wp2_with fail
    go_quiet (fail)
    go_wp2
    go_ret2
    exact ⟨by rw [HE.out]; rfl, HFz1.out.trans (fr_drewN _ _) (by simp)⟩
  have HE1 : Hid (vrd (ctF a) (ctF b) = (match fal (fdn a) (fdn b) with | some x => (6, x.1) | none => (0, 0))) := by rw [Hid, HE0.out, hn1]
  clear hf1 hn1 HE0 HU1
  obtain ⟨nA, nB⟩ := HN.out wc1 HFw1.out
  have a6 := nA.cell 6 rfl
  have b6 := nB.cell 6 rfl
  clear nA nB
  have Z2 : Hid (wA.cell? ⟨w.heap.size, 6, none⟩ = some (.slice no a.N.length nc) ∧ wA.cell? ⟨w.heap.size + 1, 6, none⟩ = some (.slice mo b.N.length mc)) := ⟨(HN.out wA (Fr.refl _ _)).1.cell 6 rfl, (HN.out wA (Fr.refl _ _)).2.cell 6 rfl⟩
  have F0 : Fr [] wA (wc1).drew := (HFw1.out).drew
  go_wp2_with fail
  go_region_held3 (fun w' => w'.cell? ⟨w.heap.size, 6, none⟩ = some (.slice no a.N.length nc) ∧ w'.cell? ⟨w.heap.size + 1, 6, none⟩ = some (.slice mo b.N.length mc)) (go_keep) (first
    | (go_at_call 39; with_reducible refine (HNa.out _ F0).mono ?_; rintro e wa2 ⟨ua2, rfl, hua2, hfa2, hxa2⟩; have ka2 := hfa2.cell_some Z2.out.1 (by simp); have kb2 := hfa2.cell_some Z2.out.2 (by simp))
    | (go_at_call 39; with_reducible refine (HNb.out _ hfa2).mono ?_; rintro e wb2 ⟨ub2, rfl, hub2, hfb2, hxb2⟩; have la2 := hfb2.cell_some Z2.out.1 (by simp); have lb2 := hfb2.cell_some Z2.out.2 (by simp)))
  have HU2 : Hid (ISrc wb2 ua2 (fsts (fdn a)) ∧ ISrc wb2 ub2 (fsts (fdn b))) := ⟨hua2.kept hxb2, hub2⟩
  have HFx2 : Hid (Fr [] w wb2) := HFA.out.trans hfb2 (by simp)
  have HFy2 : Hid (Fr [] wA wb2) := hfb2
  obtain ⟨pa2, qa2, rfl, _⟩ := HU2.out.1
  obtain ⟨pb2, qb2, rfl, _⟩ := HU2.out.2
  clear F0 hua2 hub2 hfa2 hfb2 hxa2 hxb2 ka2 kb2 la2 lb2
  clear a6 b6
  obtain ⟨nA, nB⟩ := HN.out wb2 HFy2.out
  have a8 := nA.cell 8 rfl
  have b8 := nB.cell 8 rfl
  clear nA nB
  go_wp2_with fail
  refine (lfewer_any _ _ _ _ (fdn a) (fdn b) wb2 HU2.out.1 (by rw [← HPA.out.2.2.2]; exact (HSA.out _ HFx2.out).2.2.2) HU2.out.2 (by rw [← HPB.out.2.2.2]; exact (HSB.out _ HFx2.out).2.2.2)).mono ?_
  rintro e wc2 ⟨i2, rfl, hi2, hf2⟩
  have HFz2 : Hid (Fr [] w wc2) := HFx2.out.trans hf2 (by simp)
  have HFw2 : Hid (Fr [] wA wc2) := HFy2.out.trans hf2 (by simp)
  clear a8 b8
  rcases hi2 with ⟨rfl, hn2⟩ | ⟨k, s, rfl, hk, hs⟩
  case inr =>
    have HE : Hid (vrd (ctF a) (ctF b) = (6, s.1)) := by rw [Hid, HE1.out, hs]
    obtain ⟨g, off, rfl, hc⟩ := isrc_at (HU2.out.1.kept hf2) (fsts_at hk).1
    have hkl : k < (fsts (fdn a)).length := (List.getElem?_eq_some_iff.1 (fsts_at hk).1).1
    have hkm : k ≤ 4096 := by have h1 := fdn_le a; rw [(fsts_len (fdn a)).1] at hkl; omega
    clear hf2
    go_wp2_with fail
    go_quiet (fail)
    go_wp2
    go_ret2
    exact ⟨by rw [HE.out]; rfl, HFz2.out.trans (fr_drewN _ _) (by simp)⟩
  have HE : Hid (vrd (ctF a) (ctF b) = (0, 0)) := by rw [Hid, HE1.out, hn2]
  go_wp2
  go_ret2
  exact ⟨by rw [HE.out]; rfl, HFz2.out⟩
end Go.Proofs.Ytnfbmdniomelnaa

/-
  What the walks of layer 11 share.
-/
namespace Go.Proofs.Ytnfbmdniomelnaa
open Go.RowKit Mem Spans
set_option linter.unusedSimpArgs false
set_option linter.unusedVariables false
set_option maxRecDepth 100000

theorem entry2H_at (w : World) (A B : Array Value) : Hid (Nine ((w.alloc (.cells A 26)).alloc (.cells B 26)) w.heap.size A ∧
    Nine ((w.alloc (.cells A 26)).alloc (.cells B 26)) (w.heap.size + 1) B ∧ Fr [] w ((w.alloc (.cells A 26)).alloc (.cells B 26))) :=
  ⟨nine_mid _ _ _, nine_top _ _ _, ((Fr.refl [] w).alloc _).alloc _⟩
theorem entry2F_at (w : World) (A B : Array Value) : Hid (NineF ((w.alloc (.cells A 44)).alloc (.cells B 44)) w.heap.size A ∧
    NineF ((w.alloc (.cells A 44)).alloc (.cells B 44)) (w.heap.size + 1) B ∧ Fr [] w ((w.alloc (.cells A 44)).alloc (.cells B 44))) :=
  ⟨nineF_mid _ _ _, nineF_top _ _ _, ((Fr.refl [] w).alloc _).alloc _⟩
theorem entry3H_at (w : World) (A B C : Array Value) : Hid (Nine (((w.alloc (.cells A 26)).alloc (.cells B 26)).alloc (.cells C 26)) w.heap.size A ∧
    Nine (((w.alloc (.cells A 26)).alloc (.cells B 26)).alloc (.cells C 26)) (w.heap.size + 1) B ∧
    Nine (((w.alloc (.cells A 26)).alloc (.cells B 26)).alloc (.cells C 26)) (w.heap.size + 1 + 1) C ∧
    Fr [] w (((w.alloc (.cells A 26)).alloc (.cells B 26)).alloc (.cells C 26))) := by
  refine ⟨(nine_mid _ _ _).kept ((Fr.refl [] _).alloc _) (by simp), (nine_top _ _ _).kept ((Fr.refl [] _).alloc _) (by simp), ?_, (((Fr.refl [] w).alloc _).alloc _).alloc _⟩
  have := Nine.new ((w.alloc (.cells A 26)).alloc (.cells B 26)) C
  rwa [World.size_alloc, World.size_alloc] at this
theorem rv_a {a b : Hs} (h : che a ≠ 0) : riv a b = (0, 0) ∧ rie a b = che a := by
  have e : rie a b = che a := by unfold rie; rw [if_neg h]
  refine ⟨?_, e⟩
  unfold riv; rw [if_neg (by rw [e]; exact h)]
theorem rv_b {a b : Hs} (h : che a = 0) (h2 : che b ≠ 0) : riv a b = (0, 0) ∧ rie a b = che b := by
  have e : rie a b = che b := by unfold rie; rw [if_pos h]
  refine ⟨?_, e⟩
  unfold riv; rw [if_neg (by rw [e]; exact h2)]
theorem rv_ok {a b : Hs} (h : che a = 0) (h2 : che b = 0) : riv a b = vrd (ctI a) (ctI b) ∧ rie a b = 0 := by
  have e : rie a b = 0 := by unfold rie; rw [if_pos h]; exact h2
  refine ⟨?_, e⟩
  unfold riv; rw [if_pos e]
theorem rs_a {a b : Hs} (h : che a ≠ 0) : (gon a b && gon b a) = false := by
  have : gon a b = false := by unfold gon; rw [(rv_a h).2]; exact decide_eq_false (fun k => h k.1)
  rw [this]; rfl
theorem rs_b {a b : Hs} (h : che a = 0) (h2 : che b ≠ 0) : (gon a b && gon b a) = false := by
  have : gon a b = false := by unfold gon; rw [(rv_b h h2).2]; exact decide_eq_false (fun k => h2 k.1)
  rw [this]; rfl
theorem gon_ok {a b : Hs} (h : che a = 0) (h2 : che b = 0) : gon a b = decide ((vrd (ctI a) (ctI b)).1 = 0) := by
  unfold gon; rw [(rv_ok h h2).1, (rv_ok h h2).2]; simp
theorem rs_ok {a b : Hs} (h : che a = 0) (h2 : che b = 0) : (gon a b && gon b a) = (decide ((vrd (ctI a) (ctI b)).1 = 0) && decide ((vrd (ctI b) (ctI a)).1 = 0)) := by
  rw [gon_ok h h2, gon_ok h2 h]
theorem few_le {h : Hs} (k : Few h) : h.P.length ≤ 1024 ∧ h.N.length ≤ 1024 := ⟨by have := k.1; omega, by have := k.2.1; omega⟩
theorem fewF_le {h : Fs} (k : FewF h) : h.P.length ≤ 1024 ∧ h.N.length ≤ 1024 := ⟨by have := k.1; omega, by have := k.2.1; omega⟩
theorem rvF_a {a b : Fs} (h : fce a ≠ 0) : rfv a b = (0, 0) ∧ rfe a b = fce a := by
  have e : rfe a b = fce a := by unfold rfe; rw [if_neg h]
  refine ⟨?_, e⟩
  unfold rfv; rw [if_neg (by rw [e]; exact h)]
theorem rvF_b {a b : Fs} (h : fce a = 0) (h2 : fce b ≠ 0) : rfv a b = (0, 0) ∧ rfe a b = fce b := by
  have e : rfe a b = fce b := by unfold rfe; rw [if_pos h]
  refine ⟨?_, e⟩
  unfold rfv; rw [if_neg (by rw [e]; exact h2)]
theorem rvF_ok {a b : Fs} (h : fce a = 0) (h2 : fce b = 0) : rfv a b = vrd (ctF a) (ctF b) ∧ rfe a b = 0 := by
  have e : rfe a b = 0 := by unfold rfe; rw [if_pos h]; exact h2
  refine ⟨?_, e⟩
  unfold rfv; rw [if_pos e]
end Go.Proofs.Ytnfbmdniomelnaa
