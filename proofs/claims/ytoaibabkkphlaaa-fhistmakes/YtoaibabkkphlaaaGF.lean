/-
  FBack, Awake10, Law9, Law10, Ref10, Args10.
-/
import Derived.Test.YtoaibabkkphlaaaGE
import Derived.Test.YtoaibabkkphlaaaGD
import Derived.Test.YtoaibabkkphlaaaGC
import Derived.Deep.DeepCutAuto
import Derived.Test.YtoaibabkkphlaaaGB
import Derived.Deep.Strs
import Derived.ProofKit
/-
  Package fhist: Back.
-/
namespace Go.Proofs.Ytoaibabkkphlaaa
open Go.RowKit Mem Spans Floats
set_option linter.unusedSimpArgs false
set_option linter.unusedVariables false
set_option maxRecDepth 100000

/-- Back's histogram; its error; what it tells. -/
def bks (h : Fs) : Hs := ⟨h.s, h.z, wvI h.zc, wvI h.c, h.sm, h.P, h.N, dfl (wal h.pd), dfl (wal h.nd)⟩
def bkb (h : Fs) : Bool := wab [h.zc, h.c] && wab h.pd && wab h.nd
def bke (h : Fs) : Int :=
  if fce h = 0 then (if bkb h = true then (if dfe (wal h.pd) = 0 then (if dfe (wal h.nd) = 0 then che (bks h) else dfe (wal h.nd)) else dfe (wal h.pd)) else 10) else fce h
def bkh (h : Fs) : Hs := if bke h = 0 then bks h else hzero
theorem bke_form {h : Fs} (k : fce h = 0) (k2 : bkb h = false) : bke h = 10 ∧ bkh h = hzero := by
  have e : bke h = 10 := by unfold bke; rw [if_pos k, if_neg (by rw [k2]; decide)]
  unfold bkh; rw [if_neg (by rw [e]; decide)]; exact ⟨e, rfl⟩
theorem ownsRow_other {w w' : World} {B n size : Nat} {e t : TypeId} {v : Value} {xs : List Value} {G : Nat} {cs : Array Value} (h : w.ownsRow B e size v n xs) (f : Fr [G] w w') (hg : w.heap[G]? = some (.cells cs t (0, 0))) (hne : t ≠ e) : w'.ownsRow B e size v n xs := by
  refine ⟨h.1, ?_⟩
  rcases h.2 with h | ⟨g, cap, cur, h1, h2, h3, h4⟩
  · exact .inl h
  · refine .inr ⟨g, cap, cur, h1, h2, f.heap h3 (fun hm => ?_), h4⟩
    have : g = G := by simpa using hm
    subst this
    rw [hg] at h3
    have := Option.some.inj h3
    simp only [Obj.cells.injEq] at this
    exact hne this.2.1
theorem wal_le (l : List Int) : (wal l).length ≤ l.length := by unfold wal; split <;> simp
theorem Nine.set7 {w : World} {g : Nat} {a0 a1 a2 a3 a4 a5 a6 a7 a8 : Value} (h : Nine w g #[a0, a1, a2, a3, a4, a5, a6, a7, a8]) (x : Value) : Nine (w.setCell ⟨g, 7, none⟩ x) g #[a0, a1, a2, a3, a4, a5, a6, x, a8] := by
  unfold Nine at h ⊢
  simp [World.setCell, Array.getElem?_modify, h]
theorem Nine.set8 {w : World} {g : Nat} {a0 a1 a2 a3 a4 a5 a6 a7 a8 : Value} (h : Nine w g #[a0, a1, a2, a3, a4, a5, a6, a7, a8]) (x : Value) : Nine (w.setCell ⟨g, 8, none⟩ x) g #[a0, a1, a2, a3, a4, a5, a6, a7, x] := by
  unfold Nine at h ⊢
  simp [World.setCell, Array.getElem?_modify, h]

set_option maxHeartbeats 8000000 in
theorem back_any (v : Value) (h : Fs) (w : World) (hh : FSrc w v h) :
    Calls Try.prog 46 #[v] w fun e w' => ∃ u, e = .returned (.tuple #[u, .int .i64 (bke h)]) ∧ HKeep w.heap.size w' u (bkh h) ∧ Fr [] w w' := by
  have HH : Hid (∀ wx, Fr [] w wx → FSrc wx v h) := fun wx hx => hh.kept hx
  have HFI : Hid (fin9 h) := hh.fin
  obtain ⟨po, pc, no, nc, qo, qc, ro, rc, rfl, hin, hsr, _⟩ := hh.opens
  have HIN : Hid (in64 h.s ∧ inu h.z ∧ inu h.zc ∧ inu h.c ∧ inu h.sm) := hin
  have HSR : Hid (SSrc w (.slice po h.P.length pc) h.P ∧ SSrc w (.slice no h.N.length nc) h.N ∧ USrc w (.slice qo h.pd.length qc) h.pd ∧ USrc w (.slice ro h.nd.length rc) h.nd) := hsr
  clear hh hin hsr
  obtain ⟨s, z, zc, c, sm, P, N, pd, nd⟩ := h
  simp only at HIN HSR ⊢
  go_enter Try.func46, Try.ntmps46
  obtain ⟨cs, hcs⟩ : ∃ cs : Array Value, cs = #[.int .i64 s, .int .u64 z, .int .u64 zc, .int .u64 c, .int .u64 sm, .slice po P.length pc, .slice no N.length nc, .slice qo pd.length qc, .slice ro nd.length rc] := ⟨_, rfl⟩
  have HA : Hid (∀ z, NineF ((w.alloc (.cells cs 26)).alloc (.cells z 70)) w.heap.size cs ∧ Nine ((w.alloc (.cells cs 26)).alloc (.cells z 70)) (w.heap.size + 1) z ∧ Fr [] w ((w.alloc (.cells cs 26)).alloc (.cells z 70))) := fun z => ⟨nineF_mid _ _ _, nine_top _ _ _, ((Fr.refl [] w).alloc _).alloc _⟩
  subst hcs
  go_wp2_with fail
  obtain ⟨hA3, hA6, hAF⟩ := HA.out #[.int .i64 0, .int .u64 0, .int .u64 0, .int .u64 0, .int .u64 0, .slice none 0 0, .slice none 0 0, .slice none 0 0, .slice none 0 0]
  clear HA
  generalize (w.alloc (.cells _ _)).alloc (.cells _ _) = wA at hA3 hA6 hAF ⊢
  have HSZ : Hid (w.heap.size + 1 < wA.heap.size) := hA6.lt
  refine (fcheck_any _ ⟨s, z, zc, c, sm, P, N, pd, nd⟩ wA (HH.out _ hAF)).mono ?_
  rintro e w1 ⟨rfl, hf1⟩
  have HF1 : Hid (Fr [] w w1) := hAF.trans hf1 (by simp)
  have HS1 : Hid (wA.heap.size ≤ w1.heap.size) := hf1.size
  have H3 : Hid (NineF w1 w.heap.size #[.int .i64 s, .int .u64 z, .int .u64 zc, .int .u64 c, .int .u64 sm, .slice po P.length pc, .slice no N.length nc, .slice qo pd.length qc, .slice ro nd.length rc]) := hA3.kept hf1 (by simp)
  have H6 : Hid (Nine w1 (w.heap.size + 1) #[.int .i64 0, .int .u64 0, .int .u64 0, .int .u64 0, .int .u64 0, .slice none 0 0, .slice none 0 0, .slice none 0 0, .slice none 0 0]) := hA6.kept hf1 (by simp)
  clear hf1 hA3 hA6 hAF
  by_cases h0 : fce ⟨s, z, zc, c, sm, P, N, pd, nd⟩ = 0
  case neg =>
    have HE : Hid (bke ⟨s, z, zc, c, sm, P, N, pd, nd⟩ = fce ⟨s, z, zc, c, sm, P, N, pd, nd⟩ ∧ bkh ⟨s, z, zc, c, sm, P, N, pd, nd⟩ = hzero) := by
      have e : bke ⟨s, z, zc, c, sm, P, N, pd, nd⟩ = fce ⟨s, z, zc, c, sm, P, N, pd, nd⟩ := by unfold bke; rw [if_neg h0]
      unfold Hid bkh; rw [if_neg (by rw [e]; exact h0)]; exact ⟨e, rfl⟩
    have d0 := H6.out.cell 0 rfl
    have d1 := H6.out.cell 1 rfl
    have d2 := H6.out.cell 2 rfl
    have d3 := H6.out.cell 3 rfl
    have d4 := H6.out.cell 4 rfl
    have d5 := H6.out.cell 5 rfl
    have d6 := H6.out.cell 6 rfl
    have d7 := H6.out.cell 7 rfl
    have d8 := H6.out.cell 8 rfl
    have f0 := H6.out.frozen 0
    have f1 := H6.out.frozen 1
    have f2 := H6.out.frozen 2
    have f3 := H6.out.frozen 3
    have f4 := H6.out.frozen 4
    have f5 := H6.out.frozen 5
    have f6 := H6.out.frozen 6
    have f7 := H6.out.frozen 7
    have f8 := H6.out.frozen 8
    go_wp2
    refine bodyPost_ret (hist_res rfl _ _ (w.heap.size + 1) _ _ _ _ _ _ _ _ _ rfl (set9_nine H6.out (.int .i64 0) (.int .u64 0) (.int .u64 0) (.int .u64 0) (.int .u64 0) (.slice none 0 0) (.slice none 0 0) (.slice none 0 0) (.slice none 0 0))) rfl ?_
    exact ⟨_, by rw [HE.out.1]; rfl, by rw [HE.out.2]; exact hzero_keep _ _, set9_fr HF1.out (.inr (by simp)) (.int .i64 0) (.int .u64 0) (.int .u64 0) (.int .u64 0) (.int .u64 0) (.slice none 0 0) (.slice none 0 0) (.slice none 0 0) (.slice none 0 0)⟩
  have HC : Hid (fce ⟨s, z, zc, c, sm, P, N, pd, nd⟩ = 0) := h0
  have HLN : Hid (pd.length ≤ 1000000 ∧ nd.length ≤ 1000000 ∧ chk P = 0 ∧ chk N = 0) := by
    have h1 := (fce_zero.1 h0).2
    have h2 := fsd_zero.1 h1.1
    have h3 := fsd_zero.1 h1.2
    have h4 := pls_le P
    have h5 := pls_le N
    simp only at h2 h3
    exact ⟨by omega, by omega, h2.1, h3.1⟩
  rw [h0]
  clear h0
  have c2 := H3.out.cell 2 rfl
  have c3 := H3.out.cell 3 rfl
  have HU : Hid (USrc (w1.alloc (.cells #[.int .u64 zc, .int .u64 c] 22)) (.slice (some ⟨w1.heap.size, 0, none⟩) 2 2) [zc, c]) := (lit_u 22 w1 [zc, c] rfl (Nat.le_refl _) (by simp) (by unfold maxLen; simp)).src (by
    intro x hx
    simp only [List.mem_cons, List.not_mem_nil, or_false] at hx
    rcases hx with rfl | rfl
    · exact HIN.out.2.2.1
    · exact HIN.out.2.2.2.1)
  have HFa : Hid (Fr [] w1 (w1.alloc (.cells #[.int .u64 zc, .int .u64 c] 22))) := (Fr.refl _ _).alloc _
  go_wp2_with fail
  refine (wholes_any _ [zc, c] _ HU.out (by simp)).mono ?_
  rintro e w2 ⟨u2, rfl, hu2, hf2⟩
  have hf12 := HFa.out.trans hf2 (by simp)
  have HF2 : Hid (Fr [] w w2) := HF1.out.trans hf12 (by simp)
  have HU2 : Hid (UOwn 22 w1.heap.size w2 u2 (wal [zc, c])) := hu2.mono HFa.out.size
  have HS2 : Hid (wA.heap.size ≤ w2.heap.size) := Nat.le_trans HS1.out hf12.size
  have H3b : Hid (NineF w2 w.heap.size #[.int .i64 s, .int .u64 z, .int .u64 zc, .int .u64 c, .int .u64 sm, .slice po P.length pc, .slice no N.length nc, .slice qo pd.length qc, .slice ro nd.length rc]) := H3.out.kept hf12 (by simp)
  have H6b : Hid (Nine w2 (w.heap.size + 1) #[.int .i64 0, .int .u64 0, .int .u64 0, .int .u64 0, .int .u64 0, .slice none 0 0, .slice none 0 0, .slice none 0 0, .slice none 0 0]) := H6.out.kept hf12 (by simp)
  clear hu2 hf2 hf12 HU HFa c2 c3 H3 H6 HF1
  have c7 := H3b.out.cell 7 rfl
  go_wp2_with fail
  refine (wholes_any _ pd _ (HSR.out.2.2.1.kept HF2.out) HLN.out.1).mono ?_
  rintro e w3 ⟨u3, rfl, hu3, hf3⟩
  have HF3 : Hid (Fr [] w w3) := HF2.out.trans hf3 (by simp)
  have HU2b : Hid (UOwn 22 w1.heap.size w3 u2 (wal [zc, c])) := HU2.out.kept hf3
  have HU3 : Hid (UOwn 22 w2.heap.size w3 u3 (wal pd)) := hu3
  have HS3 : Hid (wA.heap.size ≤ w3.heap.size) := Nat.le_trans HS2.out hf3.size
  have H3c : Hid (NineF w3 w.heap.size #[.int .i64 s, .int .u64 z, .int .u64 zc, .int .u64 c, .int .u64 sm, .slice po P.length pc, .slice no N.length nc, .slice qo pd.length qc, .slice ro nd.length rc]) := H3b.out.kept hf3 (by simp)
  have H6c : Hid (Nine w3 (w.heap.size + 1) #[.int .i64 0, .int .u64 0, .int .u64 0, .int .u64 0, .int .u64 0, .slice none 0 0, .slice none 0 0, .slice none 0 0, .slice none 0 0]) := H6b.out.kept hf3 (by simp)
  clear hu3 hf3 c7 H3b H6b HU2 HF2
  have c8 := H3c.out.cell 8 rfl
  go_wp2_with fail
  refine (wholes_any _ nd _ (HSR.out.2.2.2.kept HF3.out) HLN.out.2.1).mono ?_
  rintro e w4 ⟨u4, rfl, hu4, hf4⟩
  have HF4 : Hid (Fr [] w w4) := HF3.out.trans hf4 (by simp)
  have HU2c : Hid (UOwn 22 w1.heap.size w4 u2 (wal [zc, c])) := HU2b.out.kept hf4
  have HU3b : Hid (USrc w4 u3 (wal pd)) := (HU3.out.kept hf4).src (by intro x hx; unfold wal at hx; split at hx; obtain ⟨y, _, rfl⟩ := List.mem_map.1 hx; exact wvI_in y; simp at hx)
  have HU4 : Hid (USrc w4 u4 (wal nd)) := hu4.src (by intro x hx; unfold wal at hx; split at hx; obtain ⟨y, _, rfl⟩ := List.mem_map.1 hx; exact wvI_in y; simp at hx)
  have HS4 : Hid (wA.heap.size ≤ w4.heap.size) := Nat.le_trans HS3.out hf4.size
  have H3d : Hid (NineF w4 w.heap.size #[.int .i64 s, .int .u64 z, .int .u64 zc, .int .u64 c, .int .u64 sm, .slice po P.length pc, .slice no N.length nc, .slice qo pd.length qc, .slice ro nd.length rc]) := H3c.out.kept hf4 (by simp)
  have H6d : Hid (Nine w4 (w.heap.size + 1) #[.int .i64 0, .int .u64 0, .int .u64 0, .int .u64 0, .int .u64 0, .slice none 0 0, .slice none 0 0, .slice none 0 0, .slice none 0 0]) := H6c.out.kept hf4 (by simp)
  clear hu4 hf4 c8 H3c H6c HU2b HU3 HF3
  have HBK : Hid (bkb ⟨s, z, zc, c, sm, P, N, pd, nd⟩ = (wab [zc, c] && wab pd && wab nd)) := rfl
  by_cases k1 : wab [zc, c] = true
  case neg =>
    have k1' : wab [zc, c] = false := by simpa using k1
    have HE : Hid (bke ⟨s, z, zc, c, sm, P, N, pd, nd⟩ = 10 ∧ bkh ⟨s, z, zc, c, sm, P, N, pd, nd⟩ = hzero) := bke_form HC.out (by rw [HBK.out, k1']; rfl)
    rw [k1']
    clear k1 k1'
    have d0 := H6d.out.cell 0 rfl
    have d1 := H6d.out.cell 1 rfl
    have d2 := H6d.out.cell 2 rfl
    have d3 := H6d.out.cell 3 rfl
    have d4 := H6d.out.cell 4 rfl
    have d5 := H6d.out.cell 5 rfl
    have d6 := H6d.out.cell 6 rfl
    have d7 := H6d.out.cell 7 rfl
    have d8 := H6d.out.cell 8 rfl
    have f0 := H6d.out.frozen 0
    have f1 := H6d.out.frozen 1
    have f2 := H6d.out.frozen 2
    have f3 := H6d.out.frozen 3
    have f4 := H6d.out.frozen 4
    have f5 := H6d.out.frozen 5
    have f6 := H6d.out.frozen 6
    have f7 := H6d.out.frozen 7
    have f8 := H6d.out.frozen 8
    go_wp2
    refine bodyPost_ret (hist_res rfl _ _ (w.heap.size + 1) _ _ _ _ _ _ _ _ _ rfl (set9_nine H6d.out (.int .i64 0) (.int .u64 0) (.int .u64 0) (.int .u64 0) (.int .u64 0) (.slice none 0 0) (.slice none 0 0) (.slice none 0 0) (.slice none 0 0))) rfl ?_
    exact ⟨_, by rw [HE.out.1]; rfl, by rw [HE.out.2]; exact hzero_keep _ _, set9_fr HF4.out (.inr (by simp)) (.int .i64 0) (.int .u64 0) (.int .u64 0) (.int .u64 0) (.int .u64 0) (.slice none 0 0) (.slice none 0 0) (.slice none 0 0) (.slice none 0 0)⟩
  have HK1 : Hid (wab [zc, c] = true) := k1
  rw [k1]
  clear k1
  by_cases k2 : wab pd = true
  case neg =>
    have k2' : wab pd = false := by simpa using k2
    have HE : Hid (bke ⟨s, z, zc, c, sm, P, N, pd, nd⟩ = 10 ∧ bkh ⟨s, z, zc, c, sm, P, N, pd, nd⟩ = hzero) := bke_form HC.out (by rw [HBK.out, HK1.out, k2']; rfl)
    rw [k2']
    clear k2 k2'
    have d0 := H6d.out.cell 0 rfl
    have d1 := H6d.out.cell 1 rfl
    have d2 := H6d.out.cell 2 rfl
    have d3 := H6d.out.cell 3 rfl
    have d4 := H6d.out.cell 4 rfl
    have d5 := H6d.out.cell 5 rfl
    have d6 := H6d.out.cell 6 rfl
    have d7 := H6d.out.cell 7 rfl
    have d8 := H6d.out.cell 8 rfl
    have f0 := H6d.out.frozen 0
    have f1 := H6d.out.frozen 1
    have f2 := H6d.out.frozen 2
    have f3 := H6d.out.frozen 3
    have f4 := H6d.out.frozen 4
    have f5 := H6d.out.frozen 5
    have f6 := H6d.out.frozen 6
    have f7 := H6d.out.frozen 7
    have f8 := H6d.out.frozen 8
    go_wp2
    refine bodyPost_ret (hist_res rfl _ _ (w.heap.size + 1) _ _ _ _ _ _ _ _ _ rfl (set9_nine H6d.out (.int .i64 0) (.int .u64 0) (.int .u64 0) (.int .u64 0) (.int .u64 0) (.slice none 0 0) (.slice none 0 0) (.slice none 0 0) (.slice none 0 0))) rfl ?_
    exact ⟨_, by rw [HE.out.1]; rfl, by rw [HE.out.2]; exact hzero_keep _ _, set9_fr HF4.out (.inr (by simp)) (.int .i64 0) (.int .u64 0) (.int .u64 0) (.int .u64 0) (.int .u64 0) (.slice none 0 0) (.slice none 0 0) (.slice none 0 0) (.slice none 0 0)⟩
  have HK2 : Hid (wab pd = true) := k2
  rw [k2]
  clear k2
  by_cases k3 : wab nd = true
  case neg =>
    have k3' : wab nd = false := by simpa using k3
    have HE : Hid (bke ⟨s, z, zc, c, sm, P, N, pd, nd⟩ = 10 ∧ bkh ⟨s, z, zc, c, sm, P, N, pd, nd⟩ = hzero) := bke_form HC.out (by rw [HBK.out, HK1.out, HK2.out, k3']; rfl)
    rw [k3']
    clear k3 k3'
    have d0 := H6d.out.cell 0 rfl
    have d1 := H6d.out.cell 1 rfl
    have d2 := H6d.out.cell 2 rfl
    have d3 := H6d.out.cell 3 rfl
    have d4 := H6d.out.cell 4 rfl
    have d5 := H6d.out.cell 5 rfl
    have d6 := H6d.out.cell 6 rfl
    have d7 := H6d.out.cell 7 rfl
    have d8 := H6d.out.cell 8 rfl
    have f0 := H6d.out.frozen 0
    have f1 := H6d.out.frozen 1
    have f2 := H6d.out.frozen 2
    have f3 := H6d.out.frozen 3
    have f4 := H6d.out.frozen 4
    have f5 := H6d.out.frozen 5
    have f6 := H6d.out.frozen 6
    have f7 := H6d.out.frozen 7
    have f8 := H6d.out.frozen 8
    go_wp2
    refine bodyPost_ret (hist_res rfl _ _ (w.heap.size + 1) _ _ _ _ _ _ _ _ _ rfl (set9_nine H6d.out (.int .i64 0) (.int .u64 0) (.int .u64 0) (.int .u64 0) (.int .u64 0) (.slice none 0 0) (.slice none 0 0) (.slice none 0 0) (.slice none 0 0))) rfl ?_
    exact ⟨_, by rw [HE.out.1]; rfl, by rw [HE.out.2]; exact hzero_keep _ _, set9_fr HF4.out (.inr (by simp)) (.int .i64 0) (.int .u64 0) (.int .u64 0) (.int .u64 0) (.int .u64 0) (.slice none 0 0) (.slice none 0 0) (.slice none 0 0) (.slice none 0 0)⟩
  have HB : Hid (bkb ⟨s, z, zc, c, sm, P, N, pd, nd⟩ = true) := by rw [Hid, HBK.out, HK1.out, HK2.out, k3]; rfl
  rw [k3]
  clear k3 HBK
  have hw2 : wal [zc, c] = [wvI zc, wvI c] := by unfold wal; rw [if_pos HK1.out]; rfl
  rw [hw2] at HU2c
  obtain ⟨ag, acap, rfl, hacap, hac⟩ := HU2c.out.cells1 (by simp)
  have a0 := hac 0 _ rfl
  have a1 := hac 1 _ rfl
  clear hac hw2 HU2c HK1 HK2
  have HCP : Hid (∀ wx, Fr [] w4 wx → Calls Try.prog 63 #[.slice po P.length pc] wx fun e w' => ∃ ao cap, e = .returned (.slice ao P.length cap) ∧ w'.ownsRow w4.heap.size 95 2 (.slice ao P.length cap) P.length (spCells P) ∧ Fr [] w4 w' ∧ Fr [] wx w') := by
    intro wx hx
    refine (clone_any _ P wx (HSR.out.1.kept (HF4.out.trans hx (by simp))) (chk_len HLN.out.2.2.1)).mono ?_
    rintro e w' ⟨ao, cap, rfl, ho, hf⟩
    exact ⟨ao, cap, rfl, ownsRow_mono ho hx.size, hx.trans hf (by simp), hf⟩
  have HCN : Hid (∀ wx, Fr [] w4 wx → Calls Try.prog 63 #[.slice no N.length nc] wx fun e w' => ∃ ao cap, e = .returned (.slice ao N.length cap) ∧ w'.ownsRow w4.heap.size 95 2 (.slice ao N.length cap) N.length (spCells N) ∧ Fr [] w4 w' ∧ Fr [] wx w') := by
    intro wx hx
    refine (clone_any _ N wx (HSR.out.2.1.kept (HF4.out.trans hx (by simp))) (chk_len HLN.out.2.2.2)).mono ?_
    rintro e w' ⟨ao, cap, rfl, ho, hf⟩
    exact ⟨ao, cap, rfl, ownsRow_mono ho hx.size, hx.trans hf (by simp), hf⟩
  have c0 := H3d.out.cell 0 rfl
  have c1 := H3d.out.cell 1 rfl
  have c4 := H3d.out.cell 4 rfl
  have c5 := H3d.out.cell 5 rfl
  have c6 := H3d.out.cell 6 rfl
  have F0 : Fr [] w4 w4.drew := (Fr.refl _ _).drew
  have hGs : w.heap.size < w4.heap.size := H3d.out.lt
  have hGa : ag < w4.heap.size := World.block_lt_of_cell? w4 _ a0
  have HNE : Hid (∀ wx, Fr [] w4 wx → w.heap.size ≠ wx.heap.size ∧ wx.heap.size ≠ w.heap.size ∧ ag ≠ wx.heap.size ∧ wx.heap.size ≠ ag) := fun wx hx => by have := hx.size; omega
  have FZ : Fr [] w4 (World.drew (w4.alloc (.cells #[.int .i64 0, .int .u64 0, .int .u64 0, .int .u64 0, .int .u64 0, .slice none 0 0, .slice none 0 0, .slice none 0 0, .slice none 0 0] 70))) := ((Fr.refl _ _).alloc _).drew
  have NZ : Hid (Nine (World.drew (w4.alloc (.cells #[.int .i64 0, .int .u64 0, .int .u64 0, .int .u64 0, .int .u64 0, .slice none 0 0, .slice none 0 0, .slice none 0 0, .slice none 0 0] 70))) w4.heap.size #[.int .i64 0, .int .u64 0, .int .u64 0, .int .u64 0, .int .u64 0, .slice none 0 0, .slice none 0 0, .slice none 0 0, .slice none 0 0]) := Nine.new w4 _
  have ne0 := (HNE.out _ (Fr.refl _ _)).1
  have ne1 := (HNE.out _ (Fr.refl _ _)).2.1
  have ne2 := (HNE.out _ (Fr.refl _ _)).2.2.1
  have ne3 := (HNE.out _ (Fr.refl _ _)).2.2.2
  clear hGs hGa
  go_upto_region 9 with fail
  go_cut [11] from 51 to 69 (fun c11 wx => ∃ G p1 q1 p2 q2, c11 = .pointer (some ⟨G, 0, none⟩) ∧ Nine wx G #[.int .i64 s, .int .u64 z, .int .u64 (wvI zc), .int .u64 (wvI c), .int .u64 sm, .slice p1 P.length q1, .slice p2 N.length q2, .slice none 0 0, .slice none 0 0] ∧ w4.heap.size ≤ G ∧ wx.ownsRow w4.heap.size 95 2 (.slice p1 P.length q1) P.length (spCells P) ∧ wx.ownsRow w4.heap.size 95 2 (.slice p2 N.length q2) N.length (spCells N) ∧ Fr [] w4 wx)
  case first =>
    go_region_held3 (fun w' => w'.cell? ⟨w.heap.size, 0, none⟩ = some (.int .i64 s) ∧ w'.cell? ⟨w.heap.size, 1, none⟩ = some (.int .u64 z) ∧ w'.cell? ⟨w.heap.size, 4, none⟩ = some (.int .u64 sm) ∧ w'.cell? ⟨w.heap.size, 5, none⟩ = some (.slice po P.length pc) ∧ w'.cell? ⟨w.heap.size, 6, none⟩ = some (.slice no N.length nc) ∧ w'.cell? ⟨ag, 0, none⟩ = some (.int .u64 (wvI zc)) ∧ w'.cell? ⟨ag, 1, none⟩ = some (.int .u64 (wvI c))) (go_keep) (first
      | (go_at_call 63; first
        | (with_reducible refine (HCP.out _ F0).mono ?_; rintro e wa ⟨qa, qc, rfl, hoa, hfa, hfxa⟩; have ka0 := hfa.cell_some c0 (by simp); have ka1 := hfa.cell_some c1 (by simp); have ka4 := hfa.cell_some c4 (by simp); have ka5 := hfa.cell_some c5 (by simp); have ka6 := hfa.cell_some c6 (by simp); have ma0 := hfa.cell_some a0 (by simp); have ma1 := hfa.cell_some a1 (by simp); have ne4 := (HNE.out _ hfa).1; have ne5 := (HNE.out _ hfa).2.1; have ne6 := (HNE.out _ hfa).2.2.1; have ne7 := (HNE.out _ hfa).2.2.2)
        | (with_reducible refine (HCP.out _ FZ).mono ?_; rintro e wa ⟨qa, qc, rfl, hoa, hfa, hfxa⟩; have n8 := NZ.out.kept hfxa List.not_mem_nil; have ka0 := hfa.cell_some c0 (by simp); have ka1 := hfa.cell_some c1 (by simp); have ka4 := hfa.cell_some c4 (by simp); have ka5 := hfa.cell_some c5 (by simp); have ka6 := hfa.cell_some c6 (by simp); have ma0 := hfa.cell_some a0 (by simp); have ma1 := hfa.cell_some a1 (by simp); have ne4 := (HNE.out _ hfa).1; have ne5 := (HNE.out _ hfa).2.1; have ne6 := (HNE.out _ hfa).2.2.1; have ne7 := (HNE.out _ hfa).2.2.2))
      | (go_at_call 63; first
        | (with_reducible refine (HCN.out _ hfa).mono ?_; rintro e wb ⟨qb, qbc, rfl, hob, hfb, hfxb⟩; (try (have n8b := n8.kept hfxb List.not_mem_nil; have z0 := n8b.cell 0 rfl; have z1 := n8b.cell 1 rfl; have z2 := n8b.cell 2 rfl; have z3 := n8b.cell 3 rfl; have z4 := n8b.cell 4 rfl; have z5 := n8b.cell 5 rfl; have z6 := n8b.cell 6 rfl; have z7 := n8b.cell 7 rfl; have z8 := n8b.cell 8 rfl; have y0 := n8b.frozen 0; have y1 := n8b.frozen 1; have y2 := n8b.frozen 2; have y3 := n8b.frozen 3; have y4 := n8b.frozen 4; have y5 := n8b.frozen 5; have y6 := n8b.frozen 6; have y7 := n8b.frozen 7; have y8 := n8b.frozen 8)); have kb0 := hfb.cell_some c0 (by simp); have kb1 := hfb.cell_some c1 (by simp); have kb4 := hfb.cell_some c4 (by simp); have kb5 := hfb.cell_some c5 (by simp); have kb6 := hfb.cell_some c6 (by simp); have mb0 := hfb.cell_some a0 (by simp); have mb1 := hfb.cell_some a1 (by simp))
        | (with_reducible refine (HCN.out _ (hfa.alloc _)).mono ?_; rintro e wb ⟨qb, qbc, rfl, hob, hfb, hfxb⟩; have n8b := (Nine.new wa _).kept hfxb List.not_mem_nil; have z0 := n8b.cell 0 rfl; have z1 := n8b.cell 1 rfl; have z2 := n8b.cell 2 rfl; have z3 := n8b.cell 3 rfl; have z4 := n8b.cell 4 rfl; have z5 := n8b.cell 5 rfl; have z6 := n8b.cell 6 rfl; have z7 := n8b.cell 7 rfl; have z8 := n8b.cell 8 rfl; have y0 := n8b.frozen 0; have y1 := n8b.frozen 1; have y2 := n8b.frozen 2; have y3 := n8b.frozen 3; have y4 := n8b.frozen 4; have y5 := n8b.frozen 5; have y6 := n8b.frozen 6; have y7 := n8b.frozen 7; have y8 := n8b.frozen 8; have kb0 := hfb.cell_some c0 (by simp); have kb1 := hfb.cell_some c1 (by simp); have kb4 := hfb.cell_some c4 (by simp); have kb5 := hfb.cell_some c5 (by simp); have kb6 := hfb.cell_some c6 (by simp); have mb0 := hfb.cell_some a0 (by simp); have mb1 := hfb.cell_some a1 (by simp))))
    · go_wp2_with fail
      go_meet
      exact ⟨_, _, _, _, _, rfl, Nine.new wb _, hfb.size, ownsRow_keptS (ownsRow_keptS hoa hfxb (by simp)) ((Fr.refl [] _).alloc _) (by simp), ownsRow_keptS hob ((Fr.refl [] _).alloc _) (by simp), hfb.alloc _⟩
    · go_wp2_with fail
      go_meet
      have h9 := set9_fr (S := [wa.heap.size]) (g := wa.heap.size) (Fr.refl _ wb) (.inl (List.mem_singleton.2 rfl)) (.int .i64 s) (.int .u64 z) (.int .u64 (wvI zc)) (.int .u64 (wvI c)) (.int .u64 sm) (.slice qa P.length qc) (.slice qb N.length qbc) (.slice none 0 0) (.slice none 0 0)
      exact ⟨_, _, _, _, _, rfl, set9_nine n8b _ _ _ _ _ _ _ _ _, hfa.size, ownsRow_other (ownsRow_keptS hoa (((Fr.refl [] wa).alloc _).trans hfxb (by simp)) (by simp)) h9 n8b (by decide), ownsRow_other hob h9 n8b (by decide), set9_fr hfb (.inr hfa.size) _ _ _ _ _ _ _ _ _⟩
    · go_wp2_with fail
      go_meet
      have h9 := set9_fr (S := [w4.heap.size]) (g := w4.heap.size) (Fr.refl _ wb) (.inl (List.mem_singleton.2 rfl)) (.int .i64 s) (.int .u64 z) (.int .u64 (wvI zc)) (.int .u64 (wvI c)) (.int .u64 sm) (.slice qa P.length qc) (.slice qb N.length qbc) (.slice none 0 0) (.slice none 0 0)
      exact ⟨_, _, _, _, _, rfl, set9_nine n8b _ _ _ _ _ _ _ _ _, Nat.le_refl _, ownsRow_other (ownsRow_keptS hoa hfxb (by simp)) h9 n8b (by decide), ownsRow_other hob h9 n8b (by decide), set9_fr hfb (.inr (Nat.le_refl _)) _ _ _ _ _ _ _ _ _⟩
  case rest =>
    obtain ⟨G, p1, q1, p2, q2, rfl, hn, hG, ho1, ho2, hfc⟩ := hcut
    have HNEG : Hid (w.heap.size + 1 ≠ G ∧ G < wc.heap.size ∧ w.heap.size + 1 < G) := ⟨by have := HSZ.out; have := HS4.out; omega, hn.lt, by have := HSZ.out; have := HS4.out; omega⟩
    have N9 : Hid (Nine wc G #[.int .i64 s, .int .u64 z, .int .u64 (wvI zc), .int .u64 (wvI c), .int .u64 sm, .slice p1 P.length q1, .slice p2 N.length q2, .slice none 0 0, .slice none 0 0]) := hn
    have HFc : Hid (Fr [] w wc) := HF4.out.trans hfc (by simp)
    have H6e : Hid (Nine wc (w.heap.size + 1) #[.int .i64 0, .int .u64 0, .int .u64 0, .int .u64 0, .int .u64 0, .slice none 0 0, .slice none 0 0, .slice none 0 0, .slice none 0 0]) := H6d.out.kept hfc (by simp)
    have HO1 : Hid (wc.ownsRow w4.heap.size 95 2 (.slice p1 P.length q1) P.length (spCells P)) := ho1
    have HO2 : Hid (wc.ownsRow w4.heap.size 95 2 (.slice p2 N.length q2) N.length (spCells N)) := ho2
    have HFX : Hid (Fr [] w4 wc) := hfc
    have HGG : Hid (w4.heap.size ≤ G) := hG
    clear hn hG ho1 ho2 hfc H3d H6d HF4 HCP HCN NZ FZ HNE ne0 ne1 ne2 ne3 a0 a1 c0 c1 c4 c5 c6 F0
    go_wp2_with fail
    refine (differences_any _ (wal pd) _ (HU3b.out.kept HFX.out) (by have := wal_le pd; have := HLN.out.1; omega)).mono ?_
    rintro e w5 ⟨y7v, rfl, hy, hf5⟩
    obtain ⟨y7, t7, rfl⟩ := hy.val
    have hn5 := N9.out.kept hf5 (by simp)
    have e7 := hn5.cell 7 rfl
    have g7 := hn5.frozen 7
    have N5 : Hid (Nine (w5.setCell ⟨G, 7, none⟩ (.slice y7 (dfl (wal pd)).length t7)) G #[.int .i64 s, .int .u64 z, .int .u64 (wvI zc), .int .u64 (wvI c), .int .u64 sm, .slice p1 P.length q1, .slice p2 N.length q2, .slice y7 (dfl (wal pd)).length t7, .slice none 0 0]) := hn5.set7 _
    have HFS : Hid (Fr [G] w5 (w5.setCell ⟨G, 7, none⟩ (.slice y7 (dfl (wal pd)).length t7))) := (Fr.refl _ _).setCell _ _ (.inl (by simp))
    have HY7 : Hid (NOwn 2 wc.heap.size (w5.setCell ⟨G, 7, none⟩ (.slice y7 (dfl (wal pd)).length t7)) (.slice y7 (dfl (wal pd)).length t7) (dfl (wal pd))) := hy.keptS HFS.out (by have := HNEG.out.2.1; simp; omega)
    have H6f : Hid (Nine (w5.setCell ⟨G, 7, none⟩ (.slice y7 (dfl (wal pd)).length t7)) (w.heap.size + 1) #[.int .i64 0, .int .u64 0, .int .u64 0, .int .u64 0, .int .u64 0, .slice none 0 0, .slice none 0 0, .slice none 0 0, .slice none 0 0]) := (H6e.out.kept hf5 (by simp)).other HNEG.out.1
    have HF5 : Hid (Fr [] w (w5.setCell ⟨G, 7, none⟩ (.slice y7 (dfl (wal pd)).length t7))) := (HFc.out.trans hf5 (by simp)).trans HFS.out (by have := HNEG.out.2.2; simp; omega)
    have HFX5 : Hid (Fr [] w4 (w5.setCell ⟨G, 7, none⟩ (.slice y7 (dfl (wal pd)).length t7))) := (HFX.out.trans hf5 (by simp)).trans HFS.out (by have := HGG.out; simp; omega)
    have HO1b : Hid (World.ownsRow (w5.setCell ⟨G, 7, none⟩ (.slice y7 (dfl (wal pd)).length t7)) w4.heap.size 95 2 (.slice p1 P.length q1) P.length (spCells P)) := ownsRow_other (ownsRow_keptS HO1.out hf5 (by simp)) HFS.out hn5 (by decide)
    have HO2b : Hid (World.ownsRow (w5.setCell ⟨G, 7, none⟩ (.slice y7 (dfl (wal pd)).length t7)) w4.heap.size 95 2 (.slice p2 N.length q2) N.length (spCells N)) := ownsRow_other (ownsRow_keptS HO2.out hf5 (by simp)) HFS.out hn5 (by decide)
    have HSW5 : Hid (wc.heap.size ≤ (w5.setCell ⟨G, 7, none⟩ (.slice y7 (dfl (wal pd)).length t7)).heap.size) := Nat.le_trans hf5.size HFS.out.size
    clear hy hf5 hn5 N9 HFc H6e HO1 HO2 HFX HFS
    go_upto_region 12 with fail
    clear e7 g7
    generalize w5.setCell ⟨G, 7, none⟩ (.slice y7 (dfl (wal pd)).length t7) = w6 at N5 HY7 H6f HF5 HFX5 HO1b HO2b HSW5 ⊢
    by_cases hd7 : dfe (wal pd) = 0
    case neg =>
      have HE : Hid (bke ⟨s, z, zc, c, sm, P, N, pd, nd⟩ = dfe (wal pd) ∧ bkh ⟨s, z, zc, c, sm, P, N, pd, nd⟩ = hzero) := by
        have e : bke ⟨s, z, zc, c, sm, P, N, pd, nd⟩ = dfe (wal pd) := by unfold bke; rw [if_pos HC.out, if_pos HB.out]; exact if_neg hd7
        unfold Hid bkh; rw [if_neg (by rw [e]; exact hd7)]; exact ⟨e, rfl⟩
      have d0 := H6f.out.cell 0 rfl
      have d1 := H6f.out.cell 1 rfl
      have d2 := H6f.out.cell 2 rfl
      have d3 := H6f.out.cell 3 rfl
      have d4 := H6f.out.cell 4 rfl
      have d5 := H6f.out.cell 5 rfl
      have d6 := H6f.out.cell 6 rfl
      have d7 := H6f.out.cell 7 rfl
      have d8 := H6f.out.cell 8 rfl
      have f0 := H6f.out.frozen 0
      have f1 := H6f.out.frozen 1
      have f2 := H6f.out.frozen 2
      have f3 := H6f.out.frozen 3
      have f4 := H6f.out.frozen 4
      have f5 := H6f.out.frozen 5
      have f6 := H6f.out.frozen 6
      have f7 := H6f.out.frozen 7
      have f8 := H6f.out.frozen 8
      go_wp2
      refine bodyPost_ret (hist_res rfl _ _ (w.heap.size + 1) _ _ _ _ _ _ _ _ _ rfl (set9_nine H6f.out (.int .i64 0) (.int .u64 0) (.int .u64 0) (.int .u64 0) (.int .u64 0) (.slice none 0 0) (.slice none 0 0) (.slice none 0 0) (.slice none 0 0))) rfl ?_
      exact ⟨_, by rw [HE.out.1]; rfl, by rw [HE.out.2]; exact hzero_keep _ _, set9_fr HF5.out (.inr (by simp)) (.int .i64 0) (.int .u64 0) (.int .u64 0) (.int .u64 0) (.int .u64 0) (.slice none 0 0) (.slice none 0 0) (.slice none 0 0) (.slice none 0 0)⟩
    have HD7 : Hid (dfe (wal pd) = 0) := hd7
    rw [hd7]
    clear hd7
    go_wp2_with fail
    refine (differences_any _ (wal nd) _ (HU4.out.kept HFX5.out) (by have := wal_le nd; have := HLN.out.2.1; omega)).mono ?_
    rintro e w7 ⟨y8v, rfl, hy, hf7⟩
    obtain ⟨y8, t8, rfl⟩ := hy.val
    have hn7 := N5.out.kept hf7 (by simp)
    have e8 := hn7.cell 8 rfl
    have g8 := hn7.frozen 8
    have N7 : Hid (Nine (w7.setCell ⟨G, 8, none⟩ (.slice y8 (dfl (wal nd)).length t8)) G #[.int .i64 s, .int .u64 z, .int .u64 (wvI zc), .int .u64 (wvI c), .int .u64 sm, .slice p1 P.length q1, .slice p2 N.length q2, .slice y7 (dfl (wal pd)).length t7, .slice y8 (dfl (wal nd)).length t8]) := hn7.set8 _
    have HFS : Hid (Fr [G] w7 (w7.setCell ⟨G, 8, none⟩ (.slice y8 (dfl (wal nd)).length t8))) := (Fr.refl _ _).setCell _ _ (.inl (by simp))
    have HY8 : Hid (NOwn 2 wc.heap.size (w7.setCell ⟨G, 8, none⟩ (.slice y8 (dfl (wal nd)).length t8)) (.slice y8 (dfl (wal nd)).length t8) (dfl (wal nd))) := (hy.keptS HFS.out (by have := HNEG.out.2.1; have := HSW5.out; simp; omega)).mono HSW5.out
    have HY7b : Hid (NOwn 2 wc.heap.size (w7.setCell ⟨G, 8, none⟩ (.slice y8 (dfl (wal nd)).length t8)) (.slice y7 (dfl (wal pd)).length t7) (dfl (wal pd))) := (HY7.out.kept hf7).keptS HFS.out (by have := HNEG.out.2.1; simp; omega)
    have H6g : Hid (Nine (w7.setCell ⟨G, 8, none⟩ (.slice y8 (dfl (wal nd)).length t8)) (w.heap.size + 1) #[.int .i64 0, .int .u64 0, .int .u64 0, .int .u64 0, .int .u64 0, .slice none 0 0, .slice none 0 0, .slice none 0 0, .slice none 0 0]) := (H6f.out.kept hf7 (by simp)).other HNEG.out.1
    have HF7 : Hid (Fr [] w (w7.setCell ⟨G, 8, none⟩ (.slice y8 (dfl (wal nd)).length t8))) := (HF5.out.trans hf7 (by simp)).trans HFS.out (by have := HNEG.out.2.2; simp; omega)
    have HO1c : Hid (World.ownsRow (w7.setCell ⟨G, 8, none⟩ (.slice y8 (dfl (wal nd)).length t8)) w4.heap.size 95 2 (.slice p1 P.length q1) P.length (spCells P)) := ownsRow_other (ownsRow_keptS HO1b.out hf7 (by simp)) HFS.out hn7 (by decide)
    have HO2c : Hid (World.ownsRow (w7.setCell ⟨G, 8, none⟩ (.slice y8 (dfl (wal nd)).length t8)) w4.heap.size 95 2 (.slice p2 N.length q2) N.length (spCells N)) := ownsRow_other (ownsRow_keptS HO2b.out hf7 (by simp)) HFS.out hn7 (by decide)
    clear hy hf7 hn7 N5 HF5 H6f HO1b HO2b HFX5 HFS HY7
    go_upto_region 15 with fail
    clear e8 g8
    generalize w7.setCell ⟨G, 8, none⟩ (.slice y8 (dfl (wal nd)).length t8) = w8 at N7 HY8 HY7b H6g HF7 HO1c HO2c ⊢
    by_cases hd8 : dfe (wal nd) = 0
    case neg =>
      have HE : Hid (bke ⟨s, z, zc, c, sm, P, N, pd, nd⟩ = dfe (wal nd) ∧ bkh ⟨s, z, zc, c, sm, P, N, pd, nd⟩ = hzero) := by
        have e : bke ⟨s, z, zc, c, sm, P, N, pd, nd⟩ = dfe (wal nd) := by unfold bke; rw [if_pos HC.out, if_pos HB.out]; exact (if_pos HD7.out).trans (if_neg hd8)
        unfold Hid bkh; rw [if_neg (by rw [e]; exact hd8)]; exact ⟨e, rfl⟩
      have d0 := H6g.out.cell 0 rfl
      have d1 := H6g.out.cell 1 rfl
      have d2 := H6g.out.cell 2 rfl
      have d3 := H6g.out.cell 3 rfl
      have d4 := H6g.out.cell 4 rfl
      have d5 := H6g.out.cell 5 rfl
      have d6 := H6g.out.cell 6 rfl
      have d7 := H6g.out.cell 7 rfl
      have d8 := H6g.out.cell 8 rfl
      have f0 := H6g.out.frozen 0
      have f1 := H6g.out.frozen 1
      have f2 := H6g.out.frozen 2
      have f3 := H6g.out.frozen 3
      have f4 := H6g.out.frozen 4
      have f5 := H6g.out.frozen 5
      have f6 := H6g.out.frozen 6
      have f7 := H6g.out.frozen 7
      have f8 := H6g.out.frozen 8
      go_wp2
      refine bodyPost_ret (hist_res rfl _ _ (w.heap.size + 1) _ _ _ _ _ _ _ _ _ rfl (set9_nine H6g.out (.int .i64 0) (.int .u64 0) (.int .u64 0) (.int .u64 0) (.int .u64 0) (.slice none 0 0) (.slice none 0 0) (.slice none 0 0) (.slice none 0 0))) rfl ?_
      exact ⟨_, by rw [HE.out.1]; rfl, by rw [HE.out.2]; exact hzero_keep _ _, set9_fr HF7.out (.inr (by simp)) (.int .i64 0) (.int .u64 0) (.int .u64 0) (.int .u64 0) (.int .u64 0) (.slice none 0 0) (.slice none 0 0) (.slice none 0 0) (.slice none 0 0)⟩
    have HD8 : Hid (dfe (wal nd) = 0) := hd8
    rw [hd8]
    clear hd8
    have HP64 : Hid ((∀ s ∈ P, in64 s.1 ∧ in64 s.2) ∧ (∀ s ∈ N, in64 s.1 ∧ in64 s.2)) := ⟨HFI.out.1, HFI.out.2.1⟩
    have HWN : Hid (inu (wvI zc) ∧ inu (wvI c)) := ⟨wvI_in _, wvI_in _⟩
    have HDIN : Hid (∀ l, ∀ x ∈ dfl l, in64 x) := by
      intro l x hx
      unfold dfl at hx
      split at hx
      · exact dlv_in _ x hx
      · simp at hx
    have HKP : Hid (∀ (S : List Nat) (w' : World), Fr S w8 w' → (∀ y ∈ S, y < w4.heap.size) → HSrc w' (.agg #[.int .i64 s, .int .u64 z, .int .u64 (wvI zc), .int .u64 (wvI c), .int .u64 sm, .slice p1 P.length q1, .slice p2 N.length q2, .slice y7 (dfl (wal pd)).length t7, .slice y8 (dfl (wal nd)).length t8]) (bks ⟨s, z, zc, c, sm, P, N, pd, nd⟩)) := by
      intro S w' hf hs
      obtain ⟨_, _, _, k5⟩ := ssrc_of_owns (ownsRow_keptS HO1c.out hf hs) HP64.out.1
      obtain ⟨_, _, _, k6⟩ := ssrc_of_owns (ownsRow_keptS HO2c.out hf hs) HP64.out.2
      have hs2 : ∀ y ∈ S, y < wc.heap.size := fun y hy => by have := hs y hy; have := HGG.out; have := HNEG.out.2.1; omega
      exact ⟨_, _, _, _, rfl, HIN.out.1, ⟨HIN.out.2.1, HWN.out.1, HWN.out.2, HIN.out.2.2.2.2⟩, k5, k6, (HY7b.out.keptS hf hs2).src (HDIN.out _), (HY8.out.keptS hf hs2).src (HDIN.out _)⟩
    clear HY8 HY7b HO1c HO2c HU3b HU4
    have b0 := N7.out.cell 0 rfl
    have b1 := N7.out.cell 1 rfl
    have b2 := N7.out.cell 2 rfl
    have b3 := N7.out.cell 3 rfl
    have b4 := N7.out.cell 4 rfl
    have b5 := N7.out.cell 5 rfl
    have b6 := N7.out.cell 6 rfl
    have b7 := N7.out.cell 7 rfl
    have b8 := N7.out.cell 8 rfl
    go_wp2_with fail
    refine (hcheck_any _ (bks ⟨s, z, zc, c, sm, P, N, pd, nd⟩) w8 (HKP.out [] w8 (Fr.refl _ _) (by simp))).mono ?_
    rintro e w9 ⟨rfl, hf9⟩
    have HF9 : Hid (Fr [] w w9) := HF7.out.trans hf9 (by simp)
    have HF89 : Hid (Fr [] w8 w9) := hf9
    have H6h : Hid (Nine w9 (w.heap.size + 1) #[.int .i64 0, .int .u64 0, .int .u64 0, .int .u64 0, .int .u64 0, .slice none 0 0, .slice none 0 0, .slice none 0 0, .slice none 0 0]) := H6g.out.kept hf9 (by simp)
    have N9h : Hid (Nine w9 G #[.int .i64 s, .int .u64 z, .int .u64 (wvI zc), .int .u64 (wvI c), .int .u64 sm, .slice p1 P.length q1, .slice p2 N.length q2, .slice y7 (dfl (wal pd)).length t7, .slice y8 (dfl (wal nd)).length t8]) := N7.out.kept hf9 (by simp)
    clear hf9 N7 H6g HF7 b0 b1 b2 b3 b4 b5 b6 b7 b8
    have HEB : Hid (bke ⟨s, z, zc, c, sm, P, N, pd, nd⟩ = che (bks ⟨s, z, zc, c, sm, P, N, pd, nd⟩)) := by
      unfold Hid bke; rw [if_pos HC.out, if_pos HB.out]; exact (if_pos HD7.out).trans (if_pos HD8.out)
    by_cases hc : che (bks ⟨s, z, zc, c, sm, P, N, pd, nd⟩) = 0
    case neg =>
      have HE : Hid (bke ⟨s, z, zc, c, sm, P, N, pd, nd⟩ = che (bks ⟨s, z, zc, c, sm, P, N, pd, nd⟩) ∧ bkh ⟨s, z, zc, c, sm, P, N, pd, nd⟩ = hzero) := by
        refine ⟨HEB.out, ?_⟩
        unfold bkh; rw [if_neg (by rw [HEB.out]; exact hc)]
      generalize che (bks ⟨s, z, zc, c, sm, P, N, pd, nd⟩) = CE at *
      have d0 := H6h.out.cell 0 rfl
      have d1 := H6h.out.cell 1 rfl
      have d2 := H6h.out.cell 2 rfl
      have d3 := H6h.out.cell 3 rfl
      have d4 := H6h.out.cell 4 rfl
      have d5 := H6h.out.cell 5 rfl
      have d6 := H6h.out.cell 6 rfl
      have d7 := H6h.out.cell 7 rfl
      have d8 := H6h.out.cell 8 rfl
      have f0 := H6h.out.frozen 0
      have f1 := H6h.out.frozen 1
      have f2 := H6h.out.frozen 2
      have f3 := H6h.out.frozen 3
      have f4 := H6h.out.frozen 4
      have f5 := H6h.out.frozen 5
      have f6 := H6h.out.frozen 6
      have f7 := H6h.out.frozen 7
      have f8 := H6h.out.frozen 8
      go_wp2
      refine bodyPost_ret (hist_res rfl _ _ (w.heap.size + 1) _ _ _ _ _ _ _ _ _ rfl (set9_nine H6h.out (.int .i64 0) (.int .u64 0) (.int .u64 0) (.int .u64 0) (.int .u64 0) (.slice none 0 0) (.slice none 0 0) (.slice none 0 0) (.slice none 0 0))) rfl ?_
      exact ⟨_, by rw [HE.out.1]; rfl, by rw [HE.out.2]; exact hzero_keep _ _, set9_fr HF9.out (.inr (by simp)) (.int .i64 0) (.int .u64 0) (.int .u64 0) (.int .u64 0) (.int .u64 0) (.slice none 0 0) (.slice none 0 0) (.slice none 0 0) (.slice none 0 0)⟩
    have HE : Hid (bke ⟨s, z, zc, c, sm, P, N, pd, nd⟩ = 0 ∧ bkh ⟨s, z, zc, c, sm, P, N, pd, nd⟩ = bks ⟨s, z, zc, c, sm, P, N, pd, nd⟩) := by
      have e : bke ⟨s, z, zc, c, sm, P, N, pd, nd⟩ = 0 := HEB.out.trans hc
      refine ⟨e, ?_⟩
      unfold bkh; rw [if_pos e]
    rw [hc]
    clear hc
    have b0 := N9h.out.cell 0 rfl
    have b1 := N9h.out.cell 1 rfl
    have b2 := N9h.out.cell 2 rfl
    have b3 := N9h.out.cell 3 rfl
    have b4 := N9h.out.cell 4 rfl
    have b5 := N9h.out.cell 5 rfl
    have b6 := N9h.out.cell 6 rfl
    have b7 := N9h.out.cell 7 rfl
    have b8 := N9h.out.cell 8 rfl
    have d0 := H6h.out.cell 0 rfl
    have d1 := H6h.out.cell 1 rfl
    have d2 := H6h.out.cell 2 rfl
    have d3 := H6h.out.cell 3 rfl
    have d4 := H6h.out.cell 4 rfl
    have d5 := H6h.out.cell 5 rfl
    have d6 := H6h.out.cell 6 rfl
    have d7 := H6h.out.cell 7 rfl
    have d8 := H6h.out.cell 8 rfl
    have f0 := H6h.out.frozen 0
    have f1 := H6h.out.frozen 1
    have f2 := H6h.out.frozen 2
    have f3 := H6h.out.frozen 3
    have f4 := H6h.out.frozen 4
    have f5 := H6h.out.frozen 5
    have f6 := H6h.out.frozen 6
    have f7 := H6h.out.frozen 7
    have f8 := H6h.out.frozen 8
    go_wp2
    refine bodyPost_ret (hist_res rfl _ _ (w.heap.size + 1) _ _ _ _ _ _ _ _ _ rfl (set9_nine H6h.out _ _ _ _ _ _ _ _ _)) rfl ?_
    refine ⟨_, by rw [HE.out.1]; rfl, ?_, set9_fr HF9.out (.inr (by simp)) _ _ _ _ _ _ _ _ _⟩
    rw [HE.out.2]
    intro S w' hf hs
    have h9 := set9_fr (S := (w.heap.size + 1) :: S) (g := w.heap.size + 1) (HF89.out.mono (by simp)) (.inl (by simp)) (.int .i64 s) (.int .u64 z) (.int .u64 (wvI zc)) (.int .u64 (wvI c)) (.int .u64 sm) (.slice p1 P.length q1) (.slice p2 N.length q2) (.slice y7 (dfl (wal pd)).length t7) (.slice y8 (dfl (wal nd)).length t8)
    exact HKP.out ((w.heap.size + 1) :: S) w' (h9.trans hf (fun x hx => .inl (List.mem_cons_of_mem _ hx))) (fun y hy => by
      have := HSZ.out
      have := HS4.out
      rcases List.mem_cons.1 hy with rfl | hy
      · omega
      · have := hs y hy; omega)
end Go.Proofs.Ytoaibabkkphlaaa

/-
  The fixed answers that each statement of layer 10 asks: one, awake.
-/
namespace Go.Proofs.Ytoaibabkkphlaaa
open Go.RowKit Mem Spans
set_option linter.unusedSimpArgs false
set_option linter.unusedVariables false
set_option maxRecDepth 100000

theorem Try.infoSpansF : (Try.prog.info? 23).map (fun i => i.size) = some 1 := by kernel_rfl
theorem frun_field5 (w : World) (a0 a1 a2 a3 a4 a5 a6 a7 a8 : Value) : (Instr.field 26 (.agg #[a0, a1, a2, a3, a4, a5, a6, a7, a8]) 5).run Try.prog w = .ok a5 w := by
  obtain ⟨i, hi, hs⟩ := Option.map_eq_some_iff.1 Try.infoSpansF
  unfold Instr.field
  simp [Sem.run_bind, run_underlying Try.underlying26, part, asAgg, sizeOf, typeInfo, hi, hs]

def fone : Fs := ⟨0, 1, 4602678819172646912, 4613937818241073152, 0, [(3, 2)], [], [4613937818241073152, 0], []⟩
def fbad : Fs := ⟨0, 1, 4602678819172646912, 9223372036854775808, 0, [(3, 2)], [], [4613937818241073152, 0], []⟩
def fcan : Fs := ⟨0, 1, 4602678819172646912, 4613937818241073152, 0, [(3, 1)], [], [4613937818241073152], []⟩
theorem kf_che : fce fone = 0 := by decide +kernel
theorem kf_sdp : fdp fone = [(3, 4613937818241073152), (4, 0)] := by decide +kernel
theorem kf_bad : fce fbad = 22 := by decide +kernel
theorem kf_cae : fae fone = 0 := by decide +kernel
theorem kf_mke : mfe fone [(3, 4613937818241073152), (4, 0)] [] = 0 := by decide +kernel
theorem kf_ove : fove fcan [(3, 2)] [] = 0 := by decide +kernel
theorem kf_cah : fah fone = fcan := by unfold fah mfh mkf; rw [if_pos kf_che, if_pos (by decide +kernel)]; rw [show fdp fone = [(3, 4613937818241073152), (4, 0)] from kf_sdp, show fdn fone = [] from by decide +kernel]; simp only [fone, fcan, Fs.mk.injEq]; decide +kernel
theorem kf_mkh : mfh fone [(3, 4613937818241073152), (4, 0)] [] = fone := by unfold mfh mkf; rw [if_pos kf_mke]; simp only [fone, Fs.mk.injEq]; decide +kernel
theorem kf_ovh : fovh fcan [(3, 2)] [] = fone := by unfold fovh fovs; rw [if_pos kf_ove]; simp only [fone, fcan, Fs.mk.injEq]; decide +kernel
theorem kf_eq1 : feq fone fone = true := by decide +kernel
theorem kf_eq2 : feq fone fcan = true := by decide +kernel
theorem kf_eq3 : feq fone fbad = false := by decide +kernel
theorem kf_bke : bke fone = 10 := by decide +kernel
theorem kf_w3 : wvI 4613937818241073152 = 3 ∧ wbI 4613937818241073152 = true := by decide +kernel
theorem kf_wh : wvI 4602678819172646912 = 0 ∧ wbI 4602678819172646912 = false := by decide +kernel
theorem kf_f3 : flI 3 = 4613937818241073152 := by decide +kernel
theorem fone_in : fin9 fone := by unfold fin9 fone in64 inu; decide
theorem fcan_in : fin9 fcan := by unfold fin9 fcan in64 inu; decide

theorem fhist_res1 {fn : Func} {p : Tmp} (h : fn.results = #[.cell p 26]) (tmps : Array Value) (w : World) (g : Nat) (a0 a1 a2 a3 a4 a5 a6 a7 a8 : Value)
    (hp : tmps.getD p undef = .pointer (some ⟨g, 0, none⟩)) (hg : NineF w g #[a0, a1, a2, a3, a4, a5, a6, a7, a8]) : (results fn tmps).run Try.prog w = .ok (.agg #[a0, a1, a2, a3, a4, a5, a6, a7, a8]) w :=
  results_cell_row h tmps w g 26 #[a0, a1, a2, a3, a4, a5, a6, a7, a8] (0, 0) _ hp hg Try.underlying26 rfl Try.sizeOf26
set_option maxHeartbeats 1000000 in
theorem fone_any (w : World) : Calls Try.prog 48 #[] w fun e w' => ∃ u, e = .returned u ∧ FOwn w.heap.size w' u fone ∧ Fr [] w w' := by
  go_enter Try.func48, Try.ntmps48
  go_wp2
  have n1 := nineF_mid w #[.int .i64 0, .int .u64 1, .int .u64 4602678819172646912, .int .u64 4613937818241073152, .int .u64 0, .slice (some ⟨w.heap.size + 1, 0, none⟩) 1 1, .slice none 0 0, .slice (some ⟨w.heap.size + 1 + 1, 0, none⟩) 2 2, .slice none 0 0] (.cells #[.int .i64 3, .int .i64 2] 95)
  have s1 := lit_sp' (B := w.heap.size) 95 (w.alloc (.cells #[.int .i64 0, .int .u64 1, .int .u64 4602678819172646912, .int .u64 4613937818241073152, .int .u64 0, .slice (some ⟨w.heap.size + 1, 0, none⟩) 1 1, .slice none 0 0, .slice (some ⟨w.heap.size + 1 + 1, 0, none⟩) 2 2, .slice none 0 0] 26)) [(3, 2)] (World.size_alloc _ _) (by omega) (by simp) (by unfold maxLen; simp)
  have s2 := lit_u (B := w.heap.size) (g := w.heap.size + 1 + 1) 22 ((w.alloc (.cells #[.int .i64 0, .int .u64 1, .int .u64 4602678819172646912, .int .u64 4613937818241073152, .int .u64 0, .slice (some ⟨w.heap.size + 1, 0, none⟩) 1 1, .slice none 0 0, .slice (some ⟨w.heap.size + 1 + 1, 0, none⟩) 2 2, .slice none 0 0] 26)).alloc (.cells #[.int .i64 3, .int .i64 2] 95)) [4613937818241073152, 0] (by simp) (by omega) (by simp) (by unfold maxLen; simp)
  refine bodyPost_ret (fhist_res1 rfl _ _ w.heap.size _ _ _ _ _ _ _ _ _ rfl (n1.kept ((Fr.refl [] _).alloc _) (by simp))) rfl ?_
  exact ⟨_, rfl, ⟨_, _, _, _, rfl, by unfold in64 fone; decide, by unfold inu fone; decide, s1.kept ((Fr.refl [] _).alloc _), .inl ⟨rfl, rfl⟩, s2, .inl ⟨rfl, rfl⟩⟩, (((Fr.refl [] w).alloc _).alloc _).alloc _⟩

theorem fprl0 : fprl fone 0 = [(3, 4613937818241073152), (4, 0)] := by unfold fprl; rw [if_pos rfl]; exact kf_sdp
theorem fpre0 : fpre fone 0 = 0 := by unfold fpre; rw [if_pos (.inl rfl)]; exact kf_che
theorem FOwn.opens {B : Nat} {w : World} {v : Value} {h : Fs} (k : FOwn B w v h) (i : fin9 h) : ∃ a1 c1 a2 c2 a3 c3 a4 c4, v = .agg #[.int .i64 h.s, .int .u64 h.z, .int .u64 h.zc, .int .u64 h.c, .int .u64 h.sm, .slice a1 h.P.length c1, .slice a2 h.N.length c2, .slice a3 h.pd.length c3, .slice a4 h.nd.length c4] ∧ FSrc w v h := by
  obtain ⟨a1, c1, a2, c2, a3, c3, a4, c4, e⟩ := k.form
  exact ⟨a1, c1, a2, c2, a3, c3, a4, c4, e, k.src i⟩

set_option maxHeartbeats 3000000 in
theorem awake10_any (w : World) : Calls Try.prog 13 #[] w fun e w' => e = .returned (.bool true) ∧ Fr [] w w' := by
  have HONE : Hid (∀ wx, Fr [] w wx → Calls Try.prog 48 #[] wx fun e w' => ∃ u, e = .returned u ∧ FSrc w' u fone ∧ Fr [] wx w' ∧ Fr [] w w') := by
    intro wx hx
    refine (fone_any wx).mono ?_
    rintro e w' ⟨u, rfl, hu, hf⟩
    exact ⟨u, rfl, hu.src fone_in, hf, hx.trans hf (by simp)⟩
  go_enter Try.func13, Try.ntmps13
  go_wp2_with fail
  refine (HONE.out w (Fr.refl _ _)).mono ?_
  rintro e w1 ⟨u1, rfl, hu1, _, hf1⟩
  have HF1 : Hid (Fr [] w w1) := hf1
  have HU1 : Hid (FSrc w1 u1 fone) := hu1
  clear hu1 hf1
  go_wp2_with fail
  refine (fpairs_any _ fone 0 w1 HU1.out).mono ?_
  rintro e w2 ⟨x, rfl, hx, hf2⟩
  rw [fpre0]
  rw [fprl0] at hx
  have HF2 : Hid (Fr [] w w2) := HF1.out.trans hf2 (by simp)
  obtain ⟨xg, xc, rfl, hxl, hxc⟩ := hx.cells2 (by simp)
  have HX : Hid (PSrc w2 (.slice (some ⟨xg, 0, none⟩) 2 xc) [(3, 4613937818241073152), (4, 0)]) := hx.src (by unfold in64 inu; decide)
  have HXC : Hid (w2.cell? ⟨xg, 1, none⟩ = some (.int .u64 4613937818241073152)) := (hxc 0 _ rfl).2
  clear hx hxl hxc hf2 HU1 HF1
  simp only [List.length_cons, List.length_nil, Nat.reduceAdd]
  go_wp2_with fail
  refine (HONE.out w2 HF2.out).mono ?_
  rintro e w3 ⟨u3, rfl, hu3, hf23, hf3⟩
  have HF3 : Hid (Fr [] w w3) := hf3
  have HF23 : Hid (Fr [] w2 w3) := hf23
  have HU3 : Hid (FSrc w3 u3 fone) := hu3
  clear hu3 hf3 hf23
  go_wp2_with fail
  refine (fcanon_any _ fone w3 HU3.out).mono ?_
  rintro e w4 ⟨u4, rfl, hu4, hf4⟩
  rw [kf_cae]
  rw [kf_cah] at hu4
  obtain ⟨a1, c1, a2, c2, a3, c3, a4, c4, rfl, hs4⟩ : ∃ a1 c1 a2 c2 a3 c3 a4 c4, u4 = .agg #[.int .i64 0, .int .u64 1, .int .u64 4602678819172646912, .int .u64 4613937818241073152, .int .u64 0, .slice a1 1 c1, .slice a2 0 c2, .slice a3 1 c3, .slice a4 0 c4] ∧ FSrc w4 u4 fcan := hu4.opens fcan_in
  have HC4 : Hid (FSrc w4 _ fcan) := hs4
  have HF4 : Hid (Fr [] w w4) := HF3.out.trans hf4 (by simp)
  have HF24 : Hid (Fr [] w2 w4) := HF23.out.trans hf4 (by simp)
  clear hu4 hs4 hf4 HU3 HF3 HF23
  have HNA : Hid (NineF (w4.alloc (.cells #[.int .i64 0, .int .u64 1, .int .u64 4602678819172646912, .int .u64 4613937818241073152, .int .u64 0, .slice a1 1 c1, .slice a2 0 c2, .slice a3 1 c3, .slice a4 0 c4] 26)) w4.heap.size #[.int .i64 0, .int .u64 1, .int .u64 4602678819172646912, .int .u64 4613937818241073152, .int .u64 0, .slice a1 1 c1, .slice a2 0 c2, .slice a3 1 c3, .slice a4 0 c4]) := NineF.new _ _
  have HWA : Hid (Fr [] w (w4.alloc (.cells #[.int .i64 0, .int .u64 1, .int .u64 4602678819172646912, .int .u64 4613937818241073152, .int .u64 0, .slice a1 1 c1, .slice a2 0 c2, .slice a3 1 c3, .slice a4 0 c4] 26)) ∧ Fr [] w2 (w4.alloc (.cells #[.int .i64 0, .int .u64 1, .int .u64 4602678819172646912, .int .u64 4613937818241073152, .int .u64 0, .slice a1 1 c1, .slice a2 0 c2, .slice a3 1 c3, .slice a4 0 c4] 26))) := ⟨HF4.out.alloc _, HF24.out.alloc _⟩
  have HCA : Hid (FSrc (w4.alloc (.cells #[.int .i64 0, .int .u64 1, .int .u64 4602678819172646912, .int .u64 4613937818241073152, .int .u64 0, .slice a1 1 c1, .slice a2 0 c2, .slice a3 1 c3, .slice a4 0 c4] 26)) (.agg #[.int .i64 0, .int .u64 1, .int .u64 4602678819172646912, .int .u64 4613937818241073152, .int .u64 0, .slice a1 1 c1, .slice a2 0 c2, .slice a3 1 c3, .slice a4 0 c4]) fcan) := HC4.out.kept ((Fr.refl [] _).alloc _)
  clear HC4 HF4 HF24
  go_upto_region 3 with fail
  generalize w4.alloc (.cells _ _) = wA at HNA HWA HCA ⊢
  generalize w4.heap.size = G3 at HNA ⊢
  go_wp2_with fail
  refine (HONE.out wA HWA.out.1).mono ?_
  rintro e w5 ⟨u5, rfl, hu5, hfA5, hf5⟩
  obtain ⟨b1, d1, b2, d2, b3, d3, b4, d4, rfl, hsr5⟩ : ∃ b1 d1 b2 d2 b3 d3 b4 d4, u5 = .agg #[.int .i64 0, .int .u64 1, .int .u64 4602678819172646912, .int .u64 4613937818241073152, .int .u64 0, .slice b1 1 d1, .slice b2 0 d2, .slice b3 2 d3, .slice b4 0 d4] ∧ SSrc w5 (.slice b1 1 d1) fone.P ∧ SSrc w5 (.slice b2 0 d2) fone.N ∧ USrc w5 (.slice b3 2 d3) fone.pd ∧ USrc w5 (.slice b4 0 d4) fone.nd := by
    obtain ⟨b1, d1, b2, d2, b3, d3, b4, d4, e, _, hsr5, _⟩ := hu5.opens
    exact ⟨b1, d1, b2, d2, b3, d3, b4, d4, e, hsr5⟩
  have HB5 : Hid (FSrc w5 (.agg #[.int .i64 0, .int .u64 1, .int .u64 4602678819172646912, .int .u64 9223372036854775808, .int .u64 0, .slice b1 1 d1, .slice b2 0 d2, .slice b3 2 d3, .slice b4 0 d4]) fbad) := ⟨_, _, _, _, rfl, by unfold in64 fbad; decide, by unfold inu fbad; decide, hsr5.1, hsr5.2.1, hsr5.2.2.1, hsr5.2.2.2⟩
  have HF5 : Hid (Fr [] w w5) := hf5
  have HFA5 : Hid (Fr [] wA w5) := hfA5
  clear hu5 hfA5 hf5 hsr5
  have HNB : Hid (NineF (w5.alloc (.cells #[.int .i64 0, .int .u64 1, .int .u64 4602678819172646912, .int .u64 9223372036854775808, .int .u64 0, .slice b1 1 d1, .slice b2 0 d2, .slice b3 2 d3, .slice b4 0 d4] 26)) w5.heap.size #[.int .i64 0, .int .u64 1, .int .u64 4602678819172646912, .int .u64 9223372036854775808, .int .u64 0, .slice b1 1 d1, .slice b2 0 d2, .slice b3 2 d3, .slice b4 0 d4]) := NineF.new _ _
  have HWB : Hid (Fr [] w (w5.alloc (.cells #[.int .i64 0, .int .u64 1, .int .u64 4602678819172646912, .int .u64 9223372036854775808, .int .u64 0, .slice b1 1 d1, .slice b2 0 d2, .slice b3 2 d3, .slice b4 0 d4] 26)) ∧ Fr [] wA (w5.alloc (.cells #[.int .i64 0, .int .u64 1, .int .u64 4602678819172646912, .int .u64 9223372036854775808, .int .u64 0, .slice b1 1 d1, .slice b2 0 d2, .slice b3 2 d3, .slice b4 0 d4] 26))) := ⟨HF5.out.alloc _, HFA5.out.alloc _⟩
  have HBB : Hid (FSrc (w5.alloc (.cells #[.int .i64 0, .int .u64 1, .int .u64 4602678819172646912, .int .u64 9223372036854775808, .int .u64 0, .slice b1 1 d1, .slice b2 0 d2, .slice b3 2 d3, .slice b4 0 d4] 26)) (.agg #[.int .i64 0, .int .u64 1, .int .u64 4602678819172646912, .int .u64 9223372036854775808, .int .u64 0, .slice b1 1 d1, .slice b2 0 d2, .slice b3 2 d3, .slice b4 0 d4]) fbad) := HB5.out.kept ((Fr.refl [] _).alloc _)
  clear HB5 HF5 HFA5
  go_upto_region 5 with fail
  generalize w5.alloc (.cells _ _) = wB at HNB HWB HBB ⊢
  generalize w5.heap.size = G5 at HNB ⊢
  have HNA2 : Hid (NineF wB G3 #[.int .i64 0, .int .u64 1, .int .u64 4602678819172646912, .int .u64 4613937818241073152, .int .u64 0, .slice a1 1 c1, .slice a2 0 c2, .slice a3 1 c3, .slice a4 0 c4]) := HNA.out.kept HWB.out.2 (by simp)
  have HCB : Hid (FSrc wB (.agg #[.int .i64 0, .int .u64 1, .int .u64 4602678819172646912, .int .u64 4613937818241073152, .int .u64 0, .slice a1 1 c1, .slice a2 0 c2, .slice a3 1 c3, .slice a4 0 c4]) fcan) := HCA.out.kept HWB.out.2
  have HF2B : Hid (Fr [] w2 wB) := HWA.out.2.trans HWB.out.2 (by simp)
  have HWB1 : Hid (Fr [] w wB) := HWB.out.1
  have x0 : wB.cell? ⟨xg, 1, none⟩ = some (.int .u64 4613937818241073152) := HF2B.out.cell_some HXC.out (by simp)
  have e7 := HNA2.out.cell 7 rfl
  have g0 := HNB.out.cell 0 rfl
  have g1 := HNB.out.cell 1 rfl
  have g2 := HNB.out.cell 2 rfl
  have g3 := HNB.out.cell 3 rfl
  have g4 := HNB.out.cell 4 rfl
  have g5 := HNB.out.cell 5 rfl
  have g6 := HNB.out.cell 6 rfl
  have g7 := HNB.out.cell 7 rfl
  have g8 := HNB.out.cell 8 rfl
  clear HNA HWA HCA HWB HXC
  go_wp2_with fail
  refine (fcheck_any _ fbad wB HBB.out).mono ?_
  rintro e w6 ⟨rfl, hf6⟩
  rw [kf_bad]
  have HF6 : Hid (Fr [] w w6) := HWB1.out.trans hf6 (by simp)
  have HFB6 : Hid (Fr [] wB w6) := hf6
  clear hf6 x0 e7 g0 g1 g2 g3 g4 g5 g6 g7 g8
  go_wp2_with fail
  refine (HONE.out w6 HF6.out).mono ?_
  rintro e w7 ⟨u7, rfl, hu7, hf67, hf7⟩
  have HF7 : Hid (Fr [] w w7) := hf7
  have HFB7 : Hid (Fr [] wB w7) := HFB6.out.trans hf67 (by simp)
  have HU7 : Hid (FSrc w7 u7 fone) := hu7
  clear hu7 hf67 hf7 HF6 HFB6
  go_wp2_with fail
  refine (fmake_any _ _ _ fone [(3, 4613937818241073152), (4, 0)] [] w7 HU7.out (HX.out.kept (HF2B.out.trans HFB7.out (by simp))) (PSrc.nil _) (by simp) (by simp)).mono ?_
  rintro e w8 ⟨u8, rfl, hu8, hf8⟩
  rw [kf_mke]
  rw [kf_mkh] at hu8
  obtain ⟨m1, n1, m2, n2, m3, n3, m4, n4, rfl, hs8⟩ : ∃ m1 n1 m2 n2 m3 n3 m4 n4, u8 = .agg #[.int .i64 0, .int .u64 1, .int .u64 4602678819172646912, .int .u64 4613937818241073152, .int .u64 0, .slice m1 1 n1, .slice m2 0 n2, .slice m3 2 n3, .slice m4 0 n4] ∧ FSrc w8 u8 fone := hu8.opens fone_in
  have HNC : Hid (NineF (w8.alloc (.cells #[.int .i64 0, .int .u64 1, .int .u64 4602678819172646912, .int .u64 4613937818241073152, .int .u64 0, .slice m1 1 n1, .slice m2 0 n2, .slice m3 2 n3, .slice m4 0 n4] 26)) w8.heap.size #[.int .i64 0, .int .u64 1, .int .u64 4602678819172646912, .int .u64 4613937818241073152, .int .u64 0, .slice m1 1 n1, .slice m2 0 n2, .slice m3 2 n3, .slice m4 0 n4]) := NineF.new _ _
  have HWC : Hid (Fr [] w (w8.alloc (.cells #[.int .i64 0, .int .u64 1, .int .u64 4602678819172646912, .int .u64 4613937818241073152, .int .u64 0, .slice m1 1 n1, .slice m2 0 n2, .slice m3 2 n3, .slice m4 0 n4] 26)) ∧ Fr [] wB (w8.alloc (.cells #[.int .i64 0, .int .u64 1, .int .u64 4602678819172646912, .int .u64 4613937818241073152, .int .u64 0, .slice m1 1 n1, .slice m2 0 n2, .slice m3 2 n3, .slice m4 0 n4] 26))) := ⟨(HF7.out.trans hf8 (by simp)).alloc _, (HFB7.out.trans hf8 (by simp)).alloc _⟩
  have HMC : Hid (FSrc (w8.alloc (.cells #[.int .i64 0, .int .u64 1, .int .u64 4602678819172646912, .int .u64 4613937818241073152, .int .u64 0, .slice m1 1 n1, .slice m2 0 n2, .slice m3 2 n3, .slice m4 0 n4] 26)) (.agg #[.int .i64 0, .int .u64 1, .int .u64 4602678819172646912, .int .u64 4613937818241073152, .int .u64 0, .slice m1 1 n1, .slice m2 0 n2, .slice m3 2 n3, .slice m4 0 n4]) fone) := hs8.kept ((Fr.refl [] _).alloc _)
  clear hu8 hs8 hf8 HF7 HFB7 HU7
  go_upto_region 8 with fail
  generalize w8.alloc (.cells _ _) = wC at HNC HWC HMC ⊢
  generalize w8.heap.size = G6 at HNC ⊢
  have HNA3 : Hid (NineF wC G3 #[.int .i64 0, .int .u64 1, .int .u64 4602678819172646912, .int .u64 4613937818241073152, .int .u64 0, .slice a1 1 c1, .slice a2 0 c2, .slice a3 1 c3, .slice a4 0 c4]) := HNA2.out.kept HWC.out.2 (by simp)
  have HNB3 : Hid (NineF wC G5 #[.int .i64 0, .int .u64 1, .int .u64 4602678819172646912, .int .u64 9223372036854775808, .int .u64 0, .slice b1 1 d1, .slice b2 0 d2, .slice b3 2 d3, .slice b4 0 d4]) := HNB.out.kept HWC.out.2 (by simp)
  have HCC : Hid (FSrc wC (.agg #[.int .i64 0, .int .u64 1, .int .u64 4602678819172646912, .int .u64 4613937818241073152, .int .u64 0, .slice a1 1 c1, .slice a2 0 c2, .slice a3 1 c3, .slice a4 0 c4]) fcan) := HCB.out.kept HWC.out.2
  have HBC : Hid (FSrc wC (.agg #[.int .i64 0, .int .u64 1, .int .u64 4602678819172646912, .int .u64 9223372036854775808, .int .u64 0, .slice b1 1 d1, .slice b2 0 d2, .slice b3 2 d3, .slice b4 0 d4]) fbad) := HBB.out.kept HWC.out.2
  have HFC : Hid (Fr [] w wC) := HWC.out.1
  clear HNA2 HNB HCB HBB HWC HWB1 HX HF2B
  have q0 := HNA3.out.cell 0 rfl
  have q1 := HNA3.out.cell 1 rfl
  have q2 := HNA3.out.cell 2 rfl
  have q3 := HNA3.out.cell 3 rfl
  have q4 := HNA3.out.cell 4 rfl
  have q5 := HNA3.out.cell 5 rfl
  have q6 := HNA3.out.cell 6 rfl
  have q7 := HNA3.out.cell 7 rfl
  have q8 := HNA3.out.cell 8 rfl
  have qf := frun_field5
  have F0 : Fr [] wC wC.drew := (Fr.refl _ _).drew
  have FZ : Fr [] wC (World.drew (wC.alloc (.cells #[.int .i64 0, .int .u64 0, .int .u64 0, .int .u64 0, .int .u64 0, .slice none 0 0, .slice none 0 0, .slice none 0 0, .slice none 0 0] 26))) := ((Fr.refl _ _).alloc _).drew
  have NZ : Hid (NineF (World.drew (wC.alloc (.cells #[.int .i64 0, .int .u64 0, .int .u64 0, .int .u64 0, .int .u64 0, .slice none 0 0, .slice none 0 0, .slice none 0 0, .slice none 0 0] 26))) wC.heap.size #[.int .i64 0, .int .u64 0, .int .u64 0, .int .u64 0, .int .u64 0, .slice none 0 0, .slice none 0 0, .slice none 0 0, .slice none 0 0]) := NineF.new wC _
  have HO1 : Hid (∀ wx, Fr [] wC wx → Calls Try.prog 48 #[] wx fun e w' => ∃ u, e = .returned u ∧ FSrc w' u fone ∧ Fr [] wC w' ∧ Fr [] wx w') := by
    intro wx hx
    refine (HONE.out wx (HFC.out.trans hx (by simp))).mono ?_
    rintro e w' ⟨u, rfl, hu, hf, _⟩
    exact ⟨u, rfl, hu, hx.trans hf (by simp), hf⟩
  have HO2 : Hid (∀ wx p, Fr [] wC wx → SSrc wx p fone.P → Calls Try.prog 32 #[.agg #[.int .i64 0, .int .u64 1, .int .u64 4602678819172646912, .int .u64 4613937818241073152, .int .u64 0, .slice a1 1 c1, .slice a2 0 c2, .slice a3 1 c3, .slice a4 0 c4], p, .slice none 0 0] wx fun e w' => ∃ u, e = .returned (.tuple #[u, .int .i64 0]) ∧ FKeep wx.heap.size w' u fone ∧ Fr [] wC w' ∧ Fr [] wx w') := by
    intro wx p hx hp
    refine (fover_any _ _ _ fcan [(3, 2)] [] wx (HCC.out.kept hx) hp (SSrc.nil _)).mono ?_
    rintro e w' ⟨u, rfl, hu, hf⟩
    rw [kf_ovh] at hu
    exact ⟨u, by rw [kf_ove], hu, hx.trans hf (by simp), hf⟩
  have hopens : ∀ {B : Nat} {wb : World} {ub : Value}, FKeep B wb ub fone → ∃ b1 d1 b2 d2 b3 d3 b4 d4, ub = .agg #[.int .i64 0, .int .u64 1, .int .u64 4602678819172646912, .int .u64 4613937818241073152, .int .u64 0, .slice b1 1 d1, .slice b2 0 d2, .slice b3 2 d3, .slice b4 0 d4] ∧ FKeep B wb ub fone := by
    intro B wb ub h
    obtain ⟨b1, d1, b2, d2, b3, d3, b4, d4, e, _⟩ := h.src.opens
    exact ⟨b1, d1, b2, d2, b3, d3, b4, d4, e, h⟩
  have hG3 : G3 < wC.heap.size := HNA3.out.lt
  have HNE : Hid (∀ wx, Fr [] wC wx → G3 ≠ wx.heap.size ∧ wx.heap.size ≠ G3) := fun wx hx => by have := hx.size; omega
  have ne0 := (HNE.out _ (Fr.refl _ _)).1
  have ne1 := (HNE.out _ (Fr.refl _ _)).2
  clear hG3
  go_cut [8, 9] from 65 to 71 (fun c8 c9 wx => ∃ G8 o1 p1 o2 p2 o3 p3 o4 p4, c8 = .pointer (some ⟨G8, 0, none⟩) ∧ c9 = .int .i64 0 ∧ NineF wx G8 #[.int .i64 0, .int .u64 1, .int .u64 4602678819172646912, .int .u64 4613937818241073152, .int .u64 0, .slice o1 1 p1, .slice o2 0 p2, .slice o3 2 p3, .slice o4 0 p4] ∧ FSrc wx (.agg #[.int .i64 0, .int .u64 1, .int .u64 4602678819172646912, .int .u64 4613937818241073152, .int .u64 0, .slice o1 1 p1, .slice o2 0 p2, .slice o3 2 p3, .slice o4 0 p4]) fone ∧ Fr [] wC wx)
  case first =>
    go_region_held3 (fun w' => w'.cell? ⟨G3, 0, none⟩ = some (.int .i64 0) ∧ w'.cell? ⟨G3, 1, none⟩ = some (.int .u64 1) ∧ w'.cell? ⟨G3, 2, none⟩ = some (.int .u64 4602678819172646912) ∧ w'.cell? ⟨G3, 3, none⟩ = some (.int .u64 4613937818241073152) ∧ w'.cell? ⟨G3, 4, none⟩ = some (.int .u64 0) ∧ w'.cell? ⟨G3, 5, none⟩ = some (.slice a1 1 c1) ∧ w'.cell? ⟨G3, 6, none⟩ = some (.slice a2 0 c2) ∧ w'.cell? ⟨G3, 7, none⟩ = some (.slice a3 1 c3) ∧ w'.cell? ⟨G3, 8, none⟩ = some (.slice a4 0 c4)) (go_keep) (first
      | (go_at_call 48; first
        | (with_reducible refine (HO1.out _ F0).mono ?_; rintro e wa ⟨ua, rfl, hua, hfa, hfxa⟩; have ka0 := hfa.cell_some q0 (by simp); have ka1 := hfa.cell_some q1 (by simp); have ka2 := hfa.cell_some q2 (by simp); have ka3 := hfa.cell_some q3 (by simp); have ka4 := hfa.cell_some q4 (by simp); have ka5 := hfa.cell_some q5 (by simp); have ka6 := hfa.cell_some q6 (by simp); have ka7 := hfa.cell_some q7 (by simp); have ka8 := hfa.cell_some q8 (by simp); obtain ⟨b11, d11, b12, d12, b13, d13, b14, d14, rfl, _, hsra, _⟩ := hua.opens; have hsra1 := hsra.1; have ne2 := (HNE.out _ hfa).1; have ne3 := (HNE.out _ hfa).2)
        | (with_reducible refine (HO1.out _ FZ).mono ?_; rintro e wa ⟨ua, rfl, hua, hfa, hfxa⟩; have n8 := NZ.out.kept hfxa List.not_mem_nil; have ka0 := hfa.cell_some q0 (by simp); have ka1 := hfa.cell_some q1 (by simp); have ka2 := hfa.cell_some q2 (by simp); have ka3 := hfa.cell_some q3 (by simp); have ka4 := hfa.cell_some q4 (by simp); have ka5 := hfa.cell_some q5 (by simp); have ka6 := hfa.cell_some q6 (by simp); have ka7 := hfa.cell_some q7 (by simp); have ka8 := hfa.cell_some q8 (by simp); obtain ⟨b11, d11, b12, d12, b13, d13, b14, d14, rfl, _, hsra, _⟩ := hua.opens; have hsra1 := hsra.1; have ne2 := (HNE.out _ hfa).1; have ne3 := (HNE.out _ hfa).2))
      | (go_at_call 32; first
        | (with_reducible refine (HO2.out _ _ hfa hsra1).mono ?_; rintro e wb ⟨ub, rfl, hub, hfb, hfxb⟩; (try (have n8b := n8.kept hfxb List.not_mem_nil; have z0 := n8b.cell 0 rfl; have z1 := n8b.cell 1 rfl; have z2 := n8b.cell 2 rfl; have z3 := n8b.cell 3 rfl; have z4 := n8b.cell 4 rfl; have z5 := n8b.cell 5 rfl; have z6 := n8b.cell 6 rfl; have z7 := n8b.cell 7 rfl; have z8 := n8b.cell 8 rfl; have y0 := n8b.frozen 0; have y1 := n8b.frozen 1; have y2 := n8b.frozen 2; have y3 := n8b.frozen 3; have y4 := n8b.frozen 4; have y5 := n8b.frozen 5; have y6 := n8b.frozen 6; have y7 := n8b.frozen 7; have y8 := n8b.frozen 8)); have kb0 := hfb.cell_some q0 (by simp); have kb1 := hfb.cell_some q1 (by simp); have kb2 := hfb.cell_some q2 (by simp); have kb3 := hfb.cell_some q3 (by simp); have kb4 := hfb.cell_some q4 (by simp); have kb5 := hfb.cell_some q5 (by simp); have kb6 := hfb.cell_some q6 (by simp); have kb7 := hfb.cell_some q7 (by simp); have kb8 := hfb.cell_some q8 (by simp); obtain ⟨b21, d21, b22, d22, b23, d23, b24, d24, rfl, hubs⟩ : ∃ b1 d1 b2 d2 b3 d3 b4 d4, ub = .agg #[.int .i64 0, .int .u64 1, .int .u64 4602678819172646912, .int .u64 4613937818241073152, .int .u64 0, .slice b1 1 d1, .slice b2 0 d2, .slice b3 2 d3, .slice b4 0 d4] ∧ FKeep _ wb ub fone := hopens hub)
        | (with_reducible refine (HO2.out _ _ (hfa.alloc _) (hsra1.kept ((Fr.refl [] _).alloc _))).mono ?_; rintro e wb ⟨ub, rfl, hub, hfb, hfxb⟩; have n8b := (NineF.new wa _).kept hfxb List.not_mem_nil; have z0 := n8b.cell 0 rfl; have z1 := n8b.cell 1 rfl; have z2 := n8b.cell 2 rfl; have z3 := n8b.cell 3 rfl; have z4 := n8b.cell 4 rfl; have z5 := n8b.cell 5 rfl; have z6 := n8b.cell 6 rfl; have z7 := n8b.cell 7 rfl; have z8 := n8b.cell 8 rfl; have y0 := n8b.frozen 0; have y1 := n8b.frozen 1; have y2 := n8b.frozen 2; have y3 := n8b.frozen 3; have y4 := n8b.frozen 4; have y5 := n8b.frozen 5; have y6 := n8b.frozen 6; have y7 := n8b.frozen 7; have y8 := n8b.frozen 8; have kb0 := hfb.cell_some q0 (by simp); have kb1 := hfb.cell_some q1 (by simp); have kb2 := hfb.cell_some q2 (by simp); have kb3 := hfb.cell_some q3 (by simp); have kb4 := hfb.cell_some q4 (by simp); have kb5 := hfb.cell_some q5 (by simp); have kb6 := hfb.cell_some q6 (by simp); have kb7 := hfb.cell_some q7 (by simp); have kb8 := hfb.cell_some q8 (by simp); obtain ⟨b21, d21, b22, d22, b23, d23, b24, d24, rfl, hubs⟩ : ∃ b1 d1 b2 d2 b3 d3 b4 d4, ub = .agg #[.int .i64 0, .int .u64 1, .int .u64 4602678819172646912, .int .u64 4613937818241073152, .int .u64 0, .slice b1 1 d1, .slice b2 0 d2, .slice b3 2 d3, .slice b4 0 d4] ∧ FKeep _ wb ub fone := hopens hub)))
    · go_wp2_with fail
      go_meet
      exact ⟨_, _, _, _, _, _, _, _, _, rfl, rfl, NineF.new wb _, hubs.src.kept ((Fr.refl [] _).alloc _), hfb.alloc _⟩
    · go_wp2_with fail
      go_meet
      exact ⟨_, _, _, _, _, _, _, _, _, rfl, rfl, set9_nineF n8b _ _ _ _ _ _ _ _ _, hubs [wa.heap.size] _ (set9_fr (Fr.refl _ _) (.inl (List.mem_singleton.2 rfl)) _ _ _ _ _ _ _ _ _) (by simp), set9_fr hfb (.inr hfa.size) _ _ _ _ _ _ _ _ _⟩
    · go_wp2_with fail
      go_meet
      have hsz := hfxa.size
      exact ⟨_, _, _, _, _, _, _, _, _, rfl, rfl, set9_nineF n8b _ _ _ _ _ _ _ _ _, hubs [wC.heap.size] _ (set9_fr (Fr.refl _ _) (.inl (List.mem_singleton.2 rfl)) _ _ _ _ _ _ _ _ _) (by simp at hsz ⊢; omega), set9_fr hfb (.inr (Nat.le_refl _)) _ _ _ _ _ _ _ _ _⟩
  case rest =>
    obtain ⟨G8, o1, p1, o2, p2, o3, p3, o4, p4, rfl, rfl, hn8, hs8, hfc⟩ := hcut
    clear q0 q1 q2 q3 q4 q5 q6 q7 q8 ne0 ne1 FZ F0
    have N6 : Hid (NineF wc G6 #[.int .i64 0, .int .u64 1, .int .u64 4602678819172646912, .int .u64 4613937818241073152, .int .u64 0, .slice m1 1 n1, .slice m2 0 n2, .slice m3 2 n3, .slice m4 0 n4]) := HNC.out.kept hfc (by simp)
    have N8 : Hid (NineF wc G8 #[.int .i64 0, .int .u64 1, .int .u64 4602678819172646912, .int .u64 4613937818241073152, .int .u64 0, .slice o1 1 p1, .slice o2 0 p2, .slice o3 2 p3, .slice o4 0 p4]) := hn8
    have N3 : Hid (NineF wc G3 #[.int .i64 0, .int .u64 1, .int .u64 4602678819172646912, .int .u64 4613937818241073152, .int .u64 0, .slice a1 1 c1, .slice a2 0 c2, .slice a3 1 c3, .slice a4 0 c4]) := HNA3.out.kept hfc (by simp)
    have N5 : Hid (NineF wc G5 #[.int .i64 0, .int .u64 1, .int .u64 4602678819172646912, .int .u64 9223372036854775808, .int .u64 0, .slice b1 1 d1, .slice b2 0 d2, .slice b3 2 d3, .slice b4 0 d4]) := HNB3.out.kept hfc (by simp)
    have SM : Hid (FSrc wc (.agg #[.int .i64 0, .int .u64 1, .int .u64 4602678819172646912, .int .u64 4613937818241073152, .int .u64 0, .slice m1 1 n1, .slice m2 0 n2, .slice m3 2 n3, .slice m4 0 n4]) fone) := HMC.out.kept hfc
    have SO : Hid (FSrc wc (.agg #[.int .i64 0, .int .u64 1, .int .u64 4602678819172646912, .int .u64 4613937818241073152, .int .u64 0, .slice o1 1 p1, .slice o2 0 p2, .slice o3 2 p3, .slice o4 0 p4]) fone) := hs8
    have SC : Hid (FSrc wc (.agg #[.int .i64 0, .int .u64 1, .int .u64 4602678819172646912, .int .u64 4613937818241073152, .int .u64 0, .slice a1 1 c1, .slice a2 0 c2, .slice a3 1 c3, .slice a4 0 c4]) fcan) := HCC.out.kept hfc
    have SB : Hid (FSrc wc (.agg #[.int .i64 0, .int .u64 1, .int .u64 4602678819172646912, .int .u64 9223372036854775808, .int .u64 0, .slice b1 1 d1, .slice b2 0 d2, .slice b3 2 d3, .slice b4 0 d4]) fbad) := HBC.out.kept hfc
    have HF : Hid (Fr [] w wc) := HFC.out.trans hfc (by simp)
    clear hn8 hs8 hfc HNC HNA3 HNB3 HMC HCC HBC HFC HO1 HO2 NZ HNE hopens
    have HONE2 : Hid (∀ wx, Fr [] wc wx → Calls Try.prog 48 #[] wx fun e w' => ∃ u, e = .returned u ∧ FSrc w' u fone ∧ Fr [] wx w' ∧ Fr [] w w') := fun wx hx => HONE.out wx (HF.out.trans hx (by simp))
    have HW3 : Hid (∀ wx, Calls Try.prog 37 #[.int .u64 4613937818241073152] wx fun e w' => e = .returned (.tuple #[.int .u64 3, .bool true]) ∧ wx = w') := by
      intro wx
      refine (wholeI_any 4613937818241073152 wx (by unfold inu; omega)).mono ?_
      rintro e w' ⟨rfl, h⟩
      exact ⟨by rw [kf_w3.1, kf_w3.2], h⟩
    have HWH : Hid (∀ wx, Calls Try.prog 37 #[.int .u64 4602678819172646912] wx fun e w' => e = .returned (.tuple #[.int .u64 0, .bool false]) ∧ wx = w') := by
      intro wx
      refine (wholeI_any 4602678819172646912 wx (by unfold inu; omega)).mono ?_
      rintro e w' ⟨rfl, h⟩
      exact ⟨by rw [kf_wh.1, kf_wh.2], h⟩
    go_wp2_with fail
    refine (HW3.out _).mono ?_
    rintro e wq ⟨rfl, rfl⟩
    go_wp2_with fail
    refine (HWH.out _).mono ?_
    rintro e wq ⟨rfl, rfl⟩
    clear HW3 HWH
    go_wp2_with fail
    refine (HONE2.out wc (Fr.refl _ _)).mono ?_
    rintro e w9 ⟨u9, rfl, hu9, hf9, _⟩
    have HU9 : Hid (FSrc w9 u9 fone) := hu9
    have HF9 : Hid (Fr [] wc w9) := hf9
    clear hu9 hf9 HONE2
    go_wp2_with fail
    refine (back_any _ fone w9 HU9.out).mono ?_
    rintro e wt ⟨ut, rfl, hut, hft⟩
    rw [kf_bke]
    have hbz : bkh fone = hzero := by unfold bkh; rw [if_neg (by rw [kf_bke]; decide)]
    rw [hbz] at hut
    obtain ⟨z1, y1, z2, y2, z3, y3, z4, y4, rfl⟩ : ∃ z1 y1 z2 y2 z3 y3 z4 y4, ut = .agg #[.int .i64 0, .int .u64 0, .int .u64 0, .int .u64 0, .int .u64 0, .slice z1 0 y1, .slice z2 0 y2, .slice z3 0 y3, .slice z4 0 y4] := by
      obtain ⟨b1, d1, b2, d2, b3, d3, b4, d4, e, _⟩ := hut.src.opens
      exact ⟨b1, d1, b2, d2, b3, d3, b4, d4, e⟩
    have HFD : Hid (Fr [] wc (wt.alloc (.cells #[.int .i64 0, .int .u64 0, .int .u64 0, .int .u64 0, .int .u64 0, .slice z1 0 y1, .slice z2 0 y2, .slice z3 0 y3, .slice z4 0 y4] 70))) := (HF9.out.trans hft (by simp)).alloc _
    clear hut hft hbz HU9 HF9
    go_upto_region 12 with fail
    generalize wt.alloc (.cells _ _) = wd at HFD ⊢
    have N6' := N6.out.kept HFD.out (by simp)
    have N8' := N8.out.kept HFD.out (by simp)
    have N3' := N3.out.kept HFD.out (by simp)
    have N5' := N5.out.kept HFD.out (by simp)
    have SM' := SM.out.kept HFD.out
    have SO' := SO.out.kept HFD.out
    have SC' := SC.out.kept HFD.out
    have SB' := SB.out.kept HFD.out
    have HF' := HF.out.trans HFD.out (by simp)
    clear N6 N8 N3 N5 SM SO SC SB HF HFD
    have N6 : Hid (NineF wd G6 _) := N6'
    have N8 : Hid (NineF wd G8 _) := N8'
    have N3 : Hid (NineF wd G3 _) := N3'
    have N5 : Hid (NineF wd G5 _) := N5'
    have SM : Hid (FSrc wd _ fone) := SM'
    have SO : Hid (FSrc wd _ fone) := SO'
    have SC : Hid (FSrc wd _ fcan) := SC'
    have SB : Hid (FSrc wd _ fbad) := SB'
    have HF : Hid (Fr [] w wd) := HF'
    clear N6' N8' N3' N5' SM' SO' SC' SB' HF'
    have HP1 : Hid (∀ wx, Fr [] wd wx → Calls Try.prog 48 #[] wx fun e w' => ∃ u, e = .returned u ∧ FSrc w' u fone ∧ Fr [] wd w') := by
      intro wx hx
      refine (HONE.out wx (HF.out.trans hx (by simp))).mono ?_
      rintro e w' ⟨u, rfl, hu, hf, _⟩
      exact ⟨u, rfl, hu, hx.trans hf (by simp)⟩
    have HP2 : Hid (∀ wx u, Fr [] wd wx → FSrc wx u fone → Calls Try.prog 30 #[.agg #[.int .i64 0, .int .u64 1, .int .u64 4602678819172646912, .int .u64 4613937818241073152, .int .u64 0, .slice m1 1 n1, .slice m2 0 n2, .slice m3 2 n3, .slice m4 0 n4], u] wx fun e w' => e = .returned (.bool true) ∧ Fr [] wd w') := by
      intro wx u hx hu
      refine (fequal_any _ _ fone fone wx (SM.out.kept hx) hu).mono ?_
      rintro e w' ⟨rfl, hf⟩
      exact ⟨by rw [kf_eq1], hx.trans hf (by simp)⟩
    have HP3 : Hid (∀ wx, Fr [] wd wx → Calls Try.prog 30 #[.agg #[.int .i64 0, .int .u64 1, .int .u64 4602678819172646912, .int .u64 4613937818241073152, .int .u64 0, .slice o1 1 p1, .slice o2 0 p2, .slice o3 2 p3, .slice o4 0 p4], .agg #[.int .i64 0, .int .u64 1, .int .u64 4602678819172646912, .int .u64 4613937818241073152, .int .u64 0, .slice a1 1 c1, .slice a2 0 c2, .slice a3 1 c3, .slice a4 0 c4]] wx fun e w' => e = .returned (.bool true) ∧ Fr [] wd w') := by
      intro wx hx
      refine (fequal_any _ _ fone fcan wx (SO.out.kept hx) (SC.out.kept hx)).mono ?_
      rintro e w' ⟨rfl, hf⟩
      exact ⟨by rw [kf_eq2], hx.trans hf (by simp)⟩
    have HP4 : Hid (∀ wx u, Fr [] wd wx → FSrc wx u fone → Calls Try.prog 30 #[u, .agg #[.int .i64 0, .int .u64 1, .int .u64 4602678819172646912, .int .u64 9223372036854775808, .int .u64 0, .slice b1 1 d1, .slice b2 0 d2, .slice b3 2 d3, .slice b4 0 d4]] wx fun e w' => e = .returned (.bool false) ∧ Fr [] wd w') := by
      intro wx u hx hu
      refine (fequal_any _ _ fone fbad wx hu (SB.out.kept hx)).mono ?_
      rintro e w' ⟨rfl, hf⟩
      exact ⟨by rw [kf_eq3], hx.trans hf (by simp)⟩
    have HP5 : Hid (∀ wx, Calls Try.prog 39 #[.int .u64 3] wx fun e w' => e = .returned (.int .u64 4613937818241073152) ∧ wx = w') := by
      intro wx
      refine (floatI_any 3 wx (by unfold inu; omega)).mono ?_
      rintro e w' ⟨rfl, h⟩
      exact ⟨by rw [kf_f3], h⟩
    have HP6 : Hid (∀ wx, Calls Try.prog 17 #[.int .u64 0] wx fun e w' => e = .returned (.bool true) ∧ wx = w') := by
      intro wx
      refine (right_any 0 wx).mono ?_
      rintro e w' ⟨rfl, h⟩
      exact ⟨rfl, h⟩
    have LG60 : ∀ wx, Fr [] wd wx → wx.cell? ⟨G6, 0, none⟩ = some (.int .i64 0) := fun wx hx => hx.cell_some (N6.out.cell 0 rfl) List.not_mem_nil
    have LG61 : ∀ wx, Fr [] wd wx → wx.cell? ⟨G6, 1, none⟩ = some (.int .u64 1) := fun wx hx => hx.cell_some (N6.out.cell 1 rfl) List.not_mem_nil
    have LG62 : ∀ wx, Fr [] wd wx → wx.cell? ⟨G6, 2, none⟩ = some (.int .u64 4602678819172646912) := fun wx hx => hx.cell_some (N6.out.cell 2 rfl) List.not_mem_nil
    have LG63 : ∀ wx, Fr [] wd wx → wx.cell? ⟨G6, 3, none⟩ = some (.int .u64 4613937818241073152) := fun wx hx => hx.cell_some (N6.out.cell 3 rfl) List.not_mem_nil
    have LG64 : ∀ wx, Fr [] wd wx → wx.cell? ⟨G6, 4, none⟩ = some (.int .u64 0) := fun wx hx => hx.cell_some (N6.out.cell 4 rfl) List.not_mem_nil
    have LG65 : ∀ wx, Fr [] wd wx → wx.cell? ⟨G6, 5, none⟩ = some (.slice m1 1 n1) := fun wx hx => hx.cell_some (N6.out.cell 5 rfl) List.not_mem_nil
    have LG66 : ∀ wx, Fr [] wd wx → wx.cell? ⟨G6, 6, none⟩ = some (.slice m2 0 n2) := fun wx hx => hx.cell_some (N6.out.cell 6 rfl) List.not_mem_nil
    have LG67 : ∀ wx, Fr [] wd wx → wx.cell? ⟨G6, 7, none⟩ = some (.slice m3 2 n3) := fun wx hx => hx.cell_some (N6.out.cell 7 rfl) List.not_mem_nil
    have LG68 : ∀ wx, Fr [] wd wx → wx.cell? ⟨G6, 8, none⟩ = some (.slice m4 0 n4) := fun wx hx => hx.cell_some (N6.out.cell 8 rfl) List.not_mem_nil
    have LG80 : ∀ wx, Fr [] wd wx → wx.cell? ⟨G8, 0, none⟩ = some (.int .i64 0) := fun wx hx => hx.cell_some (N8.out.cell 0 rfl) List.not_mem_nil
    have LG81 : ∀ wx, Fr [] wd wx → wx.cell? ⟨G8, 1, none⟩ = some (.int .u64 1) := fun wx hx => hx.cell_some (N8.out.cell 1 rfl) List.not_mem_nil
    have LG82 : ∀ wx, Fr [] wd wx → wx.cell? ⟨G8, 2, none⟩ = some (.int .u64 4602678819172646912) := fun wx hx => hx.cell_some (N8.out.cell 2 rfl) List.not_mem_nil
    have LG83 : ∀ wx, Fr [] wd wx → wx.cell? ⟨G8, 3, none⟩ = some (.int .u64 4613937818241073152) := fun wx hx => hx.cell_some (N8.out.cell 3 rfl) List.not_mem_nil
    have LG84 : ∀ wx, Fr [] wd wx → wx.cell? ⟨G8, 4, none⟩ = some (.int .u64 0) := fun wx hx => hx.cell_some (N8.out.cell 4 rfl) List.not_mem_nil
    have LG85 : ∀ wx, Fr [] wd wx → wx.cell? ⟨G8, 5, none⟩ = some (.slice o1 1 p1) := fun wx hx => hx.cell_some (N8.out.cell 5 rfl) List.not_mem_nil
    have LG86 : ∀ wx, Fr [] wd wx → wx.cell? ⟨G8, 6, none⟩ = some (.slice o2 0 p2) := fun wx hx => hx.cell_some (N8.out.cell 6 rfl) List.not_mem_nil
    have LG87 : ∀ wx, Fr [] wd wx → wx.cell? ⟨G8, 7, none⟩ = some (.slice o3 2 p3) := fun wx hx => hx.cell_some (N8.out.cell 7 rfl) List.not_mem_nil
    have LG88 : ∀ wx, Fr [] wd wx → wx.cell? ⟨G8, 8, none⟩ = some (.slice o4 0 p4) := fun wx hx => hx.cell_some (N8.out.cell 8 rfl) List.not_mem_nil
    have LG30 : ∀ wx, Fr [] wd wx → wx.cell? ⟨G3, 0, none⟩ = some (.int .i64 0) := fun wx hx => hx.cell_some (N3.out.cell 0 rfl) List.not_mem_nil
    have LG31 : ∀ wx, Fr [] wd wx → wx.cell? ⟨G3, 1, none⟩ = some (.int .u64 1) := fun wx hx => hx.cell_some (N3.out.cell 1 rfl) List.not_mem_nil
    have LG32 : ∀ wx, Fr [] wd wx → wx.cell? ⟨G3, 2, none⟩ = some (.int .u64 4602678819172646912) := fun wx hx => hx.cell_some (N3.out.cell 2 rfl) List.not_mem_nil
    have LG33 : ∀ wx, Fr [] wd wx → wx.cell? ⟨G3, 3, none⟩ = some (.int .u64 4613937818241073152) := fun wx hx => hx.cell_some (N3.out.cell 3 rfl) List.not_mem_nil
    have LG34 : ∀ wx, Fr [] wd wx → wx.cell? ⟨G3, 4, none⟩ = some (.int .u64 0) := fun wx hx => hx.cell_some (N3.out.cell 4 rfl) List.not_mem_nil
    have LG35 : ∀ wx, Fr [] wd wx → wx.cell? ⟨G3, 5, none⟩ = some (.slice a1 1 c1) := fun wx hx => hx.cell_some (N3.out.cell 5 rfl) List.not_mem_nil
    have LG36 : ∀ wx, Fr [] wd wx → wx.cell? ⟨G3, 6, none⟩ = some (.slice a2 0 c2) := fun wx hx => hx.cell_some (N3.out.cell 6 rfl) List.not_mem_nil
    have LG37 : ∀ wx, Fr [] wd wx → wx.cell? ⟨G3, 7, none⟩ = some (.slice a3 1 c3) := fun wx hx => hx.cell_some (N3.out.cell 7 rfl) List.not_mem_nil
    have LG38 : ∀ wx, Fr [] wd wx → wx.cell? ⟨G3, 8, none⟩ = some (.slice a4 0 c4) := fun wx hx => hx.cell_some (N3.out.cell 8 rfl) List.not_mem_nil
    have LG50 : ∀ wx, Fr [] wd wx → wx.cell? ⟨G5, 0, none⟩ = some (.int .i64 0) := fun wx hx => hx.cell_some (N5.out.cell 0 rfl) List.not_mem_nil
    have LG51 : ∀ wx, Fr [] wd wx → wx.cell? ⟨G5, 1, none⟩ = some (.int .u64 1) := fun wx hx => hx.cell_some (N5.out.cell 1 rfl) List.not_mem_nil
    have LG52 : ∀ wx, Fr [] wd wx → wx.cell? ⟨G5, 2, none⟩ = some (.int .u64 4602678819172646912) := fun wx hx => hx.cell_some (N5.out.cell 2 rfl) List.not_mem_nil
    have LG53 : ∀ wx, Fr [] wd wx → wx.cell? ⟨G5, 3, none⟩ = some (.int .u64 9223372036854775808) := fun wx hx => hx.cell_some (N5.out.cell 3 rfl) List.not_mem_nil
    have LG54 : ∀ wx, Fr [] wd wx → wx.cell? ⟨G5, 4, none⟩ = some (.int .u64 0) := fun wx hx => hx.cell_some (N5.out.cell 4 rfl) List.not_mem_nil
    have LG55 : ∀ wx, Fr [] wd wx → wx.cell? ⟨G5, 5, none⟩ = some (.slice b1 1 d1) := fun wx hx => hx.cell_some (N5.out.cell 5 rfl) List.not_mem_nil
    have LG56 : ∀ wx, Fr [] wd wx → wx.cell? ⟨G5, 6, none⟩ = some (.slice b2 0 d2) := fun wx hx => hx.cell_some (N5.out.cell 6 rfl) List.not_mem_nil
    have LG57 : ∀ wx, Fr [] wd wx → wx.cell? ⟨G5, 7, none⟩ = some (.slice b3 2 d3) := fun wx hx => hx.cell_some (N5.out.cell 7 rfl) List.not_mem_nil
    have LG58 : ∀ wx, Fr [] wd wx → wx.cell? ⟨G5, 8, none⟩ = some (.slice b4 0 d4) := fun wx hx => hx.cell_some (N5.out.cell 8 rfl) List.not_mem_nil
    have F0 : Fr [] wd wd.drew := (Fr.refl _ _).drew
    go_region_held3 (fun w' => w'.cell? ⟨G6, 0, none⟩ = some (.int .i64 0) ∧ w'.cell? ⟨G6, 1, none⟩ = some (.int .u64 1) ∧ w'.cell? ⟨G6, 2, none⟩ = some (.int .u64 4602678819172646912) ∧ w'.cell? ⟨G6, 3, none⟩ = some (.int .u64 4613937818241073152) ∧ w'.cell? ⟨G6, 4, none⟩ = some (.int .u64 0) ∧ w'.cell? ⟨G6, 5, none⟩ = some (.slice m1 1 n1) ∧ w'.cell? ⟨G6, 6, none⟩ = some (.slice m2 0 n2) ∧ w'.cell? ⟨G6, 7, none⟩ = some (.slice m3 2 n3) ∧ w'.cell? ⟨G6, 8, none⟩ = some (.slice m4 0 n4) ∧ w'.cell? ⟨G8, 0, none⟩ = some (.int .i64 0) ∧ w'.cell? ⟨G8, 1, none⟩ = some (.int .u64 1) ∧ w'.cell? ⟨G8, 2, none⟩ = some (.int .u64 4602678819172646912) ∧ w'.cell? ⟨G8, 3, none⟩ = some (.int .u64 4613937818241073152) ∧ w'.cell? ⟨G8, 4, none⟩ = some (.int .u64 0) ∧ w'.cell? ⟨G8, 5, none⟩ = some (.slice o1 1 p1) ∧ w'.cell? ⟨G8, 6, none⟩ = some (.slice o2 0 p2) ∧ w'.cell? ⟨G8, 7, none⟩ = some (.slice o3 2 p3) ∧ w'.cell? ⟨G8, 8, none⟩ = some (.slice o4 0 p4) ∧ w'.cell? ⟨G3, 0, none⟩ = some (.int .i64 0) ∧ w'.cell? ⟨G3, 1, none⟩ = some (.int .u64 1) ∧ w'.cell? ⟨G3, 2, none⟩ = some (.int .u64 4602678819172646912) ∧ w'.cell? ⟨G3, 3, none⟩ = some (.int .u64 4613937818241073152) ∧ w'.cell? ⟨G3, 4, none⟩ = some (.int .u64 0) ∧ w'.cell? ⟨G3, 5, none⟩ = some (.slice a1 1 c1) ∧ w'.cell? ⟨G3, 6, none⟩ = some (.slice a2 0 c2) ∧ w'.cell? ⟨G3, 7, none⟩ = some (.slice a3 1 c3) ∧ w'.cell? ⟨G3, 8, none⟩ = some (.slice a4 0 c4) ∧ w'.cell? ⟨G5, 0, none⟩ = some (.int .i64 0) ∧ w'.cell? ⟨G5, 1, none⟩ = some (.int .u64 1) ∧ w'.cell? ⟨G5, 2, none⟩ = some (.int .u64 4602678819172646912) ∧ w'.cell? ⟨G5, 3, none⟩ = some (.int .u64 9223372036854775808) ∧ w'.cell? ⟨G5, 4, none⟩ = some (.int .u64 0) ∧ w'.cell? ⟨G5, 5, none⟩ = some (.slice b1 1 d1) ∧ w'.cell? ⟨G5, 6, none⟩ = some (.slice b2 0 d2) ∧ w'.cell? ⟨G5, 7, none⟩ = some (.slice b3 2 d3) ∧ w'.cell? ⟨G5, 8, none⟩ = some (.slice b4 0 d4)) (go_keep) (first
      | (go_at_call 48; first
        | (with_reducible refine (HP1.out _ F0).mono ?_; rintro e wz ⟨ua, rfl, hua, hz1⟩)
        | (with_reducible refine (HP1.out _ hz3).mono ?_; rintro e wz4 ⟨ub, rfl, hub, hz4⟩))
      | (go_at_call 30; first
        | (with_reducible refine (HP2.out _ _ hz1 hua).mono ?_; rintro e wz2 ⟨rfl, hz2⟩)
        | (with_reducible refine (HP3.out _ hz2).mono ?_; rintro e wz3 ⟨rfl, hz3⟩)
        | (with_reducible refine (HP4.out _ _ hz4 hub).mono ?_; rintro e wz5 ⟨rfl, hz5⟩))
      | (go_at_call 39; with_reducible refine (HP5.out _).mono ?_; rintro e wz6 ⟨rfl, rfl⟩)
      | (go_at_call 17; with_reducible refine (HP6.out _).mono ?_; rintro e wz7 ⟨rfl, rfl⟩))
    all_goals (go_wp2_with fail)
    all_goals (go_ret)
    all_goals exact ⟨rfl, HF.out.trans hz5 (by simp)⟩
end Go.Proofs.Ytoaibabkkphlaaa

/-
  What the statements of layer 9 share: spans, few, small, ref.
-/
namespace Go.Proofs.Ytoaibabkkphlaaa
open Go.RowKit Mem Spans
set_option linter.unusedSimpArgs false
set_option linter.unusedVariables false
set_option maxRecDepth 100000


def FewPost (l : List Sp) (w : World) (e : Ending) (w' : World) : Prop := ∃ r : Bool, e = .returned (.bool r) ∧ (r = true → l.length ≤ 400) ∧ Fr [] w w'

theorem div10 {m : Int} (h0 : 0 ≤ m) (h1 : m ≤ 5000) : 0 ≤ m / 10 ∧ m / 10 ≤ 500 := by omega



/-- What small lets by. -/
def Few (h : Hs) : Prop := h.P.length ≤ 400 ∧ h.N.length ≤ 400 ∧ h.pd.length ≤ 300 ∧ h.nd.length ≤ 300

/-- A block of the document's histogram. -/
def NineR (w : World) (b : Nat) (cs : Array Value) : Prop := w.heap[b]? = some (.cells cs 74 (0, 0))
theorem NineR.kept {w w' : World} {b : Nat} {cs : Array Value} {S : List Nat} (h : NineR w b cs) (f : Fr S w w') (hb : b ∉ S) : NineR w' b cs := f.heap h hb
theorem NineR.cell {w : World} {b : Nat} {cs : Array Value} (h : NineR w b cs) (i : Nat) {v : Value} (hv : cs[i]? = some v) : w.cell? ⟨b, i, none⟩ = some v := by rw [cell_at h]; exact hv
theorem NineR.frozen {w : World} {b : Nat} {cs : Array Value} (h : NineR w b cs) (i : Nat) : w.frozen? ⟨b, i, none⟩ = false := frozen_at h i
theorem NineR.new (w : World) (cs : Array Value) : NineR (w.alloc (.cells cs 74)) w.heap.size cs := heap_alloc_new _ _
theorem nineR_top (w : World) (o : Obj) (cs : Array Value) : NineR ((w.alloc o).alloc (.cells cs 74)) (w.heap.size + 1) cs := by
  have := NineR.new (w.alloc o) cs
  rwa [World.size_alloc] at this
theorem set9_nineR {w : World} {g : Nat} {a0 a1 a2 a3 a4 a5 a6 a7 a8 : Value} (h : NineR w g #[a0, a1, a2, a3, a4, a5, a6, a7, a8]) (u0 u1 u2 u3 u4 u5 u6 u7 u8 : Value) : NineR (set9 w g u0 u1 u2 u3 u4 u5 u6 u7 u8) g #[u0, u1, u2, u3, u4, u5, u6, u7, u8] := by
  unfold NineR at h ⊢
  simp [set9, World.setCell, Array.getElem?_modify, h]
theorem Try.sizeOf74 : (Try.prog.info? 74).map (·.size) = some 9 := by kernel_rfl
theorem histR_res {fn : Func} {p : Tmp} (h : fn.results = #[.cell p 74]) (tmps : Array Value) (w : World) (g : Nat) (a0 a1 a2 a3 a4 a5 a6 a7 a8 : Value)
    (hp : tmps.getD p undef = .pointer (some ⟨g, 0, none⟩)) (hg : NineR w g #[a0, a1, a2, a3, a4, a5, a6, a7, a8]) : (results fn tmps).run Try.prog w = .ok (.agg #[a0, a1, a2, a3, a4, a5, a6, a7, a8]) w :=
  results_cell_row h tmps w g 74 #[a0, a1, a2, a3, a4, a5, a6, a7, a8] (0, 0) _ hp hg Try.underlying74 rfl Try.sizeOf74

end Go.Proofs.Ytoaibabkkphlaaa

/-
  What the statements of layer 10 share: spans, few, small, ref.
-/
namespace Go.Proofs.Ytoaibabkkphlaaa
open Go.RowKit Mem Spans
set_option linter.unusedSimpArgs false
set_option linter.unusedVariables false
set_option maxRecDepth 100000

set_option maxHeartbeats 2000000 in
theorem spans10_any (v : Value) (l : List Sp) (w : World) (h : SSrc w v l) (hl : l.length ≤ 1024) :
    Calls Try.prog 34 #[v] w fun e w' => ∃ u, e = .returned u ∧ SOwn 104 w.heap.size w' u l ∧ Fr [] w w' := by
  obtain ⟨ao, cap, rfl, hcap, hmax, h64, b, off, ha, hc⟩ := h
  have HC : Hid (∀ j s, l[j]? = some s → w.cell? ⟨b, off + j * 2, none⟩ = some (.int .i64 s.1) ∧ w.cell? ⟨b, off + j * 2 + 1, none⟩ = some (.int .i64 s.2)) := hc
  have HA : Hid (0 < l.length → ao = some ⟨b, off, none⟩) := ha
  obtain ⟨i0, hi, hz0, hz1, hz2⟩ := info_refspan
  have HI : Hid (Try.prog.info? 104 = some i0 ∧ i0.zero = some (.agg #[.int .i64 0, .int .i64 0]) ∧ i0.size = 2 ∧ i0.bytes = 16) := ⟨hi, hz0, hz1, hz2⟩
  clear hc ha h64 hi hz0 hz1 hz2
  go_enter Try.func34, Try.ntmps34
  go_wp2
  go_loopw [3, 8] (fun u i wr => ∃ (k : Nat), k ≤ l.length ∧ i = .int .i64 (k : Int) ∧ SOwn 104 w.heap.size wr u (l.take k) ∧ Fr [] w wr) (fun _ i _ => l.length - (intOf i).toNat)
  case atStart => exact ⟨0, by omega, rfl, .inl ⟨by simp, rfl⟩, Fr.refl _ _⟩
  case round =>
    obtain ⟨k, hk, rfl, hso, hf⟩ := hrel
    have HF : Hid (Fr [] w wr) := hf
    have HS : Hid (SOwn 104 w.heap.size wr u3 (l.take k)) := hso
    clear hf hso
    by_cases hlt : k < l.length
    · obtain rfl := HA.out (by omega)
      obtain ⟨s, hs⟩ := at_lt hlt
      have c0 : wr.cell? ⟨b, off + k * 2, none⟩ = some (.int .i64 s.1) := HF.out.cell_some (HC.out k s hs).1 (by simp)
      have c1 : wr.cell? ⟨b, off + k * 2 + 1, none⟩ = some (.int .i64 s.2) := HF.out.cell_some (HC.out k s hs).2 (by simp)
      have HT : Hid (l.take (k + 1) = l.take k ++ [s]) := take_at hs
      have HL : Hid ((l.take k).length ≤ 1000000) := by rw [Hid, List.length_take]; omega
      clear hs
      obtain ⟨o, n⟩ := s
      simp only at c0 c1
      have HSZ : Hid (w.heap.size ≤ wr.heap.size) := HF.out.size
      go_wp2_with (at_builtin; refine wpList_append_sp _ rfl _ _ 32 rfl Try.underlying32 HI.out.1 HI.out.2.1 HI.out.2.2.1 HI.out.2.2.2 (B := w.heap.size) (s := (o, n)) (by have := HSZ.out; simp; omega) rfl rfl (HS.out.kept (((Fr.refl [] _).alloc _).alloc _)) (lit_sp' 104 (wr.alloc _) [(o, n)] (World.size_alloc _ _) (by have := HSZ.out; omega) (by simp) (by unfold maxLen; simp)) HL.out ?_; intro v3 w3 ho3 hb3; have HO3 : Hid (SOwn 104 w.heap.size w3 v3 (l.take k ++ [(o, n)])) := ho3; have HB3 : Hid (Fr [] w w3) := Fr.ofBelow ((((HF.out.alloc _).alloc _).below (Nat.le_refl _) (by simp)).trans hb3); clear ho3 hb3)
      go_roundw
      case rel => exact ⟨k + 1, by omega, by go_num, by rw [HT.out]; exact HO3.out, HB3.out⟩
      case measure => simp [intOf]; omega
    · have HS2 : Hid (SOwn 104 w.heap.size wr u3 l) := by
        have := HS.out
        rw [List.take_of_length_le (by omega)] at this
        exact this
      clear HS
      go_wp2
      go_ret
      exact ⟨_, rfl, HS2.out, HF.out⟩

set_option maxHeartbeats 2000000 in
theorem few10_any (v : Value) (l : List Sp) (w : World) (h : SSrc w v l) :
    Calls Try.prog 31 #[v] w fun e w' => FewPost l w e w' := by
  obtain ⟨ao, cap, rfl, hcap, hmax, h64, b, off, ha, hc⟩ := h
  have HC : Hid (∀ j s, l[j]? = some s → w.cell? ⟨b, off + j * 2, none⟩ = some (.int .i64 s.1) ∧ w.cell? ⟨b, off + j * 2 + 1, none⟩ = some (.int .i64 s.2)) := hc
  have HA : Hid (0 < l.length → ao = some ⟨b, off, none⟩) := ha
  have H64 : Hid (∀ s ∈ l, in64 s.1 ∧ in64 s.2) := h64
  have hml : l.length ≤ 9223372036854775807 := by unfold maxLen at hmax; omega
  clear hc ha h64
  go_enter Try.func31, Try.ntmps31
  go_wp2
  go_loopw [3, 8] (fun c i wr => ∃ (k : Nat) (N : Int), k ≤ l.length ∧ i = .int .i64 (k : Int) ∧ c = .int .i64 N ∧ (k : Int) ≤ N ∧ N ≤ 400 ∧ Fr [] w wr) (fun _ i _ => l.length - (intOf i).toNat)
  case atStart => exact ⟨0, 0, by omega, rfl, rfl, by omega, by omega, Fr.refl _ _⟩
  case round =>
    obtain ⟨k, N, hk, rfl, rfl, hN1, hN2, hf⟩ := hrel
    have HF : Hid (Fr [] w wr) := hf
    clear hf
    by_cases hlt : k < l.length
    · obtain rfl := HA.out (by omega)
      obtain ⟨s, hs⟩ := at_lt hlt
      have HM := (H64.out s (List.mem_of_getElem? hs)).2
      have c0 : wr.cell? ⟨b, off + k * 2, none⟩ = some (.int .i64 s.1) := HF.out.cell_some (HC.out k s hs).1 (by simp)
      have c1 : wr.cell? ⟨b, off + k * 2 + 1, none⟩ = some (.int .i64 s.2) := HF.out.cell_some (HC.out k s hs).2 (by simp)
      clear hs
      obtain ⟨o, n⟩ := s
      obtain ⟨hn1, hn2⟩ := HM
      simp only at c0 c1 hn1 hn2
      have HF2 : Hid (Fr [] w (wr.alloc (.cells #[.int .i64 o, .int .i64 n] 95))) := HF.out.alloc _
      by_cases hp : 0 < n
      · by_cases h5 : 5000 < n
        · go_wp2
          go_ret
          exact ⟨false, rfl, by simp, HF2.out⟩
        · by_cases h6 : N + (1 + n / 10) + 1 ≤ 400
          · go_wp2
            go_roundw
            case rel => exact ⟨k + 1, _, by omega, by go_num, rfl, by omega, by omega, HF2.out⟩
            case measure => simp [intOf]; omega
          · go_wp2
            go_ret
            exact ⟨false, rfl, by simp, HF2.out⟩
      · by_cases h6 : N + 1 ≤ 400
        · go_wp2
          go_roundw
          case rel => exact ⟨k + 1, N + 1, by omega, by go_num, rfl, by omega, by omega, HF2.out⟩
          case measure => simp [intOf]; omega
        · go_wp2
          go_ret
          exact ⟨false, rfl, by simp, HF2.out⟩
    · go_wp2
      go_ret
      exact ⟨true, rfl, fun _ => by omega, HF.out⟩


/-- What small lets by. -/
def FewF (h : Fs) : Prop := h.P.length ≤ 400 ∧ h.N.length ≤ 400 ∧ h.pd.length ≤ 300 ∧ h.nd.length ≤ 300
set_option maxHeartbeats 2000000 in
theorem fsmall_any (v : Value) (h : Fs) (w : World) (hh : FSrc w v h) :
    Calls Try.prog 12 #[v] w fun e w' => ∃ r : Bool, e = .returned (.bool r) ∧ (r = true → FewF h) ∧ Fr [] w w' := by
  obtain ⟨po, pc, no, nc, qo, qc, ro, rc, rfl, hin, hsr, _⟩ := hh.opens
  have HSR : Hid (SSrc w (.slice po h.P.length pc) h.P ∧ SSrc w (.slice no h.N.length nc) h.N) := ⟨hsr.1, hsr.2.1⟩
  clear hh hin hsr
  obtain ⟨s, z, zc, c, sm, P, N, pd, nd⟩ := h
  simp only at HSR ⊢
  go_enter Try.func12, Try.ntmps12
  have HN0 : Hid (NineF (w.alloc (.cells #[.int .i64 s, .int .u64 z, .int .u64 zc, .int .u64 c, .int .u64 sm, .slice po P.length pc, .slice no N.length nc, .slice qo pd.length qc, .slice ro nd.length rc] 26)) w.heap.size #[.int .i64 s, .int .u64 z, .int .u64 zc, .int .u64 c, .int .u64 sm, .slice po P.length pc, .slice no N.length nc, .slice qo pd.length qc, .slice ro nd.length rc]) := NineF.new _ _
  have HF0 : Hid (Fr [] w (w.alloc (.cells #[.int .i64 s, .int .u64 z, .int .u64 zc, .int .u64 c, .int .u64 sm, .slice po P.length pc, .slice no N.length nc, .slice qo pd.length qc, .slice ro nd.length rc] 26))) := (Fr.refl [] w).alloc _
  go_wp2_with fail
  refine (few10_any _ P _ (HSR.out.1.kept HF0.out)).mono ?_
  rintro e w1 ⟨r1, rfl, hr1, hf1⟩
  have HF1 : Hid (Fr [] w w1) := HF0.out.trans hf1 (by simp)
  have HN1 : Hid (NineF w1 w.heap.size _) := HN0.out.kept hf1 (by simp)
  have HR1 : Hid (r1 = true → P.length ≤ 400) := hr1
  clear hf1 hr1 HN0 HF0
  cases r1 with
  | false =>
    go_wp2
    go_ret
    exact ⟨false, rfl, by simp, HF1.out⟩
  | true =>
    have c6 := HN1.out.cell 6 rfl
    go_wp2_with fail
    refine (few10_any _ N _ (HSR.out.2.kept HF1.out)).mono ?_
    rintro e w2 ⟨r2, rfl, hr2, hf2⟩
    have HF2 : Hid (Fr [] w w2) := HF1.out.trans hf2 (by simp)
    have HN2 : Hid (NineF w2 w.heap.size _) := HN1.out.kept hf2 (by simp)
    have HR2 : Hid (r2 = true → N.length ≤ 400) := hr2
    clear hf2 hr2 HN1 c6
    cases r2 with
    | false =>
      go_wp2
      go_ret
      exact ⟨false, rfl, by simp, HF2.out⟩
    | true =>
      have c7 := HN2.out.cell 7 rfl
      have c8 := HN2.out.cell 8 rfl
      by_cases h3 : pd.length ≤ 300
      · by_cases h4 : nd.length ≤ 300
        · have d3 : decide ((pd.length : Int) ≤ 300) = true := decide_eq_true (by omega)
          have d4 : decide ((nd.length : Int) ≤ 300) = true := decide_eq_true (by omega)
          go_wp2
          go_ret
          exact ⟨true, rfl, fun _ => ⟨HR1.out (by trivial), HR2.out (by trivial), h3, h4⟩, HF2.out⟩
        · have d3 : decide ((pd.length : Int) ≤ 300) = true := decide_eq_true (by omega)
          have d4 : decide ((nd.length : Int) ≤ 300) = false := decide_eq_false (by omega)
          go_wp2
          go_ret
          exact ⟨false, rfl, by simp, HF2.out⟩
      · have d3 : decide ((pd.length : Int) ≤ 300) = false := decide_eq_false (by omega)
        go_wp2
        go_ret
        exact ⟨false, rfl, by simp, HF2.out⟩

/-- A block of the document's histogram. -/
def NineG (w : World) (b : Nat) (cs : Array Value) : Prop := w.heap[b]? = some (.cells cs 34 (0, 0))
theorem NineG.kept {w w' : World} {b : Nat} {cs : Array Value} {S : List Nat} (h : NineG w b cs) (f : Fr S w w') (hb : b ∉ S) : NineG w' b cs := f.heap h hb
theorem NineG.cell {w : World} {b : Nat} {cs : Array Value} (h : NineG w b cs) (i : Nat) {v : Value} (hv : cs[i]? = some v) : w.cell? ⟨b, i, none⟩ = some v := by rw [cell_at h]; exact hv
theorem NineG.frozen {w : World} {b : Nat} {cs : Array Value} (h : NineG w b cs) (i : Nat) : w.frozen? ⟨b, i, none⟩ = false := frozen_at h i
theorem NineG.new (w : World) (cs : Array Value) : NineG (w.alloc (.cells cs 34)) w.heap.size cs := heap_alloc_new _ _
theorem nineG_top (w : World) (o : Obj) (cs : Array Value) : NineG ((w.alloc o).alloc (.cells cs 34)) (w.heap.size + 1) cs := by
  have := NineG.new (w.alloc o) cs
  rwa [World.size_alloc] at this
theorem set9_nineG {w : World} {g : Nat} {a0 a1 a2 a3 a4 a5 a6 a7 a8 : Value} (h : NineG w g #[a0, a1, a2, a3, a4, a5, a6, a7, a8]) (u0 u1 u2 u3 u4 u5 u6 u7 u8 : Value) : NineG (set9 w g u0 u1 u2 u3 u4 u5 u6 u7 u8) g #[u0, u1, u2, u3, u4, u5, u6, u7, u8] := by
  unfold NineG at h ⊢
  simp [set9, World.setCell, Array.getElem?_modify, h]
theorem Try.sizeOf34 : (Try.prog.info? 34).map (·.size) = some 9 := by kernel_rfl
theorem histG_res {fn : Func} {p : Tmp} (h : fn.results = #[.cell p 34]) (tmps : Array Value) (w : World) (g : Nat) (a0 a1 a2 a3 a4 a5 a6 a7 a8 : Value)
    (hp : tmps.getD p undef = .pointer (some ⟨g, 0, none⟩)) (hg : NineG w g #[a0, a1, a2, a3, a4, a5, a6, a7, a8]) : (results fn tmps).run Try.prog w = .ok (.agg #[a0, a1, a2, a3, a4, a5, a6, a7, a8]) w :=
  results_cell_row h tmps w g 34 #[a0, a1, a2, a3, a4, a5, a6, a7, a8] (0, 0) _ hp hg Try.underlying34 rfl Try.sizeOf34

set_option maxHeartbeats 4000000 in
theorem fref_any (v : Value) (h : Fs) (w : World) (hh : FSrc w v h) (hl : h.P.length ≤ 1024 ∧ h.N.length ≤ 1024) :
    Calls Try.prog 16 #[v] w fun e w' => ∃ u, e = .returned u ∧ FSrc w' u h ∧ Fr [] w w' := by
  obtain ⟨po, pc, no, nc, qo, qc, ro, rc, rfl, hin, hsr, _⟩ := hh.opens
  have HIN : Hid (in64 h.s ∧ inu h.z ∧ inu h.zc ∧ inu h.c ∧ inu h.sm) := hin
  have HSR : Hid (SSrc w (.slice po h.P.length pc) h.P ∧ SSrc w (.slice no h.N.length nc) h.N ∧ USrc w (.slice qo h.pd.length qc) h.pd ∧ USrc w (.slice ro h.nd.length rc) h.nd) := hsr
  have HL : Hid (h.P.length ≤ 1024 ∧ h.N.length ≤ 1024) := hl
  clear hh hin hsr hl
  go_enter Try.func16, Try.ntmps16
  obtain ⟨cs, hcs⟩ : ∃ cs : Array Value, cs = #[.int .i64 h.s, .int .u64 h.z, .int .u64 h.zc, .int .u64 h.c, .int .u64 h.sm, .slice po h.P.length pc, .slice no h.N.length nc, .slice qo h.pd.length qc, .slice ro h.nd.length rc] := ⟨_, rfl⟩
  have HA : Hid (∀ z, NineF ((w.alloc (.cells cs 26)).alloc (.cells z 34)) w.heap.size cs ∧ NineG ((w.alloc (.cells cs 26)).alloc (.cells z 34)) (w.heap.size + 1) z ∧ Fr [] w ((w.alloc (.cells cs 26)).alloc (.cells z 34))) := fun z => ⟨nineF_mid _ _ _, nineG_top _ _ _, ((Fr.refl [] w).alloc _).alloc _⟩
  subst hcs
  go_upto_region 1 with fail
  obtain ⟨hA3, hA6, hAF⟩ := HA.out #[.int .i64 0, .int .u64 0, .int .u64 0, .int .u64 0, .int .u64 0, .slice none 0 0, .slice none 0 0, .slice none 0 0, .slice none 0 0]
  clear HA
  generalize (w.alloc (.cells _ _)).alloc (.cells _ _) = wA at hA3 hA6 hAF ⊢
  have HSZ : Hid (w.heap.size + 1 < wA.heap.size) := lt_of_heap hA6
  have H6 : Hid (NineG wA (w.heap.size + 1) _) := hA6
  have HAF : Hid (Fr [] w wA) := hAF
  have c0 := hA3.cell 0 rfl
  have c1 := hA3.cell 1 rfl
  have c2 := hA3.cell 2 rfl
  have c3 := hA3.cell 3 rfl
  have c4 := hA3.cell 4 rfl
  have c5 := hA3.cell 5 rfl
  have c6 := hA3.cell 6 rfl
  have c7 := hA3.cell 7 rfl
  have c8 := hA3.cell 8 rfl
  clear hA3 hA6 hAF
  have HSP : Hid (∀ wx, Fr [] wA wx → Calls Try.prog 34 #[.slice po h.P.length pc] wx fun e w' => ∃ u, e = .returned u ∧ SOwn 104 wA.heap.size w' u h.P ∧ Fr [] wA w') := by
    intro wx hf
    refine (spans10_any _ h.P wx (HSR.out.1.kept (HAF.out.trans hf (by simp))) HL.out.1).mono ?_
    rintro e w' ⟨u, rfl, hu, hf'⟩
    exact ⟨u, rfl, hu.mono hf.size, hf.trans hf' (by simp)⟩
  have HSN : Hid (∀ wx, Fr [] wA wx → Calls Try.prog 34 #[.slice no h.N.length nc] wx fun e w' => ∃ u, e = .returned u ∧ SOwn 104 wA.heap.size w' u h.N ∧ Fr [] wA w' ∧ Fr [] wx w') := by
    intro wx hf
    refine (spans10_any _ h.N wx (HSR.out.2.1.kept (HAF.out.trans hf (by simp))) HL.out.2).mono ?_
    rintro e w' ⟨u, rfl, hu, hf'⟩
    exact ⟨u, rfl, hu.mono hf.size, hf.trans hf' (by simp), hf'⟩
  have F0 : Fr [] wA wA.drew := (Fr.refl _ _).drew
  go_region_held3 (fun w' => w'.cell? ⟨w.heap.size, 0, none⟩ = some (.int .i64 h.s) ∧ w'.cell? ⟨w.heap.size, 1, none⟩ = some (.int .u64 h.z) ∧ w'.cell? ⟨w.heap.size, 2, none⟩ = some (.int .u64 h.zc) ∧ w'.cell? ⟨w.heap.size, 3, none⟩ = some (.int .u64 h.c) ∧ w'.cell? ⟨w.heap.size, 4, none⟩ = some (.int .u64 h.sm) ∧ w'.cell? ⟨w.heap.size, 5, none⟩ = some (.slice po h.P.length pc) ∧ w'.cell? ⟨w.heap.size, 6, none⟩ = some (.slice no h.N.length nc) ∧ w'.cell? ⟨w.heap.size, 7, none⟩ = some (.slice qo h.pd.length qc) ∧ w'.cell? ⟨w.heap.size, 8, none⟩ = some (.slice ro h.nd.length rc)) (go_keep) (first
    | (go_at_call 34; with_reducible refine (HSP.out _ F0).mono ?_; rintro e wa ⟨ua, rfl, hua, hfa⟩; have ka0 := hfa.cell_some c0 (by simp); have ka1 := hfa.cell_some c1 (by simp); have ka2 := hfa.cell_some c2 (by simp); have ka3 := hfa.cell_some c3 (by simp); have ka4 := hfa.cell_some c4 (by simp); have ka5 := hfa.cell_some c5 (by simp); have ka6 := hfa.cell_some c6 (by simp); have ka7 := hfa.cell_some c7 (by simp); have ka8 := hfa.cell_some c8 (by simp))
    | (go_at_call 34; with_reducible refine (HSN.out _ hfa).mono ?_; rintro e wb ⟨ub, rfl, hub, hfb, hfab⟩; have kb0 := hfb.cell_some c0 (by simp); have kb1 := hfb.cell_some c1 (by simp); have kb2 := hfb.cell_some c2 (by simp); have kb3 := hfb.cell_some c3 (by simp); have kb4 := hfb.cell_some c4 (by simp); have kb5 := hfb.cell_some c5 (by simp); have kb6 := hfb.cell_some c6 (by simp); have kb7 := hfb.cell_some c7 (by simp); have kb8 := hfb.cell_some c8 (by simp); have h6 := H6.out.kept hfb (by simp); have d0 := h6.cell 0 rfl; have d1 := h6.cell 1 rfl; have d2 := h6.cell 2 rfl; have d3 := h6.cell 3 rfl; have d4 := h6.cell 4 rfl; have d5 := h6.cell 5 rfl; have d6 := h6.cell 6 rfl; have d7 := h6.cell 7 rfl; have d8 := h6.cell 8 rfl; have f0 := h6.frozen 0; have f1 := h6.frozen 1; have f2 := h6.frozen 2; have f3 := h6.frozen 3; have f4 := h6.frozen 4; have f5 := h6.frozen 5; have f6 := h6.frozen 6; have f7 := h6.frozen 7; have f8 := h6.frozen 8; obtain ⟨ua1, ua2, rfl⟩ := hua.val; obtain ⟨ub1, ub2, rfl⟩ := hub.val))
  have H6b : Hid (NineG wb (w.heap.size + 1) _) := h6
  have HUA : Hid (SOwn 104 wA.heap.size wb (.slice ua1 h.P.length ua2) h.P) := hua.kept hfab
  have HUB : Hid (SOwn 104 wA.heap.size wb (.slice ub1 h.N.length ub2) h.N) := hub
  have HFB : Hid (Fr [] w wb) := HAF.out.trans hfb (by simp)
  clear h6 hua hub hfb
  go_wp2
  refine bodyPost_ret (histG_res rfl _ _ (w.heap.size + 1) _ _ _ _ _ _ _ _ _ rfl (set9_nineG H6b.out _ _ _ _ _ _ _ _ _)) rfl ?_
  have hs9 := set9_fr (S := [w.heap.size + 1]) (g := w.heap.size + 1) (Fr.refl _ wb) (.inl (by simp)) (.int .i64 h.s) (.int .u64 h.z) (.int .u64 h.zc) (.int .u64 h.c) (.int .u64 h.sm) (.slice ua1 h.P.length ua2) (.slice ub1 h.N.length ub2) (.slice qo h.pd.length qc) (.slice ro h.nd.length rc)
  have hfw : Fr [] w (set9 wb (w.heap.size + 1) (.int .i64 h.s) (.int .u64 h.z) (.int .u64 h.zc) (.int .u64 h.c) (.int .u64 h.sm) (.slice ua1 h.P.length ua2) (.slice ub1 h.N.length ub2) (.slice qo h.pd.length qc) (.slice ro h.nd.length rc)) := set9_fr HFB.out (.inr (by simp)) _ _ _ _ _ _ _ _ _
  have hb : ∀ y ∈ [w.heap.size + 1], y < wA.heap.size := by have := HSZ.out; simp; omega
  have hp64 : ∀ s ∈ h.P, in64 s.1 ∧ in64 s.2 := by obtain ⟨_, _, _, _, _, h64, _⟩ := HSR.out.1; exact h64
  have hn64 : ∀ s ∈ h.N, in64 s.1 ∧ in64 s.2 := by obtain ⟨_, _, _, _, _, h64, _⟩ := HSR.out.2.1; exact h64
  exact ⟨_, rfl, ⟨_, _, _, _, rfl, HIN.out.1, HIN.out.2, (HUA.out.keptS hs9 hb).src hp64, (HUB.out.keptS hs9 hb).src hn64, HSR.out.2.2.1.kept hfw, HSR.out.2.2.2.kept hfw⟩, hfw⟩
end Go.Proofs.Ytoaibabkkphlaaa

/-
  The document's Right, Side, Check (layer 10).
-/
namespace Go.Proofs.Ytoaibabkkphlaaa
open Go.RowKit Mem Spans
set_option linter.unusedSimpArgs false
set_option linter.unusedVariables false
set_option maxRecDepth 100000

theorem lright10_any (v : Int) (w : World) :
    Calls Try.prog 18 #[.int .u64 v] w fun e w' => e = .returned (.bool (rgt v)) ∧ w = w' := by
  go_enter Try.func18, Try.ntmps18
  go_wp2
  go_ret
  exact ⟨rfl, rfl⟩

set_option maxHeartbeats 2000000 in
theorem lside10_any (v u : Value) (l : List Sp) (d : List Int) (w : World) (h : SSrc w v l) (h2 : USrc w u d) :
    Calls Try.prog 52 #[v, u] w fun e w' => e = .returned (.int .i64 (fsd l d)) ∧ Fr [] w w' := by
  have HSR : Hid (SSrc w v l) := h
  have HIR : Hid (USrc w u d) := h2
  obtain ⟨ao, cap, rfl, hcap, hmax, _⟩ := h
  obtain ⟨bo, bcap, rfl, hbcap, hbmax, _⟩ := h2
  have hml : d.length ≤ 9223372036854775807 := by unfold maxLen at hbmax; omega
  go_enter Try.func52, Try.ntmps52
  go_wp2_with fail
  refine (lcheck_any _ l _ HSR.out).mono ?_
  rintro e w1 ⟨rfl, hf1⟩
  have HF1 : Hid (Fr [] w w1) := hf1
  clear hf1
  by_cases hk : chk l = 0
  · have HK : Hid (chk l = 0) := hk
    rw [hk]
    clear hk
    go_wp2_with fail
    refine (lplaces_any _ l _ (HSR.out.kept HF1.out) HK.out).mono ?_
    rintro e w2 ⟨p, rfl, hp, hf2⟩
    have HF2 : Hid (Fr [] w w2) := HF1.out.trans hf2 (by simp)
    obtain ⟨pa, pcap, rfl⟩ := hp.val
    clear hf2 HF1 hp
    by_cases hd : d.length = (pls l).length
    · have HZ : Hid (fsd l d = if rgts d = true then 0 else 22) := by unfold Hid fsd; rw [if_pos HK.out, if_pos hd]
      have hdb : (((pls l).length : Int) != (d.length : Int)) = false := by simp; omega
      have HU : Hid (USrc w2 (.slice bo d.length bcap) d) := HIR.out.kept HF2.out
      obtain ⟨_, _, hv, _, _, _, b, off, ha, hc⟩ := HU.out
      simp only [Value.slice.injEq] at hv
      obtain ⟨rfl, _, rfl⟩ := hv
      have HC : Hid (∀ j s, d[j]? = some s → w2.cell? ⟨b, off + j, none⟩ = some (.int .u64 s)) := hc
      have HA : Hid (0 < d.length → bo = some ⟨b, off, none⟩) := ha
      clear hd ha hc HU
      go_wp2
      go_loopw [6] (fun i wr => ∃ (k : Nat), k ≤ d.length ∧ i = .int .i64 (k : Int) ∧ rgts (d.take k) = true ∧ wr = w2) (fun i _ => d.length - (intOf i).toNat)
      case atStart => exact ⟨0, by omega, rfl, by simp [rgts], rfl⟩
      case round =>
        obtain ⟨k, hk, rfl, hn, rfl⟩ := hrel
        have HN : Hid (rgts (d.take k) = true) := hn
        clear hn
        by_cases hlt : k < d.length
        · obtain rfl := HA.out (by omega)
          obtain ⟨s, hs⟩ := at_lt (l := d) (k := k) hlt
          have c0 := HC.out k s hs
          have HS : Hid (d[k]? = some s) := hs
          clear hs
          go_wp2_with fail
          refine (lright10_any s _).mono ?_
          rintro e w3 ⟨rfl, rfl⟩
          by_cases h0 : rgt s = true
          · have HN2 : Hid (rgts (d.take (k + 1)) = true) := by
              rw [Hid, take_at HS.out]
              have := HN.out
              simp only [rgts, List.all_append, List.all_cons, List.all_nil, Bool.and_eq_true, Bool.and_true] at this ⊢
              exact ⟨this, h0⟩
            rw [h0]
            go_wp2
            go_roundw
            case rel => exact ⟨k + 1, by omega, by go_num, HN2.out, trivial⟩
            case measure => simp [intOf]; omega
          · have h1 : rgt s = false := by simpa using h0
            have HE : Hid (fsd l d = 22) := by
              rw [Hid, HZ.out, if_neg]
              intro h
              exact h0 (List.all_eq_true.1 h s (List.mem_of_getElem? HS.out))
            rw [h1]
            go_wp2
            go_ret
            exact ⟨by rw [HE.out]; rfl, HF2.out⟩
        · have HE : Hid (fsd l d = 0) := by
            have := HN.out
            rw [List.take_of_length_le (by omega)] at this
            rw [Hid, HZ.out, if_pos this]
          go_wp2
          go_ret
          exact ⟨by rw [HE.out]; rfl, HF2.out⟩
    · have HE : Hid (fsd l d = 23) := by unfold Hid fsd; rw [if_pos HK.out, if_neg hd]
      have hdb : (((pls l).length : Int) != (d.length : Int)) = true := by simp; omega
      clear hd
      go_wp2
      go_ret
      exact ⟨by rw [HE.out]; rfl, HF2.out⟩
  · have HE : Hid (fsd l d = chk l) := by unfold Hid fsd; rw [if_neg hk]
    go_wp2
    go_ret
    exact ⟨by rw [HE.out]; rfl, HF1.out⟩

set_option maxHeartbeats 4000000 in
theorem lcheck10_any (v : Value) (h : Fs) (w : World) (hh : FSrc w v h) :
    Calls Try.prog 15 #[v] w fun e w' => e = .returned (.int .i64 (fce h)) ∧ Fr [] w w' := by
  obtain ⟨po, pc, no, nc, qo, qc, ro, rc, rfl, hin, hsr, _⟩ := hh.opens
  have HSR : Hid (SSrc w (.slice po h.P.length pc) h.P ∧ SSrc w (.slice no h.N.length nc) h.N ∧ USrc w (.slice qo h.pd.length qc) h.pd ∧ USrc w (.slice ro h.nd.length rc) h.nd) := hsr
  clear hh hin hsr
  obtain ⟨s, z, zc, c, sm, P, N, pd, nd⟩ := h
  simp only at HSR ⊢
  go_enter Try.func15, Try.ntmps15
  have HN0 : Hid (NineG (w.alloc (.cells #[.int .i64 s, .int .u64 z, .int .u64 zc, .int .u64 c, .int .u64 sm, .slice po P.length pc, .slice no N.length nc, .slice qo pd.length qc, .slice ro nd.length rc] 34)) w.heap.size #[.int .i64 s, .int .u64 z, .int .u64 zc, .int .u64 c, .int .u64 sm, .slice po P.length pc, .slice no N.length nc, .slice qo pd.length qc, .slice ro nd.length rc]) := NineG.new _ _
  have HF0 : Hid (Fr [] w (w.alloc (.cells #[.int .i64 s, .int .u64 z, .int .u64 zc, .int .u64 c, .int .u64 sm, .slice po P.length pc, .slice no N.length nc, .slice qo pd.length qc, .slice ro nd.length rc] 34))) := (Fr.refl [] w).alloc _
  by_cases h1 : s < -4
  · have HE : Hid (fde s z zc c = 21) := fde_bad (by unfold hde; rw [if_pos (.inl h1)]) (by decide)
    have HC : Hid (fce ⟨s, z, zc, c, sm, P, N, pd, nd⟩ = 21) := by rw [Hid, fce_head (by simp only [HE.out]; decide)]; exact HE.out
    go_wp2
    go_ret
    exact ⟨by rw [HC.out]; rfl, HF0.out⟩
  by_cases h2 : 8 < s
  · have HE : Hid (fde s z zc c = 21) := fde_bad (by unfold hde; rw [if_pos (.inr h2)]) (by decide)
    have HC : Hid (fce ⟨s, z, zc, c, sm, P, N, pd, nd⟩ = 21) := by rw [Hid, fce_head (by simp only [HE.out]; decide)]; exact HE.out
    go_wp2
    go_ret
    exact ⟨by rw [HC.out]; rfl, HF0.out⟩
  by_cases hz : z < 9218868437227405312
  case neg =>
    have HE : Hid (fde s z zc c = 11) := fde_bad (by unfold hde; rw [if_neg (by omega), if_neg hz]) (by decide)
    have HC : Hid (fce ⟨s, z, zc, c, sm, P, N, pd, nd⟩ = 11) := by rw [Hid, fce_head (by simp only [HE.out]; decide)]; exact HE.out
    have hz2 : 9218868437227405312 ≤ z := by omega
    go_wp2
    go_ret
    exact ⟨by rw [HC.out]; rfl, HF0.out⟩
  have HD : Hid (hde s z = 0) := by unfold Hid hde; rw [if_neg (by omega), if_pos hz]
  have hz2 : ¬ 9218868437227405312 ≤ z := by omega
  have c2 := HN0.out.cell 2 rfl
  have c3 := HN0.out.cell 3 rfl
  clear hz
  go_wp2_with fail
  refine (lright10_any zc _).mono ?_
  rintro e w1 ⟨rfl, rfl⟩
  by_cases hr1 : rgt zc = true
  case neg =>
    have hr : rgt zc = false := by simpa using hr1
    have HE : Hid (fde s z zc c = 22) := by unfold Hid fde; rw [if_pos HD.out, if_neg (by simp [rgts, hr])]
    have HC : Hid (fce ⟨s, z, zc, c, sm, P, N, pd, nd⟩ = 22) := by rw [Hid, fce_head (by simp only [HE.out]; decide)]; exact HE.out
    rw [hr]
    go_wp2
    go_ret
    exact ⟨by rw [HC.out]; rfl, HF0.out⟩
  have HR1 : Hid (rgt zc = true) := hr1
  rw [hr1]
  clear hr1
  go_wp2_with fail
  refine (lright10_any c _).mono ?_
  rintro e w1 ⟨rfl, rfl⟩
  by_cases hr2 : rgt c = true
  case neg =>
    have hr : rgt c = false := by simpa using hr2
    have HE : Hid (fde s z zc c = 22) := by unfold Hid fde; rw [if_pos HD.out, if_neg (by simp [rgts, hr])]
    have HC : Hid (fce ⟨s, z, zc, c, sm, P, N, pd, nd⟩ = 22) := by rw [Hid, fce_head (by simp only [HE.out]; decide)]; exact HE.out
    rw [hr]
    go_wp2
    go_ret
    exact ⟨by rw [HC.out]; rfl, HF0.out⟩
  have HE : Hid (fde s z zc c = 0) := by unfold Hid fde; rw [if_pos HD.out, if_pos (by simp [rgts, HR1.out, hr2])]
  rw [hr2]
  clear hr2 h1 h2 hz2
  have c5 := HN0.out.cell 5 rfl
  have c7 := HN0.out.cell 7 rfl
  go_wp2_with fail
  refine (lside10_any _ _ P pd _ (HSR.out.1.kept HF0.out) (HSR.out.2.2.1.kept HF0.out)).mono ?_
  rintro e w1 ⟨rfl, hf1⟩
  have HF1 : Hid (Fr [] w w1) := HF0.out.trans hf1 (by simp)
  have HN1 := HN0.out.kept hf1 (by simp)
  clear hf1 c2 c3 c5 c7
  have c6 := HN1.cell 6 rfl
  have c8 := HN1.cell 8 rfl
  clear HN1 HN0 HF0
  by_cases hp : fsd P pd = 0
  case neg =>
    have HC : Hid (fce ⟨s, z, zc, c, sm, P, N, pd, nd⟩ = fsd P pd) := fce_pos HE.out hp
    go_wp2
    go_ret
    exact ⟨by rw [HC.out]; rfl, HF1.out⟩
  have HC : Hid (fce ⟨s, z, zc, c, sm, P, N, pd, nd⟩ = fsd N nd) := fce_neg HE.out hp
  rw [hp]
  clear hp
  go_wp2_with fail
  refine (lside10_any _ _ N nd _ (HSR.out.2.1.kept HF1.out) (HSR.out.2.2.2.kept HF1.out)).mono ?_
  rintro e w2 ⟨rfl, hf2⟩
  have HF2 : Hid (Fr [] w w2) := HF1.out.trans hf2 (by simp)
  clear hf2 c6 c8
  go_wp2
  go_ret
  exact ⟨by rw [HC.out]; rfl, HF2.out⟩
end Go.Proofs.Ytoaibabkkphlaaa

/-
  Histograms that came in.
-/
namespace Go.Proofs.Ytoaibabkkphlaaa
open Go.RowKit Mem Spans
open Go.ChangeShapes Go.WideShapes Go.ChangeAt
set_option linter.unusedSimpArgs false
set_option linter.unusedVariables false
set_option maxRecDepth 100000

theorem Try.cells23 : Try.prog.cellsOf 23 = 1 := by kernel_rfl
theorem Try.cells68 : Try.prog.cellsOf 68 = 1 := by kernel_rfl

/-- A cell that is a slice of spans. -/
theorem spans_cell {H : Type} {enc : TypeId × Value → H} {W : World} {base n : Nat} {c : Value} {y : DataW H × List MemPlace}
    (h : DataW.trod enc Try.prog W base (fun _ => true) true n 23 [c] = some y) : ∃ l, SSrc W c l := by
  rcases Go.Deep.open_slice Try.underlying23 h with ⟨hcs, _⟩ | ⟨x, l, cp, m, n2, D, Pl, hcs, _⟩
  · simp at hcs
    subst hcs
    exact ⟨[], SSrc.nil W⟩
  · simp at hcs
    subst hcs
    obtain ⟨z, hz⟩ := spans_of (a := some x) (len := l) (cap := cp) (d := y.1) (p := y.2) ⟨n, h⟩
    exact ⟨z, hz.2⟩
/-- A cell that is a slice of numbers. -/
theorem ints_cell {H : Type} {enc : TypeId × Value → H} {W : World} {base n : Nat} {c : Value} {y : DataW H × List MemPlace}
    (h : DataW.trod enc Try.prog W base (fun _ => true) true n 68 [c] = some y) : ∃ l, ISrc W c l := by
  rcases open_ints Try.underlying68 Try.underlying2 (by kernel_rfl) h with ⟨hcs, _⟩ | ⟨x, l, cp, zs, hcs, _, hl, hm, hz, _, hcell, hwz⟩
  · simp at hcs
    subst hcs
    exact ⟨[], ISrc.nil W⟩
  · simp at hcs
    subst hcs
    obtain ⟨z, _, hz2⟩ := IsRow.isrc (.inr ⟨_, rfl, hl, hm, by simpa using hz, hcell, hwz⟩)
    exact ⟨z, hz2⟩
theorem hist_of {H : Type} {enc : TypeId × Value → H} {W : World} {base0 base : Nat} {v : Value} {d : DataW H} {p : List MemPlace}
    (hok : Value.okWide Try.prog W .any base0 70 v) (h : DataW.Trod enc Try.prog W base (fun _ => true) true 70 v d p) : ∃ z : Hs, HSrc W v z := by
  obtain ⟨cs, rfl, hsz⟩ := okWide_struct Try.underlying70 hok
  obtain ⟨fuel, hf⟩ := h
  obtain ⟨xs, n, _, hx, hl, hlen, hf⟩ := DataW.trod_struct Try.underlying70 hf
  have hs9 : cs.size = 9 := by rw [hsz]; kernel_rfl
  obtain ⟨l⟩ := cs
  have hx9 : xs.length = 9 := by rw [hlen]; rfl
  clear hsz hok hl hlen hx
  match l, hs9, xs, hx9 with
  | [c0, c1, c2, c3, c4, c5, c6, c7, c8], _, [y0, y1, y2, y3, y4, y5, y6, y7, y8], _ =>
    have t0 : DataW.trod enc Try.prog W base (fun _ => true) true n 3 [c0] = some y0 := by
      have := hf 0 _ rfl
      simpa [Value.cells, Try.cells3, Try.cells22, Try.cells23, Try.cells68] using this
    have t1 : DataW.trod enc Try.prog W base (fun _ => true) true n 22 [c1] = some y1 := by
      have := hf 1 _ rfl
      simpa [Value.cells, Try.cells3, Try.cells22, Try.cells23, Try.cells68] using this
    have t2 : DataW.trod enc Try.prog W base (fun _ => true) true n 22 [c2] = some y2 := by
      have := hf 2 _ rfl
      simpa [Value.cells, Try.cells3, Try.cells22, Try.cells23, Try.cells68] using this
    have t3 : DataW.trod enc Try.prog W base (fun _ => true) true n 22 [c3] = some y3 := by
      have := hf 3 _ rfl
      simpa [Value.cells, Try.cells3, Try.cells22, Try.cells23, Try.cells68] using this
    have t4 : DataW.trod enc Try.prog W base (fun _ => true) true n 22 [c4] = some y4 := by
      have := hf 4 _ rfl
      simpa [Value.cells, Try.cells3, Try.cells22, Try.cells23, Try.cells68] using this
    have t5 : DataW.trod enc Try.prog W base (fun _ => true) true n 23 [c5] = some y5 := by
      have := hf 5 _ rfl
      simpa [Value.cells, Try.cells3, Try.cells22, Try.cells23, Try.cells68] using this
    have t6 : DataW.trod enc Try.prog W base (fun _ => true) true n 23 [c6] = some y6 := by
      have := hf 6 _ rfl
      simpa [Value.cells, Try.cells3, Try.cells22, Try.cells23, Try.cells68] using this
    have t7 : DataW.trod enc Try.prog W base (fun _ => true) true n 68 [c7] = some y7 := by
      have := hf 7 _ rfl
      simpa [Value.cells, Try.cells3, Try.cells22, Try.cells23, Try.cells68] using this
    have t8 : DataW.trod enc Try.prog W base (fun _ => true) true n 68 [c8] = some y8 := by
      have := hf 8 _ rfl
      simpa [Value.cells, Try.cells3, Try.cells22, Try.cells23, Try.cells68] using this
    clear hf
    obtain ⟨n0, e0, _, w0⟩ := DataW.trod_int Try.underlying3 t0
    obtain ⟨n1, e1, _, w1⟩ := DataW.trod_int Try.underlying22 t1
    obtain ⟨n2, e2, _, w2⟩ := DataW.trod_int Try.underlying22 t2
    obtain ⟨n3, e3, _, w3⟩ := DataW.trod_int Try.underlying22 t3
    obtain ⟨n4, e4, _, w4⟩ := DataW.trod_int Try.underlying22 t4
    obtain ⟨l5, s5⟩ := spans_cell t5
    obtain ⟨l6, s6⟩ := spans_cell t6
    obtain ⟨l7, s7⟩ := ints_cell t7
    obtain ⟨l8, s8⟩ := ints_cell t8
    simp at e0 e1 e2 e3 e4
    subst e0 e1 e2 e3 e4
    simp [Lit.wf, IntKind.min, IntKind.max, IntKind.bits, IntKind.signed] at w0 w1 w2 w3 w4
    refine ⟨⟨n0, n1, n2, n3, n4, l5, l6, l7, l8⟩, c5, c6, c7, c8, rfl, ?_, ?_, s5, s6, s7, s8⟩
    · unfold in64; simp only; omega
    · unfold inu; simp only; omega
theorem Try.cells24 : Try.prog.cellsOf 24 = 1 := by kernel_rfl
/-- A cell that is a slice of numbers. -/
theorem uints_cell {H : Type} {enc : TypeId × Value → H} {W : World} {base n : Nat} {c : Value} {y : DataW H × List MemPlace}
    (h : DataW.trod enc Try.prog W base (fun _ => true) true n 24 [c] = some y) : ∃ l, USrc W c l := by
  rcases open_ints Try.underlying24 Try.underlying22 (by kernel_rfl) h with ⟨hcs, _⟩ | ⟨x, l, cp, zs, hcs, _, hl, hm, hz, _, hcell, hwz⟩
  · simp at hcs
    subst hcs
    exact ⟨[], USrc.nil W⟩
  · simp at hcs
    subst hcs
    obtain ⟨z, _, hz2⟩ := IsRow.usrc (.inr ⟨_, rfl, hl, hm, by simpa using hz, hcell, hwz⟩)
    exact ⟨z, hz2⟩
theorem fhist_of {H : Type} {enc : TypeId × Value → H} {W : World} {base0 base : Nat} {v : Value} {d : DataW H} {p : List MemPlace}
    (hok : Value.okWide Try.prog W .any base0 26 v) (h : DataW.Trod enc Try.prog W base (fun _ => true) true 26 v d p) : ∃ z : Fs, FSrc W v z := by
  obtain ⟨cs, rfl, hsz⟩ := okWide_struct Try.underlying26 hok
  obtain ⟨fuel, hf⟩ := h
  obtain ⟨xs, n, _, hx, hl, hlen, hf⟩ := DataW.trod_struct Try.underlying26 hf
  have hs9 : cs.size = 9 := by rw [hsz]; kernel_rfl
  obtain ⟨l⟩ := cs
  have hx9 : xs.length = 9 := by rw [hlen]; rfl
  clear hsz hok hl hlen hx
  match l, hs9, xs, hx9 with
  | [c0, c1, c2, c3, c4, c5, c6, c7, c8], _, [y0, y1, y2, y3, y4, y5, y6, y7, y8], _ =>
    have t0 : DataW.trod enc Try.prog W base (fun _ => true) true n 3 [c0] = some y0 := by
      have := hf 0 _ rfl
      simpa [Value.cells, Try.cells3, Try.cells22, Try.cells23, Try.cells24] using this
    have t1 : DataW.trod enc Try.prog W base (fun _ => true) true n 22 [c1] = some y1 := by
      have := hf 1 _ rfl
      simpa [Value.cells, Try.cells3, Try.cells22, Try.cells23, Try.cells24] using this
    have t2 : DataW.trod enc Try.prog W base (fun _ => true) true n 22 [c2] = some y2 := by
      have := hf 2 _ rfl
      simpa [Value.cells, Try.cells3, Try.cells22, Try.cells23, Try.cells24] using this
    have t3 : DataW.trod enc Try.prog W base (fun _ => true) true n 22 [c3] = some y3 := by
      have := hf 3 _ rfl
      simpa [Value.cells, Try.cells3, Try.cells22, Try.cells23, Try.cells24] using this
    have t4 : DataW.trod enc Try.prog W base (fun _ => true) true n 22 [c4] = some y4 := by
      have := hf 4 _ rfl
      simpa [Value.cells, Try.cells3, Try.cells22, Try.cells23, Try.cells24] using this
    have t5 : DataW.trod enc Try.prog W base (fun _ => true) true n 23 [c5] = some y5 := by
      have := hf 5 _ rfl
      simpa [Value.cells, Try.cells3, Try.cells22, Try.cells23, Try.cells24] using this
    have t6 : DataW.trod enc Try.prog W base (fun _ => true) true n 23 [c6] = some y6 := by
      have := hf 6 _ rfl
      simpa [Value.cells, Try.cells3, Try.cells22, Try.cells23, Try.cells24] using this
    have t7 : DataW.trod enc Try.prog W base (fun _ => true) true n 24 [c7] = some y7 := by
      have := hf 7 _ rfl
      simpa [Value.cells, Try.cells3, Try.cells22, Try.cells23, Try.cells24] using this
    have t8 : DataW.trod enc Try.prog W base (fun _ => true) true n 24 [c8] = some y8 := by
      have := hf 8 _ rfl
      simpa [Value.cells, Try.cells3, Try.cells22, Try.cells23, Try.cells24] using this
    clear hf
    obtain ⟨n0, e0, _, w0⟩ := DataW.trod_int Try.underlying3 t0
    obtain ⟨n1, e1, _, w1⟩ := DataW.trod_int Try.underlying22 t1
    obtain ⟨n2, e2, _, w2⟩ := DataW.trod_int Try.underlying22 t2
    obtain ⟨n3, e3, _, w3⟩ := DataW.trod_int Try.underlying22 t3
    obtain ⟨n4, e4, _, w4⟩ := DataW.trod_int Try.underlying22 t4
    obtain ⟨l5, s5⟩ := spans_cell t5
    obtain ⟨l6, s6⟩ := spans_cell t6
    obtain ⟨l7, s7⟩ := uints_cell t7
    obtain ⟨l8, s8⟩ := uints_cell t8
    simp at e0 e1 e2 e3 e4
    subst e0 e1 e2 e3 e4
    simp [Lit.wf, IntKind.min, IntKind.max, IntKind.bits, IntKind.signed] at w0 w1 w2 w3 w4
    refine ⟨⟨n0, n1, n2, n3, n4, l5, l6, l7, l8⟩, c5, c6, c7, c8, rfl, ?_, ?_, s5, s6, s7, s8⟩
    · unfold in64; simp only; omega
    · unfold inu; simp only; omega
theorem of_wf {v : Int} (h : (Lit.int .u64 v).wf = true) : inu v := by
  simp [Lit.wf, IntKind.min, IntKind.max, IntKind.bits, IntKind.signed] at h
  unfold inu; omega
end Go.Proofs.Ytoaibabkkphlaaa
