/-
  Package fhist: Back.
-/
import Derived.Test.YtoaibabkkphlaaaFParts
import Derived.Test.YtoaibabkkphlaaaFSides
import Derived.Test.YtoaibabkkphlaaaHOver
import Derived.Deep.DeepCutAuto
namespace Go.Proofs.Ytoaibabkkphlaaa
open Go.RowKit Mem Spans Floats
set_option linter.unusedSimpArgs false
set_option linter.unusedVariables false
set_option maxRecDepth 100000

/-- Back's histogram; its error; what it tells. -/
def bks (h : Fs) : Hs := ⟨h.s, h.z, wvI h.zc, wvI h.c, h.sm, h.P, h.N, dfl (wal h.pd), dfl (wal h.nd)⟩
def bkb (h : Fs) : Bool := wab [h.zc, h.c] && wab h.pd && wab h.nd
def bke (h : Fs) : Int :=
  if fce h = 0 then (if bkb h = true then (if dfe (wal h.pd) = 0 then (if dfe (wal h.nd) = 0 then che (bks h) else dfe (wal h.nd)) else dfe (wal h.pd)) else 10) else fce h
def bkh (h : Fs) : Hs := if bke h = 0 then bks h else hzero
theorem bke_form {h : Fs} (k : fce h = 0) (k2 : bkb h = false) : bke h = 10 ∧ bkh h = hzero := by
  have e : bke h = 10 := by unfold bke; rw [if_pos k, if_neg (by rw [k2]; decide)]
  unfold bkh; rw [if_neg (by rw [e]; decide)]; exact ⟨e, rfl⟩
theorem ownsRow_other {w w' : World} {B n size : Nat} {e t : TypeId} {v : Value} {xs : List Value} {G : Nat} {cs : Array Value} (h : w.ownsRow B e size v n xs) (f : Fr [G] w w') (hg : w.heap[G]? = some (.cells cs t (0, 0))) (hne : t ≠ e) : w'.ownsRow B e size v n xs := by
  refine ⟨h.1, ?_⟩
  rcases h.2 with h | ⟨g, cap, cur, h1, h2, h3, h4⟩
  · exact .inl h
  · refine .inr ⟨g, cap, cur, h1, h2, f.heap h3 (fun hm => ?_), h4⟩
    have : g = G := by simpa using hm
    subst this
    rw [hg] at h3
    have := Option.some.inj h3
    simp only [Obj.cells.injEq] at this
    exact hne this.2.1
theorem wal_le (l : List Int) : (wal l).length ≤ l.length := by unfold wal; split <;> simp
theorem Nine.set7 {w : World} {g : Nat} {a0 a1 a2 a3 a4 a5 a6 a7 a8 : Value} (h : Nine w g #[a0, a1, a2, a3, a4, a5, a6, a7, a8]) (x : Value) : Nine (w.setCell ⟨g, 7, none⟩ x) g #[a0, a1, a2, a3, a4, a5, a6, x, a8] := by
  unfold Nine at h ⊢
  simp [World.setCell, Array.getElem?_modify, h]
theorem Nine.set8 {w : World} {g : Nat} {a0 a1 a2 a3 a4 a5 a6 a7 a8 : Value} (h : Nine w g #[a0, a1, a2, a3, a4, a5, a6, a7, a8]) (x : Value) : Nine (w.setCell ⟨g, 8, none⟩ x) g #[a0, a1, a2, a3, a4, a5, a6, a7, x] := by
  unfold Nine at h ⊢
  simp [World.setCell, Array.getElem?_modify, h]

set_option maxHeartbeats 8000000 in
theorem back_any (v : Value) (h : Fs) (w : World) (hh : FSrc w v h) :
    Calls Try.prog 46 #[v] w fun e w' => ∃ u, e = .returned (.tuple #[u, .int .i64 (bke h)]) ∧ HKeep w.heap.size w' u (bkh h) ∧ Fr [] w w' := by
  have HH : Hid (∀ wx, Fr [] w wx → FSrc wx v h) := fun wx hx => hh.kept hx
  have HFI : Hid (fin9 h) := hh.fin
  obtain ⟨po, pc, no, nc, qo, qc, ro, rc, rfl, hin, hsr, _⟩ := hh.opens
  have HIN : Hid (in64 h.s ∧ inu h.z ∧ inu h.zc ∧ inu h.c ∧ inu h.sm) := hin
  have HSR : Hid (SSrc w (.slice po h.P.length pc) h.P ∧ SSrc w (.slice no h.N.length nc) h.N ∧ USrc w (.slice qo h.pd.length qc) h.pd ∧ USrc w (.slice ro h.nd.length rc) h.nd) := hsr
  clear hh hin hsr
  obtain ⟨s, z, zc, c, sm, P, N, pd, nd⟩ := h
  simp only at HIN HSR ⊢
  go_enter Try.func46, Try.ntmps46
  obtain ⟨cs, hcs⟩ : ∃ cs : Array Value, cs = #[.int .i64 s, .int .u64 z, .int .u64 zc, .int .u64 c, .int .u64 sm, .slice po P.length pc, .slice no N.length nc, .slice qo pd.length qc, .slice ro nd.length rc] := ⟨_, rfl⟩
  have HA : Hid (∀ z, NineF ((w.alloc (.cells cs 26)).alloc (.cells z 70)) w.heap.size cs ∧ Nine ((w.alloc (.cells cs 26)).alloc (.cells z 70)) (w.heap.size + 1) z ∧ Fr [] w ((w.alloc (.cells cs 26)).alloc (.cells z 70))) := fun z => ⟨nineF_mid _ _ _, nine_top _ _ _, ((Fr.refl [] w).alloc _).alloc _⟩
  subst hcs
  go_wp2_with fail
  obtain ⟨hA3, hA6, hAF⟩ := HA.out #[.int .i64 0, .int .u64 0, .int .u64 0, .int .u64 0, .int .u64 0, .slice none 0 0, .slice none 0 0, .slice none 0 0, .slice none 0 0]
  clear HA
  generalize (w.alloc (.cells _ _)).alloc (.cells _ _) = wA at hA3 hA6 hAF ⊢
  have HSZ : Hid (w.heap.size + 1 < wA.heap.size) := hA6.lt
  refine (fcheck_any _ ⟨s, z, zc, c, sm, P, N, pd, nd⟩ wA (HH.out _ hAF)).mono ?_
  rintro e w1 ⟨rfl, hf1⟩
  have HF1 : Hid (Fr [] w w1) := hAF.trans hf1 (by simp)
  have HS1 : Hid (wA.heap.size ≤ w1.heap.size) := hf1.size
  have H3 : Hid (NineF w1 w.heap.size #[.int .i64 s, .int .u64 z, .int .u64 zc, .int .u64 c, .int .u64 sm, .slice po P.length pc, .slice no N.length nc, .slice qo pd.length qc, .slice ro nd.length rc]) := hA3.kept hf1 (by simp)
  have H6 : Hid (Nine w1 (w.heap.size + 1) #[.int .i64 0, .int .u64 0, .int .u64 0, .int .u64 0, .int .u64 0, .slice none 0 0, .slice none 0 0, .slice none 0 0, .slice none 0 0]) := hA6.kept hf1 (by simp)
  clear hf1 hA3 hA6 hAF
  by_cases h0 : fce ⟨s, z, zc, c, sm, P, N, pd, nd⟩ = 0
  case neg =>
    have HE : Hid (bke ⟨s, z, zc, c, sm, P, N, pd, nd⟩ = fce ⟨s, z, zc, c, sm, P, N, pd, nd⟩ ∧ bkh ⟨s, z, zc, c, sm, P, N, pd, nd⟩ = hzero) := by
      have e : bke ⟨s, z, zc, c, sm, P, N, pd, nd⟩ = fce ⟨s, z, zc, c, sm, P, N, pd, nd⟩ := by unfold bke; rw [if_neg h0]
      unfold Hid bkh; rw [if_neg (by rw [e]; exact h0)]; exact ⟨e, rfl⟩
    have d0 := H6.out.cell 0 rfl
    have d1 := H6.out.cell 1 rfl
    have d2 := H6.out.cell 2 rfl
    have d3 := H6.out.cell 3 rfl
    have d4 := H6.out.cell 4 rfl
    have d5 := H6.out.cell 5 rfl
    have d6 := H6.out.cell 6 rfl
    have d7 := H6.out.cell 7 rfl
    have d8 := H6.out.cell 8 rfl
    have f0 := H6.out.frozen 0
    have f1 := H6.out.frozen 1
    have f2 := H6.out.frozen 2
    have f3 := H6.out.frozen 3
    have f4 := H6.out.frozen 4
    have f5 := H6.out.frozen 5
    have f6 := H6.out.frozen 6
    have f7 := H6.out.frozen 7
    have f8 := H6.out.frozen 8
    go_wp2
    refine bodyPost_ret (hist_res rfl _ _ (w.heap.size + 1) _ _ _ _ _ _ _ _ _ rfl (set9_nine H6.out (.int .i64 0) (.int .u64 0) (.int .u64 0) (.int .u64 0) (.int .u64 0) (.slice none 0 0) (.slice none 0 0) (.slice none 0 0) (.slice none 0 0))) rfl ?_
    exact ⟨_, by rw [HE.out.1]; rfl, by rw [HE.out.2]; exact hzero_keep _ _, set9_fr HF1.out (.inr (by simp)) (.int .i64 0) (.int .u64 0) (.int .u64 0) (.int .u64 0) (.int .u64 0) (.slice none 0 0) (.slice none 0 0) (.slice none 0 0) (.slice none 0 0)⟩
  have HC : Hid (fce ⟨s, z, zc, c, sm, P, N, pd, nd⟩ = 0) := h0
  have HLN : Hid (pd.length ≤ 1000000 ∧ nd.length ≤ 1000000 ∧ chk P = 0 ∧ chk N = 0) := by
    have h1 := (fce_zero.1 h0).2
    have h2 := fsd_zero.1 h1.1
    have h3 := fsd_zero.1 h1.2
    have h4 := pls_le P
    have h5 := pls_le N
    simp only at h2 h3
    exact ⟨by omega, by omega, h2.1, h3.1⟩
  rw [h0]
  clear h0
  have c2 := H3.out.cell 2 rfl
  have c3 := H3.out.cell 3 rfl
  have HU : Hid (USrc (w1.alloc (.cells #[.int .u64 zc, .int .u64 c] 22)) (.slice (some ⟨w1.heap.size, 0, none⟩) 2 2) [zc, c]) := (lit_u 22 w1 [zc, c] rfl (Nat.le_refl _) (by simp) (by unfold maxLen; simp)).src (by
    intro x hx
    simp only [List.mem_cons, List.not_mem_nil, or_false] at hx
    rcases hx with rfl | rfl
    · exact HIN.out.2.2.1
    · exact HIN.out.2.2.2.1)
  have HFa : Hid (Fr [] w1 (w1.alloc (.cells #[.int .u64 zc, .int .u64 c] 22))) := (Fr.refl _ _).alloc _
  go_wp2_with fail
  refine (wholes_any _ [zc, c] _ HU.out (by simp)).mono ?_
  rintro e w2 ⟨u2, rfl, hu2, hf2⟩
  have hf12 := HFa.out.trans hf2 (by simp)
  have HF2 : Hid (Fr [] w w2) := HF1.out.trans hf12 (by simp)
  have HU2 : Hid (UOwn 22 w1.heap.size w2 u2 (wal [zc, c])) := hu2.mono HFa.out.size
  have HS2 : Hid (wA.heap.size ≤ w2.heap.size) := Nat.le_trans HS1.out hf12.size
  have H3b : Hid (NineF w2 w.heap.size #[.int .i64 s, .int .u64 z, .int .u64 zc, .int .u64 c, .int .u64 sm, .slice po P.length pc, .slice no N.length nc, .slice qo pd.length qc, .slice ro nd.length rc]) := H3.out.kept hf12 (by simp)
  have H6b : Hid (Nine w2 (w.heap.size + 1) #[.int .i64 0, .int .u64 0, .int .u64 0, .int .u64 0, .int .u64 0, .slice none 0 0, .slice none 0 0, .slice none 0 0, .slice none 0 0]) := H6.out.kept hf12 (by simp)
  clear hu2 hf2 hf12 HU HFa c2 c3 H3 H6 HF1
  have c7 := H3b.out.cell 7 rfl
  go_wp2_with fail
  refine (wholes_any _ pd _ (HSR.out.2.2.1.kept HF2.out) HLN.out.1).mono ?_
  rintro e w3 ⟨u3, rfl, hu3, hf3⟩
  have HF3 : Hid (Fr [] w w3) := HF2.out.trans hf3 (by simp)
  have HU2b : Hid (UOwn 22 w1.heap.size w3 u2 (wal [zc, c])) := HU2.out.kept hf3
  have HU3 : Hid (UOwn 22 w2.heap.size w3 u3 (wal pd)) := hu3
  have HS3 : Hid (wA.heap.size ≤ w3.heap.size) := Nat.le_trans HS2.out hf3.size
  have H3c : Hid (NineF w3 w.heap.size #[.int .i64 s, .int .u64 z, .int .u64 zc, .int .u64 c, .int .u64 sm, .slice po P.length pc, .slice no N.length nc, .slice qo pd.length qc, .slice ro nd.length rc]) := H3b.out.kept hf3 (by simp)
  have H6c : Hid (Nine w3 (w.heap.size + 1) #[.int .i64 0, .int .u64 0, .int .u64 0, .int .u64 0, .int .u64 0, .slice none 0 0, .slice none 0 0, .slice none 0 0, .slice none 0 0]) := H6b.out.kept hf3 (by simp)
  clear hu3 hf3 c7 H3b H6b HU2 HF2
  have c8 := H3c.out.cell 8 rfl
  go_wp2_with fail
  refine (wholes_any _ nd _ (HSR.out.2.2.2.kept HF3.out) HLN.out.2.1).mono ?_
  rintro e w4 ⟨u4, rfl, hu4, hf4⟩
  have HF4 : Hid (Fr [] w w4) := HF3.out.trans hf4 (by simp)
  have HU2c : Hid (UOwn 22 w1.heap.size w4 u2 (wal [zc, c])) := HU2b.out.kept hf4
  have HU3b : Hid (USrc w4 u3 (wal pd)) := (HU3.out.kept hf4).src (by intro x hx; unfold wal at hx; split at hx; obtain ⟨y, _, rfl⟩ := List.mem_map.1 hx; exact wvI_in y; simp at hx)
  have HU4 : Hid (USrc w4 u4 (wal nd)) := hu4.src (by intro x hx; unfold wal at hx; split at hx; obtain ⟨y, _, rfl⟩ := List.mem_map.1 hx; exact wvI_in y; simp at hx)
  have HS4 : Hid (wA.heap.size ≤ w4.heap.size) := Nat.le_trans HS3.out hf4.size
  have H3d : Hid (NineF w4 w.heap.size #[.int .i64 s, .int .u64 z, .int .u64 zc, .int .u64 c, .int .u64 sm, .slice po P.length pc, .slice no N.length nc, .slice qo pd.length qc, .slice ro nd.length rc]) := H3c.out.kept hf4 (by simp)
  have H6d : Hid (Nine w4 (w.heap.size + 1) #[.int .i64 0, .int .u64 0, .int .u64 0, .int .u64 0, .int .u64 0, .slice none 0 0, .slice none 0 0, .slice none 0 0, .slice none 0 0]) := H6c.out.kept hf4 (by simp)
  clear hu4 hf4 c8 H3c H6c HU2b HU3 HF3
  have HBK : Hid (bkb ⟨s, z, zc, c, sm, P, N, pd, nd⟩ = (wab [zc, c] && wab pd && wab nd)) := rfl
  by_cases k1 : wab [zc, c] = true
  case neg =>
    have k1' : wab [zc, c] = false := by simpa using k1
    have HE : Hid (bke ⟨s, z, zc, c, sm, P, N, pd, nd⟩ = 10 ∧ bkh ⟨s, z, zc, c, sm, P, N, pd, nd⟩ = hzero) := bke_form HC.out (by rw [HBK.out, k1']; rfl)
    rw [k1']
    clear k1 k1'
    have d0 := H6d.out.cell 0 rfl
    have d1 := H6d.out.cell 1 rfl
    have d2 := H6d.out.cell 2 rfl
    have d3 := H6d.out.cell 3 rfl
    have d4 := H6d.out.cell 4 rfl
    have d5 := H6d.out.cell 5 rfl
    have d6 := H6d.out.cell 6 rfl
    have d7 := H6d.out.cell 7 rfl
    have d8 := H6d.out.cell 8 rfl
    have f0 := H6d.out.frozen 0
    have f1 := H6d.out.frozen 1
    have f2 := H6d.out.frozen 2
    have f3 := H6d.out.frozen 3
    have f4 := H6d.out.frozen 4
    have f5 := H6d.out.frozen 5
    have f6 := H6d.out.frozen 6
    have f7 := H6d.out.frozen 7
    have f8 := H6d.out.frozen 8
    go_wp2
    refine bodyPost_ret (hist_res rfl _ _ (w.heap.size + 1) _ _ _ _ _ _ _ _ _ rfl (set9_nine H6d.out (.int .i64 0) (.int .u64 0) (.int .u64 0) (.int .u64 0) (.int .u64 0) (.slice none 0 0) (.slice none 0 0) (.slice none 0 0) (.slice none 0 0))) rfl ?_
    exact ⟨_, by rw [HE.out.1]; rfl, by rw [HE.out.2]; exact hzero_keep _ _, set9_fr HF4.out (.inr (by simp)) (.int .i64 0) (.int .u64 0) (.int .u64 0) (.int .u64 0) (.int .u64 0) (.slice none 0 0) (.slice none 0 0) (.slice none 0 0) (.slice none 0 0)⟩
  have HK1 : Hid (wab [zc, c] = true) := k1
  rw [k1]
  clear k1
  by_cases k2 : wab pd = true
  case neg =>
    have k2' : wab pd = false := by simpa using k2
    have HE : Hid (bke ⟨s, z, zc, c, sm, P, N, pd, nd⟩ = 10 ∧ bkh ⟨s, z, zc, c, sm, P, N, pd, nd⟩ = hzero) := bke_form HC.out (by rw [HBK.out, HK1.out, k2']; rfl)
    rw [k2']
    clear k2 k2'
    have d0 := H6d.out.cell 0 rfl
    have d1 := H6d.out.cell 1 rfl
    have d2 := H6d.out.cell 2 rfl
    have d3 := H6d.out.cell 3 rfl
    have d4 := H6d.out.cell 4 rfl
    have d5 := H6d.out.cell 5 rfl
    have d6 := H6d.out.cell 6 rfl
    have d7 := H6d.out.cell 7 rfl
    have d8 := H6d.out.cell 8 rfl
    have f0 := H6d.out.frozen 0
    have f1 := H6d.out.frozen 1
    have f2 := H6d.out.frozen 2
    have f3 := H6d.out.frozen 3
    have f4 := H6d.out.frozen 4
    have f5 := H6d.out.frozen 5
    have f6 := H6d.out.frozen 6
    have f7 := H6d.out.frozen 7
    have f8 := H6d.out.frozen 8
    go_wp2
    refine bodyPost_ret (hist_res rfl _ _ (w.heap.size + 1) _ _ _ _ _ _ _ _ _ rfl (set9_nine H6d.out (.int .i64 0) (.int .u64 0) (.int .u64 0) (.int .u64 0) (.int .u64 0) (.slice none 0 0) (.slice none 0 0) (.slice none 0 0) (.slice none 0 0))) rfl ?_
    exact ⟨_, by rw [HE.out.1]; rfl, by rw [HE.out.2]; exact hzero_keep _ _, set9_fr HF4.out (.inr (by simp)) (.int .i64 0) (.int .u64 0) (.int .u64 0) (.int .u64 0) (.int .u64 0) (.slice none 0 0) (.slice none 0 0) (.slice none 0 0) (.slice none 0 0)⟩
  have HK2 : Hid (wab pd = true) := k2
  rw [k2]
  clear k2
  by_cases k3 : wab nd = true
  case neg =>
    have k3' : wab nd = false := by simpa using k3
    have HE : Hid (bke ⟨s, z, zc, c, sm, P, N, pd, nd⟩ = 10 ∧ bkh ⟨s, z, zc, c, sm, P, N, pd, nd⟩ = hzero) := bke_form HC.out (by rw [HBK.out, HK1.out, HK2.out, k3']; rfl)
    rw [k3']
    clear k3 k3'
    have d0 := H6d.out.cell 0 rfl
    have d1 := H6d.out.cell 1 rfl
    have d2 := H6d.out.cell 2 rfl
    have d3 := H6d.out.cell 3 rfl
    have d4 := H6d.out.cell 4 rfl
    have d5 := H6d.out.cell 5 rfl
    have d6 := H6d.out.cell 6 rfl
    have d7 := H6d.out.cell 7 rfl
    have d8 := H6d.out.cell 8 rfl
    have f0 := H6d.out.frozen 0
    have f1 := H6d.out.frozen 1
    have f2 := H6d.out.frozen 2
    have f3 := H6d.out.frozen 3
    have f4 := H6d.out.frozen 4
    have f5 := H6d.out.frozen 5
    have f6 := H6d.out.frozen 6
    have f7 := H6d.out.frozen 7
    have f8 := H6d.out.frozen 8
    go_wp2
    refine bodyPost_ret (hist_res rfl _ _ (w.heap.size + 1) _ _ _ _ _ _ _ _ _ rfl (set9_nine H6d.out (.int .i64 0) (.int .u64 0) (.int .u64 0) (.int .u64 0) (.int .u64 0) (.slice none 0 0) (.slice none 0 0) (.slice none 0 0) (.slice none 0 0))) rfl ?_
    exact ⟨_, by rw [HE.out.1]; rfl, by rw [HE.out.2]; exact hzero_keep _ _, set9_fr HF4.out (.inr (by simp)) (.int .i64 0) (.int .u64 0) (.int .u64 0) (.int .u64 0) (.int .u64 0) (.slice none 0 0) (.slice none 0 0) (.slice none 0 0) (.slice none 0 0)⟩
  have HB : Hid (bkb ⟨s, z, zc, c, sm, P, N, pd, nd⟩ = true) := by rw [Hid, HBK.out, HK1.out, HK2.out, k3]; rfl
  rw [k3]
  clear k3 HBK
  have hw2 : wal [zc, c] = [wvI zc, wvI c] := by unfold wal; rw [if_pos HK1.out]; rfl
  rw [hw2] at HU2c
  obtain ⟨ag, acap, rfl, hacap, hac⟩ := HU2c.out.cells1 (by simp)
  have a0 := hac 0 _ rfl
  have a1 := hac 1 _ rfl
  clear hac hw2 HU2c HK1 HK2
  have HCP : Hid (∀ wx, Fr [] w4 wx → Calls Try.prog 63 #[.slice po P.length pc] wx fun e w' => ∃ ao cap, e = .returned (.slice ao P.length cap) ∧ w'.ownsRow w4.heap.size 95 2 (.slice ao P.length cap) P.length (spCells P) ∧ Fr [] w4 w' ∧ Fr [] wx w') := by
    intro wx hx
    refine (clone_any _ P wx (HSR.out.1.kept (HF4.out.trans hx (by simp))) (chk_len HLN.out.2.2.1)).mono ?_
    rintro e w' ⟨ao, cap, rfl, ho, hf⟩
    exact ⟨ao, cap, rfl, ownsRow_mono ho hx.size, hx.trans hf (by simp), hf⟩
  have HCN : Hid (∀ wx, Fr [] w4 wx → Calls Try.prog 63 #[.slice no N.length nc] wx fun e w' => ∃ ao cap, e = .returned (.slice ao N.length cap) ∧ w'.ownsRow w4.heap.size 95 2 (.slice ao N.length cap) N.length (spCells N) ∧ Fr [] w4 w' ∧ Fr [] wx w') := by
    intro wx hx
    refine (clone_any _ N wx (HSR.out.2.1.kept (HF4.out.trans hx (by simp))) (chk_len HLN.out.2.2.2)).mono ?_
    rintro e w' ⟨ao, cap, rfl, ho, hf⟩
    exact ⟨ao, cap, rfl, ownsRow_mono ho hx.size, hx.trans hf (by simp), hf⟩
  have c0 := H3d.out.cell 0 rfl
  have c1 := H3d.out.cell 1 rfl
  have c4 := H3d.out.cell 4 rfl
  have c5 := H3d.out.cell 5 rfl
  have c6 := H3d.out.cell 6 rfl
  have F0 : Fr [] w4 w4.drew := (Fr.refl _ _).drew
  have hGs : w.heap.size < w4.heap.size := H3d.out.lt
  have hGa : ag < w4.heap.size := World.block_lt_of_cell? w4 _ a0
  have HNE : Hid (∀ wx, Fr [] w4 wx → w.heap.size ≠ wx.heap.size ∧ wx.heap.size ≠ w.heap.size ∧ ag ≠ wx.heap.size ∧ wx.heap.size ≠ ag) := fun wx hx => by have := hx.size; omega
  have FZ : Fr [] w4 (World.drew (w4.alloc (.cells #[.int .i64 0, .int .u64 0, .int .u64 0, .int .u64 0, .int .u64 0, .slice none 0 0, .slice none 0 0, .slice none 0 0, .slice none 0 0] 70))) := ((Fr.refl _ _).alloc _).drew
  have NZ : Hid (Nine (World.drew (w4.alloc (.cells #[.int .i64 0, .int .u64 0, .int .u64 0, .int .u64 0, .int .u64 0, .slice none 0 0, .slice none 0 0, .slice none 0 0, .slice none 0 0] 70))) w4.heap.size #[.int .i64 0, .int .u64 0, .int .u64 0, .int .u64 0, .int .u64 0, .slice none 0 0, .slice none 0 0, .slice none 0 0, .slice none 0 0]) := Nine.new w4 _
  have ne0 := (HNE.out _ (Fr.refl _ _)).1
  have ne1 := (HNE.out _ (Fr.refl _ _)).2.1
  have ne2 := (HNE.out _ (Fr.refl _ _)).2.2.1
  have ne3 := (HNE.out _ (Fr.refl _ _)).2.2.2
  clear hGs hGa
  go_upto_region 9 with fail
  go_cut [11] from 51 to 69 (fun c11 wx => ∃ G p1 q1 p2 q2, c11 = .pointer (some ⟨G, 0, none⟩) ∧ Nine wx G #[.int .i64 s, .int .u64 z, .int .u64 (wvI zc), .int .u64 (wvI c), .int .u64 sm, .slice p1 P.length q1, .slice p2 N.length q2, .slice none 0 0, .slice none 0 0] ∧ w4.heap.size ≤ G ∧ wx.ownsRow w4.heap.size 95 2 (.slice p1 P.length q1) P.length (spCells P) ∧ wx.ownsRow w4.heap.size 95 2 (.slice p2 N.length q2) N.length (spCells N) ∧ Fr [] w4 wx)
  case first =>
    go_region_held3 (fun w' => w'.cell? ⟨w.heap.size, 0, none⟩ = some (.int .i64 s) ∧ w'.cell? ⟨w.heap.size, 1, none⟩ = some (.int .u64 z) ∧ w'.cell? ⟨w.heap.size, 4, none⟩ = some (.int .u64 sm) ∧ w'.cell? ⟨w.heap.size, 5, none⟩ = some (.slice po P.length pc) ∧ w'.cell? ⟨w.heap.size, 6, none⟩ = some (.slice no N.length nc) ∧ w'.cell? ⟨ag, 0, none⟩ = some (.int .u64 (wvI zc)) ∧ w'.cell? ⟨ag, 1, none⟩ = some (.int .u64 (wvI c))) (go_keep) (first
      | (go_at_call 63; first
        | (with_reducible refine (HCP.out _ F0).mono ?_; rintro e wa ⟨qa, qc, rfl, hoa, hfa, hfxa⟩; have ka0 := hfa.cell_some c0 (by simp); have ka1 := hfa.cell_some c1 (by simp); have ka4 := hfa.cell_some c4 (by simp); have ka5 := hfa.cell_some c5 (by simp); have ka6 := hfa.cell_some c6 (by simp); have ma0 := hfa.cell_some a0 (by simp); have ma1 := hfa.cell_some a1 (by simp); have ne4 := (HNE.out _ hfa).1; have ne5 := (HNE.out _ hfa).2.1; have ne6 := (HNE.out _ hfa).2.2.1; have ne7 := (HNE.out _ hfa).2.2.2)
        | (with_reducible refine (HCP.out _ FZ).mono ?_; rintro e wa ⟨qa, qc, rfl, hoa, hfa, hfxa⟩; have n8 := NZ.out.kept hfxa List.not_mem_nil; have ka0 := hfa.cell_some c0 (by simp); have ka1 := hfa.cell_some c1 (by simp); have ka4 := hfa.cell_some c4 (by simp); have ka5 := hfa.cell_some c5 (by simp); have ka6 := hfa.cell_some c6 (by simp); have ma0 := hfa.cell_some a0 (by simp); have ma1 := hfa.cell_some a1 (by simp); have ne4 := (HNE.out _ hfa).1; have ne5 := (HNE.out _ hfa).2.1; have ne6 := (HNE.out _ hfa).2.2.1; have ne7 := (HNE.out _ hfa).2.2.2))
      | (go_at_call 63; first
        | (with_reducible refine (HCN.out _ hfa).mono ?_; rintro e wb ⟨qb, qbc, rfl, hob, hfb, hfxb⟩; (try (have n8b := n8.kept hfxb List.not_mem_nil; have z0 := n8b.cell 0 rfl; have z1 := n8b.cell 1 rfl; have z2 := n8b.cell 2 rfl; have z3 := n8b.cell 3 rfl; have z4 := n8b.cell 4 rfl; have z5 := n8b.cell 5 rfl; have z6 := n8b.cell 6 rfl; have z7 := n8b.cell 7 rfl; have z8 := n8b.cell 8 rfl; have y0 := n8b.frozen 0; have y1 := n8b.frozen 1; have y2 := n8b.frozen 2; have y3 := n8b.frozen 3; have y4 := n8b.frozen 4; have y5 := n8b.frozen 5; have y6 := n8b.frozen 6; have y7 := n8b.frozen 7; have y8 := n8b.frozen 8)); have kb0 := hfb.cell_some c0 (by simp); have kb1 := hfb.cell_some c1 (by simp); have kb4 := hfb.cell_some c4 (by simp); have kb5 := hfb.cell_some c5 (by simp); have kb6 := hfb.cell_some c6 (by simp); have mb0 := hfb.cell_some a0 (by simp); have mb1 := hfb.cell_some a1 (by simp))
        | (with_reducible refine (HCN.out _ (hfa.alloc _)).mono ?_; rintro e wb ⟨qb, qbc, rfl, hob, hfb, hfxb⟩; have n8b := (Nine.new wa _).kept hfxb List.not_mem_nil; have z0 := n8b.cell 0 rfl; have z1 := n8b.cell 1 rfl; have z2 := n8b.cell 2 rfl; have z3 := n8b.cell 3 rfl; have z4 := n8b.cell 4 rfl; have z5 := n8b.cell 5 rfl; have z6 := n8b.cell 6 rfl; have z7 := n8b.cell 7 rfl; have z8 := n8b.cell 8 rfl; have y0 := n8b.frozen 0; have y1 := n8b.frozen 1; have y2 := n8b.frozen 2; have y3 := n8b.frozen 3; have y4 := n8b.frozen 4; have y5 := n8b.frozen 5; have y6 := n8b.frozen 6; have y7 := n8b.frozen 7; have y8 := n8b.frozen 8; have kb0 := hfb.cell_some c0 (by simp); have kb1 := hfb.cell_some c1 (by simp); have kb4 := hfb.cell_some c4 (by simp); have kb5 := hfb.cell_some c5 (by simp); have kb6 := hfb.cell_some c6 (by simp); have mb0 := hfb.cell_some a0 (by simp); have mb1 := hfb.cell_some a1 (by simp))))
    · go_wp2_with fail
      go_meet
      exact ⟨_, _, _, _, _, rfl, Nine.new wb _, hfb.size, ownsRow_keptS (ownsRow_keptS hoa hfxb (by simp)) ((Fr.refl [] _).alloc _) (by simp), ownsRow_keptS hob ((Fr.refl [] _).alloc _) (by simp), hfb.alloc _⟩
    · go_wp2_with fail
      go_meet
      have h9 := set9_fr (S := [wa.heap.size]) (g := wa.heap.size) (Fr.refl _ wb) (.inl (List.mem_singleton.2 rfl)) (.int .i64 s) (.int .u64 z) (.int .u64 (wvI zc)) (.int .u64 (wvI c)) (.int .u64 sm) (.slice qa P.length qc) (.slice qb N.length qbc) (.slice none 0 0) (.slice none 0 0)
      exact ⟨_, _, _, _, _, rfl, set9_nine n8b _ _ _ _ _ _ _ _ _, hfa.size, ownsRow_other (ownsRow_keptS hoa (((Fr.refl [] wa).alloc _).trans hfxb (by simp)) (by simp)) h9 n8b (by decide), ownsRow_other hob h9 n8b (by decide), set9_fr hfb (.inr hfa.size) _ _ _ _ _ _ _ _ _⟩
    · go_wp2_with fail
      go_meet
      have h9 := set9_fr (S := [w4.heap.size]) (g := w4.heap.size) (Fr.refl _ wb) (.inl (List.mem_singleton.2 rfl)) (.int .i64 s) (.int .u64 z) (.int .u64 (wvI zc)) (.int .u64 (wvI c)) (.int .u64 sm) (.slice qa P.length qc) (.slice qb N.length qbc) (.slice none 0 0) (.slice none 0 0)
      exact ⟨_, _, _, _, _, rfl, set9_nine n8b _ _ _ _ _ _ _ _ _, Nat.le_refl _, ownsRow_other (ownsRow_keptS hoa hfxb (by simp)) h9 n8b (by decide), ownsRow_other hob h9 n8b (by decide), set9_fr hfb (.inr (Nat.le_refl _)) _ _ _ _ _ _ _ _ _⟩
  case rest =>
    obtain ⟨G, p1, q1, p2, q2, rfl, hn, hG, ho1, ho2, hfc⟩ := hcut
    have HNEG : Hid (w.heap.size + 1 ≠ G ∧ G < wc.heap.size ∧ w.heap.size + 1 < G) := ⟨by have := HSZ.out; have := HS4.out; omega, hn.lt, by have := HSZ.out; have := HS4.out; omega⟩
    have N9 : Hid (Nine wc G #[.int .i64 s, .int .u64 z, .int .u64 (wvI zc), .int .u64 (wvI c), .int .u64 sm, .slice p1 P.length q1, .slice p2 N.length q2, .slice none 0 0, .slice none 0 0]) := hn
    have HFc : Hid (Fr [] w wc) := HF4.out.trans hfc (by simp)
    have H6e : Hid (Nine wc (w.heap.size + 1) #[.int .i64 0, .int .u64 0, .int .u64 0, .int .u64 0, .int .u64 0, .slice none 0 0, .slice none 0 0, .slice none 0 0, .slice none 0 0]) := H6d.out.kept hfc (by simp)
    have HO1 : Hid (wc.ownsRow w4.heap.size 95 2 (.slice p1 P.length q1) P.length (spCells P)) := ho1
    have HO2 : Hid (wc.ownsRow w4.heap.size 95 2 (.slice p2 N.length q2) N.length (spCells N)) := ho2
    have HFX : Hid (Fr [] w4 wc) := hfc
    have HGG : Hid (w4.heap.size ≤ G) := hG
    clear hn hG ho1 ho2 hfc H3d H6d HF4 HCP HCN NZ FZ HNE ne0 ne1 ne2 ne3 a0 a1 c0 c1 c4 c5 c6 F0
    go_wp2_with fail
    refine (differences_any _ (wal pd) _ (HU3b.out.kept HFX.out) (by have := wal_le pd; have := HLN.out.1; omega)).mono ?_
    rintro e w5 ⟨y7v, rfl, hy, hf5⟩
    obtain ⟨y7, t7, rfl⟩ := hy.val
    have hn5 := N9.out.kept hf5 (by simp)
    have e7 := hn5.cell 7 rfl
    have g7 := hn5.frozen 7
    have N5 : Hid (Nine (w5.setCell ⟨G, 7, none⟩ (.slice y7 (dfl (wal pd)).length t7)) G #[.int .i64 s, .int .u64 z, .int .u64 (wvI zc), .int .u64 (wvI c), .int .u64 sm, .slice p1 P.length q1, .slice p2 N.length q2, .slice y7 (dfl (wal pd)).length t7, .slice none 0 0]) := hn5.set7 _
    have HFS : Hid (Fr [G] w5 (w5.setCell ⟨G, 7, none⟩ (.slice y7 (dfl (wal pd)).length t7))) := (Fr.refl _ _).setCell _ _ (.inl (by simp))
    have HY7 : Hid (NOwn 2 wc.heap.size (w5.setCell ⟨G, 7, none⟩ (.slice y7 (dfl (wal pd)).length t7)) (.slice y7 (dfl (wal pd)).length t7) (dfl (wal pd))) := hy.keptS HFS.out (by have := HNEG.out.2.1; simp; omega)
    have H6f : Hid (Nine (w5.setCell ⟨G, 7, none⟩ (.slice y7 (dfl (wal pd)).length t7)) (w.heap.size + 1) #[.int .i64 0, .int .u64 0, .int .u64 0, .int .u64 0, .int .u64 0, .slice none 0 0, .slice none 0 0, .slice none 0 0, .slice none 0 0]) := (H6e.out.kept hf5 (by simp)).other HNEG.out.1
    have HF5 : Hid (Fr [] w (w5.setCell ⟨G, 7, none⟩ (.slice y7 (dfl (wal pd)).length t7))) := (HFc.out.trans hf5 (by simp)).trans HFS.out (by have := HNEG.out.2.2; simp; omega)
    have HFX5 : Hid (Fr [] w4 (w5.setCell ⟨G, 7, none⟩ (.slice y7 (dfl (wal pd)).length t7))) := (HFX.out.trans hf5 (by simp)).trans HFS.out (by have := HGG.out; simp; omega)
    have HO1b : Hid (World.ownsRow (w5.setCell ⟨G, 7, none⟩ (.slice y7 (dfl (wal pd)).length t7)) w4.heap.size 95 2 (.slice p1 P.length q1) P.length (spCells P)) := ownsRow_other (ownsRow_keptS HO1.out hf5 (by simp)) HFS.out hn5 (by decide)
    have HO2b : Hid (World.ownsRow (w5.setCell ⟨G, 7, none⟩ (.slice y7 (dfl (wal pd)).length t7)) w4.heap.size 95 2 (.slice p2 N.length q2) N.length (spCells N)) := ownsRow_other (ownsRow_keptS HO2.out hf5 (by simp)) HFS.out hn5 (by decide)
    have HSW5 : Hid (wc.heap.size ≤ (w5.setCell ⟨G, 7, none⟩ (.slice y7 (dfl (wal pd)).length t7)).heap.size) := Nat.le_trans hf5.size HFS.out.size
    clear hy hf5 hn5 N9 HFc H6e HO1 HO2 HFX HFS
    go_upto_region 12 with fail
    clear e7 g7
    generalize w5.setCell ⟨G, 7, none⟩ (.slice y7 (dfl (wal pd)).length t7) = w6 at N5 HY7 H6f HF5 HFX5 HO1b HO2b HSW5 ⊢
    by_cases hd7 : dfe (wal pd) = 0
    case neg =>
      have HE : Hid (bke ⟨s, z, zc, c, sm, P, N, pd, nd⟩ = dfe (wal pd) ∧ bkh ⟨s, z, zc, c, sm, P, N, pd, nd⟩ = hzero) := by
        have e : bke ⟨s, z, zc, c, sm, P, N, pd, nd⟩ = dfe (wal pd) := by unfold bke; rw [if_pos HC.out, if_pos HB.out]; exact if_neg hd7
        unfold Hid bkh; rw [if_neg (by rw [e]; exact hd7)]; exact ⟨e, rfl⟩
      have d0 := H6f.out.cell 0 rfl
      have d1 := H6f.out.cell 1 rfl
      have d2 := H6f.out.cell 2 rfl
      have d3 := H6f.out.cell 3 rfl
      have d4 := H6f.out.cell 4 rfl
      have d5 := H6f.out.cell 5 rfl
      have d6 := H6f.out.cell 6 rfl
      have d7 := H6f.out.cell 7 rfl
      have d8 := H6f.out.cell 8 rfl
      have f0 := H6f.out.frozen 0
      have f1 := H6f.out.frozen 1
      have f2 := H6f.out.frozen 2
      have f3 := H6f.out.frozen 3
      have f4 := H6f.out.frozen 4
      have f5 := H6f.out.frozen 5
      have f6 := H6f.out.frozen 6
      have f7 := H6f.out.frozen 7
      have f8 := H6f.out.frozen 8
      go_wp2
      refine bodyPost_ret (hist_res rfl _ _ (w.heap.size + 1) _ _ _ _ _ _ _ _ _ rfl (set9_nine H6f.out (.int .i64 0) (.int .u64 0) (.int .u64 0) (.int .u64 0) (.int .u64 0) (.slice none 0 0) (.slice none 0 0) (.slice none 0 0) (.slice none 0 0))) rfl ?_
      exact ⟨_, by rw [HE.out.1]; rfl, by rw [HE.out.2]; exact hzero_keep _ _, set9_fr HF5.out (.inr (by simp)) (.int .i64 0) (.int .u64 0) (.int .u64 0) (.int .u64 0) (.int .u64 0) (.slice none 0 0) (.slice none 0 0) (.slice none 0 0) (.slice none 0 0)⟩
    have HD7 : Hid (dfe (wal pd) = 0) := hd7
    rw [hd7]
    clear hd7
    go_wp2_with fail
    refine (differences_any _ (wal nd) _ (HU4.out.kept HFX5.out) (by have := wal_le nd; have := HLN.out.2.1; omega)).mono ?_
    rintro e w7 ⟨y8v, rfl, hy, hf7⟩
    obtain ⟨y8, t8, rfl⟩ := hy.val
    have hn7 := N5.out.kept hf7 (by simp)
    have e8 := hn7.cell 8 rfl
    have g8 := hn7.frozen 8
    have N7 : Hid (Nine (w7.setCell ⟨G, 8, none⟩ (.slice y8 (dfl (wal nd)).length t8)) G #[.int .i64 s, .int .u64 z, .int .u64 (wvI zc), .int .u64 (wvI c), .int .u64 sm, .slice p1 P.length q1, .slice p2 N.length q2, .slice y7 (dfl (wal pd)).length t7, .slice y8 (dfl (wal nd)).length t8]) := hn7.set8 _
    have HFS : Hid (Fr [G] w7 (w7.setCell ⟨G, 8, none⟩ (.slice y8 (dfl (wal nd)).length t8))) := (Fr.refl _ _).setCell _ _ (.inl (by simp))
    have HY8 : Hid (NOwn 2 wc.heap.size (w7.setCell ⟨G, 8, none⟩ (.slice y8 (dfl (wal nd)).length t8)) (.slice y8 (dfl (wal nd)).length t8) (dfl (wal nd))) := (hy.keptS HFS.out (by have := HNEG.out.2.1; have := HSW5.out; simp; omega)).mono HSW5.out
    have HY7b : Hid (NOwn 2 wc.heap.size (w7.setCell ⟨G, 8, none⟩ (.slice y8 (dfl (wal nd)).length t8)) (.slice y7 (dfl (wal pd)).length t7) (dfl (wal pd))) := (HY7.out.kept hf7).keptS HFS.out (by have := HNEG.out.2.1; simp; omega)
    have H6g : Hid (Nine (w7.setCell ⟨G, 8, none⟩ (.slice y8 (dfl (wal nd)).length t8)) (w.heap.size + 1) #[.int .i64 0, .int .u64 0, .int .u64 0, .int .u64 0, .int .u64 0, .slice none 0 0, .slice none 0 0, .slice none 0 0, .slice none 0 0]) := (H6f.out.kept hf7 (by simp)).other HNEG.out.1
    have HF7 : Hid (Fr [] w (w7.setCell ⟨G, 8, none⟩ (.slice y8 (dfl (wal nd)).length t8))) := (HF5.out.trans hf7 (by simp)).trans HFS.out (by have := HNEG.out.2.2; simp; omega)
    have HO1c : Hid (World.ownsRow (w7.setCell ⟨G, 8, none⟩ (.slice y8 (dfl (wal nd)).length t8)) w4.heap.size 95 2 (.slice p1 P.length q1) P.length (spCells P)) := ownsRow_other (ownsRow_keptS HO1b.out hf7 (by simp)) HFS.out hn7 (by decide)
    have HO2c : Hid (World.ownsRow (w7.setCell ⟨G, 8, none⟩ (.slice y8 (dfl (wal nd)).length t8)) w4.heap.size 95 2 (.slice p2 N.length q2) N.length (spCells N)) := ownsRow_other (ownsRow_keptS HO2b.out hf7 (by simp)) HFS.out hn7 (by decide)
    clear hy hf7 hn7 N5 HF5 H6f HO1b HO2b HFX5 HFS HY7
    go_upto_region 15 with fail
    clear e8 g8
    generalize w7.setCell ⟨G, 8, none⟩ (.slice y8 (dfl (wal nd)).length t8) = w8 at N7 HY8 HY7b H6g HF7 HO1c HO2c ⊢
    by_cases hd8 : dfe (wal nd) = 0
    case neg =>
      have HE : Hid (bke ⟨s, z, zc, c, sm, P, N, pd, nd⟩ = dfe (wal nd) ∧ bkh ⟨s, z, zc, c, sm, P, N, pd, nd⟩ = hzero) := by
        have e : bke ⟨s, z, zc, c, sm, P, N, pd, nd⟩ = dfe (wal nd) := by unfold bke; rw [if_pos HC.out, if_pos HB.out]; exact (if_pos HD7.out).trans (if_neg hd8)
        unfold Hid bkh; rw [if_neg (by rw [e]; exact hd8)]; exact ⟨e, rfl⟩
      have d0 := H6g.out.cell 0 rfl
      have d1 := H6g.out.cell 1 rfl
      have d2 := H6g.out.cell 2 rfl
      have d3 := H6g.out.cell 3 rfl
      have d4 := H6g.out.cell 4 rfl
      have d5 := H6g.out.cell 5 rfl
      have d6 := H6g.out.cell 6 rfl
      have d7 := H6g.out.cell 7 rfl
      have d8 := H6g.out.cell 8 rfl
      have f0 := H6g.out.frozen 0
      have f1 := H6g.out.frozen 1
      have f2 := H6g.out.frozen 2
      have f3 := H6g.out.frozen 3
      have f4 := H6g.out.frozen 4
      have f5 := H6g.out.frozen 5
      have f6 := H6g.out.frozen 6
      have f7 := H6g.out.frozen 7
      have f8 := H6g.out.frozen 8
      go_wp2
      refine bodyPost_ret (hist_res rfl _ _ (w.heap.size + 1) _ _ _ _ _ _ _ _ _ rfl (set9_nine H6g.out (.int .i64 0) (.int .u64 0) (.int .u64 0) (.int .u64 0) (.int .u64 0) (.slice none 0 0) (.slice none 0 0) (.slice none 0 0) (.slice none 0 0))) rfl ?_
      exact ⟨_, by rw [HE.out.1]; rfl, by rw [HE.out.2]; exact hzero_keep _ _, set9_fr HF7.out (.inr (by simp)) (.int .i64 0) (.int .u64 0) (.int .u64 0) (.int .u64 0) (.int .u64 0) (.slice none 0 0) (.slice none 0 0) (.slice none 0 0) (.slice none 0 0)⟩
    have HD8 : Hid (dfe (wal nd) = 0) := hd8
    rw [hd8]
    clear hd8
    have HP64 : Hid ((∀ s ∈ P, in64 s.1 ∧ in64 s.2) ∧ (∀ s ∈ N, in64 s.1 ∧ in64 s.2)) := ⟨HFI.out.1, HFI.out.2.1⟩
    have HWN : Hid (inu (wvI zc) ∧ inu (wvI c)) := ⟨wvI_in _, wvI_in _⟩
    have HDIN : Hid (∀ l, ∀ x ∈ dfl l, in64 x) := by
      intro l x hx
      unfold dfl at hx
      split at hx
      · exact dlv_in _ x hx
      · simp at hx
    have HKP : Hid (∀ (S : List Nat) (w' : World), Fr S w8 w' → (∀ y ∈ S, y < w4.heap.size) → HSrc w' (.agg #[.int .i64 s, .int .u64 z, .int .u64 (wvI zc), .int .u64 (wvI c), .int .u64 sm, .slice p1 P.length q1, .slice p2 N.length q2, .slice y7 (dfl (wal pd)).length t7, .slice y8 (dfl (wal nd)).length t8]) (bks ⟨s, z, zc, c, sm, P, N, pd, nd⟩)) := by
      intro S w' hf hs
      obtain ⟨_, _, _, k5⟩ := ssrc_of_owns (ownsRow_keptS HO1c.out hf hs) HP64.out.1
      obtain ⟨_, _, _, k6⟩ := ssrc_of_owns (ownsRow_keptS HO2c.out hf hs) HP64.out.2
      have hs2 : ∀ y ∈ S, y < wc.heap.size := fun y hy => by have := hs y hy; have := HGG.out; have := HNEG.out.2.1; omega
      exact ⟨_, _, _, _, rfl, HIN.out.1, ⟨HIN.out.2.1, HWN.out.1, HWN.out.2, HIN.out.2.2.2.2⟩, k5, k6, (HY7b.out.keptS hf hs2).src (HDIN.out _), (HY8.out.keptS hf hs2).src (HDIN.out _)⟩
    clear HY8 HY7b HO1c HO2c HU3b HU4
    have b0 := N7.out.cell 0 rfl
    have b1 := N7.out.cell 1 rfl
    have b2 := N7.out.cell 2 rfl
    have b3 := N7.out.cell 3 rfl
    have b4 := N7.out.cell 4 rfl
    have b5 := N7.out.cell 5 rfl
    have b6 := N7.out.cell 6 rfl
    have b7 := N7.out.cell 7 rfl
    have b8 := N7.out.cell 8 rfl
    go_wp2_with fail
    refine (hcheck_any _ (bks ⟨s, z, zc, c, sm, P, N, pd, nd⟩) w8 (HKP.out [] w8 (Fr.refl _ _) (by simp))).mono ?_
    rintro e w9 ⟨rfl, hf9⟩
    have HF9 : Hid (Fr [] w w9) := HF7.out.trans hf9 (by simp)
    have HF89 : Hid (Fr [] w8 w9) := hf9
    have H6h : Hid (Nine w9 (w.heap.size + 1) #[.int .i64 0, .int .u64 0, .int .u64 0, .int .u64 0, .int .u64 0, .slice none 0 0, .slice none 0 0, .slice none 0 0, .slice none 0 0]) := H6g.out.kept hf9 (by simp)
    have N9h : Hid (Nine w9 G #[.int .i64 s, .int .u64 z, .int .u64 (wvI zc), .int .u64 (wvI c), .int .u64 sm, .slice p1 P.length q1, .slice p2 N.length q2, .slice y7 (dfl (wal pd)).length t7, .slice y8 (dfl (wal nd)).length t8]) := N7.out.kept hf9 (by simp)
    clear hf9 N7 H6g HF7 b0 b1 b2 b3 b4 b5 b6 b7 b8
    have HEB : Hid (bke ⟨s, z, zc, c, sm, P, N, pd, nd⟩ = che (bks ⟨s, z, zc, c, sm, P, N, pd, nd⟩)) := by
      unfold Hid bke; rw [if_pos HC.out, if_pos HB.out]; exact (if_pos HD7.out).trans (if_pos HD8.out)
    by_cases hc : che (bks ⟨s, z, zc, c, sm, P, N, pd, nd⟩) = 0
    case neg =>
      have HE : Hid (bke ⟨s, z, zc, c, sm, P, N, pd, nd⟩ = che (bks ⟨s, z, zc, c, sm, P, N, pd, nd⟩) ∧ bkh ⟨s, z, zc, c, sm, P, N, pd, nd⟩ = hzero) := by
        refine ⟨HEB.out, ?_⟩
        unfold bkh; rw [if_neg (by rw [HEB.out]; exact hc)]
      generalize che (bks ⟨s, z, zc, c, sm, P, N, pd, nd⟩) = CE at *
      have d0 := H6h.out.cell 0 rfl
      have d1 := H6h.out.cell 1 rfl
      have d2 := H6h.out.cell 2 rfl
      have d3 := H6h.out.cell 3 rfl
      have d4 := H6h.out.cell 4 rfl
      have d5 := H6h.out.cell 5 rfl
      have d6 := H6h.out.cell 6 rfl
      have d7 := H6h.out.cell 7 rfl
      have d8 := H6h.out.cell 8 rfl
      have f0 := H6h.out.frozen 0
      have f1 := H6h.out.frozen 1
      have f2 := H6h.out.frozen 2
      have f3 := H6h.out.frozen 3
      have f4 := H6h.out.frozen 4
      have f5 := H6h.out.frozen 5
      have f6 := H6h.out.frozen 6
      have f7 := H6h.out.frozen 7
      have f8 := H6h.out.frozen 8
      go_wp2
      refine bodyPost_ret (hist_res rfl _ _ (w.heap.size + 1) _ _ _ _ _ _ _ _ _ rfl (set9_nine H6h.out (.int .i64 0) (.int .u64 0) (.int .u64 0) (.int .u64 0) (.int .u64 0) (.slice none 0 0) (.slice none 0 0) (.slice none 0 0) (.slice none 0 0))) rfl ?_
      exact ⟨_, by rw [HE.out.1]; rfl, by rw [HE.out.2]; exact hzero_keep _ _, set9_fr HF9.out (.inr (by simp)) (.int .i64 0) (.int .u64 0) (.int .u64 0) (.int .u64 0) (.int .u64 0) (.slice none 0 0) (.slice none 0 0) (.slice none 0 0) (.slice none 0 0)⟩
    have HE : Hid (bke ⟨s, z, zc, c, sm, P, N, pd, nd⟩ = 0 ∧ bkh ⟨s, z, zc, c, sm, P, N, pd, nd⟩ = bks ⟨s, z, zc, c, sm, P, N, pd, nd⟩) := by
      have e : bke ⟨s, z, zc, c, sm, P, N, pd, nd⟩ = 0 := HEB.out.trans hc
      refine ⟨e, ?_⟩
      unfold bkh; rw [if_pos e]
    rw [hc]
    clear hc
    have b0 := N9h.out.cell 0 rfl
    have b1 := N9h.out.cell 1 rfl
    have b2 := N9h.out.cell 2 rfl
    have b3 := N9h.out.cell 3 rfl
    have b4 := N9h.out.cell 4 rfl
    have b5 := N9h.out.cell 5 rfl
    have b6 := N9h.out.cell 6 rfl
    have b7 := N9h.out.cell 7 rfl
    have b8 := N9h.out.cell 8 rfl
    have d0 := H6h.out.cell 0 rfl
    have d1 := H6h.out.cell 1 rfl
    have d2 := H6h.out.cell 2 rfl
    have d3 := H6h.out.cell 3 rfl
    have d4 := H6h.out.cell 4 rfl
    have d5 := H6h.out.cell 5 rfl
    have d6 := H6h.out.cell 6 rfl
    have d7 := H6h.out.cell 7 rfl
    have d8 := H6h.out.cell 8 rfl
    have f0 := H6h.out.frozen 0
    have f1 := H6h.out.frozen 1
    have f2 := H6h.out.frozen 2
    have f3 := H6h.out.frozen 3
    have f4 := H6h.out.frozen 4
    have f5 := H6h.out.frozen 5
    have f6 := H6h.out.frozen 6
    have f7 := H6h.out.frozen 7
    have f8 := H6h.out.frozen 8
    go_wp2
    refine bodyPost_ret (hist_res rfl _ _ (w.heap.size + 1) _ _ _ _ _ _ _ _ _ rfl (set9_nine H6h.out _ _ _ _ _ _ _ _ _)) rfl ?_
    refine ⟨_, by rw [HE.out.1]; rfl, ?_, set9_fr HF9.out (.inr (by simp)) _ _ _ _ _ _ _ _ _⟩
    rw [HE.out.2]
    intro S w' hf hs
    have h9 := set9_fr (S := (w.heap.size + 1) :: S) (g := w.heap.size + 1) (HF89.out.mono (by simp)) (.inl (by simp)) (.int .i64 s) (.int .u64 z) (.int .u64 (wvI zc)) (.int .u64 (wvI c)) (.int .u64 sm) (.slice p1 P.length q1) (.slice p2 N.length q2) (.slice y7 (dfl (wal pd)).length t7) (.slice y8 (dfl (wal nd)).length t8)
    exact HKP.out ((w.heap.size + 1) :: S) w' (h9.trans hf (fun x hx => .inl (List.mem_cons_of_mem _ hx))) (fun y hy => by
      have := HSZ.out
      have := HS4.out
      rcases List.mem_cons.1 hy with rfl | hy
      · omega
      · have := hs y hy; omega)
end Go.Proofs.Ytoaibabkkphlaaa
