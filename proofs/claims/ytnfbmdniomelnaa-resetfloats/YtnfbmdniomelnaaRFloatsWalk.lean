/-
  ResetFloats: the walk.
-/
import Derived.Test.YtnfbmdniomelnaaGI
namespace Go.Proofs.Ytnfbmdniomelnaa
open Go.RowKit Mem Spans
set_option linter.unusedSimpArgs false
set_option linter.unusedVariables false
set_option maxRecDepth 100000

set_option maxHeartbeats 16000000 in
theorem resetfloats_walk (v0 : Value) (a : Fs) (v1 : Value) (b : Fs) (w : World) (w0 : FSrc w v0 a) (w1 : FSrc w v1 b) : Calls Try.prog 4 #[v0, v1] w fun e w' => e = .returned (.bool true) ∧ Below w.heap.size w w' := by
  have HA : Hid (∀ wx, Fr [] w wx → FSrc wx v0 a) := fun wx hx => w0.kept hx
  have HB : Hid (∀ wx, Fr [] w wx → FSrc wx v1 b) := fun wx hx => w1.kept hx
  obtain ⟨poa, pca, noa, nca, qoa, qca, roa, rca, rfl, _⟩ := w0.opens
  obtain ⟨pob, pcb, nob, ncb, qob, qcb, rob, rcb, rfl, _⟩ := w1.opens
  clear w0 w1
  go_enter Try.func4, Try.ntmps4
  obtain ⟨C0, hC0⟩ : ∃ C : Array Value, C = #[.int .i64 a.s, .int .u64 a.z, .int .u64 a.zc, .int .u64 a.c, .int .u64 a.sm, .slice poa a.P.length pca, .slice noa a.N.length nca, .slice qoa a.pd.length qca, .slice roa a.nd.length rca] := ⟨_, rfl⟩
  obtain ⟨C1, hC1⟩ : ∃ C : Array Value, C = #[.int .i64 b.s, .int .u64 b.z, .int .u64 b.zc, .int .u64 b.c, .int .u64 b.sm, .slice pob b.P.length pcb, .slice nob b.N.length ncb, .slice qob b.pd.length qcb, .slice rob b.nd.length rcb] := ⟨_, rfl⟩
  have HZ := entry2F_at w C0 C1
  subst hC0
  subst hC1
  go_wp2_with fail
  generalize (w.alloc (.cells _ _)).alloc (.cells _ _) = wA at HZ ⊢
  refine (fsmall_any _ a wA (HA.out _ HZ.out.2.2)).mono ?_
  rintro e ws0 ⟨r, rfl, hr, hf⟩
  have HF0 : Hid (Fr [] w ws0) := HZ.out.2.2.trans hf (by simp)
  have HN0 : Hid (NineF ws0 (w.heap.size) _ ∧ NineF ws0 (w.heap.size + 1) _) := ⟨HZ.out.1.kept hf (by simp), HZ.out.2.1.kept hf (by simp)⟩
  have HR : Hid (r = true → FewF a) := hr
  clear hf hr HZ
  cases r with
  | false =>
    go_wp2_with fail
    refine (awake11_any ws0).mono ?_
    rintro e wq ⟨rfl, hf⟩
    have HFQ : Hid (Fr [] w wq) := HF0.out.trans hf (by simp)
    clear hf
    go_wp2
    go_ret
    exact ⟨rfl, HFQ.out.below (Nat.le_refl _) (by simp)⟩
  | true =>
    have HWA : Hid (FewF a) := HR.out rfl
    clear HR
    have d0 := HN0.out.2.cell 0 rfl
    have d1 := HN0.out.2.cell 1 rfl
    have d2 := HN0.out.2.cell 2 rfl
    have d3 := HN0.out.2.cell 3 rfl
    have d4 := HN0.out.2.cell 4 rfl
    have d5 := HN0.out.2.cell 5 rfl
    have d6 := HN0.out.2.cell 6 rfl
    have d7 := HN0.out.2.cell 7 rfl
    have d8 := HN0.out.2.cell 8 rfl
    go_wp2_with fail
    refine (fsmall_any _ b ws0 (HB.out _ HF0.out)).mono ?_
    rintro e ws1 ⟨r, rfl, hr, hf⟩
    have HF1 : Hid (Fr [] w ws1) := HF0.out.trans hf (by simp)
    have HN1 : Hid (NineF ws1 (w.heap.size) _ ∧ NineF ws1 (w.heap.size + 1) _) := ⟨HN0.out.1.kept hf (by simp), HN0.out.2.kept hf (by simp)⟩
    have HR : Hid (r = true → FewF b) := hr
    clear hf hr HN0 HF0 d0 d1 d2 d3 d4 d5 d6 d7 d8
    cases r with
    | false =>
      go_wp2_with fail
      refine (awake11_any ws1).mono ?_
      rintro e wq ⟨rfl, hf⟩
      have HFQ : Hid (Fr [] w wq) := HF1.out.trans hf (by simp)
      clear hf
      go_wp2
      go_ret
      exact ⟨rfl, HFQ.out.below (Nat.le_refl _) (by simp)⟩
    | true =>
      have HWB : Hid (FewF b) := HR.out rfl
      clear HR
      have La0 : ∀ wx, Fr [] ws1 wx → wx.cell? ⟨w.heap.size, 0, none⟩ = some (.int .i64 a.s) := fun wx hx => hx.cell_some ((HN1.out.1).cell 0 rfl) List.not_mem_nil
      have La1 : ∀ wx, Fr [] ws1 wx → wx.cell? ⟨w.heap.size, 1, none⟩ = some (.int .u64 a.z) := fun wx hx => hx.cell_some ((HN1.out.1).cell 1 rfl) List.not_mem_nil
      have La2 : ∀ wx, Fr [] ws1 wx → wx.cell? ⟨w.heap.size, 2, none⟩ = some (.int .u64 a.zc) := fun wx hx => hx.cell_some ((HN1.out.1).cell 2 rfl) List.not_mem_nil
      have La3 : ∀ wx, Fr [] ws1 wx → wx.cell? ⟨w.heap.size, 3, none⟩ = some (.int .u64 a.c) := fun wx hx => hx.cell_some ((HN1.out.1).cell 3 rfl) List.not_mem_nil
      have La4 : ∀ wx, Fr [] ws1 wx → wx.cell? ⟨w.heap.size, 4, none⟩ = some (.int .u64 a.sm) := fun wx hx => hx.cell_some ((HN1.out.1).cell 4 rfl) List.not_mem_nil
      have La5 : ∀ wx, Fr [] ws1 wx → wx.cell? ⟨w.heap.size, 5, none⟩ = some (.slice poa a.P.length pca) := fun wx hx => hx.cell_some ((HN1.out.1).cell 5 rfl) List.not_mem_nil
      have La6 : ∀ wx, Fr [] ws1 wx → wx.cell? ⟨w.heap.size, 6, none⟩ = some (.slice noa a.N.length nca) := fun wx hx => hx.cell_some ((HN1.out.1).cell 6 rfl) List.not_mem_nil
      have La7 : ∀ wx, Fr [] ws1 wx → wx.cell? ⟨w.heap.size, 7, none⟩ = some (.slice qoa a.pd.length qca) := fun wx hx => hx.cell_some ((HN1.out.1).cell 7 rfl) List.not_mem_nil
      have La8 : ∀ wx, Fr [] ws1 wx → wx.cell? ⟨w.heap.size, 8, none⟩ = some (.slice roa a.nd.length rca) := fun wx hx => hx.cell_some ((HN1.out.1).cell 8 rfl) List.not_mem_nil
      have Lb0 : ∀ wx, Fr [] ws1 wx → wx.cell? ⟨w.heap.size + 1, 0, none⟩ = some (.int .i64 b.s) := fun wx hx => hx.cell_some ((HN1.out.2).cell 0 rfl) List.not_mem_nil
      have Lb1 : ∀ wx, Fr [] ws1 wx → wx.cell? ⟨w.heap.size + 1, 1, none⟩ = some (.int .u64 b.z) := fun wx hx => hx.cell_some ((HN1.out.2).cell 1 rfl) List.not_mem_nil
      have Lb2 : ∀ wx, Fr [] ws1 wx → wx.cell? ⟨w.heap.size + 1, 2, none⟩ = some (.int .u64 b.zc) := fun wx hx => hx.cell_some ((HN1.out.2).cell 2 rfl) List.not_mem_nil
      have Lb3 : ∀ wx, Fr [] ws1 wx → wx.cell? ⟨w.heap.size + 1, 3, none⟩ = some (.int .u64 b.c) := fun wx hx => hx.cell_some ((HN1.out.2).cell 3 rfl) List.not_mem_nil
      have Lb4 : ∀ wx, Fr [] ws1 wx → wx.cell? ⟨w.heap.size + 1, 4, none⟩ = some (.int .u64 b.sm) := fun wx hx => hx.cell_some ((HN1.out.2).cell 4 rfl) List.not_mem_nil
      have Lb5 : ∀ wx, Fr [] ws1 wx → wx.cell? ⟨w.heap.size + 1, 5, none⟩ = some (.slice pob b.P.length pcb) := fun wx hx => hx.cell_some ((HN1.out.2).cell 5 rfl) List.not_mem_nil
      have Lb6 : ∀ wx, Fr [] ws1 wx → wx.cell? ⟨w.heap.size + 1, 6, none⟩ = some (.slice nob b.N.length ncb) := fun wx hx => hx.cell_some ((HN1.out.2).cell 6 rfl) List.not_mem_nil
      have Lb7 : ∀ wx, Fr [] ws1 wx → wx.cell? ⟨w.heap.size + 1, 7, none⟩ = some (.slice qob b.pd.length qcb) := fun wx hx => hx.cell_some ((HN1.out.2).cell 7 rfl) List.not_mem_nil
      have Lb8 : ∀ wx, Fr [] ws1 wx → wx.cell? ⟨w.heap.size + 1, 8, none⟩ = some (.slice rob b.nd.length rcb) := fun wx hx => hx.cell_some ((HN1.out.2).cell 8 rfl) List.not_mem_nil
      have HLA : Hid (a.P.length ≤ 1024 ∧ a.N.length ≤ 1024) := fewF_le HWA.out
      have HLB : Hid (b.P.length ≤ 1024 ∧ b.N.length ≤ 1024) := fewF_le HWB.out
      by_cases hca : fce a = 0
      case neg =>
        have HE : Hid (rfv a b = (0, 0) ∧ rfe a b = fce a) := rvF_a hca
        have F0 : Fr [] ws1 ws1 := Fr.refl _ _
        go_wp2_with fail
        refine (rfloats_any _ _ a b ws1 (HA.out _ (HF1.out.trans F0 (by simp))) (HB.out _ (HF1.out.trans F0 (by simp)))).mono ?_
        rintro e u0 ⟨rfl, f⟩
        rw [HE.out.1, HE.out.2]
        have HV : Hid ((u0.alloc (.cells #[.int .i64 0, .int .i64 0] 30)).heap[u0.heap.size]? = some (.cells #[.int .i64 0, .int .i64 0] 30 (0, 0)) ∧ Fr [] ws1 (u0.alloc (.cells #[.int .i64 0, .int .i64 0] 30))) := ⟨heap_alloc_new _ _, (F0.trans f (by simp)).alloc _⟩
        clear f
        go_upto_region 4 with fail
        generalize u0.alloc (.cells _ _) = wV at HV ⊢
        generalize u0.heap.size = GV at HV ⊢
        have HQV : Hid (Fr [] ws1 wV) := HV.out.2
        have HFB1 : Hid (Fr [] w wV) := HF1.out.trans HQV.out (by simp)
        have Na0 : ∀ wx, Fr [] wV wx → wx.cell? ⟨w.heap.size, 0, none⟩ = some (.int .i64 a.s) := fun wx hx => La0 wx (HQV.out.trans hx (by simp))
        have Na1 : ∀ wx, Fr [] wV wx → wx.cell? ⟨w.heap.size, 1, none⟩ = some (.int .u64 a.z) := fun wx hx => La1 wx (HQV.out.trans hx (by simp))
        have Na2 : ∀ wx, Fr [] wV wx → wx.cell? ⟨w.heap.size, 2, none⟩ = some (.int .u64 a.zc) := fun wx hx => La2 wx (HQV.out.trans hx (by simp))
        have Na3 : ∀ wx, Fr [] wV wx → wx.cell? ⟨w.heap.size, 3, none⟩ = some (.int .u64 a.c) := fun wx hx => La3 wx (HQV.out.trans hx (by simp))
        have Na4 : ∀ wx, Fr [] wV wx → wx.cell? ⟨w.heap.size, 4, none⟩ = some (.int .u64 a.sm) := fun wx hx => La4 wx (HQV.out.trans hx (by simp))
        have Na5 : ∀ wx, Fr [] wV wx → wx.cell? ⟨w.heap.size, 5, none⟩ = some (.slice poa a.P.length pca) := fun wx hx => La5 wx (HQV.out.trans hx (by simp))
        have Na6 : ∀ wx, Fr [] wV wx → wx.cell? ⟨w.heap.size, 6, none⟩ = some (.slice noa a.N.length nca) := fun wx hx => La6 wx (HQV.out.trans hx (by simp))
        have Na7 : ∀ wx, Fr [] wV wx → wx.cell? ⟨w.heap.size, 7, none⟩ = some (.slice qoa a.pd.length qca) := fun wx hx => La7 wx (HQV.out.trans hx (by simp))
        have Na8 : ∀ wx, Fr [] wV wx → wx.cell? ⟨w.heap.size, 8, none⟩ = some (.slice roa a.nd.length rca) := fun wx hx => La8 wx (HQV.out.trans hx (by simp))
        have Nb0 : ∀ wx, Fr [] wV wx → wx.cell? ⟨w.heap.size + 1, 0, none⟩ = some (.int .i64 b.s) := fun wx hx => Lb0 wx (HQV.out.trans hx (by simp))
        have Nb1 : ∀ wx, Fr [] wV wx → wx.cell? ⟨w.heap.size + 1, 1, none⟩ = some (.int .u64 b.z) := fun wx hx => Lb1 wx (HQV.out.trans hx (by simp))
        have Nb2 : ∀ wx, Fr [] wV wx → wx.cell? ⟨w.heap.size + 1, 2, none⟩ = some (.int .u64 b.zc) := fun wx hx => Lb2 wx (HQV.out.trans hx (by simp))
        have Nb3 : ∀ wx, Fr [] wV wx → wx.cell? ⟨w.heap.size + 1, 3, none⟩ = some (.int .u64 b.c) := fun wx hx => Lb3 wx (HQV.out.trans hx (by simp))
        have Nb4 : ∀ wx, Fr [] wV wx → wx.cell? ⟨w.heap.size + 1, 4, none⟩ = some (.int .u64 b.sm) := fun wx hx => Lb4 wx (HQV.out.trans hx (by simp))
        have Nb5 : ∀ wx, Fr [] wV wx → wx.cell? ⟨w.heap.size + 1, 5, none⟩ = some (.slice pob b.P.length pcb) := fun wx hx => Lb5 wx (HQV.out.trans hx (by simp))
        have Nb6 : ∀ wx, Fr [] wV wx → wx.cell? ⟨w.heap.size + 1, 6, none⟩ = some (.slice nob b.N.length ncb) := fun wx hx => Lb6 wx (HQV.out.trans hx (by simp))
        have Nb7 : ∀ wx, Fr [] wV wx → wx.cell? ⟨w.heap.size + 1, 7, none⟩ = some (.slice qob b.pd.length qcb) := fun wx hx => Lb7 wx (HQV.out.trans hx (by simp))
        have Nb8 : ∀ wx, Fr [] wV wx → wx.cell? ⟨w.heap.size + 1, 8, none⟩ = some (.slice rob b.nd.length rcb) := fun wx hx => Lb8 wx (HQV.out.trans hx (by simp))
        clear La0 La1 La2 La3 La4 La5 La6 La7 La8 Lb0 Lb1 Lb2 Lb3 Lb4 Lb5 Lb6 Lb7 Lb8 F0
        have La0 := Na0
        have La1 := Na1
        have La2 := Na2
        have La3 := Na3
        have La4 := Na4
        have La5 := Na5
        have La6 := Na6
        have La7 := Na7
        have La8 := Na8
        have Lb0 := Nb0
        have Lb1 := Nb1
        have Lb2 := Nb2
        have Lb3 := Nb3
        have Lb4 := Nb4
        have Lb5 := Nb5
        have Lb6 := Nb6
        have Lb7 := Nb7
        have Lb8 := Nb8
        clear Na0 Na1 Na2 Na3 Na4 Na5 Na6 Na7 Na8 Nb0 Nb1 Nb2 Nb3 Nb4 Nb5 Nb6 Nb7 Nb8
        have F0 : Fr [] wV wV := Fr.refl _ _
        have LV0 : ∀ wx, Fr [] wV wx → wx.cell? ⟨GV, 0, none⟩ = some (.int .i64 0) := fun wx hx => hx.cell_some (cell_at HV.out.1 0) List.not_mem_nil
        have LV1 : ∀ wx, Fr [] wV wx → wx.cell? ⟨GV, 1, none⟩ = some (.int .i64 0) := fun wx hx => hx.cell_some (cell_at HV.out.1 1) List.not_mem_nil
        go_wp2_with fail
        refine (fref_any _ a wV (HA.out _ (HFB1.out.trans F0 (by simp))) HLA.out).mono ?_
        rintro e u1 ⟨v, rfl, hv, f⟩
        have HV1 : Hid (FSrc u1 v a) := hv
        obtain ⟨ka1, la1, kb1, lb1, kc1, lc1, kd1, ld1, rfl, _⟩ := hv.opens
        clear hv
        have f1 : Fr [] wV u1 := F0.trans f (by simp)
        clear f F0
        go_wp2_with fail
        refine (lcheck10_any _ a u1 HV1.out).mono ?_
        rintro e u2 ⟨rfl, f⟩
        have f2 : Fr [] wV u2 := f1.trans f (by simp)
        clear f f1 HV1
        have d1 : (fce a == 0) = false := by simpa using hca
        have d2 : (fce a != 0) = true := by simpa using hca
        go_wp2_with fail
        refine (awake11_any u2).mono ?_
        rintro e u3 ⟨rfl, f⟩
        have f3 : Fr [] wV u3 := f2.trans f (by simp)
        clear f f2
        go_wp2
        go_ret
        exact ⟨rfl, (HFB1.out.trans f3 (by simp)).below (Nat.le_refl _) (by simp)⟩
      by_cases hcb : fce b = 0
      case neg =>
        have HE : Hid (rfv a b = (0, 0) ∧ rfe a b = fce b) := rvF_b hca hcb
        have F0 : Fr [] ws1 ws1 := Fr.refl _ _
        go_wp2_with fail
        refine (rfloats_any _ _ a b ws1 (HA.out _ (HF1.out.trans F0 (by simp))) (HB.out _ (HF1.out.trans F0 (by simp)))).mono ?_
        rintro e u0 ⟨rfl, f⟩
        rw [HE.out.1, HE.out.2]
        have HV : Hid ((u0.alloc (.cells #[.int .i64 0, .int .i64 0] 30)).heap[u0.heap.size]? = some (.cells #[.int .i64 0, .int .i64 0] 30 (0, 0)) ∧ Fr [] ws1 (u0.alloc (.cells #[.int .i64 0, .int .i64 0] 30))) := ⟨heap_alloc_new _ _, (F0.trans f (by simp)).alloc _⟩
        clear f
        go_upto_region 4 with fail
        generalize u0.alloc (.cells _ _) = wV at HV ⊢
        generalize u0.heap.size = GV at HV ⊢
        have HQV : Hid (Fr [] ws1 wV) := HV.out.2
        have HFB1 : Hid (Fr [] w wV) := HF1.out.trans HQV.out (by simp)
        have Na0 : ∀ wx, Fr [] wV wx → wx.cell? ⟨w.heap.size, 0, none⟩ = some (.int .i64 a.s) := fun wx hx => La0 wx (HQV.out.trans hx (by simp))
        have Na1 : ∀ wx, Fr [] wV wx → wx.cell? ⟨w.heap.size, 1, none⟩ = some (.int .u64 a.z) := fun wx hx => La1 wx (HQV.out.trans hx (by simp))
        have Na2 : ∀ wx, Fr [] wV wx → wx.cell? ⟨w.heap.size, 2, none⟩ = some (.int .u64 a.zc) := fun wx hx => La2 wx (HQV.out.trans hx (by simp))
        have Na3 : ∀ wx, Fr [] wV wx → wx.cell? ⟨w.heap.size, 3, none⟩ = some (.int .u64 a.c) := fun wx hx => La3 wx (HQV.out.trans hx (by simp))
        have Na4 : ∀ wx, Fr [] wV wx → wx.cell? ⟨w.heap.size, 4, none⟩ = some (.int .u64 a.sm) := fun wx hx => La4 wx (HQV.out.trans hx (by simp))
        have Na5 : ∀ wx, Fr [] wV wx → wx.cell? ⟨w.heap.size, 5, none⟩ = some (.slice poa a.P.length pca) := fun wx hx => La5 wx (HQV.out.trans hx (by simp))
        have Na6 : ∀ wx, Fr [] wV wx → wx.cell? ⟨w.heap.size, 6, none⟩ = some (.slice noa a.N.length nca) := fun wx hx => La6 wx (HQV.out.trans hx (by simp))
        have Na7 : ∀ wx, Fr [] wV wx → wx.cell? ⟨w.heap.size, 7, none⟩ = some (.slice qoa a.pd.length qca) := fun wx hx => La7 wx (HQV.out.trans hx (by simp))
        have Na8 : ∀ wx, Fr [] wV wx → wx.cell? ⟨w.heap.size, 8, none⟩ = some (.slice roa a.nd.length rca) := fun wx hx => La8 wx (HQV.out.trans hx (by simp))
        have Nb0 : ∀ wx, Fr [] wV wx → wx.cell? ⟨w.heap.size + 1, 0, none⟩ = some (.int .i64 b.s) := fun wx hx => Lb0 wx (HQV.out.trans hx (by simp))
        have Nb1 : ∀ wx, Fr [] wV wx → wx.cell? ⟨w.heap.size + 1, 1, none⟩ = some (.int .u64 b.z) := fun wx hx => Lb1 wx (HQV.out.trans hx (by simp))
        have Nb2 : ∀ wx, Fr [] wV wx → wx.cell? ⟨w.heap.size + 1, 2, none⟩ = some (.int .u64 b.zc) := fun wx hx => Lb2 wx (HQV.out.trans hx (by simp))
        have Nb3 : ∀ wx, Fr [] wV wx → wx.cell? ⟨w.heap.size + 1, 3, none⟩ = some (.int .u64 b.c) := fun wx hx => Lb3 wx (HQV.out.trans hx (by simp))
        have Nb4 : ∀ wx, Fr [] wV wx → wx.cell? ⟨w.heap.size + 1, 4, none⟩ = some (.int .u64 b.sm) := fun wx hx => Lb4 wx (HQV.out.trans hx (by simp))
        have Nb5 : ∀ wx, Fr [] wV wx → wx.cell? ⟨w.heap.size + 1, 5, none⟩ = some (.slice pob b.P.length pcb) := fun wx hx => Lb5 wx (HQV.out.trans hx (by simp))
        have Nb6 : ∀ wx, Fr [] wV wx → wx.cell? ⟨w.heap.size + 1, 6, none⟩ = some (.slice nob b.N.length ncb) := fun wx hx => Lb6 wx (HQV.out.trans hx (by simp))
        have Nb7 : ∀ wx, Fr [] wV wx → wx.cell? ⟨w.heap.size + 1, 7, none⟩ = some (.slice qob b.pd.length qcb) := fun wx hx => Lb7 wx (HQV.out.trans hx (by simp))
        have Nb8 : ∀ wx, Fr [] wV wx → wx.cell? ⟨w.heap.size + 1, 8, none⟩ = some (.slice rob b.nd.length rcb) := fun wx hx => Lb8 wx (HQV.out.trans hx (by simp))
        clear La0 La1 La2 La3 La4 La5 La6 La7 La8 Lb0 Lb1 Lb2 Lb3 Lb4 Lb5 Lb6 Lb7 Lb8 F0
        have La0 := Na0
        have La1 := Na1
        have La2 := Na2
        have La3 := Na3
        have La4 := Na4
        have La5 := Na5
        have La6 := Na6
        have La7 := Na7
        have La8 := Na8
        have Lb0 := Nb0
        have Lb1 := Nb1
        have Lb2 := Nb2
        have Lb3 := Nb3
        have Lb4 := Nb4
        have Lb5 := Nb5
        have Lb6 := Nb6
        have Lb7 := Nb7
        have Lb8 := Nb8
        clear Na0 Na1 Na2 Na3 Na4 Na5 Na6 Na7 Na8 Nb0 Nb1 Nb2 Nb3 Nb4 Nb5 Nb6 Nb7 Nb8
        have F0 : Fr [] wV wV := Fr.refl _ _
        have LV0 : ∀ wx, Fr [] wV wx → wx.cell? ⟨GV, 0, none⟩ = some (.int .i64 0) := fun wx hx => hx.cell_some (cell_at HV.out.1 0) List.not_mem_nil
        have LV1 : ∀ wx, Fr [] wV wx → wx.cell? ⟨GV, 1, none⟩ = some (.int .i64 0) := fun wx hx => hx.cell_some (cell_at HV.out.1 1) List.not_mem_nil
        go_wp2_with fail
        refine (fref_any _ a wV (HA.out _ (HFB1.out.trans F0 (by simp))) HLA.out).mono ?_
        rintro e u1 ⟨v, rfl, hv, f⟩
        have HV1 : Hid (FSrc u1 v a) := hv
        obtain ⟨ka1, la1, kb1, lb1, kc1, lc1, kd1, ld1, rfl, _⟩ := hv.opens
        clear hv
        have f1 : Fr [] wV u1 := F0.trans f (by simp)
        clear f F0
        go_wp2_with fail
        refine (lcheck10_any _ a u1 HV1.out).mono ?_
        rintro e u2 ⟨rfl, f⟩
        rw [hca]
        have f2 : Fr [] wV u2 := f1.trans f (by simp)
        clear f f1 HV1
        go_wp2_with fail
        refine (fref_any _ b u2 (HB.out _ (HFB1.out.trans f2 (by simp))) HLB.out).mono ?_
        rintro e u3 ⟨v, rfl, hv, f⟩
        have HV3 : Hid (FSrc u3 v b) := hv
        obtain ⟨ka3, la3, kb3, lb3, kc3, lc3, kd3, ld3, rfl, _⟩ := hv.opens
        clear hv
        have f3 : Fr [] wV u3 := f2.trans f (by simp)
        clear f f2
        go_wp2_with fail
        refine (lcheck10_any _ b u3 HV3.out).mono ?_
        rintro e u4 ⟨rfl, f⟩
        have f4 : Fr [] wV u4 := f3.trans f (by simp)
        clear f f3 HV3
        have d2 : (fce b != 0) = true := by simpa using hcb
        go_wp2_with fail
        refine (awake11_any u4).mono ?_
        rintro e u5 ⟨rfl, f⟩
        have f5 : Fr [] wV u5 := f4.trans f (by simp)
        clear f f4
        go_wp2
        go_ret
        exact ⟨rfl, (HFB1.out.trans f5 (by simp)).below (Nat.le_refl _) (by simp)⟩
      obtain ⟨x, y, hxy⟩ : ∃ x y, vrd (ctF a) (ctF b) = (x, y) := ⟨_, _, rfl⟩
      obtain ⟨z, t, hzt⟩ : ∃ z t, vrd (ctF b) (ctF a) = (z, t) := ⟨_, _, rfl⟩
      have HE : Hid (rfv a b = (x, y) ∧ rfe a b = 0) := ⟨by rw [(rvF_ok hca hcb).1, hxy], (rvF_ok hca hcb).2⟩
      have HXY : Hid (vrd (ctF a) (ctF b) = (x, y) ∧ vrd (ctF b) (ctF a) = (z, t)) := ⟨hxy, hzt⟩
      clear hxy hzt
      have F0 : Fr [] ws1 ws1 := Fr.refl _ _
      go_wp2_with fail
      refine (rfloats_any _ _ a b ws1 (HA.out _ (HF1.out.trans F0 (by simp))) (HB.out _ (HF1.out.trans F0 (by simp)))).mono ?_
      rintro e u0 ⟨rfl, f⟩
      rw [HE.out.1, HE.out.2]
      have HV : Hid ((u0.alloc (.cells #[.int .i64 x, .int .i64 y] 30)).heap[u0.heap.size]? = some (.cells #[.int .i64 x, .int .i64 y] 30 (0, 0)) ∧ Fr [] ws1 (u0.alloc (.cells #[.int .i64 x, .int .i64 y] 30))) := ⟨heap_alloc_new _ _, (F0.trans f (by simp)).alloc _⟩
      clear f
      go_upto_region 4 with fail
      generalize u0.alloc (.cells _ _) = wV at HV ⊢
      generalize u0.heap.size = GV at HV ⊢
      have HQV : Hid (Fr [] ws1 wV) := HV.out.2
      have HFB1 : Hid (Fr [] w wV) := HF1.out.trans HQV.out (by simp)
      have Na0 : ∀ wx, Fr [] wV wx → wx.cell? ⟨w.heap.size, 0, none⟩ = some (.int .i64 a.s) := fun wx hx => La0 wx (HQV.out.trans hx (by simp))
      have Na1 : ∀ wx, Fr [] wV wx → wx.cell? ⟨w.heap.size, 1, none⟩ = some (.int .u64 a.z) := fun wx hx => La1 wx (HQV.out.trans hx (by simp))
      have Na2 : ∀ wx, Fr [] wV wx → wx.cell? ⟨w.heap.size, 2, none⟩ = some (.int .u64 a.zc) := fun wx hx => La2 wx (HQV.out.trans hx (by simp))
      have Na3 : ∀ wx, Fr [] wV wx → wx.cell? ⟨w.heap.size, 3, none⟩ = some (.int .u64 a.c) := fun wx hx => La3 wx (HQV.out.trans hx (by simp))
      have Na4 : ∀ wx, Fr [] wV wx → wx.cell? ⟨w.heap.size, 4, none⟩ = some (.int .u64 a.sm) := fun wx hx => La4 wx (HQV.out.trans hx (by simp))
      have Na5 : ∀ wx, Fr [] wV wx → wx.cell? ⟨w.heap.size, 5, none⟩ = some (.slice poa a.P.length pca) := fun wx hx => La5 wx (HQV.out.trans hx (by simp))
      have Na6 : ∀ wx, Fr [] wV wx → wx.cell? ⟨w.heap.size, 6, none⟩ = some (.slice noa a.N.length nca) := fun wx hx => La6 wx (HQV.out.trans hx (by simp))
      have Na7 : ∀ wx, Fr [] wV wx → wx.cell? ⟨w.heap.size, 7, none⟩ = some (.slice qoa a.pd.length qca) := fun wx hx => La7 wx (HQV.out.trans hx (by simp))
      have Na8 : ∀ wx, Fr [] wV wx → wx.cell? ⟨w.heap.size, 8, none⟩ = some (.slice roa a.nd.length rca) := fun wx hx => La8 wx (HQV.out.trans hx (by simp))
      have Nb0 : ∀ wx, Fr [] wV wx → wx.cell? ⟨w.heap.size + 1, 0, none⟩ = some (.int .i64 b.s) := fun wx hx => Lb0 wx (HQV.out.trans hx (by simp))
      have Nb1 : ∀ wx, Fr [] wV wx → wx.cell? ⟨w.heap.size + 1, 1, none⟩ = some (.int .u64 b.z) := fun wx hx => Lb1 wx (HQV.out.trans hx (by simp))
      have Nb2 : ∀ wx, Fr [] wV wx → wx.cell? ⟨w.heap.size + 1, 2, none⟩ = some (.int .u64 b.zc) := fun wx hx => Lb2 wx (HQV.out.trans hx (by simp))
      have Nb3 : ∀ wx, Fr [] wV wx → wx.cell? ⟨w.heap.size + 1, 3, none⟩ = some (.int .u64 b.c) := fun wx hx => Lb3 wx (HQV.out.trans hx (by simp))
      have Nb4 : ∀ wx, Fr [] wV wx → wx.cell? ⟨w.heap.size + 1, 4, none⟩ = some (.int .u64 b.sm) := fun wx hx => Lb4 wx (HQV.out.trans hx (by simp))
      have Nb5 : ∀ wx, Fr [] wV wx → wx.cell? ⟨w.heap.size + 1, 5, none⟩ = some (.slice pob b.P.length pcb) := fun wx hx => Lb5 wx (HQV.out.trans hx (by simp))
      have Nb6 : ∀ wx, Fr [] wV wx → wx.cell? ⟨w.heap.size + 1, 6, none⟩ = some (.slice nob b.N.length ncb) := fun wx hx => Lb6 wx (HQV.out.trans hx (by simp))
      have Nb7 : ∀ wx, Fr [] wV wx → wx.cell? ⟨w.heap.size + 1, 7, none⟩ = some (.slice qob b.pd.length qcb) := fun wx hx => Lb7 wx (HQV.out.trans hx (by simp))
      have Nb8 : ∀ wx, Fr [] wV wx → wx.cell? ⟨w.heap.size + 1, 8, none⟩ = some (.slice rob b.nd.length rcb) := fun wx hx => Lb8 wx (HQV.out.trans hx (by simp))
      clear La0 La1 La2 La3 La4 La5 La6 La7 La8 Lb0 Lb1 Lb2 Lb3 Lb4 Lb5 Lb6 Lb7 Lb8 F0
      have La0 := Na0
      have La1 := Na1
      have La2 := Na2
      have La3 := Na3
      have La4 := Na4
      have La5 := Na5
      have La6 := Na6
      have La7 := Na7
      have La8 := Na8
      have Lb0 := Nb0
      have Lb1 := Nb1
      have Lb2 := Nb2
      have Lb3 := Nb3
      have Lb4 := Nb4
      have Lb5 := Nb5
      have Lb6 := Nb6
      have Lb7 := Nb7
      have Lb8 := Nb8
      clear Na0 Na1 Na2 Na3 Na4 Na5 Na6 Na7 Na8 Nb0 Nb1 Nb2 Nb3 Nb4 Nb5 Nb6 Nb7 Nb8
      have F0 : Fr [] wV wV := Fr.refl _ _
      have LV0 : ∀ wx, Fr [] wV wx → wx.cell? ⟨GV, 0, none⟩ = some (.int .i64 x) := fun wx hx => hx.cell_some (cell_at HV.out.1 0) List.not_mem_nil
      have LV1 : ∀ wx, Fr [] wV wx → wx.cell? ⟨GV, 1, none⟩ = some (.int .i64 y) := fun wx hx => hx.cell_some (cell_at HV.out.1 1) List.not_mem_nil
      go_wp2_with fail
      refine (fref_any _ a wV (HA.out _ (HFB1.out.trans F0 (by simp))) HLA.out).mono ?_
      rintro e u1 ⟨v, rfl, hv, f⟩
      have HV1 : Hid (FSrc u1 v a) := hv
      obtain ⟨ka1, la1, kb1, lb1, kc1, lc1, kd1, ld1, rfl, _⟩ := hv.opens
      clear hv
      have f1 : Fr [] wV u1 := F0.trans f (by simp)
      clear f F0
      go_wp2_with fail
      refine (lcheck10_any _ a u1 HV1.out).mono ?_
      rintro e u2 ⟨rfl, f⟩
      rw [hca]
      have f2 : Fr [] wV u2 := f1.trans f (by simp)
      clear f f1 HV1
      go_wp2_with fail
      refine (fref_any _ b u2 (HB.out _ (HFB1.out.trans f2 (by simp))) HLB.out).mono ?_
      rintro e u3 ⟨v, rfl, hv, f⟩
      have HV3 : Hid (FSrc u3 v b) := hv
      obtain ⟨ka3, la3, kb3, lb3, kc3, lc3, kd3, ld3, rfl, _⟩ := hv.opens
      clear hv
      have f3 : Fr [] wV u3 := f2.trans f (by simp)
      clear f f2
      go_wp2_with fail
      refine (lcheck10_any _ b u3 HV3.out).mono ?_
      rintro e u4 ⟨rfl, f⟩
      rw [hcb]
      have f4 : Fr [] wV u4 := f3.trans f (by simp)
      clear f f3 HV3
      have HRa : Hid (∀ wx, Fr [] wV wx → Calls Try.prog 19 #[.agg #[.int .i64 a.s, .int .u64 a.z, .int .u64 a.zc, .int .u64 a.c, .int .u64 a.sm, .slice poa a.P.length pca, .slice noa a.N.length nca, .slice qoa a.pd.length qca, .slice roa a.nd.length rca]] wx fun e w' => ∃ u, e = .returned u ∧ FSrc w' u a ∧ Fr [] wV w' ∧ Fr [] wx w') := by
        intro wx hx
        refine (fref_any _ a wx (HA.out _ (HFB1.out.trans hx (by simp))) HLA.out).mono ?_
        rintro e w' ⟨u, rfl, hu, hf⟩
        exact ⟨u, rfl, hu, hx.trans hf (by simp), hf⟩
      have HRb : Hid (∀ wx, Fr [] wV wx → Calls Try.prog 19 #[.agg #[.int .i64 b.s, .int .u64 b.z, .int .u64 b.zc, .int .u64 b.c, .int .u64 b.sm, .slice pob b.P.length pcb, .slice nob b.N.length ncb, .slice qob b.pd.length qcb, .slice rob b.nd.length rcb]] wx fun e w' => ∃ u, e = .returned u ∧ FSrc w' u b ∧ Fr [] wV w' ∧ Fr [] wx w') := by
        intro wx hx
        refine (fref_any _ b wx (HB.out _ (HFB1.out.trans hx (by simp))) HLB.out).mono ?_
        rintro e w' ⟨u, rfl, hu, hf⟩
        exact ⟨u, rfl, hu, hx.trans hf (by simp), hf⟩
      have HIa : Hid (∀ wx u u2, Fr [] wV wx → FSrc wx u a → FSrc wx u2 b → Calls Try.prog 20 #[u, u2] wx fun e w' => e = .returned (.tuple #[.int .i64 x, .int .i64 y]) ∧ Fr [] wV w') := by
        intro wx u u2 hx hu hu2
        refine (lfloats11_any _ _ a b wx hu hu2 hca hcb).mono ?_
        rintro e w' ⟨rfl, hf⟩
        exact ⟨by rw [HXY.out.1], hx.trans hf (by simp)⟩
      have HIb : Hid (∀ wx u u2, Fr [] wV wx → FSrc wx u b → FSrc wx u2 a → Calls Try.prog 20 #[u, u2] wx fun e w' => e = .returned (.tuple #[.int .i64 z, .int .i64 t]) ∧ Fr [] wV w') := by
        intro wx u u2 hx hu hu2
        refine (lfloats11_any _ _ b a wx hu hu2 hcb hca).mono ?_
        rintro e w' ⟨rfl, hf⟩
        exact ⟨by rw [HXY.out.2], hx.trans hf (by simp)⟩
      have FD : Fr [] wV (u4).drew := f4.drew
      go_wp2_with fail
      go_region_held3 (fun w' => w'.cell? ⟨w.heap.size, 0, none⟩ = some (.int .i64 a.s) ∧ w'.cell? ⟨w.heap.size, 1, none⟩ = some (.int .u64 a.z) ∧ w'.cell? ⟨w.heap.size, 2, none⟩ = some (.int .u64 a.zc) ∧ w'.cell? ⟨w.heap.size, 3, none⟩ = some (.int .u64 a.c) ∧ w'.cell? ⟨w.heap.size, 4, none⟩ = some (.int .u64 a.sm) ∧ w'.cell? ⟨w.heap.size, 5, none⟩ = some (.slice poa a.P.length pca) ∧ w'.cell? ⟨w.heap.size, 6, none⟩ = some (.slice noa a.N.length nca) ∧ w'.cell? ⟨w.heap.size, 7, none⟩ = some (.slice qoa a.pd.length qca) ∧ w'.cell? ⟨w.heap.size, 8, none⟩ = some (.slice roa a.nd.length rca) ∧ w'.cell? ⟨w.heap.size + 1, 0, none⟩ = some (.int .i64 b.s) ∧ w'.cell? ⟨w.heap.size + 1, 1, none⟩ = some (.int .u64 b.z) ∧ w'.cell? ⟨w.heap.size + 1, 2, none⟩ = some (.int .u64 b.zc) ∧ w'.cell? ⟨w.heap.size + 1, 3, none⟩ = some (.int .u64 b.c) ∧ w'.cell? ⟨w.heap.size + 1, 4, none⟩ = some (.int .u64 b.sm) ∧ w'.cell? ⟨w.heap.size + 1, 5, none⟩ = some (.slice pob b.P.length pcb) ∧ w'.cell? ⟨w.heap.size + 1, 6, none⟩ = some (.slice nob b.N.length ncb) ∧ w'.cell? ⟨w.heap.size + 1, 7, none⟩ = some (.slice qob b.pd.length qcb) ∧ w'.cell? ⟨w.heap.size + 1, 8, none⟩ = some (.slice rob b.nd.length rcb)) (go_keep) (first
        | (go_at_call 19; first
          | (with_reducible refine (HRa.out _ FD).mono ?_; rintro e wa1 ⟨ua1, rfl, hua1, hfa1, hxa1⟩)
          | (with_reducible refine (HRb.out _ hfa1).mono ?_; rintro e wb1 ⟨ub1, rfl, hub1, hfb1, hxb1⟩))
        | (go_at_call 20; with_reducible refine (HIa.out _ _ _ hfb1 (hua1.kept hxb1) hub1).mono ?_; rintro e wc1 ⟨rfl, hfc1⟩))
      clear FD f4 hfa1 hxa1 hfb1 hxb1 hua1 hub1
      go_wp2_with fail
      refine (awake11_any wc1).mono ?_
      rintro e u5 ⟨rfl, f⟩
      have f5 : Fr [] wV u5 := hfc1.trans f (by simp)
      clear f hfc1
      go_wp2
      go_ret
      exact ⟨rfl, (HFB1.out.trans f5 (by simp)).below (Nat.le_refl _) (by simp)⟩
end Go.Proofs.Ytnfbmdniomelnaa
