/-
  ResetGoes: the walk.
-/
import Derived.Test.YtnfbmdniomelnaaGI
import Derived.Test.YtnfbmdniomelnaaGK
namespace Go.Proofs.Ytnfbmdniomelnaa
open Go.RowKit Mem Spans
set_option linter.unusedSimpArgs false
set_option linter.unusedVariables false
set_option maxRecDepth 100000

set_option maxHeartbeats 16000000 in
theorem resetgoes_walk (v0 : Value) (a : Hs) (v1 : Value) (b : Hs) (v2 : Value) (c : Hs) (w : World) (w0 : HSrc w v0 a) (w1 : HSrc w v1 b) (w2 : HSrc w v2 c) : Calls Try.prog 5 #[v0, v1, v2] w fun e w' => e = .returned (.bool true) ∧ Below w.heap.size w w' := by
  have HA : Hid (∀ wx, Fr [] w wx → HSrc wx v0 a) := fun wx hx => w0.kept hx
  have HB : Hid (∀ wx, Fr [] w wx → HSrc wx v1 b) := fun wx hx => w1.kept hx
  have HC : Hid (∀ wx, Fr [] w wx → HSrc wx v2 c) := fun wx hx => w2.kept hx
  obtain ⟨poa, pca, noa, nca, qoa, qca, roa, rca, rfl, _⟩ := w0.opens
  obtain ⟨pob, pcb, nob, ncb, qob, qcb, rob, rcb, rfl, _⟩ := w1.opens
  obtain ⟨poc, pcc, noc, ncc, qoc, qcc, roc, rcc, rfl, _⟩ := w2.opens
  clear w0 w1 w2
  go_enter Try.func5, Try.ntmps5
  obtain ⟨C0, hC0⟩ : ∃ C : Array Value, C = #[.int .i64 a.s, .int .u64 a.z, .int .u64 a.zc, .int .u64 a.c, .int .u64 a.sm, .slice poa a.P.length pca, .slice noa a.N.length nca, .slice qoa a.pd.length qca, .slice roa a.nd.length rca] := ⟨_, rfl⟩
  obtain ⟨C1, hC1⟩ : ∃ C : Array Value, C = #[.int .i64 b.s, .int .u64 b.z, .int .u64 b.zc, .int .u64 b.c, .int .u64 b.sm, .slice pob b.P.length pcb, .slice nob b.N.length ncb, .slice qob b.pd.length qcb, .slice rob b.nd.length rcb] := ⟨_, rfl⟩
  obtain ⟨C2, hC2⟩ : ∃ C : Array Value, C = #[.int .i64 c.s, .int .u64 c.z, .int .u64 c.zc, .int .u64 c.c, .int .u64 c.sm, .slice poc c.P.length pcc, .slice noc c.N.length ncc, .slice qoc c.pd.length qcc, .slice roc c.nd.length rcc] := ⟨_, rfl⟩
  have HZ := entry3H_at w C0 C1 C2
  subst hC0
  subst hC1
  subst hC2
  go_wp2_with fail
  generalize ((w.alloc (.cells _ _)).alloc (.cells _ _)).alloc (.cells _ _) = wA at HZ ⊢
  refine (hsmall_any _ a wA (HA.out _ HZ.out.2.2.2)).mono ?_
  rintro e ws0 ⟨r, rfl, hr, hf⟩
  have HF0 : Hid (Fr [] w ws0) := HZ.out.2.2.2.trans hf (by simp)
  have HN0 : Hid (Nine ws0 (w.heap.size) _ ∧ Nine ws0 (w.heap.size + 1) _ ∧ Nine ws0 (w.heap.size + 1 + 1) _) := ⟨HZ.out.1.kept hf (by simp), HZ.out.2.1.kept hf (by simp), HZ.out.2.2.1.kept hf (by simp)⟩
  have HR : Hid (r = true → Few a) := hr
  clear hf hr HZ
  cases r with
  | false =>
    go_wp2_with fail
    refine (awake11_any ws0).mono ?_
    rintro e wq ⟨rfl, hf⟩
    have HFQ : Hid (Fr [] w wq) := HF0.out.trans hf (by simp)
    clear hf
    go_wp2
    go_ret
    exact ⟨rfl, HFQ.out.below (Nat.le_refl _) (by simp)⟩
  | true =>
    have HWA : Hid (Few a) := HR.out rfl
    clear HR
    have d0 := HN0.out.2.1.cell 0 rfl
    have d1 := HN0.out.2.1.cell 1 rfl
    have d2 := HN0.out.2.1.cell 2 rfl
    have d3 := HN0.out.2.1.cell 3 rfl
    have d4 := HN0.out.2.1.cell 4 rfl
    have d5 := HN0.out.2.1.cell 5 rfl
    have d6 := HN0.out.2.1.cell 6 rfl
    have d7 := HN0.out.2.1.cell 7 rfl
    have d8 := HN0.out.2.1.cell 8 rfl
    go_wp2_with fail
    refine (hsmall_any _ b ws0 (HB.out _ HF0.out)).mono ?_
    rintro e ws1 ⟨r, rfl, hr, hf⟩
    have HF1 : Hid (Fr [] w ws1) := HF0.out.trans hf (by simp)
    have HN1 : Hid (Nine ws1 (w.heap.size) _ ∧ Nine ws1 (w.heap.size + 1) _ ∧ Nine ws1 (w.heap.size + 1 + 1) _) := ⟨HN0.out.1.kept hf (by simp), HN0.out.2.1.kept hf (by simp), HN0.out.2.2.kept hf (by simp)⟩
    have HR : Hid (r = true → Few b) := hr
    clear hf hr HN0 HF0 d0 d1 d2 d3 d4 d5 d6 d7 d8
    cases r with
    | false =>
      go_wp2_with fail
      refine (awake11_any ws1).mono ?_
      rintro e wq ⟨rfl, hf⟩
      have HFQ : Hid (Fr [] w wq) := HF1.out.trans hf (by simp)
      clear hf
      go_wp2
      go_ret
      exact ⟨rfl, HFQ.out.below (Nat.le_refl _) (by simp)⟩
    | true =>
      have HWB : Hid (Few b) := HR.out rfl
      clear HR
      have d0 := HN1.out.2.2.cell 0 rfl
      have d1 := HN1.out.2.2.cell 1 rfl
      have d2 := HN1.out.2.2.cell 2 rfl
      have d3 := HN1.out.2.2.cell 3 rfl
      have d4 := HN1.out.2.2.cell 4 rfl
      have d5 := HN1.out.2.2.cell 5 rfl
      have d6 := HN1.out.2.2.cell 6 rfl
      have d7 := HN1.out.2.2.cell 7 rfl
      have d8 := HN1.out.2.2.cell 8 rfl
      go_wp2_with fail
      refine (hsmall_any _ c ws1 (HC.out _ HF1.out)).mono ?_
      rintro e ws2 ⟨r, rfl, hr, hf⟩
      have HF2 : Hid (Fr [] w ws2) := HF1.out.trans hf (by simp)
      have HN2 : Hid (Nine ws2 (w.heap.size) _ ∧ Nine ws2 (w.heap.size + 1) _ ∧ Nine ws2 (w.heap.size + 1 + 1) _) := ⟨HN1.out.1.kept hf (by simp), HN1.out.2.1.kept hf (by simp), HN1.out.2.2.kept hf (by simp)⟩
      have HR : Hid (r = true → Few c) := hr
      clear hf hr HN1 HF1 d0 d1 d2 d3 d4 d5 d6 d7 d8
      cases r with
      | false =>
        go_wp2_with fail
        refine (awake11_any ws2).mono ?_
        rintro e wq ⟨rfl, hf⟩
        have HFQ : Hid (Fr [] w wq) := HF2.out.trans hf (by simp)
        clear hf
        go_wp2
        go_ret
        exact ⟨rfl, HFQ.out.below (Nat.le_refl _) (by simp)⟩
      | true =>
        have HWC : Hid (Few c) := HR.out rfl
        clear HR
        have La0 : ∀ wx, Fr [] ws2 wx → wx.cell? ⟨w.heap.size, 0, none⟩ = some (.int .i64 a.s) := fun wx hx => hx.cell_some ((HN2.out.1).cell 0 rfl) List.not_mem_nil
        have La1 : ∀ wx, Fr [] ws2 wx → wx.cell? ⟨w.heap.size, 1, none⟩ = some (.int .u64 a.z) := fun wx hx => hx.cell_some ((HN2.out.1).cell 1 rfl) List.not_mem_nil
        have La2 : ∀ wx, Fr [] ws2 wx → wx.cell? ⟨w.heap.size, 2, none⟩ = some (.int .u64 a.zc) := fun wx hx => hx.cell_some ((HN2.out.1).cell 2 rfl) List.not_mem_nil
        have La3 : ∀ wx, Fr [] ws2 wx → wx.cell? ⟨w.heap.size, 3, none⟩ = some (.int .u64 a.c) := fun wx hx => hx.cell_some ((HN2.out.1).cell 3 rfl) List.not_mem_nil
        have La4 : ∀ wx, Fr [] ws2 wx → wx.cell? ⟨w.heap.size, 4, none⟩ = some (.int .u64 a.sm) := fun wx hx => hx.cell_some ((HN2.out.1).cell 4 rfl) List.not_mem_nil
        have La5 : ∀ wx, Fr [] ws2 wx → wx.cell? ⟨w.heap.size, 5, none⟩ = some (.slice poa a.P.length pca) := fun wx hx => hx.cell_some ((HN2.out.1).cell 5 rfl) List.not_mem_nil
        have La6 : ∀ wx, Fr [] ws2 wx → wx.cell? ⟨w.heap.size, 6, none⟩ = some (.slice noa a.N.length nca) := fun wx hx => hx.cell_some ((HN2.out.1).cell 6 rfl) List.not_mem_nil
        have La7 : ∀ wx, Fr [] ws2 wx → wx.cell? ⟨w.heap.size, 7, none⟩ = some (.slice qoa a.pd.length qca) := fun wx hx => hx.cell_some ((HN2.out.1).cell 7 rfl) List.not_mem_nil
        have La8 : ∀ wx, Fr [] ws2 wx → wx.cell? ⟨w.heap.size, 8, none⟩ = some (.slice roa a.nd.length rca) := fun wx hx => hx.cell_some ((HN2.out.1).cell 8 rfl) List.not_mem_nil
        have Lb0 : ∀ wx, Fr [] ws2 wx → wx.cell? ⟨w.heap.size + 1, 0, none⟩ = some (.int .i64 b.s) := fun wx hx => hx.cell_some ((HN2.out.2.1).cell 0 rfl) List.not_mem_nil
        have Lb1 : ∀ wx, Fr [] ws2 wx → wx.cell? ⟨w.heap.size + 1, 1, none⟩ = some (.int .u64 b.z) := fun wx hx => hx.cell_some ((HN2.out.2.1).cell 1 rfl) List.not_mem_nil
        have Lb2 : ∀ wx, Fr [] ws2 wx → wx.cell? ⟨w.heap.size + 1, 2, none⟩ = some (.int .u64 b.zc) := fun wx hx => hx.cell_some ((HN2.out.2.1).cell 2 rfl) List.not_mem_nil
        have Lb3 : ∀ wx, Fr [] ws2 wx → wx.cell? ⟨w.heap.size + 1, 3, none⟩ = some (.int .u64 b.c) := fun wx hx => hx.cell_some ((HN2.out.2.1).cell 3 rfl) List.not_mem_nil
        have Lb4 : ∀ wx, Fr [] ws2 wx → wx.cell? ⟨w.heap.size + 1, 4, none⟩ = some (.int .u64 b.sm) := fun wx hx => hx.cell_some ((HN2.out.2.1).cell 4 rfl) List.not_mem_nil
        have Lb5 : ∀ wx, Fr [] ws2 wx → wx.cell? ⟨w.heap.size + 1, 5, none⟩ = some (.slice pob b.P.length pcb) := fun wx hx => hx.cell_some ((HN2.out.2.1).cell 5 rfl) List.not_mem_nil
        have Lb6 : ∀ wx, Fr [] ws2 wx → wx.cell? ⟨w.heap.size + 1, 6, none⟩ = some (.slice nob b.N.length ncb) := fun wx hx => hx.cell_some ((HN2.out.2.1).cell 6 rfl) List.not_mem_nil
        have Lb7 : ∀ wx, Fr [] ws2 wx → wx.cell? ⟨w.heap.size + 1, 7, none⟩ = some (.slice qob b.pd.length qcb) := fun wx hx => hx.cell_some ((HN2.out.2.1).cell 7 rfl) List.not_mem_nil
        have Lb8 : ∀ wx, Fr [] ws2 wx → wx.cell? ⟨w.heap.size + 1, 8, none⟩ = some (.slice rob b.nd.length rcb) := fun wx hx => hx.cell_some ((HN2.out.2.1).cell 8 rfl) List.not_mem_nil
        have Lc0 : ∀ wx, Fr [] ws2 wx → wx.cell? ⟨w.heap.size + 1 + 1, 0, none⟩ = some (.int .i64 c.s) := fun wx hx => hx.cell_some ((HN2.out.2.2).cell 0 rfl) List.not_mem_nil
        have Lc1 : ∀ wx, Fr [] ws2 wx → wx.cell? ⟨w.heap.size + 1 + 1, 1, none⟩ = some (.int .u64 c.z) := fun wx hx => hx.cell_some ((HN2.out.2.2).cell 1 rfl) List.not_mem_nil
        have Lc2 : ∀ wx, Fr [] ws2 wx → wx.cell? ⟨w.heap.size + 1 + 1, 2, none⟩ = some (.int .u64 c.zc) := fun wx hx => hx.cell_some ((HN2.out.2.2).cell 2 rfl) List.not_mem_nil
        have Lc3 : ∀ wx, Fr [] ws2 wx → wx.cell? ⟨w.heap.size + 1 + 1, 3, none⟩ = some (.int .u64 c.c) := fun wx hx => hx.cell_some ((HN2.out.2.2).cell 3 rfl) List.not_mem_nil
        have Lc4 : ∀ wx, Fr [] ws2 wx → wx.cell? ⟨w.heap.size + 1 + 1, 4, none⟩ = some (.int .u64 c.sm) := fun wx hx => hx.cell_some ((HN2.out.2.2).cell 4 rfl) List.not_mem_nil
        have Lc5 : ∀ wx, Fr [] ws2 wx → wx.cell? ⟨w.heap.size + 1 + 1, 5, none⟩ = some (.slice poc c.P.length pcc) := fun wx hx => hx.cell_some ((HN2.out.2.2).cell 5 rfl) List.not_mem_nil
        have Lc6 : ∀ wx, Fr [] ws2 wx → wx.cell? ⟨w.heap.size + 1 + 1, 6, none⟩ = some (.slice noc c.N.length ncc) := fun wx hx => hx.cell_some ((HN2.out.2.2).cell 6 rfl) List.not_mem_nil
        have Lc7 : ∀ wx, Fr [] ws2 wx → wx.cell? ⟨w.heap.size + 1 + 1, 7, none⟩ = some (.slice qoc c.pd.length qcc) := fun wx hx => hx.cell_some ((HN2.out.2.2).cell 7 rfl) List.not_mem_nil
        have Lc8 : ∀ wx, Fr [] ws2 wx → wx.cell? ⟨w.heap.size + 1 + 1, 8, none⟩ = some (.slice roc c.nd.length rcc) := fun wx hx => hx.cell_some ((HN2.out.2.2).cell 8 rfl) List.not_mem_nil
        obtain ⟨x1, y1, hx1⟩ : ∃ x y, riv a b = (x, y) := ⟨_, _, rfl⟩
        obtain ⟨x2, y2, hx2⟩ : ∃ x y, riv b c = (x, y) := ⟨_, _, rfl⟩
        obtain ⟨x3, y3, hx3⟩ : ∃ x y, riv a c = (x, y) := ⟨_, _, rfl⟩
        obtain ⟨e1, he1⟩ : ∃ e, rie a b = e := ⟨_, rfl⟩
        obtain ⟨e2, he2⟩ : ∃ e, rie b c = e := ⟨_, rfl⟩
        obtain ⟨e3, he3⟩ : ∃ e, rie a c = e := ⟨_, rfl⟩
        have HG : Hid (e1 = 0 → e2 = 0 → x1 = 0 → x2 = 0 → e3 = 0 ∧ x3 = 0) := by
          intro k1 k2 k3 k4
          have := goes_on (he1.trans k1) (he2.trans k2) (by rw [hx1]; exact k3) (by rw [hx2]; exact k4)
          rw [he3, hx3] at this
          exact this
        have E1 : Hid (riv a b = (x1, y1) ∧ rie a b = e1) := ⟨hx1, he1⟩
        have E2 : Hid (riv b c = (x2, y2) ∧ rie b c = e2) := ⟨hx2, he2⟩
        have E3 : Hid (riv a c = (x3, y3) ∧ rie a c = e3) := ⟨hx3, he3⟩
        have E4 : Hid (riv a a = (0, 0) ∧ rie a a = che a) := self_none a
        clear hx1 hx2 hx3 he1 he2 he3
        have F0 : Fr [] ws2 ws2 := Fr.refl _ _
        go_wp2_with fail
        refine (ints_any _ _ a b ws2 (HA.out _ (HF2.out.trans F0 (by simp))) (HB.out _ (HF2.out.trans F0 (by simp)))).mono ?_
        rintro e u0 ⟨rfl, f⟩
        rw [E1.out.1, E1.out.2]
        have HV : Hid ((u0.alloc (.cells #[.int .i64 x1, .int .i64 y1] 30)).heap[u0.heap.size]? = some (.cells #[.int .i64 x1, .int .i64 y1] 30 (0, 0)) ∧ Fr [] ws2 (u0.alloc (.cells #[.int .i64 x1, .int .i64 y1] 30))) := ⟨heap_alloc_new _ _, (F0.trans f (by simp)).alloc _⟩
        clear f
        go_upto_region 4 with fail
        generalize u0.alloc (.cells _ _) = wV at HV ⊢
        generalize u0.heap.size = GV at HV ⊢
        have HQV : Hid (Fr [] ws2 wV) := HV.out.2
        have HFB1 : Hid (Fr [] w wV) := HF2.out.trans HQV.out (by simp)
        have Na0 : ∀ wx, Fr [] wV wx → wx.cell? ⟨w.heap.size, 0, none⟩ = some (.int .i64 a.s) := fun wx hx => La0 wx (HQV.out.trans hx (by simp))
        have Na1 : ∀ wx, Fr [] wV wx → wx.cell? ⟨w.heap.size, 1, none⟩ = some (.int .u64 a.z) := fun wx hx => La1 wx (HQV.out.trans hx (by simp))
        have Na2 : ∀ wx, Fr [] wV wx → wx.cell? ⟨w.heap.size, 2, none⟩ = some (.int .u64 a.zc) := fun wx hx => La2 wx (HQV.out.trans hx (by simp))
        have Na3 : ∀ wx, Fr [] wV wx → wx.cell? ⟨w.heap.size, 3, none⟩ = some (.int .u64 a.c) := fun wx hx => La3 wx (HQV.out.trans hx (by simp))
        have Na4 : ∀ wx, Fr [] wV wx → wx.cell? ⟨w.heap.size, 4, none⟩ = some (.int .u64 a.sm) := fun wx hx => La4 wx (HQV.out.trans hx (by simp))
        have Na5 : ∀ wx, Fr [] wV wx → wx.cell? ⟨w.heap.size, 5, none⟩ = some (.slice poa a.P.length pca) := fun wx hx => La5 wx (HQV.out.trans hx (by simp))
        have Na6 : ∀ wx, Fr [] wV wx → wx.cell? ⟨w.heap.size, 6, none⟩ = some (.slice noa a.N.length nca) := fun wx hx => La6 wx (HQV.out.trans hx (by simp))
        have Na7 : ∀ wx, Fr [] wV wx → wx.cell? ⟨w.heap.size, 7, none⟩ = some (.slice qoa a.pd.length qca) := fun wx hx => La7 wx (HQV.out.trans hx (by simp))
        have Na8 : ∀ wx, Fr [] wV wx → wx.cell? ⟨w.heap.size, 8, none⟩ = some (.slice roa a.nd.length rca) := fun wx hx => La8 wx (HQV.out.trans hx (by simp))
        have Nb0 : ∀ wx, Fr [] wV wx → wx.cell? ⟨w.heap.size + 1, 0, none⟩ = some (.int .i64 b.s) := fun wx hx => Lb0 wx (HQV.out.trans hx (by simp))
        have Nb1 : ∀ wx, Fr [] wV wx → wx.cell? ⟨w.heap.size + 1, 1, none⟩ = some (.int .u64 b.z) := fun wx hx => Lb1 wx (HQV.out.trans hx (by simp))
        have Nb2 : ∀ wx, Fr [] wV wx → wx.cell? ⟨w.heap.size + 1, 2, none⟩ = some (.int .u64 b.zc) := fun wx hx => Lb2 wx (HQV.out.trans hx (by simp))
        have Nb3 : ∀ wx, Fr [] wV wx → wx.cell? ⟨w.heap.size + 1, 3, none⟩ = some (.int .u64 b.c) := fun wx hx => Lb3 wx (HQV.out.trans hx (by simp))
        have Nb4 : ∀ wx, Fr [] wV wx → wx.cell? ⟨w.heap.size + 1, 4, none⟩ = some (.int .u64 b.sm) := fun wx hx => Lb4 wx (HQV.out.trans hx (by simp))
        have Nb5 : ∀ wx, Fr [] wV wx → wx.cell? ⟨w.heap.size + 1, 5, none⟩ = some (.slice pob b.P.length pcb) := fun wx hx => Lb5 wx (HQV.out.trans hx (by simp))
        have Nb6 : ∀ wx, Fr [] wV wx → wx.cell? ⟨w.heap.size + 1, 6, none⟩ = some (.slice nob b.N.length ncb) := fun wx hx => Lb6 wx (HQV.out.trans hx (by simp))
        have Nb7 : ∀ wx, Fr [] wV wx → wx.cell? ⟨w.heap.size + 1, 7, none⟩ = some (.slice qob b.pd.length qcb) := fun wx hx => Lb7 wx (HQV.out.trans hx (by simp))
        have Nb8 : ∀ wx, Fr [] wV wx → wx.cell? ⟨w.heap.size + 1, 8, none⟩ = some (.slice rob b.nd.length rcb) := fun wx hx => Lb8 wx (HQV.out.trans hx (by simp))
        have Nc0 : ∀ wx, Fr [] wV wx → wx.cell? ⟨w.heap.size + 1 + 1, 0, none⟩ = some (.int .i64 c.s) := fun wx hx => Lc0 wx (HQV.out.trans hx (by simp))
        have Nc1 : ∀ wx, Fr [] wV wx → wx.cell? ⟨w.heap.size + 1 + 1, 1, none⟩ = some (.int .u64 c.z) := fun wx hx => Lc1 wx (HQV.out.trans hx (by simp))
        have Nc2 : ∀ wx, Fr [] wV wx → wx.cell? ⟨w.heap.size + 1 + 1, 2, none⟩ = some (.int .u64 c.zc) := fun wx hx => Lc2 wx (HQV.out.trans hx (by simp))
        have Nc3 : ∀ wx, Fr [] wV wx → wx.cell? ⟨w.heap.size + 1 + 1, 3, none⟩ = some (.int .u64 c.c) := fun wx hx => Lc3 wx (HQV.out.trans hx (by simp))
        have Nc4 : ∀ wx, Fr [] wV wx → wx.cell? ⟨w.heap.size + 1 + 1, 4, none⟩ = some (.int .u64 c.sm) := fun wx hx => Lc4 wx (HQV.out.trans hx (by simp))
        have Nc5 : ∀ wx, Fr [] wV wx → wx.cell? ⟨w.heap.size + 1 + 1, 5, none⟩ = some (.slice poc c.P.length pcc) := fun wx hx => Lc5 wx (HQV.out.trans hx (by simp))
        have Nc6 : ∀ wx, Fr [] wV wx → wx.cell? ⟨w.heap.size + 1 + 1, 6, none⟩ = some (.slice noc c.N.length ncc) := fun wx hx => Lc6 wx (HQV.out.trans hx (by simp))
        have Nc7 : ∀ wx, Fr [] wV wx → wx.cell? ⟨w.heap.size + 1 + 1, 7, none⟩ = some (.slice qoc c.pd.length qcc) := fun wx hx => Lc7 wx (HQV.out.trans hx (by simp))
        have Nc8 : ∀ wx, Fr [] wV wx → wx.cell? ⟨w.heap.size + 1 + 1, 8, none⟩ = some (.slice roc c.nd.length rcc) := fun wx hx => Lc8 wx (HQV.out.trans hx (by simp))
        clear La0 La1 La2 La3 La4 La5 La6 La7 La8 Lb0 Lb1 Lb2 Lb3 Lb4 Lb5 Lb6 Lb7 Lb8 Lc0 Lc1 Lc2 Lc3 Lc4 Lc5 Lc6 Lc7 Lc8 F0
        have La0 := Na0
        have La1 := Na1
        have La2 := Na2
        have La3 := Na3
        have La4 := Na4
        have La5 := Na5
        have La6 := Na6
        have La7 := Na7
        have La8 := Na8
        have Lb0 := Nb0
        have Lb1 := Nb1
        have Lb2 := Nb2
        have Lb3 := Nb3
        have Lb4 := Nb4
        have Lb5 := Nb5
        have Lb6 := Nb6
        have Lb7 := Nb7
        have Lb8 := Nb8
        have Lc0 := Nc0
        have Lc1 := Nc1
        have Lc2 := Nc2
        have Lc3 := Nc3
        have Lc4 := Nc4
        have Lc5 := Nc5
        have Lc6 := Nc6
        have Lc7 := Nc7
        have Lc8 := Nc8
        clear Na0 Na1 Na2 Na3 Na4 Na5 Na6 Na7 Na8 Nb0 Nb1 Nb2 Nb3 Nb4 Nb5 Nb6 Nb7 Nb8 Nc0 Nc1 Nc2 Nc3 Nc4 Nc5 Nc6 Nc7 Nc8
        have F0 : Fr [] wV wV := Fr.refl _ _
        have LV0 : ∀ wx, Fr [] wV wx → wx.cell? ⟨GV, 0, none⟩ = some (.int .i64 x1) := fun wx hx => hx.cell_some (cell_at HV.out.1 0) List.not_mem_nil
        have LV1 : ∀ wx, Fr [] wV wx → wx.cell? ⟨GV, 1, none⟩ = some (.int .i64 y1) := fun wx hx => hx.cell_some (cell_at HV.out.1 1) List.not_mem_nil
        go_wp2_with fail
        refine (ints_any _ _ b c wV (HB.out _ (HFB1.out.trans F0 (by simp))) (HC.out _ (HFB1.out.trans F0 (by simp)))).mono ?_
        rintro e u0 ⟨rfl, f⟩
        rw [E2.out.1, E2.out.2]
        have HW : Hid ((u0.alloc (.cells #[.int .i64 x2, .int .i64 y2] 30)).heap[u0.heap.size]? = some (.cells #[.int .i64 x2, .int .i64 y2] 30 (0, 0)) ∧ Fr [] wV (u0.alloc (.cells #[.int .i64 x2, .int .i64 y2] 30))) := ⟨heap_alloc_new _ _, (F0.trans f (by simp)).alloc _⟩
        clear f
        go_upto_region 5 with fail
        generalize u0.alloc (.cells _ _) = wW at HW ⊢
        generalize u0.heap.size = GW at HW ⊢
        have HQW : Hid (Fr [] wV wW) := HW.out.2
        have HFB2 : Hid (Fr [] w wW) := HFB1.out.trans HQW.out (by simp)
        have Na0 : ∀ wx, Fr [] wW wx → wx.cell? ⟨w.heap.size, 0, none⟩ = some (.int .i64 a.s) := fun wx hx => La0 wx (HQW.out.trans hx (by simp))
        have Na1 : ∀ wx, Fr [] wW wx → wx.cell? ⟨w.heap.size, 1, none⟩ = some (.int .u64 a.z) := fun wx hx => La1 wx (HQW.out.trans hx (by simp))
        have Na2 : ∀ wx, Fr [] wW wx → wx.cell? ⟨w.heap.size, 2, none⟩ = some (.int .u64 a.zc) := fun wx hx => La2 wx (HQW.out.trans hx (by simp))
        have Na3 : ∀ wx, Fr [] wW wx → wx.cell? ⟨w.heap.size, 3, none⟩ = some (.int .u64 a.c) := fun wx hx => La3 wx (HQW.out.trans hx (by simp))
        have Na4 : ∀ wx, Fr [] wW wx → wx.cell? ⟨w.heap.size, 4, none⟩ = some (.int .u64 a.sm) := fun wx hx => La4 wx (HQW.out.trans hx (by simp))
        have Na5 : ∀ wx, Fr [] wW wx → wx.cell? ⟨w.heap.size, 5, none⟩ = some (.slice poa a.P.length pca) := fun wx hx => La5 wx (HQW.out.trans hx (by simp))
        have Na6 : ∀ wx, Fr [] wW wx → wx.cell? ⟨w.heap.size, 6, none⟩ = some (.slice noa a.N.length nca) := fun wx hx => La6 wx (HQW.out.trans hx (by simp))
        have Na7 : ∀ wx, Fr [] wW wx → wx.cell? ⟨w.heap.size, 7, none⟩ = some (.slice qoa a.pd.length qca) := fun wx hx => La7 wx (HQW.out.trans hx (by simp))
        have Na8 : ∀ wx, Fr [] wW wx → wx.cell? ⟨w.heap.size, 8, none⟩ = some (.slice roa a.nd.length rca) := fun wx hx => La8 wx (HQW.out.trans hx (by simp))
        have Nb0 : ∀ wx, Fr [] wW wx → wx.cell? ⟨w.heap.size + 1, 0, none⟩ = some (.int .i64 b.s) := fun wx hx => Lb0 wx (HQW.out.trans hx (by simp))
        have Nb1 : ∀ wx, Fr [] wW wx → wx.cell? ⟨w.heap.size + 1, 1, none⟩ = some (.int .u64 b.z) := fun wx hx => Lb1 wx (HQW.out.trans hx (by simp))
        have Nb2 : ∀ wx, Fr [] wW wx → wx.cell? ⟨w.heap.size + 1, 2, none⟩ = some (.int .u64 b.zc) := fun wx hx => Lb2 wx (HQW.out.trans hx (by simp))
        have Nb3 : ∀ wx, Fr [] wW wx → wx.cell? ⟨w.heap.size + 1, 3, none⟩ = some (.int .u64 b.c) := fun wx hx => Lb3 wx (HQW.out.trans hx (by simp))
        have Nb4 : ∀ wx, Fr [] wW wx → wx.cell? ⟨w.heap.size + 1, 4, none⟩ = some (.int .u64 b.sm) := fun wx hx => Lb4 wx (HQW.out.trans hx (by simp))
        have Nb5 : ∀ wx, Fr [] wW wx → wx.cell? ⟨w.heap.size + 1, 5, none⟩ = some (.slice pob b.P.length pcb) := fun wx hx => Lb5 wx (HQW.out.trans hx (by simp))
        have Nb6 : ∀ wx, Fr [] wW wx → wx.cell? ⟨w.heap.size + 1, 6, none⟩ = some (.slice nob b.N.length ncb) := fun wx hx => Lb6 wx (HQW.out.trans hx (by simp))
        have Nb7 : ∀ wx, Fr [] wW wx → wx.cell? ⟨w.heap.size + 1, 7, none⟩ = some (.slice qob b.pd.length qcb) := fun wx hx => Lb7 wx (HQW.out.trans hx (by simp))
        have Nb8 : ∀ wx, Fr [] wW wx → wx.cell? ⟨w.heap.size + 1, 8, none⟩ = some (.slice rob b.nd.length rcb) := fun wx hx => Lb8 wx (HQW.out.trans hx (by simp))
        have Nc0 : ∀ wx, Fr [] wW wx → wx.cell? ⟨w.heap.size + 1 + 1, 0, none⟩ = some (.int .i64 c.s) := fun wx hx => Lc0 wx (HQW.out.trans hx (by simp))
        have Nc1 : ∀ wx, Fr [] wW wx → wx.cell? ⟨w.heap.size + 1 + 1, 1, none⟩ = some (.int .u64 c.z) := fun wx hx => Lc1 wx (HQW.out.trans hx (by simp))
        have Nc2 : ∀ wx, Fr [] wW wx → wx.cell? ⟨w.heap.size + 1 + 1, 2, none⟩ = some (.int .u64 c.zc) := fun wx hx => Lc2 wx (HQW.out.trans hx (by simp))
        have Nc3 : ∀ wx, Fr [] wW wx → wx.cell? ⟨w.heap.size + 1 + 1, 3, none⟩ = some (.int .u64 c.c) := fun wx hx => Lc3 wx (HQW.out.trans hx (by simp))
        have Nc4 : ∀ wx, Fr [] wW wx → wx.cell? ⟨w.heap.size + 1 + 1, 4, none⟩ = some (.int .u64 c.sm) := fun wx hx => Lc4 wx (HQW.out.trans hx (by simp))
        have Nc5 : ∀ wx, Fr [] wW wx → wx.cell? ⟨w.heap.size + 1 + 1, 5, none⟩ = some (.slice poc c.P.length pcc) := fun wx hx => Lc5 wx (HQW.out.trans hx (by simp))
        have Nc6 : ∀ wx, Fr [] wW wx → wx.cell? ⟨w.heap.size + 1 + 1, 6, none⟩ = some (.slice noc c.N.length ncc) := fun wx hx => Lc6 wx (HQW.out.trans hx (by simp))
        have Nc7 : ∀ wx, Fr [] wW wx → wx.cell? ⟨w.heap.size + 1 + 1, 7, none⟩ = some (.slice qoc c.pd.length qcc) := fun wx hx => Lc7 wx (HQW.out.trans hx (by simp))
        have Nc8 : ∀ wx, Fr [] wW wx → wx.cell? ⟨w.heap.size + 1 + 1, 8, none⟩ = some (.slice roc c.nd.length rcc) := fun wx hx => Lc8 wx (HQW.out.trans hx (by simp))
        clear La0 La1 La2 La3 La4 La5 La6 La7 La8 Lb0 Lb1 Lb2 Lb3 Lb4 Lb5 Lb6 Lb7 Lb8 Lc0 Lc1 Lc2 Lc3 Lc4 Lc5 Lc6 Lc7 Lc8 F0
        have La0 := Na0
        have La1 := Na1
        have La2 := Na2
        have La3 := Na3
        have La4 := Na4
        have La5 := Na5
        have La6 := Na6
        have La7 := Na7
        have La8 := Na8
        have Lb0 := Nb0
        have Lb1 := Nb1
        have Lb2 := Nb2
        have Lb3 := Nb3
        have Lb4 := Nb4
        have Lb5 := Nb5
        have Lb6 := Nb6
        have Lb7 := Nb7
        have Lb8 := Nb8
        have Lc0 := Nc0
        have Lc1 := Nc1
        have Lc2 := Nc2
        have Lc3 := Nc3
        have Lc4 := Nc4
        have Lc5 := Nc5
        have Lc6 := Nc6
        have Lc7 := Nc7
        have Lc8 := Nc8
        clear Na0 Na1 Na2 Na3 Na4 Na5 Na6 Na7 Na8 Nb0 Nb1 Nb2 Nb3 Nb4 Nb5 Nb6 Nb7 Nb8 Nc0 Nc1 Nc2 Nc3 Nc4 Nc5 Nc6 Nc7 Nc8
        have NLV0 : ∀ wx, Fr [] wW wx → wx.cell? ⟨GV, 0, none⟩ = some (.int .i64 x1) := fun wx hx => LV0 wx (HQW.out.trans hx (by simp))
        have NLV1 : ∀ wx, Fr [] wW wx → wx.cell? ⟨GV, 1, none⟩ = some (.int .i64 y1) := fun wx hx => LV1 wx (HQW.out.trans hx (by simp))
        clear LV0 LV1
        have LV0 := NLV0
        have LV1 := NLV1
        clear NLV0 NLV1
        have F0 : Fr [] wW wW := Fr.refl _ _
        have LW0 : ∀ wx, Fr [] wW wx → wx.cell? ⟨GW, 0, none⟩ = some (.int .i64 x2) := fun wx hx => hx.cell_some (cell_at HW.out.1 0) List.not_mem_nil
        have LW1 : ∀ wx, Fr [] wW wx → wx.cell? ⟨GW, 1, none⟩ = some (.int .i64 y2) := fun wx hx => hx.cell_some (cell_at HW.out.1 1) List.not_mem_nil
        go_wp2_with fail
        refine (ints_any _ _ a c wW (HA.out _ (HFB2.out.trans F0 (by simp))) (HC.out _ (HFB2.out.trans F0 (by simp)))).mono ?_
        rintro e u0 ⟨rfl, f⟩
        rw [E3.out.1, E3.out.2]
        have HX : Hid ((u0.alloc (.cells #[.int .i64 x3, .int .i64 y3] 30)).heap[u0.heap.size]? = some (.cells #[.int .i64 x3, .int .i64 y3] 30 (0, 0)) ∧ Fr [] wW (u0.alloc (.cells #[.int .i64 x3, .int .i64 y3] 30))) := ⟨heap_alloc_new _ _, (F0.trans f (by simp)).alloc _⟩
        clear f
        go_upto_region 6 with fail
        generalize u0.alloc (.cells _ _) = wX at HX ⊢
        generalize u0.heap.size = GX at HX ⊢
        have HQX : Hid (Fr [] wW wX) := HX.out.2
        have HFB3 : Hid (Fr [] w wX) := HFB2.out.trans HQX.out (by simp)
        have Na0 : ∀ wx, Fr [] wX wx → wx.cell? ⟨w.heap.size, 0, none⟩ = some (.int .i64 a.s) := fun wx hx => La0 wx (HQX.out.trans hx (by simp))
        have Na1 : ∀ wx, Fr [] wX wx → wx.cell? ⟨w.heap.size, 1, none⟩ = some (.int .u64 a.z) := fun wx hx => La1 wx (HQX.out.trans hx (by simp))
        have Na2 : ∀ wx, Fr [] wX wx → wx.cell? ⟨w.heap.size, 2, none⟩ = some (.int .u64 a.zc) := fun wx hx => La2 wx (HQX.out.trans hx (by simp))
        have Na3 : ∀ wx, Fr [] wX wx → wx.cell? ⟨w.heap.size, 3, none⟩ = some (.int .u64 a.c) := fun wx hx => La3 wx (HQX.out.trans hx (by simp))
        have Na4 : ∀ wx, Fr [] wX wx → wx.cell? ⟨w.heap.size, 4, none⟩ = some (.int .u64 a.sm) := fun wx hx => La4 wx (HQX.out.trans hx (by simp))
        have Na5 : ∀ wx, Fr [] wX wx → wx.cell? ⟨w.heap.size, 5, none⟩ = some (.slice poa a.P.length pca) := fun wx hx => La5 wx (HQX.out.trans hx (by simp))
        have Na6 : ∀ wx, Fr [] wX wx → wx.cell? ⟨w.heap.size, 6, none⟩ = some (.slice noa a.N.length nca) := fun wx hx => La6 wx (HQX.out.trans hx (by simp))
        have Na7 : ∀ wx, Fr [] wX wx → wx.cell? ⟨w.heap.size, 7, none⟩ = some (.slice qoa a.pd.length qca) := fun wx hx => La7 wx (HQX.out.trans hx (by simp))
        have Na8 : ∀ wx, Fr [] wX wx → wx.cell? ⟨w.heap.size, 8, none⟩ = some (.slice roa a.nd.length rca) := fun wx hx => La8 wx (HQX.out.trans hx (by simp))
        have Nb0 : ∀ wx, Fr [] wX wx → wx.cell? ⟨w.heap.size + 1, 0, none⟩ = some (.int .i64 b.s) := fun wx hx => Lb0 wx (HQX.out.trans hx (by simp))
        have Nb1 : ∀ wx, Fr [] wX wx → wx.cell? ⟨w.heap.size + 1, 1, none⟩ = some (.int .u64 b.z) := fun wx hx => Lb1 wx (HQX.out.trans hx (by simp))
        have Nb2 : ∀ wx, Fr [] wX wx → wx.cell? ⟨w.heap.size + 1, 2, none⟩ = some (.int .u64 b.zc) := fun wx hx => Lb2 wx (HQX.out.trans hx (by simp))
        have Nb3 : ∀ wx, Fr [] wX wx → wx.cell? ⟨w.heap.size + 1, 3, none⟩ = some (.int .u64 b.c) := fun wx hx => Lb3 wx (HQX.out.trans hx (by simp))
        have Nb4 : ∀ wx, Fr [] wX wx → wx.cell? ⟨w.heap.size + 1, 4, none⟩ = some (.int .u64 b.sm) := fun wx hx => Lb4 wx (HQX.out.trans hx (by simp))
        have Nb5 : ∀ wx, Fr [] wX wx → wx.cell? ⟨w.heap.size + 1, 5, none⟩ = some (.slice pob b.P.length pcb) := fun wx hx => Lb5 wx (HQX.out.trans hx (by simp))
        have Nb6 : ∀ wx, Fr [] wX wx → wx.cell? ⟨w.heap.size + 1, 6, none⟩ = some (.slice nob b.N.length ncb) := fun wx hx => Lb6 wx (HQX.out.trans hx (by simp))
        have Nb7 : ∀ wx, Fr [] wX wx → wx.cell? ⟨w.heap.size + 1, 7, none⟩ = some (.slice qob b.pd.length qcb) := fun wx hx => Lb7 wx (HQX.out.trans hx (by simp))
        have Nb8 : ∀ wx, Fr [] wX wx → wx.cell? ⟨w.heap.size + 1, 8, none⟩ = some (.slice rob b.nd.length rcb) := fun wx hx => Lb8 wx (HQX.out.trans hx (by simp))
        have Nc0 : ∀ wx, Fr [] wX wx → wx.cell? ⟨w.heap.size + 1 + 1, 0, none⟩ = some (.int .i64 c.s) := fun wx hx => Lc0 wx (HQX.out.trans hx (by simp))
        have Nc1 : ∀ wx, Fr [] wX wx → wx.cell? ⟨w.heap.size + 1 + 1, 1, none⟩ = some (.int .u64 c.z) := fun wx hx => Lc1 wx (HQX.out.trans hx (by simp))
        have Nc2 : ∀ wx, Fr [] wX wx → wx.cell? ⟨w.heap.size + 1 + 1, 2, none⟩ = some (.int .u64 c.zc) := fun wx hx => Lc2 wx (HQX.out.trans hx (by simp))
        have Nc3 : ∀ wx, Fr [] wX wx → wx.cell? ⟨w.heap.size + 1 + 1, 3, none⟩ = some (.int .u64 c.c) := fun wx hx => Lc3 wx (HQX.out.trans hx (by simp))
        have Nc4 : ∀ wx, Fr [] wX wx → wx.cell? ⟨w.heap.size + 1 + 1, 4, none⟩ = some (.int .u64 c.sm) := fun wx hx => Lc4 wx (HQX.out.trans hx (by simp))
        have Nc5 : ∀ wx, Fr [] wX wx → wx.cell? ⟨w.heap.size + 1 + 1, 5, none⟩ = some (.slice poc c.P.length pcc) := fun wx hx => Lc5 wx (HQX.out.trans hx (by simp))
        have Nc6 : ∀ wx, Fr [] wX wx → wx.cell? ⟨w.heap.size + 1 + 1, 6, none⟩ = some (.slice noc c.N.length ncc) := fun wx hx => Lc6 wx (HQX.out.trans hx (by simp))
        have Nc7 : ∀ wx, Fr [] wX wx → wx.cell? ⟨w.heap.size + 1 + 1, 7, none⟩ = some (.slice qoc c.pd.length qcc) := fun wx hx => Lc7 wx (HQX.out.trans hx (by simp))
        have Nc8 : ∀ wx, Fr [] wX wx → wx.cell? ⟨w.heap.size + 1 + 1, 8, none⟩ = some (.slice roc c.nd.length rcc) := fun wx hx => Lc8 wx (HQX.out.trans hx (by simp))
        clear La0 La1 La2 La3 La4 La5 La6 La7 La8 Lb0 Lb1 Lb2 Lb3 Lb4 Lb5 Lb6 Lb7 Lb8 Lc0 Lc1 Lc2 Lc3 Lc4 Lc5 Lc6 Lc7 Lc8 F0
        have La0 := Na0
        have La1 := Na1
        have La2 := Na2
        have La3 := Na3
        have La4 := Na4
        have La5 := Na5
        have La6 := Na6
        have La7 := Na7
        have La8 := Na8
        have Lb0 := Nb0
        have Lb1 := Nb1
        have Lb2 := Nb2
        have Lb3 := Nb3
        have Lb4 := Nb4
        have Lb5 := Nb5
        have Lb6 := Nb6
        have Lb7 := Nb7
        have Lb8 := Nb8
        have Lc0 := Nc0
        have Lc1 := Nc1
        have Lc2 := Nc2
        have Lc3 := Nc3
        have Lc4 := Nc4
        have Lc5 := Nc5
        have Lc6 := Nc6
        have Lc7 := Nc7
        have Lc8 := Nc8
        clear Na0 Na1 Na2 Na3 Na4 Na5 Na6 Na7 Na8 Nb0 Nb1 Nb2 Nb3 Nb4 Nb5 Nb6 Nb7 Nb8 Nc0 Nc1 Nc2 Nc3 Nc4 Nc5 Nc6 Nc7 Nc8
        have NLV0 : ∀ wx, Fr [] wX wx → wx.cell? ⟨GV, 0, none⟩ = some (.int .i64 x1) := fun wx hx => LV0 wx (HQX.out.trans hx (by simp))
        have NLV1 : ∀ wx, Fr [] wX wx → wx.cell? ⟨GV, 1, none⟩ = some (.int .i64 y1) := fun wx hx => LV1 wx (HQX.out.trans hx (by simp))
        have NLW0 : ∀ wx, Fr [] wX wx → wx.cell? ⟨GW, 0, none⟩ = some (.int .i64 x2) := fun wx hx => LW0 wx (HQX.out.trans hx (by simp))
        have NLW1 : ∀ wx, Fr [] wX wx → wx.cell? ⟨GW, 1, none⟩ = some (.int .i64 y2) := fun wx hx => LW1 wx (HQX.out.trans hx (by simp))
        clear LV0 LV1 LW0 LW1
        have LV0 := NLV0
        have LV1 := NLV1
        have LW0 := NLW0
        have LW1 := NLW1
        clear NLV0 NLV1 NLW0 NLW1
        have F0 : Fr [] wX wX := Fr.refl _ _
        have LX0 : ∀ wx, Fr [] wX wx → wx.cell? ⟨GX, 0, none⟩ = some (.int .i64 x3) := fun wx hx => hx.cell_some (cell_at HX.out.1 0) List.not_mem_nil
        have LX1 : ∀ wx, Fr [] wX wx → wx.cell? ⟨GX, 1, none⟩ = some (.int .i64 y3) := fun wx hx => hx.cell_some (cell_at HX.out.1 1) List.not_mem_nil
        go_wp2_with fail
        refine (ints_any _ _ a a wX (HA.out _ (HFB3.out.trans F0 (by simp))) (HA.out _ (HFB3.out.trans F0 (by simp)))).mono ?_
        rintro e u0 ⟨rfl, f⟩
        rw [E4.out.1, E4.out.2]
        have HS : Hid ((u0.alloc (.cells #[.int .i64 0, .int .i64 0] 30)).heap[u0.heap.size]? = some (.cells #[.int .i64 0, .int .i64 0] 30 (0, 0)) ∧ Fr [] wX (u0.alloc (.cells #[.int .i64 0, .int .i64 0] 30))) := ⟨heap_alloc_new _ _, (F0.trans f (by simp)).alloc _⟩
        clear f
        go_upto_region 7 with fail
        generalize u0.alloc (.cells _ _) = wS at HS ⊢
        generalize u0.heap.size = GS at HS ⊢
        have HQS : Hid (Fr [] wX wS) := HS.out.2
        have HFB4 : Hid (Fr [] w wS) := HFB3.out.trans HQS.out (by simp)
        have Na0 : ∀ wx, Fr [] wS wx → wx.cell? ⟨w.heap.size, 0, none⟩ = some (.int .i64 a.s) := fun wx hx => La0 wx (HQS.out.trans hx (by simp))
        have Na1 : ∀ wx, Fr [] wS wx → wx.cell? ⟨w.heap.size, 1, none⟩ = some (.int .u64 a.z) := fun wx hx => La1 wx (HQS.out.trans hx (by simp))
        have Na2 : ∀ wx, Fr [] wS wx → wx.cell? ⟨w.heap.size, 2, none⟩ = some (.int .u64 a.zc) := fun wx hx => La2 wx (HQS.out.trans hx (by simp))
        have Na3 : ∀ wx, Fr [] wS wx → wx.cell? ⟨w.heap.size, 3, none⟩ = some (.int .u64 a.c) := fun wx hx => La3 wx (HQS.out.trans hx (by simp))
        have Na4 : ∀ wx, Fr [] wS wx → wx.cell? ⟨w.heap.size, 4, none⟩ = some (.int .u64 a.sm) := fun wx hx => La4 wx (HQS.out.trans hx (by simp))
        have Na5 : ∀ wx, Fr [] wS wx → wx.cell? ⟨w.heap.size, 5, none⟩ = some (.slice poa a.P.length pca) := fun wx hx => La5 wx (HQS.out.trans hx (by simp))
        have Na6 : ∀ wx, Fr [] wS wx → wx.cell? ⟨w.heap.size, 6, none⟩ = some (.slice noa a.N.length nca) := fun wx hx => La6 wx (HQS.out.trans hx (by simp))
        have Na7 : ∀ wx, Fr [] wS wx → wx.cell? ⟨w.heap.size, 7, none⟩ = some (.slice qoa a.pd.length qca) := fun wx hx => La7 wx (HQS.out.trans hx (by simp))
        have Na8 : ∀ wx, Fr [] wS wx → wx.cell? ⟨w.heap.size, 8, none⟩ = some (.slice roa a.nd.length rca) := fun wx hx => La8 wx (HQS.out.trans hx (by simp))
        have Nb0 : ∀ wx, Fr [] wS wx → wx.cell? ⟨w.heap.size + 1, 0, none⟩ = some (.int .i64 b.s) := fun wx hx => Lb0 wx (HQS.out.trans hx (by simp))
        have Nb1 : ∀ wx, Fr [] wS wx → wx.cell? ⟨w.heap.size + 1, 1, none⟩ = some (.int .u64 b.z) := fun wx hx => Lb1 wx (HQS.out.trans hx (by simp))
        have Nb2 : ∀ wx, Fr [] wS wx → wx.cell? ⟨w.heap.size + 1, 2, none⟩ = some (.int .u64 b.zc) := fun wx hx => Lb2 wx (HQS.out.trans hx (by simp))
        have Nb3 : ∀ wx, Fr [] wS wx → wx.cell? ⟨w.heap.size + 1, 3, none⟩ = some (.int .u64 b.c) := fun wx hx => Lb3 wx (HQS.out.trans hx (by simp))
        have Nb4 : ∀ wx, Fr [] wS wx → wx.cell? ⟨w.heap.size + 1, 4, none⟩ = some (.int .u64 b.sm) := fun wx hx => Lb4 wx (HQS.out.trans hx (by simp))
        have Nb5 : ∀ wx, Fr [] wS wx → wx.cell? ⟨w.heap.size + 1, 5, none⟩ = some (.slice pob b.P.length pcb) := fun wx hx => Lb5 wx (HQS.out.trans hx (by simp))
        have Nb6 : ∀ wx, Fr [] wS wx → wx.cell? ⟨w.heap.size + 1, 6, none⟩ = some (.slice nob b.N.length ncb) := fun wx hx => Lb6 wx (HQS.out.trans hx (by simp))
        have Nb7 : ∀ wx, Fr [] wS wx → wx.cell? ⟨w.heap.size + 1, 7, none⟩ = some (.slice qob b.pd.length qcb) := fun wx hx => Lb7 wx (HQS.out.trans hx (by simp))
        have Nb8 : ∀ wx, Fr [] wS wx → wx.cell? ⟨w.heap.size + 1, 8, none⟩ = some (.slice rob b.nd.length rcb) := fun wx hx => Lb8 wx (HQS.out.trans hx (by simp))
        have Nc0 : ∀ wx, Fr [] wS wx → wx.cell? ⟨w.heap.size + 1 + 1, 0, none⟩ = some (.int .i64 c.s) := fun wx hx => Lc0 wx (HQS.out.trans hx (by simp))
        have Nc1 : ∀ wx, Fr [] wS wx → wx.cell? ⟨w.heap.size + 1 + 1, 1, none⟩ = some (.int .u64 c.z) := fun wx hx => Lc1 wx (HQS.out.trans hx (by simp))
        have Nc2 : ∀ wx, Fr [] wS wx → wx.cell? ⟨w.heap.size + 1 + 1, 2, none⟩ = some (.int .u64 c.zc) := fun wx hx => Lc2 wx (HQS.out.trans hx (by simp))
        have Nc3 : ∀ wx, Fr [] wS wx → wx.cell? ⟨w.heap.size + 1 + 1, 3, none⟩ = some (.int .u64 c.c) := fun wx hx => Lc3 wx (HQS.out.trans hx (by simp))
        have Nc4 : ∀ wx, Fr [] wS wx → wx.cell? ⟨w.heap.size + 1 + 1, 4, none⟩ = some (.int .u64 c.sm) := fun wx hx => Lc4 wx (HQS.out.trans hx (by simp))
        have Nc5 : ∀ wx, Fr [] wS wx → wx.cell? ⟨w.heap.size + 1 + 1, 5, none⟩ = some (.slice poc c.P.length pcc) := fun wx hx => Lc5 wx (HQS.out.trans hx (by simp))
        have Nc6 : ∀ wx, Fr [] wS wx → wx.cell? ⟨w.heap.size + 1 + 1, 6, none⟩ = some (.slice noc c.N.length ncc) := fun wx hx => Lc6 wx (HQS.out.trans hx (by simp))
        have Nc7 : ∀ wx, Fr [] wS wx → wx.cell? ⟨w.heap.size + 1 + 1, 7, none⟩ = some (.slice qoc c.pd.length qcc) := fun wx hx => Lc7 wx (HQS.out.trans hx (by simp))
        have Nc8 : ∀ wx, Fr [] wS wx → wx.cell? ⟨w.heap.size + 1 + 1, 8, none⟩ = some (.slice roc c.nd.length rcc) := fun wx hx => Lc8 wx (HQS.out.trans hx (by simp))
        clear La0 La1 La2 La3 La4 La5 La6 La7 La8 Lb0 Lb1 Lb2 Lb3 Lb4 Lb5 Lb6 Lb7 Lb8 Lc0 Lc1 Lc2 Lc3 Lc4 Lc5 Lc6 Lc7 Lc8 F0
        have La0 := Na0
        have La1 := Na1
        have La2 := Na2
        have La3 := Na3
        have La4 := Na4
        have La5 := Na5
        have La6 := Na6
        have La7 := Na7
        have La8 := Na8
        have Lb0 := Nb0
        have Lb1 := Nb1
        have Lb2 := Nb2
        have Lb3 := Nb3
        have Lb4 := Nb4
        have Lb5 := Nb5
        have Lb6 := Nb6
        have Lb7 := Nb7
        have Lb8 := Nb8
        have Lc0 := Nc0
        have Lc1 := Nc1
        have Lc2 := Nc2
        have Lc3 := Nc3
        have Lc4 := Nc4
        have Lc5 := Nc5
        have Lc6 := Nc6
        have Lc7 := Nc7
        have Lc8 := Nc8
        clear Na0 Na1 Na2 Na3 Na4 Na5 Na6 Na7 Na8 Nb0 Nb1 Nb2 Nb3 Nb4 Nb5 Nb6 Nb7 Nb8 Nc0 Nc1 Nc2 Nc3 Nc4 Nc5 Nc6 Nc7 Nc8
        have NLV0 : ∀ wx, Fr [] wS wx → wx.cell? ⟨GV, 0, none⟩ = some (.int .i64 x1) := fun wx hx => LV0 wx (HQS.out.trans hx (by simp))
        have NLV1 : ∀ wx, Fr [] wS wx → wx.cell? ⟨GV, 1, none⟩ = some (.int .i64 y1) := fun wx hx => LV1 wx (HQS.out.trans hx (by simp))
        have NLW0 : ∀ wx, Fr [] wS wx → wx.cell? ⟨GW, 0, none⟩ = some (.int .i64 x2) := fun wx hx => LW0 wx (HQS.out.trans hx (by simp))
        have NLW1 : ∀ wx, Fr [] wS wx → wx.cell? ⟨GW, 1, none⟩ = some (.int .i64 y2) := fun wx hx => LW1 wx (HQS.out.trans hx (by simp))
        have NLX0 : ∀ wx, Fr [] wS wx → wx.cell? ⟨GX, 0, none⟩ = some (.int .i64 x3) := fun wx hx => LX0 wx (HQS.out.trans hx (by simp))
        have NLX1 : ∀ wx, Fr [] wS wx → wx.cell? ⟨GX, 1, none⟩ = some (.int .i64 y3) := fun wx hx => LX1 wx (HQS.out.trans hx (by simp))
        clear LV0 LV1 LW0 LW1 LX0 LX1
        have LV0 := NLV0
        have LV1 := NLV1
        have LW0 := NLW0
        have LW1 := NLW1
        have LX0 := NLX0
        have LX1 := NLX1
        clear NLV0 NLV1 NLW0 NLW1 NLX0 NLX1
        have F0 : Fr [] wS wS := Fr.refl _ _
        have LS0 : ∀ wx, Fr [] wS wx → wx.cell? ⟨GS, 0, none⟩ = some (.int .i64 0) := fun wx hx => hx.cell_some (cell_at HS.out.1 0) List.not_mem_nil
        have LS1 : ∀ wx, Fr [] wS wx → wx.cell? ⟨GS, 1, none⟩ = some (.int .i64 0) := fun wx hx => hx.cell_some (cell_at HS.out.1 1) List.not_mem_nil
        go_wp2_with fail
        refine (hcheck_any _ a wS (HA.out _ (HFB4.out.trans F0 (by simp)))).mono ?_
        rintro e u1 ⟨rfl, f⟩
        have f1 : Fr [] wS u1 := F0.trans f (by simp)
        clear f F0
        generalize che a = CA at *
        by_cases h0 : CA = 0
        case pos =>
          subst h0
          by_cases he1 : e1 = 0
          case neg =>
            have de1 : (e1 == 0) = false := by simpa using he1
            have ge1 : (e1 != 0) = true := by simpa using he1
            go_wp2_with fail
            refine (awake11_any u1).mono ?_
            rintro e u2 ⟨rfl, f⟩
            have f2 : Fr [] wS u2 := f1.trans f (by simp)
            clear f f1
            go_wp2
            go_ret
            exact ⟨rfl, (HFB4.out.trans f2 (by simp)).below (Nat.le_refl _) (by simp)⟩
          by_cases he2 : e2 = 0
          case neg =>
            have de2 : (e2 == 0) = false := by simpa using he2
            have ge2 : (e2 != 0) = true := by simpa using he2
            go_wp2_with fail
            refine (awake11_any u1).mono ?_
            rintro e u2 ⟨rfl, f⟩
            have f2 : Fr [] wS u2 := f1.trans f (by simp)
            clear f f1
            go_wp2
            go_ret
            exact ⟨rfl, (HFB4.out.trans f2 (by simp)).below (Nat.le_refl _) (by simp)⟩
          by_cases hx1 : x1 = 0
          case neg =>
            have dx1 : (x1 == 0) = false := by simpa using hx1
            have gx1 : (x1 != 0) = true := by simpa using hx1
            go_wp2_with fail
            refine (awake11_any u1).mono ?_
            rintro e u2 ⟨rfl, f⟩
            have f2 : Fr [] wS u2 := f1.trans f (by simp)
            clear f f1
            go_wp2
            go_ret
            exact ⟨rfl, (HFB4.out.trans f2 (by simp)).below (Nat.le_refl _) (by simp)⟩
          by_cases hx2 : x2 = 0
          case neg =>
            have dx2 : (x2 == 0) = false := by simpa using hx2
            have gx2 : (x2 != 0) = true := by simpa using hx2
            go_wp2_with fail
            refine (awake11_any u1).mono ?_
            rintro e u2 ⟨rfl, f⟩
            have f2 : Fr [] wS u2 := f1.trans f (by simp)
            clear f f1
            go_wp2
            go_ret
            exact ⟨rfl, (HFB4.out.trans f2 (by simp)).below (Nat.le_refl _) (by simp)⟩
          obtain ⟨k1, k2⟩ := HG.out he1 he2 hx1 hx2
          subst he1
          subst he2
          subst hx1
          subst hx2
          subst k1
          subst k2
          go_wp2_with fail
          refine (awake11_any u1).mono ?_
          rintro e u2 ⟨rfl, f⟩
          have f2 : Fr [] wS u2 := f1.trans f (by simp)
          clear f f1
          go_wp2
          go_ret
          exact ⟨rfl, (HFB4.out.trans f2 (by simp)).below (Nat.le_refl _) (by simp)⟩
        case neg =>
          have d0 : (CA == 0) = false := by simpa using h0
          by_cases he1 : e1 = 0
          case neg =>
            have de1 : (e1 == 0) = false := by simpa using he1
            have ge1 : (e1 != 0) = true := by simpa using he1
            go_wp2_with fail
            refine (awake11_any u1).mono ?_
            rintro e u2 ⟨rfl, f⟩
            have f2 : Fr [] wS u2 := f1.trans f (by simp)
            clear f f1
            go_wp2
            go_ret
            exact ⟨rfl, (HFB4.out.trans f2 (by simp)).below (Nat.le_refl _) (by simp)⟩
          by_cases he2 : e2 = 0
          case neg =>
            have de2 : (e2 == 0) = false := by simpa using he2
            have ge2 : (e2 != 0) = true := by simpa using he2
            go_wp2_with fail
            refine (awake11_any u1).mono ?_
            rintro e u2 ⟨rfl, f⟩
            have f2 : Fr [] wS u2 := f1.trans f (by simp)
            clear f f1
            go_wp2
            go_ret
            exact ⟨rfl, (HFB4.out.trans f2 (by simp)).below (Nat.le_refl _) (by simp)⟩
          by_cases hx1 : x1 = 0
          case neg =>
            have dx1 : (x1 == 0) = false := by simpa using hx1
            have gx1 : (x1 != 0) = true := by simpa using hx1
            go_wp2_with fail
            refine (awake11_any u1).mono ?_
            rintro e u2 ⟨rfl, f⟩
            have f2 : Fr [] wS u2 := f1.trans f (by simp)
            clear f f1
            go_wp2
            go_ret
            exact ⟨rfl, (HFB4.out.trans f2 (by simp)).below (Nat.le_refl _) (by simp)⟩
          by_cases hx2 : x2 = 0
          case neg =>
            have dx2 : (x2 == 0) = false := by simpa using hx2
            have gx2 : (x2 != 0) = true := by simpa using hx2
            go_wp2_with fail
            refine (awake11_any u1).mono ?_
            rintro e u2 ⟨rfl, f⟩
            have f2 : Fr [] wS u2 := f1.trans f (by simp)
            clear f f1
            go_wp2
            go_ret
            exact ⟨rfl, (HFB4.out.trans f2 (by simp)).below (Nat.le_refl _) (by simp)⟩
          obtain ⟨k1, k2⟩ := HG.out he1 he2 hx1 hx2
          subst he1
          subst he2
          subst hx1
          subst hx2
          subst k1
          subst k2
          go_wp2_with fail
          refine (awake11_any u1).mono ?_
          rintro e u2 ⟨rfl, f⟩
          have f2 : Fr [] wS u2 := f1.trans f (by simp)
          clear f f1
          go_wp2
          go_ret
          exact ⟨rfl, (HFB4.out.trans f2 (by simp)).below (Nat.le_refl _) (by simp)⟩
end Go.Proofs.Ytnfbmdniomelnaa
