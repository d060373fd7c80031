/-
  ResetBoth: the walk.
-/
import Derived.Test.YtnfbmdniomelnaaGI
import Derived.Test.YtnfbmdniomelnaaGL
namespace Go.Proofs.Ytnfbmdniomelnaa
open Go.RowKit Mem Spans
set_option linter.unusedSimpArgs false
set_option linter.unusedVariables false
set_option maxRecDepth 100000

theorem FKeep.opensX {B : Nat} {w : World} {v : Value} {h : Fs} (k : FKeep B w v h) : ∃ a1 c1 a2 c2 a3 c3 a4 c4, v = .agg #[.int .i64 h.s, .int .u64 h.z, .int .u64 h.zc, .int .u64 h.c, .int .u64 h.sm, .slice a1 h.P.length c1, .slice a2 h.N.length c2, .slice a3 h.pd.length c3, .slice a4 h.nd.length c4] ∧ FSrc w v h := by
  obtain ⟨a1, c1, a2, c2, a3, c3, a4, c4, e, _⟩ := k.src.opens
  exact ⟨a1, c1, a2, c2, a3, c3, a4, c4, e, k.src⟩
theorem hsrc_in {w : World} {v : Value} {h : Hs} (k : HSrc w v h) : inu h.zc ∧ inu h.c := by
  obtain ⟨_, _, _, _, _, _, h2, _⟩ := k
  exact ⟨h2.2.1, h2.2.2.1⟩

set_option maxHeartbeats 16000000 in
theorem resetboth_walk (v0 : Value) (a : Hs) (v1 : Value) (b : Hs) (w : World) (w0 : HSrc w v0 a) (w1 : HSrc w v1 b) : Calls Try.prog 7 #[v0, v1] w fun e w' => e = .returned (.bool true) ∧ Below w.heap.size w w' := by
  have HA : Hid (∀ wx, Fr [] w wx → HSrc wx v0 a) := fun wx hx => w0.kept hx
  have HB : Hid (∀ wx, Fr [] w wx → HSrc wx v1 b) := fun wx hx => w1.kept hx
  obtain ⟨poa, pca, noa, nca, qoa, qca, roa, rca, rfl, _⟩ := w0.opens
  obtain ⟨pob, pcb, nob, ncb, qob, qcb, rob, rcb, rfl, _⟩ := w1.opens
  clear w0 w1
  go_enter Try.func7, Try.ntmps7
  obtain ⟨C0, hC0⟩ : ∃ C : Array Value, C = #[.int .i64 a.s, .int .u64 a.z, .int .u64 a.zc, .int .u64 a.c, .int .u64 a.sm, .slice poa a.P.length pca, .slice noa a.N.length nca, .slice qoa a.pd.length qca, .slice roa a.nd.length rca] := ⟨_, rfl⟩
  obtain ⟨C1, hC1⟩ : ∃ C : Array Value, C = #[.int .i64 b.s, .int .u64 b.z, .int .u64 b.zc, .int .u64 b.c, .int .u64 b.sm, .slice pob b.P.length pcb, .slice nob b.N.length ncb, .slice qob b.pd.length qcb, .slice rob b.nd.length rcb] := ⟨_, rfl⟩
  have HZ := entry2H_at w C0 C1
  subst hC0
  subst hC1
  go_wp2_with fail
  generalize (w.alloc (.cells _ _)).alloc (.cells _ _) = wA at HZ ⊢
  refine (hsmall_any _ a wA (HA.out _ HZ.out.2.2)).mono ?_
  rintro e ws0 ⟨r, rfl, hr, hf⟩
  have HF0 : Hid (Fr [] w ws0) := HZ.out.2.2.trans hf (by simp)
  have HN0 : Hid (Nine ws0 (w.heap.size) _ ∧ Nine ws0 (w.heap.size + 1) _) := ⟨HZ.out.1.kept hf (by simp), HZ.out.2.1.kept hf (by simp)⟩
  have HR : Hid (r = true → Few a) := hr
  clear hf hr HZ
  cases r with
  | false =>
    go_wp2_with fail
    refine (awake11_any ws0).mono ?_
    rintro e wq ⟨rfl, hf⟩
    have HFQ : Hid (Fr [] w wq) := HF0.out.trans hf (by simp)
    clear hf
    go_wp2
    go_ret
    exact ⟨rfl, HFQ.out.below (Nat.le_refl _) (by simp)⟩
  | true =>
    have HWA : Hid (Few a) := HR.out rfl
    clear HR
    have d0 := HN0.out.2.cell 0 rfl
    have d1 := HN0.out.2.cell 1 rfl
    have d2 := HN0.out.2.cell 2 rfl
    have d3 := HN0.out.2.cell 3 rfl
    have d4 := HN0.out.2.cell 4 rfl
    have d5 := HN0.out.2.cell 5 rfl
    have d6 := HN0.out.2.cell 6 rfl
    have d7 := HN0.out.2.cell 7 rfl
    have d8 := HN0.out.2.cell 8 rfl
    go_wp2_with fail
    refine (hsmall_any _ b ws0 (HB.out _ HF0.out)).mono ?_
    rintro e ws1 ⟨r, rfl, hr, hf⟩
    have HF1 : Hid (Fr [] w ws1) := HF0.out.trans hf (by simp)
    have HN1 : Hid (Nine ws1 (w.heap.size) _ ∧ Nine ws1 (w.heap.size + 1) _) := ⟨HN0.out.1.kept hf (by simp), HN0.out.2.kept hf (by simp)⟩
    have HR : Hid (r = true → Few b) := hr
    clear hf hr HN0 HF0 d0 d1 d2 d3 d4 d5 d6 d7 d8
    cases r with
    | false =>
      go_wp2_with fail
      refine (awake11_any ws1).mono ?_
      rintro e wq ⟨rfl, hf⟩
      have HFQ : Hid (Fr [] w wq) := HF1.out.trans hf (by simp)
      clear hf
      go_wp2
      go_ret
      exact ⟨rfl, HFQ.out.below (Nat.le_refl _) (by simp)⟩
    | true =>
      have HWB : Hid (Few b) := HR.out rfl
      clear HR
      have La0 : ∀ wx, Fr [] ws1 wx → wx.cell? ⟨w.heap.size, 0, none⟩ = some (.int .i64 a.s) := fun wx hx => hx.cell_some ((HN1.out.1).cell 0 rfl) List.not_mem_nil
      have La1 : ∀ wx, Fr [] ws1 wx → wx.cell? ⟨w.heap.size, 1, none⟩ = some (.int .u64 a.z) := fun wx hx => hx.cell_some ((HN1.out.1).cell 1 rfl) List.not_mem_nil
      have La2 : ∀ wx, Fr [] ws1 wx → wx.cell? ⟨w.heap.size, 2, none⟩ = some (.int .u64 a.zc) := fun wx hx => hx.cell_some ((HN1.out.1).cell 2 rfl) List.not_mem_nil
      have La3 : ∀ wx, Fr [] ws1 wx → wx.cell? ⟨w.heap.size, 3, none⟩ = some (.int .u64 a.c) := fun wx hx => hx.cell_some ((HN1.out.1).cell 3 rfl) List.not_mem_nil
      have La4 : ∀ wx, Fr [] ws1 wx → wx.cell? ⟨w.heap.size, 4, none⟩ = some (.int .u64 a.sm) := fun wx hx => hx.cell_some ((HN1.out.1).cell 4 rfl) List.not_mem_nil
      have La5 : ∀ wx, Fr [] ws1 wx → wx.cell? ⟨w.heap.size, 5, none⟩ = some (.slice poa a.P.length pca) := fun wx hx => hx.cell_some ((HN1.out.1).cell 5 rfl) List.not_mem_nil
      have La6 : ∀ wx, Fr [] ws1 wx → wx.cell? ⟨w.heap.size, 6, none⟩ = some (.slice noa a.N.length nca) := fun wx hx => hx.cell_some ((HN1.out.1).cell 6 rfl) List.not_mem_nil
      have La7 : ∀ wx, Fr [] ws1 wx → wx.cell? ⟨w.heap.size, 7, none⟩ = some (.slice qoa a.pd.length qca) := fun wx hx => hx.cell_some ((HN1.out.1).cell 7 rfl) List.not_mem_nil
      have La8 : ∀ wx, Fr [] ws1 wx → wx.cell? ⟨w.heap.size, 8, none⟩ = some (.slice roa a.nd.length rca) := fun wx hx => hx.cell_some ((HN1.out.1).cell 8 rfl) List.not_mem_nil
      have Lb0 : ∀ wx, Fr [] ws1 wx → wx.cell? ⟨w.heap.size + 1, 0, none⟩ = some (.int .i64 b.s) := fun wx hx => hx.cell_some ((HN1.out.2).cell 0 rfl) List.not_mem_nil
      have Lb1 : ∀ wx, Fr [] ws1 wx → wx.cell? ⟨w.heap.size + 1, 1, none⟩ = some (.int .u64 b.z) := fun wx hx => hx.cell_some ((HN1.out.2).cell 1 rfl) List.not_mem_nil
      have Lb2 : ∀ wx, Fr [] ws1 wx → wx.cell? ⟨w.heap.size + 1, 2, none⟩ = some (.int .u64 b.zc) := fun wx hx => hx.cell_some ((HN1.out.2).cell 2 rfl) List.not_mem_nil
      have Lb3 : ∀ wx, Fr [] ws1 wx → wx.cell? ⟨w.heap.size + 1, 3, none⟩ = some (.int .u64 b.c) := fun wx hx => hx.cell_some ((HN1.out.2).cell 3 rfl) List.not_mem_nil
      have Lb4 : ∀ wx, Fr [] ws1 wx → wx.cell? ⟨w.heap.size + 1, 4, none⟩ = some (.int .u64 b.sm) := fun wx hx => hx.cell_some ((HN1.out.2).cell 4 rfl) List.not_mem_nil
      have Lb5 : ∀ wx, Fr [] ws1 wx → wx.cell? ⟨w.heap.size + 1, 5, none⟩ = some (.slice pob b.P.length pcb) := fun wx hx => hx.cell_some ((HN1.out.2).cell 5 rfl) List.not_mem_nil
      have Lb6 : ∀ wx, Fr [] ws1 wx → wx.cell? ⟨w.heap.size + 1, 6, none⟩ = some (.slice nob b.N.length ncb) := fun wx hx => hx.cell_some ((HN1.out.2).cell 6 rfl) List.not_mem_nil
      have Lb7 : ∀ wx, Fr [] ws1 wx → wx.cell? ⟨w.heap.size + 1, 7, none⟩ = some (.slice qob b.pd.length qcb) := fun wx hx => hx.cell_some ((HN1.out.2).cell 7 rfl) List.not_mem_nil
      have Lb8 : ∀ wx, Fr [] ws1 wx → wx.cell? ⟨w.heap.size + 1, 8, none⟩ = some (.slice rob b.nd.length rcb) := fun wx hx => hx.cell_some ((HN1.out.2).cell 8 rfl) List.not_mem_nil
      have F0 : Fr [] ws1 ws1 := Fr.refl _ _
      have HUU : Hid ((inu a.zc ∧ inu a.c) ∧ (inu b.zc ∧ inu b.c)) := ⟨hsrc_in (HA.out w (Fr.refl _ _)), hsrc_in (HB.out w (Fr.refl _ _))⟩
      obtain ⟨X, hX⟩ : ∃ X, frh a = X := ⟨_, rfl⟩
      obtain ⟨Y, hY⟩ : ∃ Y, frh b = Y := ⟨_, rfl⟩
      have HXX : Hid (frh a = X) := hX
      have HYY : Hid (frh b = Y) := hY
      by_cases hca : che a = 0
      case neg =>
        have EE : Hid (riv a b = (0, 0) ∧ rie a b = che a) := rv_a hca
        clear hX hY
        have d0 : (che a != 0) = true := by simpa using hca
        go_wp2_with fail
        refine (ffrom_any _ a ws1 (HA.out _ (HF1.out.trans F0 (by simp)))).mono ?_
        rintro e u0 ⟨v, rfl, hv, f⟩
        rw [HXX.out] at hv
        obtain ⟨poX, pcX, noX, ncX, qoX, qcX, roX, rcX, rfl, hs⟩ := hv.opensX
        have HX : Hid (NineF (u0.alloc (.cells #[.int .i64 X.s, .int .u64 X.z, .int .u64 X.zc, .int .u64 X.c, .int .u64 X.sm, .slice poX X.P.length pcX, .slice noX X.N.length ncX, .slice qoX X.pd.length qcX, .slice roX X.nd.length rcX] 44)) u0.heap.size #[.int .i64 X.s, .int .u64 X.z, .int .u64 X.zc, .int .u64 X.c, .int .u64 X.sm, .slice poX X.P.length pcX, .slice noX X.N.length ncX, .slice qoX X.pd.length qcX, .slice roX X.nd.length rcX] ∧ Fr [] ws1 (u0.alloc (.cells #[.int .i64 X.s, .int .u64 X.z, .int .u64 X.zc, .int .u64 X.c, .int .u64 X.sm, .slice poX X.P.length pcX, .slice noX X.N.length ncX, .slice qoX X.pd.length qcX, .slice roX X.nd.length rcX] 44)) ∧ FSrc (u0.alloc (.cells #[.int .i64 X.s, .int .u64 X.z, .int .u64 X.zc, .int .u64 X.c, .int .u64 X.sm, .slice poX X.P.length pcX, .slice noX X.N.length ncX, .slice qoX X.pd.length qcX, .slice roX X.nd.length rcX] 44)) (.agg #[.int .i64 X.s, .int .u64 X.z, .int .u64 X.zc, .int .u64 X.c, .int .u64 X.sm, .slice poX X.P.length pcX, .slice noX X.N.length ncX, .slice qoX X.pd.length qcX, .slice roX X.nd.length rcX]) X) := ⟨NineF.new _ _, (F0.trans f (by simp)).alloc _, hs.kept ((Fr.refl [] _).alloc _)⟩
        clear f hv hs
        go_upto_region 4 with fail
        generalize u0.alloc (.cells _ _) = wX at HX ⊢
        generalize u0.heap.size = GX at HX ⊢
        have HQX : Hid (Fr [] ws1 wX) := HX.out.2.1
        have HFB1 : Hid (Fr [] w wX) := HF1.out.trans HQX.out (by simp)
        have Na0 : ∀ wx, Fr [] wX wx → wx.cell? ⟨w.heap.size, 0, none⟩ = some (.int .i64 a.s) := fun wx hx => La0 wx (HQX.out.trans hx (by simp))
        have Na1 : ∀ wx, Fr [] wX wx → wx.cell? ⟨w.heap.size, 1, none⟩ = some (.int .u64 a.z) := fun wx hx => La1 wx (HQX.out.trans hx (by simp))
        have Na2 : ∀ wx, Fr [] wX wx → wx.cell? ⟨w.heap.size, 2, none⟩ = some (.int .u64 a.zc) := fun wx hx => La2 wx (HQX.out.trans hx (by simp))
        have Na3 : ∀ wx, Fr [] wX wx → wx.cell? ⟨w.heap.size, 3, none⟩ = some (.int .u64 a.c) := fun wx hx => La3 wx (HQX.out.trans hx (by simp))
        have Na4 : ∀ wx, Fr [] wX wx → wx.cell? ⟨w.heap.size, 4, none⟩ = some (.int .u64 a.sm) := fun wx hx => La4 wx (HQX.out.trans hx (by simp))
        have Na5 : ∀ wx, Fr [] wX wx → wx.cell? ⟨w.heap.size, 5, none⟩ = some (.slice poa a.P.length pca) := fun wx hx => La5 wx (HQX.out.trans hx (by simp))
        have Na6 : ∀ wx, Fr [] wX wx → wx.cell? ⟨w.heap.size, 6, none⟩ = some (.slice noa a.N.length nca) := fun wx hx => La6 wx (HQX.out.trans hx (by simp))
        have Na7 : ∀ wx, Fr [] wX wx → wx.cell? ⟨w.heap.size, 7, none⟩ = some (.slice qoa a.pd.length qca) := fun wx hx => La7 wx (HQX.out.trans hx (by simp))
        have Na8 : ∀ wx, Fr [] wX wx → wx.cell? ⟨w.heap.size, 8, none⟩ = some (.slice roa a.nd.length rca) := fun wx hx => La8 wx (HQX.out.trans hx (by simp))
        have Nb0 : ∀ wx, Fr [] wX wx → wx.cell? ⟨w.heap.size + 1, 0, none⟩ = some (.int .i64 b.s) := fun wx hx => Lb0 wx (HQX.out.trans hx (by simp))
        have Nb1 : ∀ wx, Fr [] wX wx → wx.cell? ⟨w.heap.size + 1, 1, none⟩ = some (.int .u64 b.z) := fun wx hx => Lb1 wx (HQX.out.trans hx (by simp))
        have Nb2 : ∀ wx, Fr [] wX wx → wx.cell? ⟨w.heap.size + 1, 2, none⟩ = some (.int .u64 b.zc) := fun wx hx => Lb2 wx (HQX.out.trans hx (by simp))
        have Nb3 : ∀ wx, Fr [] wX wx → wx.cell? ⟨w.heap.size + 1, 3, none⟩ = some (.int .u64 b.c) := fun wx hx => Lb3 wx (HQX.out.trans hx (by simp))
        have Nb4 : ∀ wx, Fr [] wX wx → wx.cell? ⟨w.heap.size + 1, 4, none⟩ = some (.int .u64 b.sm) := fun wx hx => Lb4 wx (HQX.out.trans hx (by simp))
        have Nb5 : ∀ wx, Fr [] wX wx → wx.cell? ⟨w.heap.size + 1, 5, none⟩ = some (.slice pob b.P.length pcb) := fun wx hx => Lb5 wx (HQX.out.trans hx (by simp))
        have Nb6 : ∀ wx, Fr [] wX wx → wx.cell? ⟨w.heap.size + 1, 6, none⟩ = some (.slice nob b.N.length ncb) := fun wx hx => Lb6 wx (HQX.out.trans hx (by simp))
        have Nb7 : ∀ wx, Fr [] wX wx → wx.cell? ⟨w.heap.size + 1, 7, none⟩ = some (.slice qob b.pd.length qcb) := fun wx hx => Lb7 wx (HQX.out.trans hx (by simp))
        have Nb8 : ∀ wx, Fr [] wX wx → wx.cell? ⟨w.heap.size + 1, 8, none⟩ = some (.slice rob b.nd.length rcb) := fun wx hx => Lb8 wx (HQX.out.trans hx (by simp))
        clear La0 La1 La2 La3 La4 La5 La6 La7 La8 Lb0 Lb1 Lb2 Lb3 Lb4 Lb5 Lb6 Lb7 Lb8 F0
        have La0 := Na0
        have La1 := Na1
        have La2 := Na2
        have La3 := Na3
        have La4 := Na4
        have La5 := Na5
        have La6 := Na6
        have La7 := Na7
        have La8 := Na8
        have Lb0 := Nb0
        have Lb1 := Nb1
        have Lb2 := Nb2
        have Lb3 := Nb3
        have Lb4 := Nb4
        have Lb5 := Nb5
        have Lb6 := Nb6
        have Lb7 := Nb7
        have Lb8 := Nb8
        clear Na0 Na1 Na2 Na3 Na4 Na5 Na6 Na7 Na8 Nb0 Nb1 Nb2 Nb3 Nb4 Nb5 Nb6 Nb7 Nb8
        have F0 : Fr [] wX wX := Fr.refl _ _
        have LX0 : ∀ wx, Fr [] wX wx → wx.cell? ⟨GX, 0, none⟩ = some (.int .i64 X.s) := fun wx hx => hx.cell_some (HX.out.1.cell 0 rfl) List.not_mem_nil
        have LX1 : ∀ wx, Fr [] wX wx → wx.cell? ⟨GX, 1, none⟩ = some (.int .u64 X.z) := fun wx hx => hx.cell_some (HX.out.1.cell 1 rfl) List.not_mem_nil
        have LX2 : ∀ wx, Fr [] wX wx → wx.cell? ⟨GX, 2, none⟩ = some (.int .u64 X.zc) := fun wx hx => hx.cell_some (HX.out.1.cell 2 rfl) List.not_mem_nil
        have LX3 : ∀ wx, Fr [] wX wx → wx.cell? ⟨GX, 3, none⟩ = some (.int .u64 X.c) := fun wx hx => hx.cell_some (HX.out.1.cell 3 rfl) List.not_mem_nil
        have LX4 : ∀ wx, Fr [] wX wx → wx.cell? ⟨GX, 4, none⟩ = some (.int .u64 X.sm) := fun wx hx => hx.cell_some (HX.out.1.cell 4 rfl) List.not_mem_nil
        have LX5 : ∀ wx, Fr [] wX wx → wx.cell? ⟨GX, 5, none⟩ = some (.slice poX X.P.length pcX) := fun wx hx => hx.cell_some (HX.out.1.cell 5 rfl) List.not_mem_nil
        have LX6 : ∀ wx, Fr [] wX wx → wx.cell? ⟨GX, 6, none⟩ = some (.slice noX X.N.length ncX) := fun wx hx => hx.cell_some (HX.out.1.cell 6 rfl) List.not_mem_nil
        have LX7 : ∀ wx, Fr [] wX wx → wx.cell? ⟨GX, 7, none⟩ = some (.slice qoX X.pd.length qcX) := fun wx hx => hx.cell_some (HX.out.1.cell 7 rfl) List.not_mem_nil
        have LX8 : ∀ wx, Fr [] wX wx → wx.cell? ⟨GX, 8, none⟩ = some (.slice roX X.nd.length rcX) := fun wx hx => hx.cell_some (HX.out.1.cell 8 rfl) List.not_mem_nil
        have HSX : Hid (∀ wx, Fr [] wX wx → FSrc wx (.agg #[.int .i64 X.s, .int .u64 X.z, .int .u64 X.zc, .int .u64 X.c, .int .u64 X.sm, .slice poX X.P.length pcX, .slice noX X.N.length ncX, .slice qoX X.pd.length qcX, .slice roX X.nd.length rcX]) X) := fun wx hx => HX.out.2.2.kept hx
        go_wp2_with fail
        refine (ffrom_any _ b wX (HB.out _ (HFB1.out.trans F0 (by simp)))).mono ?_
        rintro e u0 ⟨v, rfl, hv, f⟩
        rw [HYY.out] at hv
        obtain ⟨poY, pcY, noY, ncY, qoY, qcY, roY, rcY, rfl, hs⟩ := hv.opensX
        have HY : Hid (NineF (u0.alloc (.cells #[.int .i64 Y.s, .int .u64 Y.z, .int .u64 Y.zc, .int .u64 Y.c, .int .u64 Y.sm, .slice poY Y.P.length pcY, .slice noY Y.N.length ncY, .slice qoY Y.pd.length qcY, .slice roY Y.nd.length rcY] 44)) u0.heap.size #[.int .i64 Y.s, .int .u64 Y.z, .int .u64 Y.zc, .int .u64 Y.c, .int .u64 Y.sm, .slice poY Y.P.length pcY, .slice noY Y.N.length ncY, .slice qoY Y.pd.length qcY, .slice roY Y.nd.length rcY] ∧ Fr [] wX (u0.alloc (.cells #[.int .i64 Y.s, .int .u64 Y.z, .int .u64 Y.zc, .int .u64 Y.c, .int .u64 Y.sm, .slice poY Y.P.length pcY, .slice noY Y.N.length ncY, .slice qoY Y.pd.length qcY, .slice roY Y.nd.length rcY] 44)) ∧ FSrc (u0.alloc (.cells #[.int .i64 Y.s, .int .u64 Y.z, .int .u64 Y.zc, .int .u64 Y.c, .int .u64 Y.sm, .slice poY Y.P.length pcY, .slice noY Y.N.length ncY, .slice qoY Y.pd.length qcY, .slice roY Y.nd.length rcY] 44)) (.agg #[.int .i64 Y.s, .int .u64 Y.z, .int .u64 Y.zc, .int .u64 Y.c, .int .u64 Y.sm, .slice poY Y.P.length pcY, .slice noY Y.N.length ncY, .slice qoY Y.pd.length qcY, .slice roY Y.nd.length rcY]) Y) := ⟨NineF.new _ _, (F0.trans f (by simp)).alloc _, hs.kept ((Fr.refl [] _).alloc _)⟩
        clear f hv hs
        go_upto_region 5 with fail
        generalize u0.alloc (.cells _ _) = wY at HY ⊢
        generalize u0.heap.size = GY at HY ⊢
        have HQY : Hid (Fr [] wX wY) := HY.out.2.1
        have HFB2 : Hid (Fr [] w wY) := HFB1.out.trans HQY.out (by simp)
        have Na0 : ∀ wx, Fr [] wY wx → wx.cell? ⟨w.heap.size, 0, none⟩ = some (.int .i64 a.s) := fun wx hx => La0 wx (HQY.out.trans hx (by simp))
        have Na1 : ∀ wx, Fr [] wY wx → wx.cell? ⟨w.heap.size, 1, none⟩ = some (.int .u64 a.z) := fun wx hx => La1 wx (HQY.out.trans hx (by simp))
        have Na2 : ∀ wx, Fr [] wY wx → wx.cell? ⟨w.heap.size, 2, none⟩ = some (.int .u64 a.zc) := fun wx hx => La2 wx (HQY.out.trans hx (by simp))
        have Na3 : ∀ wx, Fr [] wY wx → wx.cell? ⟨w.heap.size, 3, none⟩ = some (.int .u64 a.c) := fun wx hx => La3 wx (HQY.out.trans hx (by simp))
        have Na4 : ∀ wx, Fr [] wY wx → wx.cell? ⟨w.heap.size, 4, none⟩ = some (.int .u64 a.sm) := fun wx hx => La4 wx (HQY.out.trans hx (by simp))
        have Na5 : ∀ wx, Fr [] wY wx → wx.cell? ⟨w.heap.size, 5, none⟩ = some (.slice poa a.P.length pca) := fun wx hx => La5 wx (HQY.out.trans hx (by simp))
        have Na6 : ∀ wx, Fr [] wY wx → wx.cell? ⟨w.heap.size, 6, none⟩ = some (.slice noa a.N.length nca) := fun wx hx => La6 wx (HQY.out.trans hx (by simp))
        have Na7 : ∀ wx, Fr [] wY wx → wx.cell? ⟨w.heap.size, 7, none⟩ = some (.slice qoa a.pd.length qca) := fun wx hx => La7 wx (HQY.out.trans hx (by simp))
        have Na8 : ∀ wx, Fr [] wY wx → wx.cell? ⟨w.heap.size, 8, none⟩ = some (.slice roa a.nd.length rca) := fun wx hx => La8 wx (HQY.out.trans hx (by simp))
        have Nb0 : ∀ wx, Fr [] wY wx → wx.cell? ⟨w.heap.size + 1, 0, none⟩ = some (.int .i64 b.s) := fun wx hx => Lb0 wx (HQY.out.trans hx (by simp))
        have Nb1 : ∀ wx, Fr [] wY wx → wx.cell? ⟨w.heap.size + 1, 1, none⟩ = some (.int .u64 b.z) := fun wx hx => Lb1 wx (HQY.out.trans hx (by simp))
        have Nb2 : ∀ wx, Fr [] wY wx → wx.cell? ⟨w.heap.size + 1, 2, none⟩ = some (.int .u64 b.zc) := fun wx hx => Lb2 wx (HQY.out.trans hx (by simp))
        have Nb3 : ∀ wx, Fr [] wY wx → wx.cell? ⟨w.heap.size + 1, 3, none⟩ = some (.int .u64 b.c) := fun wx hx => Lb3 wx (HQY.out.trans hx (by simp))
        have Nb4 : ∀ wx, Fr [] wY wx → wx.cell? ⟨w.heap.size + 1, 4, none⟩ = some (.int .u64 b.sm) := fun wx hx => Lb4 wx (HQY.out.trans hx (by simp))
        have Nb5 : ∀ wx, Fr [] wY wx → wx.cell? ⟨w.heap.size + 1, 5, none⟩ = some (.slice pob b.P.length pcb) := fun wx hx => Lb5 wx (HQY.out.trans hx (by simp))
        have Nb6 : ∀ wx, Fr [] wY wx → wx.cell? ⟨w.heap.size + 1, 6, none⟩ = some (.slice nob b.N.length ncb) := fun wx hx => Lb6 wx (HQY.out.trans hx (by simp))
        have Nb7 : ∀ wx, Fr [] wY wx → wx.cell? ⟨w.heap.size + 1, 7, none⟩ = some (.slice qob b.pd.length qcb) := fun wx hx => Lb7 wx (HQY.out.trans hx (by simp))
        have Nb8 : ∀ wx, Fr [] wY wx → wx.cell? ⟨w.heap.size + 1, 8, none⟩ = some (.slice rob b.nd.length rcb) := fun wx hx => Lb8 wx (HQY.out.trans hx (by simp))
        clear La0 La1 La2 La3 La4 La5 La6 La7 La8 Lb0 Lb1 Lb2 Lb3 Lb4 Lb5 Lb6 Lb7 Lb8 F0
        have La0 := Na0
        have La1 := Na1
        have La2 := Na2
        have La3 := Na3
        have La4 := Na4
        have La5 := Na5
        have La6 := Na6
        have La7 := Na7
        have La8 := Na8
        have Lb0 := Nb0
        have Lb1 := Nb1
        have Lb2 := Nb2
        have Lb3 := Nb3
        have Lb4 := Nb4
        have Lb5 := Nb5
        have Lb6 := Nb6
        have Lb7 := Nb7
        have Lb8 := Nb8
        clear Na0 Na1 Na2 Na3 Na4 Na5 Na6 Na7 Na8 Nb0 Nb1 Nb2 Nb3 Nb4 Nb5 Nb6 Nb7 Nb8
        have NLX0 : ∀ wx, Fr [] wY wx → wx.cell? ⟨GX, 0, none⟩ = some (.int .i64 X.s) := fun wx hx => LX0 wx (HQY.out.trans hx (by simp))
        have NLX1 : ∀ wx, Fr [] wY wx → wx.cell? ⟨GX, 1, none⟩ = some (.int .u64 X.z) := fun wx hx => LX1 wx (HQY.out.trans hx (by simp))
        have NLX2 : ∀ wx, Fr [] wY wx → wx.cell? ⟨GX, 2, none⟩ = some (.int .u64 X.zc) := fun wx hx => LX2 wx (HQY.out.trans hx (by simp))
        have NLX3 : ∀ wx, Fr [] wY wx → wx.cell? ⟨GX, 3, none⟩ = some (.int .u64 X.c) := fun wx hx => LX3 wx (HQY.out.trans hx (by simp))
        have NLX4 : ∀ wx, Fr [] wY wx → wx.cell? ⟨GX, 4, none⟩ = some (.int .u64 X.sm) := fun wx hx => LX4 wx (HQY.out.trans hx (by simp))
        have NLX5 : ∀ wx, Fr [] wY wx → wx.cell? ⟨GX, 5, none⟩ = some (.slice poX X.P.length pcX) := fun wx hx => LX5 wx (HQY.out.trans hx (by simp))
        have NLX6 : ∀ wx, Fr [] wY wx → wx.cell? ⟨GX, 6, none⟩ = some (.slice noX X.N.length ncX) := fun wx hx => LX6 wx (HQY.out.trans hx (by simp))
        have NLX7 : ∀ wx, Fr [] wY wx → wx.cell? ⟨GX, 7, none⟩ = some (.slice qoX X.pd.length qcX) := fun wx hx => LX7 wx (HQY.out.trans hx (by simp))
        have NLX8 : ∀ wx, Fr [] wY wx → wx.cell? ⟨GX, 8, none⟩ = some (.slice roX X.nd.length rcX) := fun wx hx => LX8 wx (HQY.out.trans hx (by simp))
        clear LX0 LX1 LX2 LX3 LX4 LX5 LX6 LX7 LX8
        have LX0 := NLX0
        have LX1 := NLX1
        have LX2 := NLX2
        have LX3 := NLX3
        have LX4 := NLX4
        have LX5 := NLX5
        have LX6 := NLX6
        have LX7 := NLX7
        have LX8 := NLX8
        clear NLX0 NLX1 NLX2 NLX3 NLX4 NLX5 NLX6 NLX7 NLX8
        have NHSX : Hid (∀ wx, Fr [] wY wx → FSrc wx (.agg #[.int .i64 X.s, .int .u64 X.z, .int .u64 X.zc, .int .u64 X.c, .int .u64 X.sm, .slice poX X.P.length pcX, .slice noX X.N.length ncX, .slice qoX X.pd.length qcX, .slice roX X.nd.length rcX]) X) := fun wx hx => HSX.out wx (HQY.out.trans hx (by simp))
        clear HSX
        have HSX : Hid (∀ wx, Fr [] wY wx → FSrc wx (.agg #[.int .i64 X.s, .int .u64 X.z, .int .u64 X.zc, .int .u64 X.c, .int .u64 X.sm, .slice poX X.P.length pcX, .slice noX X.N.length ncX, .slice qoX X.pd.length qcX, .slice roX X.nd.length rcX]) X) := NHSX
        clear NHSX
        have F0 : Fr [] wY wY := Fr.refl _ _
        have LY0 : ∀ wx, Fr [] wY wx → wx.cell? ⟨GY, 0, none⟩ = some (.int .i64 Y.s) := fun wx hx => hx.cell_some (HY.out.1.cell 0 rfl) List.not_mem_nil
        have LY1 : ∀ wx, Fr [] wY wx → wx.cell? ⟨GY, 1, none⟩ = some (.int .u64 Y.z) := fun wx hx => hx.cell_some (HY.out.1.cell 1 rfl) List.not_mem_nil
        have LY2 : ∀ wx, Fr [] wY wx → wx.cell? ⟨GY, 2, none⟩ = some (.int .u64 Y.zc) := fun wx hx => hx.cell_some (HY.out.1.cell 2 rfl) List.not_mem_nil
        have LY3 : ∀ wx, Fr [] wY wx → wx.cell? ⟨GY, 3, none⟩ = some (.int .u64 Y.c) := fun wx hx => hx.cell_some (HY.out.1.cell 3 rfl) List.not_mem_nil
        have LY4 : ∀ wx, Fr [] wY wx → wx.cell? ⟨GY, 4, none⟩ = some (.int .u64 Y.sm) := fun wx hx => hx.cell_some (HY.out.1.cell 4 rfl) List.not_mem_nil
        have LY5 : ∀ wx, Fr [] wY wx → wx.cell? ⟨GY, 5, none⟩ = some (.slice poY Y.P.length pcY) := fun wx hx => hx.cell_some (HY.out.1.cell 5 rfl) List.not_mem_nil
        have LY6 : ∀ wx, Fr [] wY wx → wx.cell? ⟨GY, 6, none⟩ = some (.slice noY Y.N.length ncY) := fun wx hx => hx.cell_some (HY.out.1.cell 6 rfl) List.not_mem_nil
        have LY7 : ∀ wx, Fr [] wY wx → wx.cell? ⟨GY, 7, none⟩ = some (.slice qoY Y.pd.length qcY) := fun wx hx => hx.cell_some (HY.out.1.cell 7 rfl) List.not_mem_nil
        have LY8 : ∀ wx, Fr [] wY wx → wx.cell? ⟨GY, 8, none⟩ = some (.slice roY Y.nd.length rcY) := fun wx hx => hx.cell_some (HY.out.1.cell 8 rfl) List.not_mem_nil
        have HSY : Hid (∀ wx, Fr [] wY wx → FSrc wx (.agg #[.int .i64 Y.s, .int .u64 Y.z, .int .u64 Y.zc, .int .u64 Y.c, .int .u64 Y.sm, .slice poY Y.P.length pcY, .slice noY Y.N.length ncY, .slice qoY Y.pd.length qcY, .slice roY Y.nd.length rcY]) Y) := fun wx hx => HY.out.2.2.kept hx
        go_wp2_with fail
        refine (ints_any _ _ a b wY (HA.out _ (HFB2.out.trans F0 (by simp))) (HB.out _ (HFB2.out.trans F0 (by simp)))).mono ?_
        rintro e u0 ⟨rfl, f⟩
        rw [EE.out.1, EE.out.2]
        have HV : Hid ((u0.alloc (.cells #[.int .i64 0, .int .i64 0] 30)).heap[u0.heap.size]? = some (.cells #[.int .i64 0, .int .i64 0] 30 (0, 0)) ∧ Fr [] wY (u0.alloc (.cells #[.int .i64 0, .int .i64 0] 30))) := ⟨heap_alloc_new _ _, (F0.trans f (by simp)).alloc _⟩
        clear f
        go_upto_region 6 with fail
        generalize u0.alloc (.cells _ _) = wV at HV ⊢
        generalize u0.heap.size = GV at HV ⊢
        have HQV : Hid (Fr [] wY wV) := HV.out.2
        have HFB3 : Hid (Fr [] w wV) := HFB2.out.trans HQV.out (by simp)
        have Na0 : ∀ wx, Fr [] wV wx → wx.cell? ⟨w.heap.size, 0, none⟩ = some (.int .i64 a.s) := fun wx hx => La0 wx (HQV.out.trans hx (by simp))
        have Na1 : ∀ wx, Fr [] wV wx → wx.cell? ⟨w.heap.size, 1, none⟩ = some (.int .u64 a.z) := fun wx hx => La1 wx (HQV.out.trans hx (by simp))
        have Na2 : ∀ wx, Fr [] wV wx → wx.cell? ⟨w.heap.size, 2, none⟩ = some (.int .u64 a.zc) := fun wx hx => La2 wx (HQV.out.trans hx (by simp))
        have Na3 : ∀ wx, Fr [] wV wx → wx.cell? ⟨w.heap.size, 3, none⟩ = some (.int .u64 a.c) := fun wx hx => La3 wx (HQV.out.trans hx (by simp))
        have Na4 : ∀ wx, Fr [] wV wx → wx.cell? ⟨w.heap.size, 4, none⟩ = some (.int .u64 a.sm) := fun wx hx => La4 wx (HQV.out.trans hx (by simp))
        have Na5 : ∀ wx, Fr [] wV wx → wx.cell? ⟨w.heap.size, 5, none⟩ = some (.slice poa a.P.length pca) := fun wx hx => La5 wx (HQV.out.trans hx (by simp))
        have Na6 : ∀ wx, Fr [] wV wx → wx.cell? ⟨w.heap.size, 6, none⟩ = some (.slice noa a.N.length nca) := fun wx hx => La6 wx (HQV.out.trans hx (by simp))
        have Na7 : ∀ wx, Fr [] wV wx → wx.cell? ⟨w.heap.size, 7, none⟩ = some (.slice qoa a.pd.length qca) := fun wx hx => La7 wx (HQV.out.trans hx (by simp))
        have Na8 : ∀ wx, Fr [] wV wx → wx.cell? ⟨w.heap.size, 8, none⟩ = some (.slice roa a.nd.length rca) := fun wx hx => La8 wx (HQV.out.trans hx (by simp))
        have Nb0 : ∀ wx, Fr [] wV wx → wx.cell? ⟨w.heap.size + 1, 0, none⟩ = some (.int .i64 b.s) := fun wx hx => Lb0 wx (HQV.out.trans hx (by simp))
        have Nb1 : ∀ wx, Fr [] wV wx → wx.cell? ⟨w.heap.size + 1, 1, none⟩ = some (.int .u64 b.z) := fun wx hx => Lb1 wx (HQV.out.trans hx (by simp))
        have Nb2 : ∀ wx, Fr [] wV wx → wx.cell? ⟨w.heap.size + 1, 2, none⟩ = some (.int .u64 b.zc) := fun wx hx => Lb2 wx (HQV.out.trans hx (by simp))
        have Nb3 : ∀ wx, Fr [] wV wx → wx.cell? ⟨w.heap.size + 1, 3, none⟩ = some (.int .u64 b.c) := fun wx hx => Lb3 wx (HQV.out.trans hx (by simp))
        have Nb4 : ∀ wx, Fr [] wV wx → wx.cell? ⟨w.heap.size + 1, 4, none⟩ = some (.int .u64 b.sm) := fun wx hx => Lb4 wx (HQV.out.trans hx (by simp))
        have Nb5 : ∀ wx, Fr [] wV wx → wx.cell? ⟨w.heap.size + 1, 5, none⟩ = some (.slice pob b.P.length pcb) := fun wx hx => Lb5 wx (HQV.out.trans hx (by simp))
        have Nb6 : ∀ wx, Fr [] wV wx → wx.cell? ⟨w.heap.size + 1, 6, none⟩ = some (.slice nob b.N.length ncb) := fun wx hx => Lb6 wx (HQV.out.trans hx (by simp))
        have Nb7 : ∀ wx, Fr [] wV wx → wx.cell? ⟨w.heap.size + 1, 7, none⟩ = some (.slice qob b.pd.length qcb) := fun wx hx => Lb7 wx (HQV.out.trans hx (by simp))
        have Nb8 : ∀ wx, Fr [] wV wx → wx.cell? ⟨w.heap.size + 1, 8, none⟩ = some (.slice rob b.nd.length rcb) := fun wx hx => Lb8 wx (HQV.out.trans hx (by simp))
        clear La0 La1 La2 La3 La4 La5 La6 La7 La8 Lb0 Lb1 Lb2 Lb3 Lb4 Lb5 Lb6 Lb7 Lb8 F0
        have La0 := Na0
        have La1 := Na1
        have La2 := Na2
        have La3 := Na3
        have La4 := Na4
        have La5 := Na5
        have La6 := Na6
        have La7 := Na7
        have La8 := Na8
        have Lb0 := Nb0
        have Lb1 := Nb1
        have Lb2 := Nb2
        have Lb3 := Nb3
        have Lb4 := Nb4
        have Lb5 := Nb5
        have Lb6 := Nb6
        have Lb7 := Nb7
        have Lb8 := Nb8
        clear Na0 Na1 Na2 Na3 Na4 Na5 Na6 Na7 Na8 Nb0 Nb1 Nb2 Nb3 Nb4 Nb5 Nb6 Nb7 Nb8
        have NLX0 : ∀ wx, Fr [] wV wx → wx.cell? ⟨GX, 0, none⟩ = some (.int .i64 X.s) := fun wx hx => LX0 wx (HQV.out.trans hx (by simp))
        have NLX1 : ∀ wx, Fr [] wV wx → wx.cell? ⟨GX, 1, none⟩ = some (.int .u64 X.z) := fun wx hx => LX1 wx (HQV.out.trans hx (by simp))
        have NLX2 : ∀ wx, Fr [] wV wx → wx.cell? ⟨GX, 2, none⟩ = some (.int .u64 X.zc) := fun wx hx => LX2 wx (HQV.out.trans hx (by simp))
        have NLX3 : ∀ wx, Fr [] wV wx → wx.cell? ⟨GX, 3, none⟩ = some (.int .u64 X.c) := fun wx hx => LX3 wx (HQV.out.trans hx (by simp))
        have NLX4 : ∀ wx, Fr [] wV wx → wx.cell? ⟨GX, 4, none⟩ = some (.int .u64 X.sm) := fun wx hx => LX4 wx (HQV.out.trans hx (by simp))
        have NLX5 : ∀ wx, Fr [] wV wx → wx.cell? ⟨GX, 5, none⟩ = some (.slice poX X.P.length pcX) := fun wx hx => LX5 wx (HQV.out.trans hx (by simp))
        have NLX6 : ∀ wx, Fr [] wV wx → wx.cell? ⟨GX, 6, none⟩ = some (.slice noX X.N.length ncX) := fun wx hx => LX6 wx (HQV.out.trans hx (by simp))
        have NLX7 : ∀ wx, Fr [] wV wx → wx.cell? ⟨GX, 7, none⟩ = some (.slice qoX X.pd.length qcX) := fun wx hx => LX7 wx (HQV.out.trans hx (by simp))
        have NLX8 : ∀ wx, Fr [] wV wx → wx.cell? ⟨GX, 8, none⟩ = some (.slice roX X.nd.length rcX) := fun wx hx => LX8 wx (HQV.out.trans hx (by simp))
        have NLY0 : ∀ wx, Fr [] wV wx → wx.cell? ⟨GY, 0, none⟩ = some (.int .i64 Y.s) := fun wx hx => LY0 wx (HQV.out.trans hx (by simp))
        have NLY1 : ∀ wx, Fr [] wV wx → wx.cell? ⟨GY, 1, none⟩ = some (.int .u64 Y.z) := fun wx hx => LY1 wx (HQV.out.trans hx (by simp))
        have NLY2 : ∀ wx, Fr [] wV wx → wx.cell? ⟨GY, 2, none⟩ = some (.int .u64 Y.zc) := fun wx hx => LY2 wx (HQV.out.trans hx (by simp))
        have NLY3 : ∀ wx, Fr [] wV wx → wx.cell? ⟨GY, 3, none⟩ = some (.int .u64 Y.c) := fun wx hx => LY3 wx (HQV.out.trans hx (by simp))
        have NLY4 : ∀ wx, Fr [] wV wx → wx.cell? ⟨GY, 4, none⟩ = some (.int .u64 Y.sm) := fun wx hx => LY4 wx (HQV.out.trans hx (by simp))
        have NLY5 : ∀ wx, Fr [] wV wx → wx.cell? ⟨GY, 5, none⟩ = some (.slice poY Y.P.length pcY) := fun wx hx => LY5 wx (HQV.out.trans hx (by simp))
        have NLY6 : ∀ wx, Fr [] wV wx → wx.cell? ⟨GY, 6, none⟩ = some (.slice noY Y.N.length ncY) := fun wx hx => LY6 wx (HQV.out.trans hx (by simp))
        have NLY7 : ∀ wx, Fr [] wV wx → wx.cell? ⟨GY, 7, none⟩ = some (.slice qoY Y.pd.length qcY) := fun wx hx => LY7 wx (HQV.out.trans hx (by simp))
        have NLY8 : ∀ wx, Fr [] wV wx → wx.cell? ⟨GY, 8, none⟩ = some (.slice roY Y.nd.length rcY) := fun wx hx => LY8 wx (HQV.out.trans hx (by simp))
        clear LX0 LX1 LX2 LX3 LX4 LX5 LX6 LX7 LX8 LY0 LY1 LY2 LY3 LY4 LY5 LY6 LY7 LY8
        have LX0 := NLX0
        have LX1 := NLX1
        have LX2 := NLX2
        have LX3 := NLX3
        have LX4 := NLX4
        have LX5 := NLX5
        have LX6 := NLX6
        have LX7 := NLX7
        have LX8 := NLX8
        have LY0 := NLY0
        have LY1 := NLY1
        have LY2 := NLY2
        have LY3 := NLY3
        have LY4 := NLY4
        have LY5 := NLY5
        have LY6 := NLY6
        have LY7 := NLY7
        have LY8 := NLY8
        clear NLX0 NLX1 NLX2 NLX3 NLX4 NLX5 NLX6 NLX7 NLX8 NLY0 NLY1 NLY2 NLY3 NLY4 NLY5 NLY6 NLY7 NLY8
        have NHSX : Hid (∀ wx, Fr [] wV wx → FSrc wx (.agg #[.int .i64 X.s, .int .u64 X.z, .int .u64 X.zc, .int .u64 X.c, .int .u64 X.sm, .slice poX X.P.length pcX, .slice noX X.N.length ncX, .slice qoX X.pd.length qcX, .slice roX X.nd.length rcX]) X) := fun wx hx => HSX.out wx (HQV.out.trans hx (by simp))
        have NHSY : Hid (∀ wx, Fr [] wV wx → FSrc wx (.agg #[.int .i64 Y.s, .int .u64 Y.z, .int .u64 Y.zc, .int .u64 Y.c, .int .u64 Y.sm, .slice poY Y.P.length pcY, .slice noY Y.N.length ncY, .slice qoY Y.pd.length qcY, .slice roY Y.nd.length rcY]) Y) := fun wx hx => HSY.out wx (HQV.out.trans hx (by simp))
        clear HSX HSY
        have HSX : Hid (∀ wx, Fr [] wV wx → FSrc wx (.agg #[.int .i64 X.s, .int .u64 X.z, .int .u64 X.zc, .int .u64 X.c, .int .u64 X.sm, .slice poX X.P.length pcX, .slice noX X.N.length ncX, .slice qoX X.pd.length qcX, .slice roX X.nd.length rcX]) X) := NHSX
        have HSY : Hid (∀ wx, Fr [] wV wx → FSrc wx (.agg #[.int .i64 Y.s, .int .u64 Y.z, .int .u64 Y.zc, .int .u64 Y.c, .int .u64 Y.sm, .slice poY Y.P.length pcY, .slice noY Y.N.length ncY, .slice qoY Y.pd.length qcY, .slice roY Y.nd.length rcY]) Y) := NHSY
        clear NHSX NHSY
        have F0 : Fr [] wV wV := Fr.refl _ _
        have LV0 : ∀ wx, Fr [] wV wx → wx.cell? ⟨GV, 0, none⟩ = some (.int .i64 0) := fun wx hx => hx.cell_some (cell_at HV.out.1 0) List.not_mem_nil
        have LV1 : ∀ wx, Fr [] wV wx → wx.cell? ⟨GV, 1, none⟩ = some (.int .i64 0) := fun wx hx => hx.cell_some (cell_at HV.out.1 1) List.not_mem_nil
        go_wp2_with fail
        refine (awake11_any wV).mono ?_
        rintro e u1 ⟨rfl, f⟩
        have f1 : Fr [] wV u1 := F0.trans f (by simp)
        clear f F0
        go_wp2
        go_ret
        exact ⟨rfl, (HFB3.out.trans f1 (by simp)).below (Nat.le_refl _) (by simp)⟩
      by_cases hcb : che b = 0
      case neg =>
        have EE : Hid (riv a b = (0, 0) ∧ rie a b = che b) := rv_b hca hcb
        clear hX hY
        have d0 : (che b != 0) = true := by simpa using hcb
        go_wp2_with fail
        refine (ffrom_any _ a ws1 (HA.out _ (HF1.out.trans F0 (by simp)))).mono ?_
        rintro e u0 ⟨v, rfl, hv, f⟩
        rw [hca]
        rw [HXX.out] at hv
        obtain ⟨poX, pcX, noX, ncX, qoX, qcX, roX, rcX, rfl, hs⟩ := hv.opensX
        have HX : Hid (NineF (u0.alloc (.cells #[.int .i64 X.s, .int .u64 X.z, .int .u64 X.zc, .int .u64 X.c, .int .u64 X.sm, .slice poX X.P.length pcX, .slice noX X.N.length ncX, .slice qoX X.pd.length qcX, .slice roX X.nd.length rcX] 44)) u0.heap.size #[.int .i64 X.s, .int .u64 X.z, .int .u64 X.zc, .int .u64 X.c, .int .u64 X.sm, .slice poX X.P.length pcX, .slice noX X.N.length ncX, .slice qoX X.pd.length qcX, .slice roX X.nd.length rcX] ∧ Fr [] ws1 (u0.alloc (.cells #[.int .i64 X.s, .int .u64 X.z, .int .u64 X.zc, .int .u64 X.c, .int .u64 X.sm, .slice poX X.P.length pcX, .slice noX X.N.length ncX, .slice qoX X.pd.length qcX, .slice roX X.nd.length rcX] 44)) ∧ FSrc (u0.alloc (.cells #[.int .i64 X.s, .int .u64 X.z, .int .u64 X.zc, .int .u64 X.c, .int .u64 X.sm, .slice poX X.P.length pcX, .slice noX X.N.length ncX, .slice qoX X.pd.length qcX, .slice roX X.nd.length rcX] 44)) (.agg #[.int .i64 X.s, .int .u64 X.z, .int .u64 X.zc, .int .u64 X.c, .int .u64 X.sm, .slice poX X.P.length pcX, .slice noX X.N.length ncX, .slice qoX X.pd.length qcX, .slice roX X.nd.length rcX]) X) := ⟨NineF.new _ _, (F0.trans f (by simp)).alloc _, hs.kept ((Fr.refl [] _).alloc _)⟩
        clear f hv hs
        go_upto_region 4 with fail
        generalize u0.alloc (.cells _ _) = wX at HX ⊢
        generalize u0.heap.size = GX at HX ⊢
        have HQX : Hid (Fr [] ws1 wX) := HX.out.2.1
        have HFB1 : Hid (Fr [] w wX) := HF1.out.trans HQX.out (by simp)
        have Na0 : ∀ wx, Fr [] wX wx → wx.cell? ⟨w.heap.size, 0, none⟩ = some (.int .i64 a.s) := fun wx hx => La0 wx (HQX.out.trans hx (by simp))
        have Na1 : ∀ wx, Fr [] wX wx → wx.cell? ⟨w.heap.size, 1, none⟩ = some (.int .u64 a.z) := fun wx hx => La1 wx (HQX.out.trans hx (by simp))
        have Na2 : ∀ wx, Fr [] wX wx → wx.cell? ⟨w.heap.size, 2, none⟩ = some (.int .u64 a.zc) := fun wx hx => La2 wx (HQX.out.trans hx (by simp))
        have Na3 : ∀ wx, Fr [] wX wx → wx.cell? ⟨w.heap.size, 3, none⟩ = some (.int .u64 a.c) := fun wx hx => La3 wx (HQX.out.trans hx (by simp))
        have Na4 : ∀ wx, Fr [] wX wx → wx.cell? ⟨w.heap.size, 4, none⟩ = some (.int .u64 a.sm) := fun wx hx => La4 wx (HQX.out.trans hx (by simp))
        have Na5 : ∀ wx, Fr [] wX wx → wx.cell? ⟨w.heap.size, 5, none⟩ = some (.slice poa a.P.length pca) := fun wx hx => La5 wx (HQX.out.trans hx (by simp))
        have Na6 : ∀ wx, Fr [] wX wx → wx.cell? ⟨w.heap.size, 6, none⟩ = some (.slice noa a.N.length nca) := fun wx hx => La6 wx (HQX.out.trans hx (by simp))
        have Na7 : ∀ wx, Fr [] wX wx → wx.cell? ⟨w.heap.size, 7, none⟩ = some (.slice qoa a.pd.length qca) := fun wx hx => La7 wx (HQX.out.trans hx (by simp))
        have Na8 : ∀ wx, Fr [] wX wx → wx.cell? ⟨w.heap.size, 8, none⟩ = some (.slice roa a.nd.length rca) := fun wx hx => La8 wx (HQX.out.trans hx (by simp))
        have Nb0 : ∀ wx, Fr [] wX wx → wx.cell? ⟨w.heap.size + 1, 0, none⟩ = some (.int .i64 b.s) := fun wx hx => Lb0 wx (HQX.out.trans hx (by simp))
        have Nb1 : ∀ wx, Fr [] wX wx → wx.cell? ⟨w.heap.size + 1, 1, none⟩ = some (.int .u64 b.z) := fun wx hx => Lb1 wx (HQX.out.trans hx (by simp))
        have Nb2 : ∀ wx, Fr [] wX wx → wx.cell? ⟨w.heap.size + 1, 2, none⟩ = some (.int .u64 b.zc) := fun wx hx => Lb2 wx (HQX.out.trans hx (by simp))
        have Nb3 : ∀ wx, Fr [] wX wx → wx.cell? ⟨w.heap.size + 1, 3, none⟩ = some (.int .u64 b.c) := fun wx hx => Lb3 wx (HQX.out.trans hx (by simp))
        have Nb4 : ∀ wx, Fr [] wX wx → wx.cell? ⟨w.heap.size + 1, 4, none⟩ = some (.int .u64 b.sm) := fun wx hx => Lb4 wx (HQX.out.trans hx (by simp))
        have Nb5 : ∀ wx, Fr [] wX wx → wx.cell? ⟨w.heap.size + 1, 5, none⟩ = some (.slice pob b.P.length pcb) := fun wx hx => Lb5 wx (HQX.out.trans hx (by simp))
        have Nb6 : ∀ wx, Fr [] wX wx → wx.cell? ⟨w.heap.size + 1, 6, none⟩ = some (.slice nob b.N.length ncb) := fun wx hx => Lb6 wx (HQX.out.trans hx (by simp))
        have Nb7 : ∀ wx, Fr [] wX wx → wx.cell? ⟨w.heap.size + 1, 7, none⟩ = some (.slice qob b.pd.length qcb) := fun wx hx => Lb7 wx (HQX.out.trans hx (by simp))
        have Nb8 : ∀ wx, Fr [] wX wx → wx.cell? ⟨w.heap.size + 1, 8, none⟩ = some (.slice rob b.nd.length rcb) := fun wx hx => Lb8 wx (HQX.out.trans hx (by simp))
        clear La0 La1 La2 La3 La4 La5 La6 La7 La8 Lb0 Lb1 Lb2 Lb3 Lb4 Lb5 Lb6 Lb7 Lb8 F0
        have La0 := Na0
        have La1 := Na1
        have La2 := Na2
        have La3 := Na3
        have La4 := Na4
        have La5 := Na5
        have La6 := Na6
        have La7 := Na7
        have La8 := Na8
        have Lb0 := Nb0
        have Lb1 := Nb1
        have Lb2 := Nb2
        have Lb3 := Nb3
        have Lb4 := Nb4
        have Lb5 := Nb5
        have Lb6 := Nb6
        have Lb7 := Nb7
        have Lb8 := Nb8
        clear Na0 Na1 Na2 Na3 Na4 Na5 Na6 Na7 Na8 Nb0 Nb1 Nb2 Nb3 Nb4 Nb5 Nb6 Nb7 Nb8
        have F0 : Fr [] wX wX := Fr.refl _ _
        have LX0 : ∀ wx, Fr [] wX wx → wx.cell? ⟨GX, 0, none⟩ = some (.int .i64 X.s) := fun wx hx => hx.cell_some (HX.out.1.cell 0 rfl) List.not_mem_nil
        have LX1 : ∀ wx, Fr [] wX wx → wx.cell? ⟨GX, 1, none⟩ = some (.int .u64 X.z) := fun wx hx => hx.cell_some (HX.out.1.cell 1 rfl) List.not_mem_nil
        have LX2 : ∀ wx, Fr [] wX wx → wx.cell? ⟨GX, 2, none⟩ = some (.int .u64 X.zc) := fun wx hx => hx.cell_some (HX.out.1.cell 2 rfl) List.not_mem_nil
        have LX3 : ∀ wx, Fr [] wX wx → wx.cell? ⟨GX, 3, none⟩ = some (.int .u64 X.c) := fun wx hx => hx.cell_some (HX.out.1.cell 3 rfl) List.not_mem_nil
        have LX4 : ∀ wx, Fr [] wX wx → wx.cell? ⟨GX, 4, none⟩ = some (.int .u64 X.sm) := fun wx hx => hx.cell_some (HX.out.1.cell 4 rfl) List.not_mem_nil
        have LX5 : ∀ wx, Fr [] wX wx → wx.cell? ⟨GX, 5, none⟩ = some (.slice poX X.P.length pcX) := fun wx hx => hx.cell_some (HX.out.1.cell 5 rfl) List.not_mem_nil
        have LX6 : ∀ wx, Fr [] wX wx → wx.cell? ⟨GX, 6, none⟩ = some (.slice noX X.N.length ncX) := fun wx hx => hx.cell_some (HX.out.1.cell 6 rfl) List.not_mem_nil
        have LX7 : ∀ wx, Fr [] wX wx → wx.cell? ⟨GX, 7, none⟩ = some (.slice qoX X.pd.length qcX) := fun wx hx => hx.cell_some (HX.out.1.cell 7 rfl) List.not_mem_nil
        have LX8 : ∀ wx, Fr [] wX wx → wx.cell? ⟨GX, 8, none⟩ = some (.slice roX X.nd.length rcX) := fun wx hx => hx.cell_some (HX.out.1.cell 8 rfl) List.not_mem_nil
        have HSX : Hid (∀ wx, Fr [] wX wx → FSrc wx (.agg #[.int .i64 X.s, .int .u64 X.z, .int .u64 X.zc, .int .u64 X.c, .int .u64 X.sm, .slice poX X.P.length pcX, .slice noX X.N.length ncX, .slice qoX X.pd.length qcX, .slice roX X.nd.length rcX]) X) := fun wx hx => HX.out.2.2.kept hx
        go_wp2_with fail
        refine (ffrom_any _ b wX (HB.out _ (HFB1.out.trans F0 (by simp)))).mono ?_
        rintro e u0 ⟨v, rfl, hv, f⟩
        rw [HYY.out] at hv
        obtain ⟨poY, pcY, noY, ncY, qoY, qcY, roY, rcY, rfl, hs⟩ := hv.opensX
        have HY : Hid (NineF (u0.alloc (.cells #[.int .i64 Y.s, .int .u64 Y.z, .int .u64 Y.zc, .int .u64 Y.c, .int .u64 Y.sm, .slice poY Y.P.length pcY, .slice noY Y.N.length ncY, .slice qoY Y.pd.length qcY, .slice roY Y.nd.length rcY] 44)) u0.heap.size #[.int .i64 Y.s, .int .u64 Y.z, .int .u64 Y.zc, .int .u64 Y.c, .int .u64 Y.sm, .slice poY Y.P.length pcY, .slice noY Y.N.length ncY, .slice qoY Y.pd.length qcY, .slice roY Y.nd.length rcY] ∧ Fr [] wX (u0.alloc (.cells #[.int .i64 Y.s, .int .u64 Y.z, .int .u64 Y.zc, .int .u64 Y.c, .int .u64 Y.sm, .slice poY Y.P.length pcY, .slice noY Y.N.length ncY, .slice qoY Y.pd.length qcY, .slice roY Y.nd.length rcY] 44)) ∧ FSrc (u0.alloc (.cells #[.int .i64 Y.s, .int .u64 Y.z, .int .u64 Y.zc, .int .u64 Y.c, .int .u64 Y.sm, .slice poY Y.P.length pcY, .slice noY Y.N.length ncY, .slice qoY Y.pd.length qcY, .slice roY Y.nd.length rcY] 44)) (.agg #[.int .i64 Y.s, .int .u64 Y.z, .int .u64 Y.zc, .int .u64 Y.c, .int .u64 Y.sm, .slice poY Y.P.length pcY, .slice noY Y.N.length ncY, .slice qoY Y.pd.length qcY, .slice roY Y.nd.length rcY]) Y) := ⟨NineF.new _ _, (F0.trans f (by simp)).alloc _, hs.kept ((Fr.refl [] _).alloc _)⟩
        clear f hv hs
        go_upto_region 5 with fail
        generalize u0.alloc (.cells _ _) = wY at HY ⊢
        generalize u0.heap.size = GY at HY ⊢
        have HQY : Hid (Fr [] wX wY) := HY.out.2.1
        have HFB2 : Hid (Fr [] w wY) := HFB1.out.trans HQY.out (by simp)
        have Na0 : ∀ wx, Fr [] wY wx → wx.cell? ⟨w.heap.size, 0, none⟩ = some (.int .i64 a.s) := fun wx hx => La0 wx (HQY.out.trans hx (by simp))
        have Na1 : ∀ wx, Fr [] wY wx → wx.cell? ⟨w.heap.size, 1, none⟩ = some (.int .u64 a.z) := fun wx hx => La1 wx (HQY.out.trans hx (by simp))
        have Na2 : ∀ wx, Fr [] wY wx → wx.cell? ⟨w.heap.size, 2, none⟩ = some (.int .u64 a.zc) := fun wx hx => La2 wx (HQY.out.trans hx (by simp))
        have Na3 : ∀ wx, Fr [] wY wx → wx.cell? ⟨w.heap.size, 3, none⟩ = some (.int .u64 a.c) := fun wx hx => La3 wx (HQY.out.trans hx (by simp))
        have Na4 : ∀ wx, Fr [] wY wx → wx.cell? ⟨w.heap.size, 4, none⟩ = some (.int .u64 a.sm) := fun wx hx => La4 wx (HQY.out.trans hx (by simp))
        have Na5 : ∀ wx, Fr [] wY wx → wx.cell? ⟨w.heap.size, 5, none⟩ = some (.slice poa a.P.length pca) := fun wx hx => La5 wx (HQY.out.trans hx (by simp))
        have Na6 : ∀ wx, Fr [] wY wx → wx.cell? ⟨w.heap.size, 6, none⟩ = some (.slice noa a.N.length nca) := fun wx hx => La6 wx (HQY.out.trans hx (by simp))
        have Na7 : ∀ wx, Fr [] wY wx → wx.cell? ⟨w.heap.size, 7, none⟩ = some (.slice qoa a.pd.length qca) := fun wx hx => La7 wx (HQY.out.trans hx (by simp))
        have Na8 : ∀ wx, Fr [] wY wx → wx.cell? ⟨w.heap.size, 8, none⟩ = some (.slice roa a.nd.length rca) := fun wx hx => La8 wx (HQY.out.trans hx (by simp))
        have Nb0 : ∀ wx, Fr [] wY wx → wx.cell? ⟨w.heap.size + 1, 0, none⟩ = some (.int .i64 b.s) := fun wx hx => Lb0 wx (HQY.out.trans hx (by simp))
        have Nb1 : ∀ wx, Fr [] wY wx → wx.cell? ⟨w.heap.size + 1, 1, none⟩ = some (.int .u64 b.z) := fun wx hx => Lb1 wx (HQY.out.trans hx (by simp))
        have Nb2 : ∀ wx, Fr [] wY wx → wx.cell? ⟨w.heap.size + 1, 2, none⟩ = some (.int .u64 b.zc) := fun wx hx => Lb2 wx (HQY.out.trans hx (by simp))
        have Nb3 : ∀ wx, Fr [] wY wx → wx.cell? ⟨w.heap.size + 1, 3, none⟩ = some (.int .u64 b.c) := fun wx hx => Lb3 wx (HQY.out.trans hx (by simp))
        have Nb4 : ∀ wx, Fr [] wY wx → wx.cell? ⟨w.heap.size + 1, 4, none⟩ = some (.int .u64 b.sm) := fun wx hx => Lb4 wx (HQY.out.trans hx (by simp))
        have Nb5 : ∀ wx, Fr [] wY wx → wx.cell? ⟨w.heap.size + 1, 5, none⟩ = some (.slice pob b.P.length pcb) := fun wx hx => Lb5 wx (HQY.out.trans hx (by simp))
        have Nb6 : ∀ wx, Fr [] wY wx → wx.cell? ⟨w.heap.size + 1, 6, none⟩ = some (.slice nob b.N.length ncb) := fun wx hx => Lb6 wx (HQY.out.trans hx (by simp))
        have Nb7 : ∀ wx, Fr [] wY wx → wx.cell? ⟨w.heap.size + 1, 7, none⟩ = some (.slice qob b.pd.length qcb) := fun wx hx => Lb7 wx (HQY.out.trans hx (by simp))
        have Nb8 : ∀ wx, Fr [] wY wx → wx.cell? ⟨w.heap.size + 1, 8, none⟩ = some (.slice rob b.nd.length rcb) := fun wx hx => Lb8 wx (HQY.out.trans hx (by simp))
        clear La0 La1 La2 La3 La4 La5 La6 La7 La8 Lb0 Lb1 Lb2 Lb3 Lb4 Lb5 Lb6 Lb7 Lb8 F0
        have La0 := Na0
        have La1 := Na1
        have La2 := Na2
        have La3 := Na3
        have La4 := Na4
        have La5 := Na5
        have La6 := Na6
        have La7 := Na7
        have La8 := Na8
        have Lb0 := Nb0
        have Lb1 := Nb1
        have Lb2 := Nb2
        have Lb3 := Nb3
        have Lb4 := Nb4
        have Lb5 := Nb5
        have Lb6 := Nb6
        have Lb7 := Nb7
        have Lb8 := Nb8
        clear Na0 Na1 Na2 Na3 Na4 Na5 Na6 Na7 Na8 Nb0 Nb1 Nb2 Nb3 Nb4 Nb5 Nb6 Nb7 Nb8
        have NLX0 : ∀ wx, Fr [] wY wx → wx.cell? ⟨GX, 0, none⟩ = some (.int .i64 X.s) := fun wx hx => LX0 wx (HQY.out.trans hx (by simp))
        have NLX1 : ∀ wx, Fr [] wY wx → wx.cell? ⟨GX, 1, none⟩ = some (.int .u64 X.z) := fun wx hx => LX1 wx (HQY.out.trans hx (by simp))
        have NLX2 : ∀ wx, Fr [] wY wx → wx.cell? ⟨GX, 2, none⟩ = some (.int .u64 X.zc) := fun wx hx => LX2 wx (HQY.out.trans hx (by simp))
        have NLX3 : ∀ wx, Fr [] wY wx → wx.cell? ⟨GX, 3, none⟩ = some (.int .u64 X.c) := fun wx hx => LX3 wx (HQY.out.trans hx (by simp))
        have NLX4 : ∀ wx, Fr [] wY wx → wx.cell? ⟨GX, 4, none⟩ = some (.int .u64 X.sm) := fun wx hx => LX4 wx (HQY.out.trans hx (by simp))
        have NLX5 : ∀ wx, Fr [] wY wx → wx.cell? ⟨GX, 5, none⟩ = some (.slice poX X.P.length pcX) := fun wx hx => LX5 wx (HQY.out.trans hx (by simp))
        have NLX6 : ∀ wx, Fr [] wY wx → wx.cell? ⟨GX, 6, none⟩ = some (.slice noX X.N.length ncX) := fun wx hx => LX6 wx (HQY.out.trans hx (by simp))
        have NLX7 : ∀ wx, Fr [] wY wx → wx.cell? ⟨GX, 7, none⟩ = some (.slice qoX X.pd.length qcX) := fun wx hx => LX7 wx (HQY.out.trans hx (by simp))
        have NLX8 : ∀ wx, Fr [] wY wx → wx.cell? ⟨GX, 8, none⟩ = some (.slice roX X.nd.length rcX) := fun wx hx => LX8 wx (HQY.out.trans hx (by simp))
        clear LX0 LX1 LX2 LX3 LX4 LX5 LX6 LX7 LX8
        have LX0 := NLX0
        have LX1 := NLX1
        have LX2 := NLX2
        have LX3 := NLX3
        have LX4 := NLX4
        have LX5 := NLX5
        have LX6 := NLX6
        have LX7 := NLX7
        have LX8 := NLX8
        clear NLX0 NLX1 NLX2 NLX3 NLX4 NLX5 NLX6 NLX7 NLX8
        have NHSX : Hid (∀ wx, Fr [] wY wx → FSrc wx (.agg #[.int .i64 X.s, .int .u64 X.z, .int .u64 X.zc, .int .u64 X.c, .int .u64 X.sm, .slice poX X.P.length pcX, .slice noX X.N.length ncX, .slice qoX X.pd.length qcX, .slice roX X.nd.length rcX]) X) := fun wx hx => HSX.out wx (HQY.out.trans hx (by simp))
        clear HSX
        have HSX : Hid (∀ wx, Fr [] wY wx → FSrc wx (.agg #[.int .i64 X.s, .int .u64 X.z, .int .u64 X.zc, .int .u64 X.c, .int .u64 X.sm, .slice poX X.P.length pcX, .slice noX X.N.length ncX, .slice qoX X.pd.length qcX, .slice roX X.nd.length rcX]) X) := NHSX
        clear NHSX
        have F0 : Fr [] wY wY := Fr.refl _ _
        have LY0 : ∀ wx, Fr [] wY wx → wx.cell? ⟨GY, 0, none⟩ = some (.int .i64 Y.s) := fun wx hx => hx.cell_some (HY.out.1.cell 0 rfl) List.not_mem_nil
        have LY1 : ∀ wx, Fr [] wY wx → wx.cell? ⟨GY, 1, none⟩ = some (.int .u64 Y.z) := fun wx hx => hx.cell_some (HY.out.1.cell 1 rfl) List.not_mem_nil
        have LY2 : ∀ wx, Fr [] wY wx → wx.cell? ⟨GY, 2, none⟩ = some (.int .u64 Y.zc) := fun wx hx => hx.cell_some (HY.out.1.cell 2 rfl) List.not_mem_nil
        have LY3 : ∀ wx, Fr [] wY wx → wx.cell? ⟨GY, 3, none⟩ = some (.int .u64 Y.c) := fun wx hx => hx.cell_some (HY.out.1.cell 3 rfl) List.not_mem_nil
        have LY4 : ∀ wx, Fr [] wY wx → wx.cell? ⟨GY, 4, none⟩ = some (.int .u64 Y.sm) := fun wx hx => hx.cell_some (HY.out.1.cell 4 rfl) List.not_mem_nil
        have LY5 : ∀ wx, Fr [] wY wx → wx.cell? ⟨GY, 5, none⟩ = some (.slice poY Y.P.length pcY) := fun wx hx => hx.cell_some (HY.out.1.cell 5 rfl) List.not_mem_nil
        have LY6 : ∀ wx, Fr [] wY wx → wx.cell? ⟨GY, 6, none⟩ = some (.slice noY Y.N.length ncY) := fun wx hx => hx.cell_some (HY.out.1.cell 6 rfl) List.not_mem_nil
        have LY7 : ∀ wx, Fr [] wY wx → wx.cell? ⟨GY, 7, none⟩ = some (.slice qoY Y.pd.length qcY) := fun wx hx => hx.cell_some (HY.out.1.cell 7 rfl) List.not_mem_nil
        have LY8 : ∀ wx, Fr [] wY wx → wx.cell? ⟨GY, 8, none⟩ = some (.slice roY Y.nd.length rcY) := fun wx hx => hx.cell_some (HY.out.1.cell 8 rfl) List.not_mem_nil
        have HSY : Hid (∀ wx, Fr [] wY wx → FSrc wx (.agg #[.int .i64 Y.s, .int .u64 Y.z, .int .u64 Y.zc, .int .u64 Y.c, .int .u64 Y.sm, .slice poY Y.P.length pcY, .slice noY Y.N.length ncY, .slice qoY Y.pd.length qcY, .slice roY Y.nd.length rcY]) Y) := fun wx hx => HY.out.2.2.kept hx
        go_wp2_with fail
        refine (ints_any _ _ a b wY (HA.out _ (HFB2.out.trans F0 (by simp))) (HB.out _ (HFB2.out.trans F0 (by simp)))).mono ?_
        rintro e u0 ⟨rfl, f⟩
        rw [EE.out.1, EE.out.2]
        have HV : Hid ((u0.alloc (.cells #[.int .i64 0, .int .i64 0] 30)).heap[u0.heap.size]? = some (.cells #[.int .i64 0, .int .i64 0] 30 (0, 0)) ∧ Fr [] wY (u0.alloc (.cells #[.int .i64 0, .int .i64 0] 30))) := ⟨heap_alloc_new _ _, (F0.trans f (by simp)).alloc _⟩
        clear f
        go_upto_region 6 with fail
        generalize u0.alloc (.cells _ _) = wV at HV ⊢
        generalize u0.heap.size = GV at HV ⊢
        have HQV : Hid (Fr [] wY wV) := HV.out.2
        have HFB3 : Hid (Fr [] w wV) := HFB2.out.trans HQV.out (by simp)
        have Na0 : ∀ wx, Fr [] wV wx → wx.cell? ⟨w.heap.size, 0, none⟩ = some (.int .i64 a.s) := fun wx hx => La0 wx (HQV.out.trans hx (by simp))
        have Na1 : ∀ wx, Fr [] wV wx → wx.cell? ⟨w.heap.size, 1, none⟩ = some (.int .u64 a.z) := fun wx hx => La1 wx (HQV.out.trans hx (by simp))
        have Na2 : ∀ wx, Fr [] wV wx → wx.cell? ⟨w.heap.size, 2, none⟩ = some (.int .u64 a.zc) := fun wx hx => La2 wx (HQV.out.trans hx (by simp))
        have Na3 : ∀ wx, Fr [] wV wx → wx.cell? ⟨w.heap.size, 3, none⟩ = some (.int .u64 a.c) := fun wx hx => La3 wx (HQV.out.trans hx (by simp))
        have Na4 : ∀ wx, Fr [] wV wx → wx.cell? ⟨w.heap.size, 4, none⟩ = some (.int .u64 a.sm) := fun wx hx => La4 wx (HQV.out.trans hx (by simp))
        have Na5 : ∀ wx, Fr [] wV wx → wx.cell? ⟨w.heap.size, 5, none⟩ = some (.slice poa a.P.length pca) := fun wx hx => La5 wx (HQV.out.trans hx (by simp))
        have Na6 : ∀ wx, Fr [] wV wx → wx.cell? ⟨w.heap.size, 6, none⟩ = some (.slice noa a.N.length nca) := fun wx hx => La6 wx (HQV.out.trans hx (by simp))
        have Na7 : ∀ wx, Fr [] wV wx → wx.cell? ⟨w.heap.size, 7, none⟩ = some (.slice qoa a.pd.length qca) := fun wx hx => La7 wx (HQV.out.trans hx (by simp))
        have Na8 : ∀ wx, Fr [] wV wx → wx.cell? ⟨w.heap.size, 8, none⟩ = some (.slice roa a.nd.length rca) := fun wx hx => La8 wx (HQV.out.trans hx (by simp))
        have Nb0 : ∀ wx, Fr [] wV wx → wx.cell? ⟨w.heap.size + 1, 0, none⟩ = some (.int .i64 b.s) := fun wx hx => Lb0 wx (HQV.out.trans hx (by simp))
        have Nb1 : ∀ wx, Fr [] wV wx → wx.cell? ⟨w.heap.size + 1, 1, none⟩ = some (.int .u64 b.z) := fun wx hx => Lb1 wx (HQV.out.trans hx (by simp))
        have Nb2 : ∀ wx, Fr [] wV wx → wx.cell? ⟨w.heap.size + 1, 2, none⟩ = some (.int .u64 b.zc) := fun wx hx => Lb2 wx (HQV.out.trans hx (by simp))
        have Nb3 : ∀ wx, Fr [] wV wx → wx.cell? ⟨w.heap.size + 1, 3, none⟩ = some (.int .u64 b.c) := fun wx hx => Lb3 wx (HQV.out.trans hx (by simp))
        have Nb4 : ∀ wx, Fr [] wV wx → wx.cell? ⟨w.heap.size + 1, 4, none⟩ = some (.int .u64 b.sm) := fun wx hx => Lb4 wx (HQV.out.trans hx (by simp))
        have Nb5 : ∀ wx, Fr [] wV wx → wx.cell? ⟨w.heap.size + 1, 5, none⟩ = some (.slice pob b.P.length pcb) := fun wx hx => Lb5 wx (HQV.out.trans hx (by simp))
        have Nb6 : ∀ wx, Fr [] wV wx → wx.cell? ⟨w.heap.size + 1, 6, none⟩ = some (.slice nob b.N.length ncb) := fun wx hx => Lb6 wx (HQV.out.trans hx (by simp))
        have Nb7 : ∀ wx, Fr [] wV wx → wx.cell? ⟨w.heap.size + 1, 7, none⟩ = some (.slice qob b.pd.length qcb) := fun wx hx => Lb7 wx (HQV.out.trans hx (by simp))
        have Nb8 : ∀ wx, Fr [] wV wx → wx.cell? ⟨w.heap.size + 1, 8, none⟩ = some (.slice rob b.nd.length rcb) := fun wx hx => Lb8 wx (HQV.out.trans hx (by simp))
        clear La0 La1 La2 La3 La4 La5 La6 La7 La8 Lb0 Lb1 Lb2 Lb3 Lb4 Lb5 Lb6 Lb7 Lb8 F0
        have La0 := Na0
        have La1 := Na1
        have La2 := Na2
        have La3 := Na3
        have La4 := Na4
        have La5 := Na5
        have La6 := Na6
        have La7 := Na7
        have La8 := Na8
        have Lb0 := Nb0
        have Lb1 := Nb1
        have Lb2 := Nb2
        have Lb3 := Nb3
        have Lb4 := Nb4
        have Lb5 := Nb5
        have Lb6 := Nb6
        have Lb7 := Nb7
        have Lb8 := Nb8
        clear Na0 Na1 Na2 Na3 Na4 Na5 Na6 Na7 Na8 Nb0 Nb1 Nb2 Nb3 Nb4 Nb5 Nb6 Nb7 Nb8
        have NLX0 : ∀ wx, Fr [] wV wx → wx.cell? ⟨GX, 0, none⟩ = some (.int .i64 X.s) := fun wx hx => LX0 wx (HQV.out.trans hx (by simp))
        have NLX1 : ∀ wx, Fr [] wV wx → wx.cell? ⟨GX, 1, none⟩ = some (.int .u64 X.z) := fun wx hx => LX1 wx (HQV.out.trans hx (by simp))
        have NLX2 : ∀ wx, Fr [] wV wx → wx.cell? ⟨GX, 2, none⟩ = some (.int .u64 X.zc) := fun wx hx => LX2 wx (HQV.out.trans hx (by simp))
        have NLX3 : ∀ wx, Fr [] wV wx → wx.cell? ⟨GX, 3, none⟩ = some (.int .u64 X.c) := fun wx hx => LX3 wx (HQV.out.trans hx (by simp))
        have NLX4 : ∀ wx, Fr [] wV wx → wx.cell? ⟨GX, 4, none⟩ = some (.int .u64 X.sm) := fun wx hx => LX4 wx (HQV.out.trans hx (by simp))
        have NLX5 : ∀ wx, Fr [] wV wx → wx.cell? ⟨GX, 5, none⟩ = some (.slice poX X.P.length pcX) := fun wx hx => LX5 wx (HQV.out.trans hx (by simp))
        have NLX6 : ∀ wx, Fr [] wV wx → wx.cell? ⟨GX, 6, none⟩ = some (.slice noX X.N.length ncX) := fun wx hx => LX6 wx (HQV.out.trans hx (by simp))
        have NLX7 : ∀ wx, Fr [] wV wx → wx.cell? ⟨GX, 7, none⟩ = some (.slice qoX X.pd.length qcX) := fun wx hx => LX7 wx (HQV.out.trans hx (by simp))
        have NLX8 : ∀ wx, Fr [] wV wx → wx.cell? ⟨GX, 8, none⟩ = some (.slice roX X.nd.length rcX) := fun wx hx => LX8 wx (HQV.out.trans hx (by simp))
        have NLY0 : ∀ wx, Fr [] wV wx → wx.cell? ⟨GY, 0, none⟩ = some (.int .i64 Y.s) := fun wx hx => LY0 wx (HQV.out.trans hx (by simp))
        have NLY1 : ∀ wx, Fr [] wV wx → wx.cell? ⟨GY, 1, none⟩ = some (.int .u64 Y.z) := fun wx hx => LY1 wx (HQV.out.trans hx (by simp))
        have NLY2 : ∀ wx, Fr [] wV wx → wx.cell? ⟨GY, 2, none⟩ = some (.int .u64 Y.zc) := fun wx hx => LY2 wx (HQV.out.trans hx (by simp))
        have NLY3 : ∀ wx, Fr [] wV wx → wx.cell? ⟨GY, 3, none⟩ = some (.int .u64 Y.c) := fun wx hx => LY3 wx (HQV.out.trans hx (by simp))
        have NLY4 : ∀ wx, Fr [] wV wx → wx.cell? ⟨GY, 4, none⟩ = some (.int .u64 Y.sm) := fun wx hx => LY4 wx (HQV.out.trans hx (by simp))
        have NLY5 : ∀ wx, Fr [] wV wx → wx.cell? ⟨GY, 5, none⟩ = some (.slice poY Y.P.length pcY) := fun wx hx => LY5 wx (HQV.out.trans hx (by simp))
        have NLY6 : ∀ wx, Fr [] wV wx → wx.cell? ⟨GY, 6, none⟩ = some (.slice noY Y.N.length ncY) := fun wx hx => LY6 wx (HQV.out.trans hx (by simp))
        have NLY7 : ∀ wx, Fr [] wV wx → wx.cell? ⟨GY, 7, none⟩ = some (.slice qoY Y.pd.length qcY) := fun wx hx => LY7 wx (HQV.out.trans hx (by simp))
        have NLY8 : ∀ wx, Fr [] wV wx → wx.cell? ⟨GY, 8, none⟩ = some (.slice roY Y.nd.length rcY) := fun wx hx => LY8 wx (HQV.out.trans hx (by simp))
        clear LX0 LX1 LX2 LX3 LX4 LX5 LX6 LX7 LX8 LY0 LY1 LY2 LY3 LY4 LY5 LY6 LY7 LY8
        have LX0 := NLX0
        have LX1 := NLX1
        have LX2 := NLX2
        have LX3 := NLX3
        have LX4 := NLX4
        have LX5 := NLX5
        have LX6 := NLX6
        have LX7 := NLX7
        have LX8 := NLX8
        have LY0 := NLY0
        have LY1 := NLY1
        have LY2 := NLY2
        have LY3 := NLY3
        have LY4 := NLY4
        have LY5 := NLY5
        have LY6 := NLY6
        have LY7 := NLY7
        have LY8 := NLY8
        clear NLX0 NLX1 NLX2 NLX3 NLX4 NLX5 NLX6 NLX7 NLX8 NLY0 NLY1 NLY2 NLY3 NLY4 NLY5 NLY6 NLY7 NLY8
        have NHSX : Hid (∀ wx, Fr [] wV wx → FSrc wx (.agg #[.int .i64 X.s, .int .u64 X.z, .int .u64 X.zc, .int .u64 X.c, .int .u64 X.sm, .slice poX X.P.length pcX, .slice noX X.N.length ncX, .slice qoX X.pd.length qcX, .slice roX X.nd.length rcX]) X) := fun wx hx => HSX.out wx (HQV.out.trans hx (by simp))
        have NHSY : Hid (∀ wx, Fr [] wV wx → FSrc wx (.agg #[.int .i64 Y.s, .int .u64 Y.z, .int .u64 Y.zc, .int .u64 Y.c, .int .u64 Y.sm, .slice poY Y.P.length pcY, .slice noY Y.N.length ncY, .slice qoY Y.pd.length qcY, .slice roY Y.nd.length rcY]) Y) := fun wx hx => HSY.out wx (HQV.out.trans hx (by simp))
        clear HSX HSY
        have HSX : Hid (∀ wx, Fr [] wV wx → FSrc wx (.agg #[.int .i64 X.s, .int .u64 X.z, .int .u64 X.zc, .int .u64 X.c, .int .u64 X.sm, .slice poX X.P.length pcX, .slice noX X.N.length ncX, .slice qoX X.pd.length qcX, .slice roX X.nd.length rcX]) X) := NHSX
        have HSY : Hid (∀ wx, Fr [] wV wx → FSrc wx (.agg #[.int .i64 Y.s, .int .u64 Y.z, .int .u64 Y.zc, .int .u64 Y.c, .int .u64 Y.sm, .slice poY Y.P.length pcY, .slice noY Y.N.length ncY, .slice qoY Y.pd.length qcY, .slice roY Y.nd.length rcY]) Y) := NHSY
        clear NHSX NHSY
        have F0 : Fr [] wV wV := Fr.refl _ _
        have LV0 : ∀ wx, Fr [] wV wx → wx.cell? ⟨GV, 0, none⟩ = some (.int .i64 0) := fun wx hx => hx.cell_some (cell_at HV.out.1 0) List.not_mem_nil
        have LV1 : ∀ wx, Fr [] wV wx → wx.cell? ⟨GV, 1, none⟩ = some (.int .i64 0) := fun wx hx => hx.cell_some (cell_at HV.out.1 1) List.not_mem_nil
        go_wp2_with fail
        refine (awake11_any wV).mono ?_
        rintro e u1 ⟨rfl, f⟩
        have f1 : Fr [] wV u1 := F0.trans f (by simp)
        clear f F0
        go_wp2
        go_ret
        exact ⟨rfl, (HFB3.out.trans f1 (by simp)).below (Nat.le_refl _) (by simp)⟩
      have eX : X = frs a := by rw [← hX]; unfold frh; rw [if_pos hca]
      have eY : Y = frs b := by rw [← hY]; unfold frh; rw [if_pos hcb]
      have hbw := both_ways hca hcb HUU.out.1 HUU.out.2
      rw [← eX, ← eY] at hbw
      clear hX hY eX eY
      obtain ⟨x, y, hxy⟩ : ∃ x y, riv a b = (x, y) := ⟨_, _, rfl⟩
      obtain ⟨z, t, hzt⟩ : ∃ z t, rfv X Y = (z, t) := ⟨_, _, rfl⟩
      rw [hxy, hzt] at hbw
      have EE : Hid (riv a b = (x, y) ∧ rie a b = 0) := ⟨hxy, hbw.1⟩
      have EF : Hid (rfv X Y = (z, t) ∧ rfe X Y = 0) := ⟨hzt, hbw.2.1⟩
      have EG : Hid ((x = 0 → z = 0) ∧ (a.c ≤ 9007199254740992 → b.c ≤ 9007199254740992 → z = x ∧ t = y)) := ⟨hbw.2.2.1, fun h1 h2 => by have := hbw.2.2.2 h1 h2; exact ⟨congrArg Prod.fst this, congrArg Prod.snd this⟩⟩
      clear hxy hzt hbw
      go_wp2_with fail
      refine (ffrom_any _ a ws1 (HA.out _ (HF1.out.trans F0 (by simp)))).mono ?_
      rintro e u0 ⟨v, rfl, hv, f⟩
      rw [hca]
      rw [HXX.out] at hv
      obtain ⟨poX, pcX, noX, ncX, qoX, qcX, roX, rcX, rfl, hs⟩ := hv.opensX
      have HX : Hid (NineF (u0.alloc (.cells #[.int .i64 X.s, .int .u64 X.z, .int .u64 X.zc, .int .u64 X.c, .int .u64 X.sm, .slice poX X.P.length pcX, .slice noX X.N.length ncX, .slice qoX X.pd.length qcX, .slice roX X.nd.length rcX] 44)) u0.heap.size #[.int .i64 X.s, .int .u64 X.z, .int .u64 X.zc, .int .u64 X.c, .int .u64 X.sm, .slice poX X.P.length pcX, .slice noX X.N.length ncX, .slice qoX X.pd.length qcX, .slice roX X.nd.length rcX] ∧ Fr [] ws1 (u0.alloc (.cells #[.int .i64 X.s, .int .u64 X.z, .int .u64 X.zc, .int .u64 X.c, .int .u64 X.sm, .slice poX X.P.length pcX, .slice noX X.N.length ncX, .slice qoX X.pd.length qcX, .slice roX X.nd.length rcX] 44)) ∧ FSrc (u0.alloc (.cells #[.int .i64 X.s, .int .u64 X.z, .int .u64 X.zc, .int .u64 X.c, .int .u64 X.sm, .slice poX X.P.length pcX, .slice noX X.N.length ncX, .slice qoX X.pd.length qcX, .slice roX X.nd.length rcX] 44)) (.agg #[.int .i64 X.s, .int .u64 X.z, .int .u64 X.zc, .int .u64 X.c, .int .u64 X.sm, .slice poX X.P.length pcX, .slice noX X.N.length ncX, .slice qoX X.pd.length qcX, .slice roX X.nd.length rcX]) X) := ⟨NineF.new _ _, (F0.trans f (by simp)).alloc _, hs.kept ((Fr.refl [] _).alloc _)⟩
      clear f hv hs
      go_upto_region 4 with fail
      generalize u0.alloc (.cells _ _) = wX at HX ⊢
      generalize u0.heap.size = GX at HX ⊢
      have HQX : Hid (Fr [] ws1 wX) := HX.out.2.1
      have HFB1 : Hid (Fr [] w wX) := HF1.out.trans HQX.out (by simp)
      have Na0 : ∀ wx, Fr [] wX wx → wx.cell? ⟨w.heap.size, 0, none⟩ = some (.int .i64 a.s) := fun wx hx => La0 wx (HQX.out.trans hx (by simp))
      have Na1 : ∀ wx, Fr [] wX wx → wx.cell? ⟨w.heap.size, 1, none⟩ = some (.int .u64 a.z) := fun wx hx => La1 wx (HQX.out.trans hx (by simp))
      have Na2 : ∀ wx, Fr [] wX wx → wx.cell? ⟨w.heap.size, 2, none⟩ = some (.int .u64 a.zc) := fun wx hx => La2 wx (HQX.out.trans hx (by simp))
      have Na3 : ∀ wx, Fr [] wX wx → wx.cell? ⟨w.heap.size, 3, none⟩ = some (.int .u64 a.c) := fun wx hx => La3 wx (HQX.out.trans hx (by simp))
      have Na4 : ∀ wx, Fr [] wX wx → wx.cell? ⟨w.heap.size, 4, none⟩ = some (.int .u64 a.sm) := fun wx hx => La4 wx (HQX.out.trans hx (by simp))
      have Na5 : ∀ wx, Fr [] wX wx → wx.cell? ⟨w.heap.size, 5, none⟩ = some (.slice poa a.P.length pca) := fun wx hx => La5 wx (HQX.out.trans hx (by simp))
      have Na6 : ∀ wx, Fr [] wX wx → wx.cell? ⟨w.heap.size, 6, none⟩ = some (.slice noa a.N.length nca) := fun wx hx => La6 wx (HQX.out.trans hx (by simp))
      have Na7 : ∀ wx, Fr [] wX wx → wx.cell? ⟨w.heap.size, 7, none⟩ = some (.slice qoa a.pd.length qca) := fun wx hx => La7 wx (HQX.out.trans hx (by simp))
      have Na8 : ∀ wx, Fr [] wX wx → wx.cell? ⟨w.heap.size, 8, none⟩ = some (.slice roa a.nd.length rca) := fun wx hx => La8 wx (HQX.out.trans hx (by simp))
      have Nb0 : ∀ wx, Fr [] wX wx → wx.cell? ⟨w.heap.size + 1, 0, none⟩ = some (.int .i64 b.s) := fun wx hx => Lb0 wx (HQX.out.trans hx (by simp))
      have Nb1 : ∀ wx, Fr [] wX wx → wx.cell? ⟨w.heap.size + 1, 1, none⟩ = some (.int .u64 b.z) := fun wx hx => Lb1 wx (HQX.out.trans hx (by simp))
      have Nb2 : ∀ wx, Fr [] wX wx → wx.cell? ⟨w.heap.size + 1, 2, none⟩ = some (.int .u64 b.zc) := fun wx hx => Lb2 wx (HQX.out.trans hx (by simp))
      have Nb3 : ∀ wx, Fr [] wX wx → wx.cell? ⟨w.heap.size + 1, 3, none⟩ = some (.int .u64 b.c) := fun wx hx => Lb3 wx (HQX.out.trans hx (by simp))
      have Nb4 : ∀ wx, Fr [] wX wx → wx.cell? ⟨w.heap.size + 1, 4, none⟩ = some (.int .u64 b.sm) := fun wx hx => Lb4 wx (HQX.out.trans hx (by simp))
      have Nb5 : ∀ wx, Fr [] wX wx → wx.cell? ⟨w.heap.size + 1, 5, none⟩ = some (.slice pob b.P.length pcb) := fun wx hx => Lb5 wx (HQX.out.trans hx (by simp))
      have Nb6 : ∀ wx, Fr [] wX wx → wx.cell? ⟨w.heap.size + 1, 6, none⟩ = some (.slice nob b.N.length ncb) := fun wx hx => Lb6 wx (HQX.out.trans hx (by simp))
      have Nb7 : ∀ wx, Fr [] wX wx → wx.cell? ⟨w.heap.size + 1, 7, none⟩ = some (.slice qob b.pd.length qcb) := fun wx hx => Lb7 wx (HQX.out.trans hx (by simp))
      have Nb8 : ∀ wx, Fr [] wX wx → wx.cell? ⟨w.heap.size + 1, 8, none⟩ = some (.slice rob b.nd.length rcb) := fun wx hx => Lb8 wx (HQX.out.trans hx (by simp))
      clear La0 La1 La2 La3 La4 La5 La6 La7 La8 Lb0 Lb1 Lb2 Lb3 Lb4 Lb5 Lb6 Lb7 Lb8 F0
      have La0 := Na0
      have La1 := Na1
      have La2 := Na2
      have La3 := Na3
      have La4 := Na4
      have La5 := Na5
      have La6 := Na6
      have La7 := Na7
      have La8 := Na8
      have Lb0 := Nb0
      have Lb1 := Nb1
      have Lb2 := Nb2
      have Lb3 := Nb3
      have Lb4 := Nb4
      have Lb5 := Nb5
      have Lb6 := Nb6
      have Lb7 := Nb7
      have Lb8 := Nb8
      clear Na0 Na1 Na2 Na3 Na4 Na5 Na6 Na7 Na8 Nb0 Nb1 Nb2 Nb3 Nb4 Nb5 Nb6 Nb7 Nb8
      have F0 : Fr [] wX wX := Fr.refl _ _
      have LX0 : ∀ wx, Fr [] wX wx → wx.cell? ⟨GX, 0, none⟩ = some (.int .i64 X.s) := fun wx hx => hx.cell_some (HX.out.1.cell 0 rfl) List.not_mem_nil
      have LX1 : ∀ wx, Fr [] wX wx → wx.cell? ⟨GX, 1, none⟩ = some (.int .u64 X.z) := fun wx hx => hx.cell_some (HX.out.1.cell 1 rfl) List.not_mem_nil
      have LX2 : ∀ wx, Fr [] wX wx → wx.cell? ⟨GX, 2, none⟩ = some (.int .u64 X.zc) := fun wx hx => hx.cell_some (HX.out.1.cell 2 rfl) List.not_mem_nil
      have LX3 : ∀ wx, Fr [] wX wx → wx.cell? ⟨GX, 3, none⟩ = some (.int .u64 X.c) := fun wx hx => hx.cell_some (HX.out.1.cell 3 rfl) List.not_mem_nil
      have LX4 : ∀ wx, Fr [] wX wx → wx.cell? ⟨GX, 4, none⟩ = some (.int .u64 X.sm) := fun wx hx => hx.cell_some (HX.out.1.cell 4 rfl) List.not_mem_nil
      have LX5 : ∀ wx, Fr [] wX wx → wx.cell? ⟨GX, 5, none⟩ = some (.slice poX X.P.length pcX) := fun wx hx => hx.cell_some (HX.out.1.cell 5 rfl) List.not_mem_nil
      have LX6 : ∀ wx, Fr [] wX wx → wx.cell? ⟨GX, 6, none⟩ = some (.slice noX X.N.length ncX) := fun wx hx => hx.cell_some (HX.out.1.cell 6 rfl) List.not_mem_nil
      have LX7 : ∀ wx, Fr [] wX wx → wx.cell? ⟨GX, 7, none⟩ = some (.slice qoX X.pd.length qcX) := fun wx hx => hx.cell_some (HX.out.1.cell 7 rfl) List.not_mem_nil
      have LX8 : ∀ wx, Fr [] wX wx → wx.cell? ⟨GX, 8, none⟩ = some (.slice roX X.nd.length rcX) := fun wx hx => hx.cell_some (HX.out.1.cell 8 rfl) List.not_mem_nil
      have HSX : Hid (∀ wx, Fr [] wX wx → FSrc wx (.agg #[.int .i64 X.s, .int .u64 X.z, .int .u64 X.zc, .int .u64 X.c, .int .u64 X.sm, .slice poX X.P.length pcX, .slice noX X.N.length ncX, .slice qoX X.pd.length qcX, .slice roX X.nd.length rcX]) X) := fun wx hx => HX.out.2.2.kept hx
      go_wp2_with fail
      refine (ffrom_any _ b wX (HB.out _ (HFB1.out.trans F0 (by simp)))).mono ?_
      rintro e u0 ⟨v, rfl, hv, f⟩
      rw [hcb]
      rw [HYY.out] at hv
      obtain ⟨poY, pcY, noY, ncY, qoY, qcY, roY, rcY, rfl, hs⟩ := hv.opensX
      have HY : Hid (NineF (u0.alloc (.cells #[.int .i64 Y.s, .int .u64 Y.z, .int .u64 Y.zc, .int .u64 Y.c, .int .u64 Y.sm, .slice poY Y.P.length pcY, .slice noY Y.N.length ncY, .slice qoY Y.pd.length qcY, .slice roY Y.nd.length rcY] 44)) u0.heap.size #[.int .i64 Y.s, .int .u64 Y.z, .int .u64 Y.zc, .int .u64 Y.c, .int .u64 Y.sm, .slice poY Y.P.length pcY, .slice noY Y.N.length ncY, .slice qoY Y.pd.length qcY, .slice roY Y.nd.length rcY] ∧ Fr [] wX (u0.alloc (.cells #[.int .i64 Y.s, .int .u64 Y.z, .int .u64 Y.zc, .int .u64 Y.c, .int .u64 Y.sm, .slice poY Y.P.length pcY, .slice noY Y.N.length ncY, .slice qoY Y.pd.length qcY, .slice roY Y.nd.length rcY] 44)) ∧ FSrc (u0.alloc (.cells #[.int .i64 Y.s, .int .u64 Y.z, .int .u64 Y.zc, .int .u64 Y.c, .int .u64 Y.sm, .slice poY Y.P.length pcY, .slice noY Y.N.length ncY, .slice qoY Y.pd.length qcY, .slice roY Y.nd.length rcY] 44)) (.agg #[.int .i64 Y.s, .int .u64 Y.z, .int .u64 Y.zc, .int .u64 Y.c, .int .u64 Y.sm, .slice poY Y.P.length pcY, .slice noY Y.N.length ncY, .slice qoY Y.pd.length qcY, .slice roY Y.nd.length rcY]) Y) := ⟨NineF.new _ _, (F0.trans f (by simp)).alloc _, hs.kept ((Fr.refl [] _).alloc _)⟩
      clear f hv hs
      go_upto_region 5 with fail
      generalize u0.alloc (.cells _ _) = wY at HY ⊢
      generalize u0.heap.size = GY at HY ⊢
      have HQY : Hid (Fr [] wX wY) := HY.out.2.1
      have HFB2 : Hid (Fr [] w wY) := HFB1.out.trans HQY.out (by simp)
      have Na0 : ∀ wx, Fr [] wY wx → wx.cell? ⟨w.heap.size, 0, none⟩ = some (.int .i64 a.s) := fun wx hx => La0 wx (HQY.out.trans hx (by simp))
      have Na1 : ∀ wx, Fr [] wY wx → wx.cell? ⟨w.heap.size, 1, none⟩ = some (.int .u64 a.z) := fun wx hx => La1 wx (HQY.out.trans hx (by simp))
      have Na2 : ∀ wx, Fr [] wY wx → wx.cell? ⟨w.heap.size, 2, none⟩ = some (.int .u64 a.zc) := fun wx hx => La2 wx (HQY.out.trans hx (by simp))
      have Na3 : ∀ wx, Fr [] wY wx → wx.cell? ⟨w.heap.size, 3, none⟩ = some (.int .u64 a.c) := fun wx hx => La3 wx (HQY.out.trans hx (by simp))
      have Na4 : ∀ wx, Fr [] wY wx → wx.cell? ⟨w.heap.size, 4, none⟩ = some (.int .u64 a.sm) := fun wx hx => La4 wx (HQY.out.trans hx (by simp))
      have Na5 : ∀ wx, Fr [] wY wx → wx.cell? ⟨w.heap.size, 5, none⟩ = some (.slice poa a.P.length pca) := fun wx hx => La5 wx (HQY.out.trans hx (by simp))
      have Na6 : ∀ wx, Fr [] wY wx → wx.cell? ⟨w.heap.size, 6, none⟩ = some (.slice noa a.N.length nca) := fun wx hx => La6 wx (HQY.out.trans hx (by simp))
      have Na7 : ∀ wx, Fr [] wY wx → wx.cell? ⟨w.heap.size, 7, none⟩ = some (.slice qoa a.pd.length qca) := fun wx hx => La7 wx (HQY.out.trans hx (by simp))
      have Na8 : ∀ wx, Fr [] wY wx → wx.cell? ⟨w.heap.size, 8, none⟩ = some (.slice roa a.nd.length rca) := fun wx hx => La8 wx (HQY.out.trans hx (by simp))
      have Nb0 : ∀ wx, Fr [] wY wx → wx.cell? ⟨w.heap.size + 1, 0, none⟩ = some (.int .i64 b.s) := fun wx hx => Lb0 wx (HQY.out.trans hx (by simp))
      have Nb1 : ∀ wx, Fr [] wY wx → wx.cell? ⟨w.heap.size + 1, 1, none⟩ = some (.int .u64 b.z) := fun wx hx => Lb1 wx (HQY.out.trans hx (by simp))
      have Nb2 : ∀ wx, Fr [] wY wx → wx.cell? ⟨w.heap.size + 1, 2, none⟩ = some (.int .u64 b.zc) := fun wx hx => Lb2 wx (HQY.out.trans hx (by simp))
      have Nb3 : ∀ wx, Fr [] wY wx → wx.cell? ⟨w.heap.size + 1, 3, none⟩ = some (.int .u64 b.c) := fun wx hx => Lb3 wx (HQY.out.trans hx (by simp))
      have Nb4 : ∀ wx, Fr [] wY wx → wx.cell? ⟨w.heap.size + 1, 4, none⟩ = some (.int .u64 b.sm) := fun wx hx => Lb4 wx (HQY.out.trans hx (by simp))
      have Nb5 : ∀ wx, Fr [] wY wx → wx.cell? ⟨w.heap.size + 1, 5, none⟩ = some (.slice pob b.P.length pcb) := fun wx hx => Lb5 wx (HQY.out.trans hx (by simp))
      have Nb6 : ∀ wx, Fr [] wY wx → wx.cell? ⟨w.heap.size + 1, 6, none⟩ = some (.slice nob b.N.length ncb) := fun wx hx => Lb6 wx (HQY.out.trans hx (by simp))
      have Nb7 : ∀ wx, Fr [] wY wx → wx.cell? ⟨w.heap.size + 1, 7, none⟩ = some (.slice qob b.pd.length qcb) := fun wx hx => Lb7 wx (HQY.out.trans hx (by simp))
      have Nb8 : ∀ wx, Fr [] wY wx → wx.cell? ⟨w.heap.size + 1, 8, none⟩ = some (.slice rob b.nd.length rcb) := fun wx hx => Lb8 wx (HQY.out.trans hx (by simp))
      clear La0 La1 La2 La3 La4 La5 La6 La7 La8 Lb0 Lb1 Lb2 Lb3 Lb4 Lb5 Lb6 Lb7 Lb8 F0
      have La0 := Na0
      have La1 := Na1
      have La2 := Na2
      have La3 := Na3
      have La4 := Na4
      have La5 := Na5
      have La6 := Na6
      have La7 := Na7
      have La8 := Na8
      have Lb0 := Nb0
      have Lb1 := Nb1
      have Lb2 := Nb2
      have Lb3 := Nb3
      have Lb4 := Nb4
      have Lb5 := Nb5
      have Lb6 := Nb6
      have Lb7 := Nb7
      have Lb8 := Nb8
      clear Na0 Na1 Na2 Na3 Na4 Na5 Na6 Na7 Na8 Nb0 Nb1 Nb2 Nb3 Nb4 Nb5 Nb6 Nb7 Nb8
      have NLX0 : ∀ wx, Fr [] wY wx → wx.cell? ⟨GX, 0, none⟩ = some (.int .i64 X.s) := fun wx hx => LX0 wx (HQY.out.trans hx (by simp))
      have NLX1 : ∀ wx, Fr [] wY wx → wx.cell? ⟨GX, 1, none⟩ = some (.int .u64 X.z) := fun wx hx => LX1 wx (HQY.out.trans hx (by simp))
      have NLX2 : ∀ wx, Fr [] wY wx → wx.cell? ⟨GX, 2, none⟩ = some (.int .u64 X.zc) := fun wx hx => LX2 wx (HQY.out.trans hx (by simp))
      have NLX3 : ∀ wx, Fr [] wY wx → wx.cell? ⟨GX, 3, none⟩ = some (.int .u64 X.c) := fun wx hx => LX3 wx (HQY.out.trans hx (by simp))
      have NLX4 : ∀ wx, Fr [] wY wx → wx.cell? ⟨GX, 4, none⟩ = some (.int .u64 X.sm) := fun wx hx => LX4 wx (HQY.out.trans hx (by simp))
      have NLX5 : ∀ wx, Fr [] wY wx → wx.cell? ⟨GX, 5, none⟩ = some (.slice poX X.P.length pcX) := fun wx hx => LX5 wx (HQY.out.trans hx (by simp))
      have NLX6 : ∀ wx, Fr [] wY wx → wx.cell? ⟨GX, 6, none⟩ = some (.slice noX X.N.length ncX) := fun wx hx => LX6 wx (HQY.out.trans hx (by simp))
      have NLX7 : ∀ wx, Fr [] wY wx → wx.cell? ⟨GX, 7, none⟩ = some (.slice qoX X.pd.length qcX) := fun wx hx => LX7 wx (HQY.out.trans hx (by simp))
      have NLX8 : ∀ wx, Fr [] wY wx → wx.cell? ⟨GX, 8, none⟩ = some (.slice roX X.nd.length rcX) := fun wx hx => LX8 wx (HQY.out.trans hx (by simp))
      clear LX0 LX1 LX2 LX3 LX4 LX5 LX6 LX7 LX8
      have LX0 := NLX0
      have LX1 := NLX1
      have LX2 := NLX2
      have LX3 := NLX3
      have LX4 := NLX4
      have LX5 := NLX5
      have LX6 := NLX6
      have LX7 := NLX7
      have LX8 := NLX8
      clear NLX0 NLX1 NLX2 NLX3 NLX4 NLX5 NLX6 NLX7 NLX8
      have NHSX : Hid (∀ wx, Fr [] wY wx → FSrc wx (.agg #[.int .i64 X.s, .int .u64 X.z, .int .u64 X.zc, .int .u64 X.c, .int .u64 X.sm, .slice poX X.P.length pcX, .slice noX X.N.length ncX, .slice qoX X.pd.length qcX, .slice roX X.nd.length rcX]) X) := fun wx hx => HSX.out wx (HQY.out.trans hx (by simp))
      clear HSX
      have HSX : Hid (∀ wx, Fr [] wY wx → FSrc wx (.agg #[.int .i64 X.s, .int .u64 X.z, .int .u64 X.zc, .int .u64 X.c, .int .u64 X.sm, .slice poX X.P.length pcX, .slice noX X.N.length ncX, .slice qoX X.pd.length qcX, .slice roX X.nd.length rcX]) X) := NHSX
      clear NHSX
      have F0 : Fr [] wY wY := Fr.refl _ _
      have LY0 : ∀ wx, Fr [] wY wx → wx.cell? ⟨GY, 0, none⟩ = some (.int .i64 Y.s) := fun wx hx => hx.cell_some (HY.out.1.cell 0 rfl) List.not_mem_nil
      have LY1 : ∀ wx, Fr [] wY wx → wx.cell? ⟨GY, 1, none⟩ = some (.int .u64 Y.z) := fun wx hx => hx.cell_some (HY.out.1.cell 1 rfl) List.not_mem_nil
      have LY2 : ∀ wx, Fr [] wY wx → wx.cell? ⟨GY, 2, none⟩ = some (.int .u64 Y.zc) := fun wx hx => hx.cell_some (HY.out.1.cell 2 rfl) List.not_mem_nil
      have LY3 : ∀ wx, Fr [] wY wx → wx.cell? ⟨GY, 3, none⟩ = some (.int .u64 Y.c) := fun wx hx => hx.cell_some (HY.out.1.cell 3 rfl) List.not_mem_nil
      have LY4 : ∀ wx, Fr [] wY wx → wx.cell? ⟨GY, 4, none⟩ = some (.int .u64 Y.sm) := fun wx hx => hx.cell_some (HY.out.1.cell 4 rfl) List.not_mem_nil
      have LY5 : ∀ wx, Fr [] wY wx → wx.cell? ⟨GY, 5, none⟩ = some (.slice poY Y.P.length pcY) := fun wx hx => hx.cell_some (HY.out.1.cell 5 rfl) List.not_mem_nil
      have LY6 : ∀ wx, Fr [] wY wx → wx.cell? ⟨GY, 6, none⟩ = some (.slice noY Y.N.length ncY) := fun wx hx => hx.cell_some (HY.out.1.cell 6 rfl) List.not_mem_nil
      have LY7 : ∀ wx, Fr [] wY wx → wx.cell? ⟨GY, 7, none⟩ = some (.slice qoY Y.pd.length qcY) := fun wx hx => hx.cell_some (HY.out.1.cell 7 rfl) List.not_mem_nil
      have LY8 : ∀ wx, Fr [] wY wx → wx.cell? ⟨GY, 8, none⟩ = some (.slice roY Y.nd.length rcY) := fun wx hx => hx.cell_some (HY.out.1.cell 8 rfl) List.not_mem_nil
      have HSY : Hid (∀ wx, Fr [] wY wx → FSrc wx (.agg #[.int .i64 Y.s, .int .u64 Y.z, .int .u64 Y.zc, .int .u64 Y.c, .int .u64 Y.sm, .slice poY Y.P.length pcY, .slice noY Y.N.length ncY, .slice qoY Y.pd.length qcY, .slice roY Y.nd.length rcY]) Y) := fun wx hx => HY.out.2.2.kept hx
      go_wp2_with fail
      refine (ints_any _ _ a b wY (HA.out _ (HFB2.out.trans F0 (by simp))) (HB.out _ (HFB2.out.trans F0 (by simp)))).mono ?_
      rintro e u0 ⟨rfl, f⟩
      rw [EE.out.1, EE.out.2]
      have HV : Hid ((u0.alloc (.cells #[.int .i64 x, .int .i64 y] 30)).heap[u0.heap.size]? = some (.cells #[.int .i64 x, .int .i64 y] 30 (0, 0)) ∧ Fr [] wY (u0.alloc (.cells #[.int .i64 x, .int .i64 y] 30))) := ⟨heap_alloc_new _ _, (F0.trans f (by simp)).alloc _⟩
      clear f
      go_upto_region 6 with fail
      generalize u0.alloc (.cells _ _) = wV at HV ⊢
      generalize u0.heap.size = GV at HV ⊢
      have HQV : Hid (Fr [] wY wV) := HV.out.2
      have HFB3 : Hid (Fr [] w wV) := HFB2.out.trans HQV.out (by simp)
      have Na0 : ∀ wx, Fr [] wV wx → wx.cell? ⟨w.heap.size, 0, none⟩ = some (.int .i64 a.s) := fun wx hx => La0 wx (HQV.out.trans hx (by simp))
      have Na1 : ∀ wx, Fr [] wV wx → wx.cell? ⟨w.heap.size, 1, none⟩ = some (.int .u64 a.z) := fun wx hx => La1 wx (HQV.out.trans hx (by simp))
      have Na2 : ∀ wx, Fr [] wV wx → wx.cell? ⟨w.heap.size, 2, none⟩ = some (.int .u64 a.zc) := fun wx hx => La2 wx (HQV.out.trans hx (by simp))
      have Na3 : ∀ wx, Fr [] wV wx → wx.cell? ⟨w.heap.size, 3, none⟩ = some (.int .u64 a.c) := fun wx hx => La3 wx (HQV.out.trans hx (by simp))
      have Na4 : ∀ wx, Fr [] wV wx → wx.cell? ⟨w.heap.size, 4, none⟩ = some (.int .u64 a.sm) := fun wx hx => La4 wx (HQV.out.trans hx (by simp))
      have Na5 : ∀ wx, Fr [] wV wx → wx.cell? ⟨w.heap.size, 5, none⟩ = some (.slice poa a.P.length pca) := fun wx hx => La5 wx (HQV.out.trans hx (by simp))
      have Na6 : ∀ wx, Fr [] wV wx → wx.cell? ⟨w.heap.size, 6, none⟩ = some (.slice noa a.N.length nca) := fun wx hx => La6 wx (HQV.out.trans hx (by simp))
      have Na7 : ∀ wx, Fr [] wV wx → wx.cell? ⟨w.heap.size, 7, none⟩ = some (.slice qoa a.pd.length qca) := fun wx hx => La7 wx (HQV.out.trans hx (by simp))
      have Na8 : ∀ wx, Fr [] wV wx → wx.cell? ⟨w.heap.size, 8, none⟩ = some (.slice roa a.nd.length rca) := fun wx hx => La8 wx (HQV.out.trans hx (by simp))
      have Nb0 : ∀ wx, Fr [] wV wx → wx.cell? ⟨w.heap.size + 1, 0, none⟩ = some (.int .i64 b.s) := fun wx hx => Lb0 wx (HQV.out.trans hx (by simp))
      have Nb1 : ∀ wx, Fr [] wV wx → wx.cell? ⟨w.heap.size + 1, 1, none⟩ = some (.int .u64 b.z) := fun wx hx => Lb1 wx (HQV.out.trans hx (by simp))
      have Nb2 : ∀ wx, Fr [] wV wx → wx.cell? ⟨w.heap.size + 1, 2, none⟩ = some (.int .u64 b.zc) := fun wx hx => Lb2 wx (HQV.out.trans hx (by simp))
      have Nb3 : ∀ wx, Fr [] wV wx → wx.cell? ⟨w.heap.size + 1, 3, none⟩ = some (.int .u64 b.c) := fun wx hx => Lb3 wx (HQV.out.trans hx (by simp))
      have Nb4 : ∀ wx, Fr [] wV wx → wx.cell? ⟨w.heap.size + 1, 4, none⟩ = some (.int .u64 b.sm) := fun wx hx => Lb4 wx (HQV.out.trans hx (by simp))
      have Nb5 : ∀ wx, Fr [] wV wx → wx.cell? ⟨w.heap.size + 1, 5, none⟩ = some (.slice pob b.P.length pcb) := fun wx hx => Lb5 wx (HQV.out.trans hx (by simp))
      have Nb6 : ∀ wx, Fr [] wV wx → wx.cell? ⟨w.heap.size + 1, 6, none⟩ = some (.slice nob b.N.length ncb) := fun wx hx => Lb6 wx (HQV.out.trans hx (by simp))
      have Nb7 : ∀ wx, Fr [] wV wx → wx.cell? ⟨w.heap.size + 1, 7, none⟩ = some (.slice qob b.pd.length qcb) := fun wx hx => Lb7 wx (HQV.out.trans hx (by simp))
      have Nb8 : ∀ wx, Fr [] wV wx → wx.cell? ⟨w.heap.size + 1, 8, none⟩ = some (.slice rob b.nd.length rcb) := fun wx hx => Lb8 wx (HQV.out.trans hx (by simp))
      clear La0 La1 La2 La3 La4 La5 La6 La7 La8 Lb0 Lb1 Lb2 Lb3 Lb4 Lb5 Lb6 Lb7 Lb8 F0
      have La0 := Na0
      have La1 := Na1
      have La2 := Na2
      have La3 := Na3
      have La4 := Na4
      have La5 := Na5
      have La6 := Na6
      have La7 := Na7
      have La8 := Na8
      have Lb0 := Nb0
      have Lb1 := Nb1
      have Lb2 := Nb2
      have Lb3 := Nb3
      have Lb4 := Nb4
      have Lb5 := Nb5
      have Lb6 := Nb6
      have Lb7 := Nb7
      have Lb8 := Nb8
      clear Na0 Na1 Na2 Na3 Na4 Na5 Na6 Na7 Na8 Nb0 Nb1 Nb2 Nb3 Nb4 Nb5 Nb6 Nb7 Nb8
      have NLX0 : ∀ wx, Fr [] wV wx → wx.cell? ⟨GX, 0, none⟩ = some (.int .i64 X.s) := fun wx hx => LX0 wx (HQV.out.trans hx (by simp))
      have NLX1 : ∀ wx, Fr [] wV wx → wx.cell? ⟨GX, 1, none⟩ = some (.int .u64 X.z) := fun wx hx => LX1 wx (HQV.out.trans hx (by simp))
      have NLX2 : ∀ wx, Fr [] wV wx → wx.cell? ⟨GX, 2, none⟩ = some (.int .u64 X.zc) := fun wx hx => LX2 wx (HQV.out.trans hx (by simp))
      have NLX3 : ∀ wx, Fr [] wV wx → wx.cell? ⟨GX, 3, none⟩ = some (.int .u64 X.c) := fun wx hx => LX3 wx (HQV.out.trans hx (by simp))
      have NLX4 : ∀ wx, Fr [] wV wx → wx.cell? ⟨GX, 4, none⟩ = some (.int .u64 X.sm) := fun wx hx => LX4 wx (HQV.out.trans hx (by simp))
      have NLX5 : ∀ wx, Fr [] wV wx → wx.cell? ⟨GX, 5, none⟩ = some (.slice poX X.P.length pcX) := fun wx hx => LX5 wx (HQV.out.trans hx (by simp))
      have NLX6 : ∀ wx, Fr [] wV wx → wx.cell? ⟨GX, 6, none⟩ = some (.slice noX X.N.length ncX) := fun wx hx => LX6 wx (HQV.out.trans hx (by simp))
      have NLX7 : ∀ wx, Fr [] wV wx → wx.cell? ⟨GX, 7, none⟩ = some (.slice qoX X.pd.length qcX) := fun wx hx => LX7 wx (HQV.out.trans hx (by simp))
      have NLX8 : ∀ wx, Fr [] wV wx → wx.cell? ⟨GX, 8, none⟩ = some (.slice roX X.nd.length rcX) := fun wx hx => LX8 wx (HQV.out.trans hx (by simp))
      have NLY0 : ∀ wx, Fr [] wV wx → wx.cell? ⟨GY, 0, none⟩ = some (.int .i64 Y.s) := fun wx hx => LY0 wx (HQV.out.trans hx (by simp))
      have NLY1 : ∀ wx, Fr [] wV wx → wx.cell? ⟨GY, 1, none⟩ = some (.int .u64 Y.z) := fun wx hx => LY1 wx (HQV.out.trans hx (by simp))
      have NLY2 : ∀ wx, Fr [] wV wx → wx.cell? ⟨GY, 2, none⟩ = some (.int .u64 Y.zc) := fun wx hx => LY2 wx (HQV.out.trans hx (by simp))
      have NLY3 : ∀ wx, Fr [] wV wx → wx.cell? ⟨GY, 3, none⟩ = some (.int .u64 Y.c) := fun wx hx => LY3 wx (HQV.out.trans hx (by simp))
      have NLY4 : ∀ wx, Fr [] wV wx → wx.cell? ⟨GY, 4, none⟩ = some (.int .u64 Y.sm) := fun wx hx => LY4 wx (HQV.out.trans hx (by simp))
      have NLY5 : ∀ wx, Fr [] wV wx → wx.cell? ⟨GY, 5, none⟩ = some (.slice poY Y.P.length pcY) := fun wx hx => LY5 wx (HQV.out.trans hx (by simp))
      have NLY6 : ∀ wx, Fr [] wV wx → wx.cell? ⟨GY, 6, none⟩ = some (.slice noY Y.N.length ncY) := fun wx hx => LY6 wx (HQV.out.trans hx (by simp))
      have NLY7 : ∀ wx, Fr [] wV wx → wx.cell? ⟨GY, 7, none⟩ = some (.slice qoY Y.pd.length qcY) := fun wx hx => LY7 wx (HQV.out.trans hx (by simp))
      have NLY8 : ∀ wx, Fr [] wV wx → wx.cell? ⟨GY, 8, none⟩ = some (.slice roY Y.nd.length rcY) := fun wx hx => LY8 wx (HQV.out.trans hx (by simp))
      clear LX0 LX1 LX2 LX3 LX4 LX5 LX6 LX7 LX8 LY0 LY1 LY2 LY3 LY4 LY5 LY6 LY7 LY8
      have LX0 := NLX0
      have LX1 := NLX1
      have LX2 := NLX2
      have LX3 := NLX3
      have LX4 := NLX4
      have LX5 := NLX5
      have LX6 := NLX6
      have LX7 := NLX7
      have LX8 := NLX8
      have LY0 := NLY0
      have LY1 := NLY1
      have LY2 := NLY2
      have LY3 := NLY3
      have LY4 := NLY4
      have LY5 := NLY5
      have LY6 := NLY6
      have LY7 := NLY7
      have LY8 := NLY8
      clear NLX0 NLX1 NLX2 NLX3 NLX4 NLX5 NLX6 NLX7 NLX8 NLY0 NLY1 NLY2 NLY3 NLY4 NLY5 NLY6 NLY7 NLY8
      have NHSX : Hid (∀ wx, Fr [] wV wx → FSrc wx (.agg #[.int .i64 X.s, .int .u64 X.z, .int .u64 X.zc, .int .u64 X.c, .int .u64 X.sm, .slice poX X.P.length pcX, .slice noX X.N.length ncX, .slice qoX X.pd.length qcX, .slice roX X.nd.length rcX]) X) := fun wx hx => HSX.out wx (HQV.out.trans hx (by simp))
      have NHSY : Hid (∀ wx, Fr [] wV wx → FSrc wx (.agg #[.int .i64 Y.s, .int .u64 Y.z, .int .u64 Y.zc, .int .u64 Y.c, .int .u64 Y.sm, .slice poY Y.P.length pcY, .slice noY Y.N.length ncY, .slice qoY Y.pd.length qcY, .slice roY Y.nd.length rcY]) Y) := fun wx hx => HSY.out wx (HQV.out.trans hx (by simp))
      clear HSX HSY
      have HSX : Hid (∀ wx, Fr [] wV wx → FSrc wx (.agg #[.int .i64 X.s, .int .u64 X.z, .int .u64 X.zc, .int .u64 X.c, .int .u64 X.sm, .slice poX X.P.length pcX, .slice noX X.N.length ncX, .slice qoX X.pd.length qcX, .slice roX X.nd.length rcX]) X) := NHSX
      have HSY : Hid (∀ wx, Fr [] wV wx → FSrc wx (.agg #[.int .i64 Y.s, .int .u64 Y.z, .int .u64 Y.zc, .int .u64 Y.c, .int .u64 Y.sm, .slice poY Y.P.length pcY, .slice noY Y.N.length ncY, .slice qoY Y.pd.length qcY, .slice roY Y.nd.length rcY]) Y) := NHSY
      clear NHSX NHSY
      have F0 : Fr [] wV wV := Fr.refl _ _
      have LV0 : ∀ wx, Fr [] wV wx → wx.cell? ⟨GV, 0, none⟩ = some (.int .i64 x) := fun wx hx => hx.cell_some (cell_at HV.out.1 0) List.not_mem_nil
      have LV1 : ∀ wx, Fr [] wV wx → wx.cell? ⟨GV, 1, none⟩ = some (.int .i64 y) := fun wx hx => hx.cell_some (cell_at HV.out.1 1) List.not_mem_nil
      go_wp2_with fail
      refine (rfloats_any _ _ X Y wV (HSX.out _ F0) (HSY.out _ F0)).mono ?_
      rintro e u0 ⟨rfl, f⟩
      rw [EF.out.1, EF.out.2]
      have HW : Hid ((u0.alloc (.cells #[.int .i64 z, .int .i64 t] 30)).heap[u0.heap.size]? = some (.cells #[.int .i64 z, .int .i64 t] 30 (0, 0)) ∧ Fr [] wV (u0.alloc (.cells #[.int .i64 z, .int .i64 t] 30))) := ⟨heap_alloc_new _ _, (F0.trans f (by simp)).alloc _⟩
      clear f
      go_upto_region 9 with fail
      generalize u0.alloc (.cells _ _) = wW at HW ⊢
      generalize u0.heap.size = GW at HW ⊢
      have HQW : Hid (Fr [] wV wW) := HW.out.2
      have HFB4 : Hid (Fr [] w wW) := HFB3.out.trans HQW.out (by simp)
      have Na0 : ∀ wx, Fr [] wW wx → wx.cell? ⟨w.heap.size, 0, none⟩ = some (.int .i64 a.s) := fun wx hx => La0 wx (HQW.out.trans hx (by simp))
      have Na1 : ∀ wx, Fr [] wW wx → wx.cell? ⟨w.heap.size, 1, none⟩ = some (.int .u64 a.z) := fun wx hx => La1 wx (HQW.out.trans hx (by simp))
      have Na2 : ∀ wx, Fr [] wW wx → wx.cell? ⟨w.heap.size, 2, none⟩ = some (.int .u64 a.zc) := fun wx hx => La2 wx (HQW.out.trans hx (by simp))
      have Na3 : ∀ wx, Fr [] wW wx → wx.cell? ⟨w.heap.size, 3, none⟩ = some (.int .u64 a.c) := fun wx hx => La3 wx (HQW.out.trans hx (by simp))
      have Na4 : ∀ wx, Fr [] wW wx → wx.cell? ⟨w.heap.size, 4, none⟩ = some (.int .u64 a.sm) := fun wx hx => La4 wx (HQW.out.trans hx (by simp))
      have Na5 : ∀ wx, Fr [] wW wx → wx.cell? ⟨w.heap.size, 5, none⟩ = some (.slice poa a.P.length pca) := fun wx hx => La5 wx (HQW.out.trans hx (by simp))
      have Na6 : ∀ wx, Fr [] wW wx → wx.cell? ⟨w.heap.size, 6, none⟩ = some (.slice noa a.N.length nca) := fun wx hx => La6 wx (HQW.out.trans hx (by simp))
      have Na7 : ∀ wx, Fr [] wW wx → wx.cell? ⟨w.heap.size, 7, none⟩ = some (.slice qoa a.pd.length qca) := fun wx hx => La7 wx (HQW.out.trans hx (by simp))
      have Na8 : ∀ wx, Fr [] wW wx → wx.cell? ⟨w.heap.size, 8, none⟩ = some (.slice roa a.nd.length rca) := fun wx hx => La8 wx (HQW.out.trans hx (by simp))
      have Nb0 : ∀ wx, Fr [] wW wx → wx.cell? ⟨w.heap.size + 1, 0, none⟩ = some (.int .i64 b.s) := fun wx hx => Lb0 wx (HQW.out.trans hx (by simp))
      have Nb1 : ∀ wx, Fr [] wW wx → wx.cell? ⟨w.heap.size + 1, 1, none⟩ = some (.int .u64 b.z) := fun wx hx => Lb1 wx (HQW.out.trans hx (by simp))
      have Nb2 : ∀ wx, Fr [] wW wx → wx.cell? ⟨w.heap.size + 1, 2, none⟩ = some (.int .u64 b.zc) := fun wx hx => Lb2 wx (HQW.out.trans hx (by simp))
      have Nb3 : ∀ wx, Fr [] wW wx → wx.cell? ⟨w.heap.size + 1, 3, none⟩ = some (.int .u64 b.c) := fun wx hx => Lb3 wx (HQW.out.trans hx (by simp))
      have Nb4 : ∀ wx, Fr [] wW wx → wx.cell? ⟨w.heap.size + 1, 4, none⟩ = some (.int .u64 b.sm) := fun wx hx => Lb4 wx (HQW.out.trans hx (by simp))
      have Nb5 : ∀ wx, Fr [] wW wx → wx.cell? ⟨w.heap.size + 1, 5, none⟩ = some (.slice pob b.P.length pcb) := fun wx hx => Lb5 wx (HQW.out.trans hx (by simp))
      have Nb6 : ∀ wx, Fr [] wW wx → wx.cell? ⟨w.heap.size + 1, 6, none⟩ = some (.slice nob b.N.length ncb) := fun wx hx => Lb6 wx (HQW.out.trans hx (by simp))
      have Nb7 : ∀ wx, Fr [] wW wx → wx.cell? ⟨w.heap.size + 1, 7, none⟩ = some (.slice qob b.pd.length qcb) := fun wx hx => Lb7 wx (HQW.out.trans hx (by simp))
      have Nb8 : ∀ wx, Fr [] wW wx → wx.cell? ⟨w.heap.size + 1, 8, none⟩ = some (.slice rob b.nd.length rcb) := fun wx hx => Lb8 wx (HQW.out.trans hx (by simp))
      clear La0 La1 La2 La3 La4 La5 La6 La7 La8 Lb0 Lb1 Lb2 Lb3 Lb4 Lb5 Lb6 Lb7 Lb8 F0
      have La0 := Na0
      have La1 := Na1
      have La2 := Na2
      have La3 := Na3
      have La4 := Na4
      have La5 := Na5
      have La6 := Na6
      have La7 := Na7
      have La8 := Na8
      have Lb0 := Nb0
      have Lb1 := Nb1
      have Lb2 := Nb2
      have Lb3 := Nb3
      have Lb4 := Nb4
      have Lb5 := Nb5
      have Lb6 := Nb6
      have Lb7 := Nb7
      have Lb8 := Nb8
      clear Na0 Na1 Na2 Na3 Na4 Na5 Na6 Na7 Na8 Nb0 Nb1 Nb2 Nb3 Nb4 Nb5 Nb6 Nb7 Nb8
      have NLX0 : ∀ wx, Fr [] wW wx → wx.cell? ⟨GX, 0, none⟩ = some (.int .i64 X.s) := fun wx hx => LX0 wx (HQW.out.trans hx (by simp))
      have NLX1 : ∀ wx, Fr [] wW wx → wx.cell? ⟨GX, 1, none⟩ = some (.int .u64 X.z) := fun wx hx => LX1 wx (HQW.out.trans hx (by simp))
      have NLX2 : ∀ wx, Fr [] wW wx → wx.cell? ⟨GX, 2, none⟩ = some (.int .u64 X.zc) := fun wx hx => LX2 wx (HQW.out.trans hx (by simp))
      have NLX3 : ∀ wx, Fr [] wW wx → wx.cell? ⟨GX, 3, none⟩ = some (.int .u64 X.c) := fun wx hx => LX3 wx (HQW.out.trans hx (by simp))
      have NLX4 : ∀ wx, Fr [] wW wx → wx.cell? ⟨GX, 4, none⟩ = some (.int .u64 X.sm) := fun wx hx => LX4 wx (HQW.out.trans hx (by simp))
      have NLX5 : ∀ wx, Fr [] wW wx → wx.cell? ⟨GX, 5, none⟩ = some (.slice poX X.P.length pcX) := fun wx hx => LX5 wx (HQW.out.trans hx (by simp))
      have NLX6 : ∀ wx, Fr [] wW wx → wx.cell? ⟨GX, 6, none⟩ = some (.slice noX X.N.length ncX) := fun wx hx => LX6 wx (HQW.out.trans hx (by simp))
      have NLX7 : ∀ wx, Fr [] wW wx → wx.cell? ⟨GX, 7, none⟩ = some (.slice qoX X.pd.length qcX) := fun wx hx => LX7 wx (HQW.out.trans hx (by simp))
      have NLX8 : ∀ wx, Fr [] wW wx → wx.cell? ⟨GX, 8, none⟩ = some (.slice roX X.nd.length rcX) := fun wx hx => LX8 wx (HQW.out.trans hx (by simp))
      have NLY0 : ∀ wx, Fr [] wW wx → wx.cell? ⟨GY, 0, none⟩ = some (.int .i64 Y.s) := fun wx hx => LY0 wx (HQW.out.trans hx (by simp))
      have NLY1 : ∀ wx, Fr [] wW wx → wx.cell? ⟨GY, 1, none⟩ = some (.int .u64 Y.z) := fun wx hx => LY1 wx (HQW.out.trans hx (by simp))
      have NLY2 : ∀ wx, Fr [] wW wx → wx.cell? ⟨GY, 2, none⟩ = some (.int .u64 Y.zc) := fun wx hx => LY2 wx (HQW.out.trans hx (by simp))
      have NLY3 : ∀ wx, Fr [] wW wx → wx.cell? ⟨GY, 3, none⟩ = some (.int .u64 Y.c) := fun wx hx => LY3 wx (HQW.out.trans hx (by simp))
      have NLY4 : ∀ wx, Fr [] wW wx → wx.cell? ⟨GY, 4, none⟩ = some (.int .u64 Y.sm) := fun wx hx => LY4 wx (HQW.out.trans hx (by simp))
      have NLY5 : ∀ wx, Fr [] wW wx → wx.cell? ⟨GY, 5, none⟩ = some (.slice poY Y.P.length pcY) := fun wx hx => LY5 wx (HQW.out.trans hx (by simp))
      have NLY6 : ∀ wx, Fr [] wW wx → wx.cell? ⟨GY, 6, none⟩ = some (.slice noY Y.N.length ncY) := fun wx hx => LY6 wx (HQW.out.trans hx (by simp))
      have NLY7 : ∀ wx, Fr [] wW wx → wx.cell? ⟨GY, 7, none⟩ = some (.slice qoY Y.pd.length qcY) := fun wx hx => LY7 wx (HQW.out.trans hx (by simp))
      have NLY8 : ∀ wx, Fr [] wW wx → wx.cell? ⟨GY, 8, none⟩ = some (.slice roY Y.nd.length rcY) := fun wx hx => LY8 wx (HQW.out.trans hx (by simp))
      have NLV0 : ∀ wx, Fr [] wW wx → wx.cell? ⟨GV, 0, none⟩ = some (.int .i64 x) := fun wx hx => LV0 wx (HQW.out.trans hx (by simp))
      have NLV1 : ∀ wx, Fr [] wW wx → wx.cell? ⟨GV, 1, none⟩ = some (.int .i64 y) := fun wx hx => LV1 wx (HQW.out.trans hx (by simp))
      clear LX0 LX1 LX2 LX3 LX4 LX5 LX6 LX7 LX8 LY0 LY1 LY2 LY3 LY4 LY5 LY6 LY7 LY8 LV0 LV1
      have LX0 := NLX0
      have LX1 := NLX1
      have LX2 := NLX2
      have LX3 := NLX3
      have LX4 := NLX4
      have LX5 := NLX5
      have LX6 := NLX6
      have LX7 := NLX7
      have LX8 := NLX8
      have LY0 := NLY0
      have LY1 := NLY1
      have LY2 := NLY2
      have LY3 := NLY3
      have LY4 := NLY4
      have LY5 := NLY5
      have LY6 := NLY6
      have LY7 := NLY7
      have LY8 := NLY8
      have LV0 := NLV0
      have LV1 := NLV1
      clear NLX0 NLX1 NLX2 NLX3 NLX4 NLX5 NLX6 NLX7 NLX8 NLY0 NLY1 NLY2 NLY3 NLY4 NLY5 NLY6 NLY7 NLY8 NLV0 NLV1
      have NHSX : Hid (∀ wx, Fr [] wW wx → FSrc wx (.agg #[.int .i64 X.s, .int .u64 X.z, .int .u64 X.zc, .int .u64 X.c, .int .u64 X.sm, .slice poX X.P.length pcX, .slice noX X.N.length ncX, .slice qoX X.pd.length qcX, .slice roX X.nd.length rcX]) X) := fun wx hx => HSX.out wx (HQW.out.trans hx (by simp))
      have NHSY : Hid (∀ wx, Fr [] wW wx → FSrc wx (.agg #[.int .i64 Y.s, .int .u64 Y.z, .int .u64 Y.zc, .int .u64 Y.c, .int .u64 Y.sm, .slice poY Y.P.length pcY, .slice noY Y.N.length ncY, .slice qoY Y.pd.length qcY, .slice roY Y.nd.length rcY]) Y) := fun wx hx => HSY.out wx (HQW.out.trans hx (by simp))
      clear HSX HSY
      have HSX : Hid (∀ wx, Fr [] wW wx → FSrc wx (.agg #[.int .i64 X.s, .int .u64 X.z, .int .u64 X.zc, .int .u64 X.c, .int .u64 X.sm, .slice poX X.P.length pcX, .slice noX X.N.length ncX, .slice qoX X.pd.length qcX, .slice roX X.nd.length rcX]) X) := NHSX
      have HSY : Hid (∀ wx, Fr [] wW wx → FSrc wx (.agg #[.int .i64 Y.s, .int .u64 Y.z, .int .u64 Y.zc, .int .u64 Y.c, .int .u64 Y.sm, .slice poY Y.P.length pcY, .slice noY Y.N.length ncY, .slice qoY Y.pd.length qcY, .slice roY Y.nd.length rcY]) Y) := NHSY
      clear NHSX NHSY
      have F0 : Fr [] wW wW := Fr.refl _ _
      have LW0 : ∀ wx, Fr [] wW wx → wx.cell? ⟨GW, 0, none⟩ = some (.int .i64 z) := fun wx hx => hx.cell_some (cell_at HW.out.1 0) List.not_mem_nil
      have LW1 : ∀ wx, Fr [] wW wx → wx.cell? ⟨GW, 1, none⟩ = some (.int .i64 t) := fun wx hx => hx.cell_some (cell_at HW.out.1 1) List.not_mem_nil
      by_cases hx0 : x = 0
      case pos =>
        obtain rfl := EG.out.1 hx0
        subst hx0
        by_cases h53 : 9007199254740992 < a.c
        case pos =>
          go_wp2_with fail
          refine (awake11_any wW).mono ?_
          rintro e u1 ⟨rfl, f⟩
          have f1 : Fr [] wW u1 := F0.trans f (by simp)
          clear f F0
          go_wp2
          go_ret
          exact ⟨rfl, (HFB4.out.trans f1 (by simp)).below (Nat.le_refl _) (by simp)⟩
        by_cases h54 : 9007199254740992 < b.c
        case pos =>
          go_wp2_with fail
          refine (awake11_any wW).mono ?_
          rintro e u1 ⟨rfl, f⟩
          have f1 : Fr [] wW u1 := F0.trans f (by simp)
          clear f F0
          go_wp2
          go_ret
          exact ⟨rfl, (HFB4.out.trans f1 (by simp)).below (Nat.le_refl _) (by simp)⟩
        obtain ⟨hz, ht⟩ := EG.out.2 (by omega) (by omega)
        subst ht
        go_wp2_with fail
        refine (awake11_any wW).mono ?_
        rintro e u1 ⟨rfl, f⟩
        have f1 : Fr [] wW u1 := F0.trans f (by simp)
        clear f F0
        go_wp2
        go_ret
        exact ⟨rfl, (HFB4.out.trans f1 (by simp)).below (Nat.le_refl _) (by simp)⟩
      have d1 : (x == 0) = false := by simpa using hx0
      by_cases h53 : 9007199254740992 < a.c
      case pos =>
        go_wp2_with fail
        refine (awake11_any wW).mono ?_
        rintro e u1 ⟨rfl, f⟩
        have f1 : Fr [] wW u1 := F0.trans f (by simp)
        clear f F0
        go_wp2
        go_ret
        exact ⟨rfl, (HFB4.out.trans f1 (by simp)).below (Nat.le_refl _) (by simp)⟩
      by_cases h54 : 9007199254740992 < b.c
      case pos =>
        go_wp2_with fail
        refine (awake11_any wW).mono ?_
        rintro e u1 ⟨rfl, f⟩
        have f1 : Fr [] wW u1 := F0.trans f (by simp)
        clear f F0
        go_wp2
        go_ret
        exact ⟨rfl, (HFB4.out.trans f1 (by simp)).below (Nat.le_refl _) (by simp)⟩
      obtain ⟨hz, ht⟩ := EG.out.2 (by omega) (by omega)
      subst ht
      subst hz
      go_wp2_with fail
      refine (awake11_any wW).mono ?_
      rintro e u1 ⟨rfl, f⟩
      have f1 : Fr [] wW u1 := F0.trans f (by simp)
      clear f F0
      go_wp2
      go_ret
      exact ⟨rfl, (HFB4.out.trans f1 (by simp)).below (Nat.le_refl _) (by simp)⟩
end Go.Proofs.Ytnfbmdniomelnaa
