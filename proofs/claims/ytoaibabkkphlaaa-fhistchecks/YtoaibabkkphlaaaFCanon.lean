/-
  Package fhist: Canon.
-/
import Derived.Test.YtoaibabkkphlaaaFMake
import Derived.Test.YtoaibabkkphlaaaUEq
import Derived.Test.YtoaibabkkphlaaaHCanon
import Derived.Deep.RegionHeld3
namespace Go.Proofs.Ytoaibabkkphlaaa
open Go.RowKit Mem Spans
set_option linter.unusedSimpArgs false
set_option linter.unusedVariables false
set_option maxRecDepth 100000

theorem wioU_in {l : List Sp} {z : Int} (h : ∀ s ∈ l, in64 s.1 ∧ inu s.2) : ∀ s ∈ wio l z, in64 s.1 ∧ inu s.2 := fun s hs => h s (wio_mem.1 hs).1
theorem FOwn.form {B : Nat} {w : World} {v : Value} {h : Fs} (k : FOwn B w v h) : ∃ a1 c1 a2 c2 a3 c3 a4 c4, v = .agg #[.int .i64 h.s, .int .u64 h.z, .int .u64 h.zc, .int .u64 h.c, .int .u64 h.sm, .slice a1 h.P.length c1, .slice a2 h.N.length c2, .slice a3 h.pd.length c3, .slice a4 h.nd.length c4] := by
  obtain ⟨a, b, c, d, rfl, h2, h3, h4, h5, h6, h7⟩ := k
  obtain ⟨_, _, rfl⟩ := h4.val
  obtain ⟨_, _, rfl⟩ := h5.val
  obtain ⟨_, _, rfl⟩ := h6.val
  obtain ⟨_, _, rfl⟩ := h7.val
  exact ⟨_, _, _, _, _, _, _, _, rfl⟩
/-- Canon's error; what it tells. -/
def fae (h : Fs) : Int := if fce h = 0 then mfe h (wio (fdp h) 0) (wio (fdn h) 0) else fce h
def fah (h : Fs) : Fs := if fce h = 0 then mfh h (wio (fdp h) 0) (wio (fdn h) 0) else fzero

set_option maxHeartbeats 4000000 in
theorem fcanon_any (v : Value) (h : Fs) (w : World) (hh : FSrc w v h) :
    Calls Try.prog 28 #[v] w fun e w' => ∃ u, e = .returned (.tuple #[u, .int .i64 (fae h)]) ∧ FOwn w.heap.size w' u (fah h) ∧ Fr [] w w' := by
  have HH : Hid (∀ wx, Fr [] w wx → FSrc wx v h) := fun wx hx => hh.kept hx
  obtain ⟨po, pc, no, nc, qo, qc, ro, rc, rfl, _⟩ := hh.opens
  have HFI : Hid (fin9 h) := hh.fin
  clear hh
  go_enter Try.func28, Try.ntmps28
  obtain ⟨cs, hcs⟩ : ∃ cs : Array Value, cs = #[.int .i64 h.s, .int .u64 h.z, .int .u64 h.zc, .int .u64 h.c, .int .u64 h.sm, .slice po h.P.length pc, .slice no h.N.length nc, .slice qo h.pd.length qc, .slice ro h.nd.length rc] := ⟨_, rfl⟩
  have HA : Hid (∀ z, NineF ((w.alloc (.cells cs 26)).alloc (.cells z 26)) w.heap.size cs ∧ NineF ((w.alloc (.cells cs 26)).alloc (.cells z 26)) (w.heap.size + 1) z ∧ Fr [] w ((w.alloc (.cells cs 26)).alloc (.cells z 26))) := fun z => ⟨nineF_mid _ _ _, nineF_top _ _ _, ((Fr.refl [] w).alloc _).alloc _⟩
  subst hcs
  go_wp2_with fail
  obtain ⟨hA3, hA6, hAF⟩ := HA.out #[.int .i64 0, .int .u64 0, .int .u64 0, .int .u64 0, .int .u64 0, .slice none 0 0, .slice none 0 0, .slice none 0 0, .slice none 0 0]
  clear HA
  generalize (w.alloc (.cells _ _)).alloc (.cells _ _) = wA at hA3 hA6 hAF ⊢
  have HSZ : Hid (w.heap.size + 1 < wA.heap.size) := hA6.lt
  refine (fsides_any _ h wA (HH.out _ hAF)).mono ?_
  rintro e w1 ⟨x, y, rfl, hx, hy, hf1⟩
  have HX : Hid (POwn 43 wA.heap.size w1 x (fdp h)) := hx
  have HY : Hid (POwn 43 wA.heap.size w1 y (fdn h)) := hy
  have HF1 : Hid (Fr [] w w1) := hAF.trans hf1 (by simp)
  have HS1 : Hid (wA.heap.size ≤ w1.heap.size) := hf1.size
  have H3 : Hid (NineF w1 w.heap.size _) := hA3.kept hf1 (by simp)
  have H6 : Hid (NineF w1 (w.heap.size + 1) _) := hA6.kept hf1 (by simp)
  clear hx hy hf1 hA3 hA6 hAF
  obtain ⟨xa, xc, rfl⟩ := HX.out.val
  obtain ⟨ya, yc, rfl⟩ := HY.out.val
  by_cases h0 : fce h = 0
  · have HC : Hid (fae h = mfe h (wio (fdp h) 0) (wio (fdn h) 0) ∧ fah h = mfh h (wio (fdp h) 0) (wio (fdn h) 0)) := by unfold Hid fae fah; rw [if_pos h0, if_pos h0]; exact ⟨rfl, rfl⟩
    rw [h0]
    clear h0
    have HWA : Hid (∀ wx, Fr [] w1 wx → Calls Try.prog 58 #[.slice xa (fdp h).length xc, .int .u64 0] wx fun e w' => ∃ u, e = .returned u ∧ POwn 43 wA.heap.size w' u (wio (fdp h) 0) ∧ Fr [] w1 w') := by
      intro wx hf
      refine (withoutU_any _ (fdp h) 0 wx ((HX.out.src (fdp_in h HFI.out)).kept hf) (by have := fdp_le h; omega)).mono ?_
      rintro e w' ⟨u, rfl, hu, hf'⟩
      exact ⟨u, rfl, hu.mono (Nat.le_trans HS1.out hf.size), hf.trans hf' (by simp)⟩
    have HWB : Hid (∀ wx, Fr [] w1 wx → Calls Try.prog 58 #[.slice ya (fdn h).length yc, .int .u64 0] wx fun e w' => ∃ u, e = .returned u ∧ POwn 43 wA.heap.size w' u (wio (fdn h) 0) ∧ Fr [] w1 w' ∧ Fr [] wx w') := by
      intro wx hf
      refine (withoutU_any _ (fdn h) 0 wx ((HY.out.src (fdn_in h HFI.out)).kept hf) (by have := fdn_le h; omega)).mono ?_
      rintro e w' ⟨u, rfl, hu, hf'⟩
      exact ⟨u, rfl, hu.mono (Nat.le_trans HS1.out hf.size), hf.trans hf' (by simp), hf'⟩
    have HMK : Hid (∀ wx ua ub, Fr [] w1 wx → POwn 43 wA.heap.size wx ua (wio (fdp h) 0) → POwn 43 wA.heap.size wx ub (wio (fdn h) 0) → Calls Try.prog 22 #[.agg #[.int .i64 h.s, .int .u64 h.z, .int .u64 h.zc, .int .u64 h.c, .int .u64 h.sm, .slice po h.P.length pc, .slice no h.N.length nc, .slice qo h.pd.length qc, .slice ro h.nd.length rc], ua, ub] wx fun e w' => ∃ u, e = .returned (.tuple #[u, .int .i64 (mfe h (wio (fdp h) 0) (wio (fdn h) 0))]) ∧ FOwn wA.heap.size w' u (mfh h (wio (fdp h) 0) (wio (fdn h) 0)) ∧ Fr [] w1 w') := by
      intro wx ua ub hf h1 h2
      refine (fmake_any _ ua ub h _ _ wx (HH.out _ (HF1.out.trans hf (by simp))) (h1.src (wioU_in (fdp_in h HFI.out))) (h2.src (wioU_in (fdn_in h HFI.out))) (by have := fdp_le h; have := wio_le (fdp h) 0; omega) (by have := fdn_le h; have := wio_le (fdn h) 0; omega)).mono ?_
      rintro e w' ⟨u, rfl, hu, hf'⟩
      exact ⟨u, rfl, hu.mono (Nat.le_trans HS1.out hf.size), hf.trans hf' (by simp)⟩
    have F0 : Fr [] w1 w1.drew := (Fr.refl _ _).drew
    have c0 := H3.out.cell 0 rfl
    have c1 := H3.out.cell 1 rfl
    have c2 := H3.out.cell 2 rfl
    have c3 := H3.out.cell 3 rfl
    have c4 := H3.out.cell 4 rfl
    have c5 := H3.out.cell 5 rfl
    have c6 := H3.out.cell 6 rfl
    have c7 := H3.out.cell 7 rfl
    have c8 := H3.out.cell 8 rfl
    go_wp2_with fail
    go_region_held3 (fun w' => w'.cell? ⟨w.heap.size, 0, none⟩ = some (.int .i64 h.s) ∧ w'.cell? ⟨w.heap.size, 1, none⟩ = some (.int .u64 h.z) ∧ w'.cell? ⟨w.heap.size, 2, none⟩ = some (.int .u64 h.zc) ∧ w'.cell? ⟨w.heap.size, 3, none⟩ = some (.int .u64 h.c) ∧ w'.cell? ⟨w.heap.size, 4, none⟩ = some (.int .u64 h.sm) ∧ w'.cell? ⟨w.heap.size, 5, none⟩ = some (.slice po h.P.length pc) ∧ w'.cell? ⟨w.heap.size, 6, none⟩ = some (.slice no h.N.length nc) ∧ w'.cell? ⟨w.heap.size, 7, none⟩ = some (.slice qo h.pd.length qc) ∧ w'.cell? ⟨w.heap.size, 8, none⟩ = some (.slice ro h.nd.length rc)) (go_keep) (first
      | (go_at_call 58; with_reducible refine (HWA.out _ F0).mono ?_; rintro e wa ⟨ua, rfl, hua, hfa⟩; have ka0 := hfa.cell_some c0 (by simp); have ka1 := hfa.cell_some c1 (by simp); have ka2 := hfa.cell_some c2 (by simp); have ka3 := hfa.cell_some c3 (by simp); have ka4 := hfa.cell_some c4 (by simp); have ka5 := hfa.cell_some c5 (by simp); have ka6 := hfa.cell_some c6 (by simp); have ka7 := hfa.cell_some c7 (by simp); have ka8 := hfa.cell_some c8 (by simp))
      | (go_at_call 58; with_reducible refine (HWB.out _ hfa).mono ?_; rintro e wb ⟨ub, rfl, hub, hfb, hfab⟩; have kb0 := hfb.cell_some c0 (by simp); have kb1 := hfb.cell_some c1 (by simp); have kb2 := hfb.cell_some c2 (by simp); have kb3 := hfb.cell_some c3 (by simp); have kb4 := hfb.cell_some c4 (by simp); have kb5 := hfb.cell_some c5 (by simp); have kb6 := hfb.cell_some c6 (by simp); have kb7 := hfb.cell_some c7 (by simp); have kb8 := hfb.cell_some c8 (by simp))
      | (go_at_call 22; with_reducible refine (HMK.out _ _ _ hfb (hua.kept hfab) hub).mono ?_; rintro e wc ⟨u, rfl, hu, hfc⟩; have kc0 := hfc.cell_some c0 (by simp); have kc1 := hfc.cell_some c1 (by simp); have kc2 := hfc.cell_some c2 (by simp); have kc3 := hfc.cell_some c3 (by simp); have kc4 := hfc.cell_some c4 (by simp); have kc5 := hfc.cell_some c5 (by simp); have kc6 := hfc.cell_some c6 (by simp); have kc7 := hfc.cell_some c7 (by simp); have kc8 := hfc.cell_some c8 (by simp); have h6 := H6.out.kept hfc (by simp); have d0 := h6.cell 0 rfl; have d1 := h6.cell 1 rfl; have d2 := h6.cell 2 rfl; have d3 := h6.cell 3 rfl; have d4 := h6.cell 4 rfl; have d5 := h6.cell 5 rfl; have d6 := h6.cell 6 rfl; have d7 := h6.cell 7 rfl; have d8 := h6.cell 8 rfl; have f0 := h6.frozen 0; have f1 := h6.frozen 1; have f2 := h6.frozen 2; have f3 := h6.frozen 3; have f4 := h6.frozen 4; have f5 := h6.frozen 5; have f6 := h6.frozen 6; have f7 := h6.frozen 7; have f8 := h6.frozen 8; obtain ⟨a1, c1, a2, c2, a3, c3, a4, c4, rfl⟩ := hu.form))
    have H6c : Hid (NineF wc (w.heap.size + 1) _) := h6
    have HUc : Hid (FOwn wA.heap.size wc _ (mfh h (wio (fdp h) 0) (wio (fdn h) 0))) := hu
    have HFc : Hid (Fr [] w wc) := HF1.out.trans hfc (by simp)
    clear h6 hu hfc
    go_wp2
    refine bodyPost_ret (fhist_res rfl _ _ (w.heap.size + 1) _ _ _ _ _ _ _ _ _ rfl (set9_nineF H6c.out _ _ _ _ _ _ _ _ _)) rfl ?_
    refine ⟨_, by rw [HC.out.1]; rfl, ?_, set9_fr HFc.out (.inr (by simp)) _ _ _ _ _ _ _ _ _⟩
    rw [HC.out.2]
    exact (HUc.out.keptS (set9_fr (S := [w.heap.size + 1]) (g := w.heap.size + 1) (Fr.refl _ wc) (.inl (by simp)) _ _ _ _ _ _ _ _ _) (by have := HSZ.out; simp; omega)).mono (by have := HSZ.out; omega)
  · have HC : Hid (fae h = fce h ∧ fah h = fzero) := by unfold Hid fae fah; rw [if_neg h0, if_neg h0]; exact ⟨rfl, rfl⟩
    have d0 := H6.out.cell 0 rfl
    have d1 := H6.out.cell 1 rfl
    have d2 := H6.out.cell 2 rfl
    have d3 := H6.out.cell 3 rfl
    have d4 := H6.out.cell 4 rfl
    have d5 := H6.out.cell 5 rfl
    have d6 := H6.out.cell 6 rfl
    have d7 := H6.out.cell 7 rfl
    have d8 := H6.out.cell 8 rfl
    have f0 := H6.out.frozen 0
    have f1 := H6.out.frozen 1
    have f2 := H6.out.frozen 2
    have f3 := H6.out.frozen 3
    have f4 := H6.out.frozen 4
    have f5 := H6.out.frozen 5
    have f6 := H6.out.frozen 6
    have f7 := H6.out.frozen 7
    have f8 := H6.out.frozen 8
    go_wp2
    refine bodyPost_ret (fhist_res rfl _ _ (w.heap.size + 1) _ _ _ _ _ _ _ _ _ rfl (set9_nineF H6.out (.int .i64 0) (.int .u64 0) (.int .u64 0) (.int .u64 0) (.int .u64 0) (.slice none 0 0) (.slice none 0 0) (.slice none 0 0) (.slice none 0 0))) rfl ?_
    exact ⟨_, by rw [HC.out.1]; rfl, by rw [HC.out.2]; exact fzero_own _ _, set9_fr HF1.out (.inr (by simp)) (.int .i64 0) (.int .u64 0) (.int .u64 0) (.int .u64 0) (.int .u64 0) (.slice none 0 0) (.slice none 0 0) (.slice none 0 0) (.slice none 0 0)⟩
/-- Do both count the same? -/
def feq (a b : Fs) : Bool := decide (fce a = 0 ∧ fce b = 0 ∧ a.s = b.s ∧ a.z = b.z ∧ a.zc = b.zc ∧ a.c = b.c ∧ a.sm = b.sm ∧ wio (fdp a) 0 = wio (fdp b) 0 ∧ wio (fdn a) 0 = wio (fdn b) 0)

end Go.Proofs.Ytoaibabkkphlaaa
