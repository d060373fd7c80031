/-
  Package hist: Make.
-/
import Derived.Test.YtjkiiccdcjcfbaaHMake
import Derived.Test.YtjkiiccdcjcfbaaArgsS
import Derived.Deep.DeepCutAuto
namespace Go.Proofs.Ytjkiiccdcjcfbaa
open Go.RowKit Mem Spans
set_option linter.unusedSimpArgs false
set_option linter.unusedVariables false
set_option maxRecDepth 100000

/-- A histogram's block, written anew. -/
abbrev set9 (w : World) (g : Nat) (u0 u1 u2 u3 u4 u5 u6 u7 u8 : Value) : World :=
  ((((((((w.setCell ⟨g, 0, none⟩ u0).setCell ⟨g, 1, none⟩ u1).setCell ⟨g, 2, none⟩ u2).setCell ⟨g, 3, none⟩ u3).setCell ⟨g, 4, none⟩ u4).setCell ⟨g, 5, none⟩ u5).setCell ⟨g, 6, none⟩ u6).setCell ⟨g, 7, none⟩ u7).setCell ⟨g, 8, none⟩ u8
theorem set9_fr {S : List Nat} {a b : World} {g : Nat} (h : Fr S a b) (hg : g ∈ S ∨ a.heap.size ≤ g) (u0 u1 u2 u3 u4 u5 u6 u7 u8 : Value) : Fr S a (set9 b g u0 u1 u2 u3 u4 u5 u6 u7 u8) :=
  ((((((((h.setCell _ _ hg).setCell _ _ hg).setCell _ _ hg).setCell _ _ hg).setCell _ _ hg).setCell _ _ hg).setCell _ _ hg).setCell _ _ hg).setCell _ _ hg
theorem set9_nine {w : World} {g : Nat} {a0 a1 a2 a3 a4 a5 a6 a7 a8 : Value} (h : Nine w g #[a0, a1, a2, a3, a4, a5, a6, a7, a8]) (u0 u1 u2 u3 u4 u5 u6 u7 u8 : Value) : Nine (set9 w g u0 u1 u2 u3 u4 u5 u6 u7 u8) g #[u0, u1, u2, u3, u4, u5, u6, u7, u8] := by
  unfold Nine at h ⊢
  simp [set9, World.setCell, Array.getElem?_modify, h]
theorem Nine.set57 {w : World} {g : Nat} {a0 a1 a2 a3 a4 a5 a6 a7 a8 : Value} (h : Nine w g #[a0, a1, a2, a3, a4, a5, a6, a7, a8]) (u x : Value) : Nine ((w.setCell ⟨g, 5, none⟩ u).setCell ⟨g, 7, none⟩ x) g #[a0, a1, a2, a3, a4, u, a6, x, a8] := by
  unfold Nine at h ⊢
  simp [World.setCell, Array.getElem?_modify, h]
theorem Nine.set68 {w : World} {g : Nat} {a0 a1 a2 a3 a4 a5 a6 a7 a8 : Value} (h : Nine w g #[a0, a1, a2, a3, a4, a5, a6, a7, a8]) (u x : Value) : Nine ((w.setCell ⟨g, 6, none⟩ u).setCell ⟨g, 8, none⟩ x) g #[a0, a1, a2, a3, a4, a5, u, a7, x] := by
  unfold Nine at h ⊢
  simp [World.setCell, Array.getElem?_modify, h]
theorem Nine.other {w : World} {b : Nat} {cs : Array Value} (h : Nine w b cs) {g i : Nat} {v : Value} (hn : b ≠ g) : Nine (w.setCell ⟨g, i, none⟩ v) b cs := by
  unfold Nine at h ⊢
  simp [World.setCell, Array.getElem?_modify, h, Ne.symm hn]
theorem Nine.frozen {w : World} {b : Nat} {cs : Array Value} (h : Nine w b cs) (i : Nat) : w.frozen? ⟨b, i, none⟩ = false := frozen_at h i
theorem nine_mid (w : World) (cs : Array Value) (o : Obj) : Nine ((w.alloc (.cells cs 26)).alloc o) w.heap.size cs := (Nine.new w cs).kept ((Fr.refl [] _).alloc _) (by simp)
theorem nine_top (w : World) (o : Obj) (cs : Array Value) : Nine ((w.alloc o).alloc (.cells cs 26)) (w.heap.size + 1) cs := by
  have := Nine.new (w.alloc o) cs
  rwa [World.size_alloc] at this

theorem SOwn.keptS {e : TypeId} {B : Nat} {w w' : World} {v : Value} {l : List Sp} {S : List Nat} (h : SOwn e B w v l) (f : Fr S w w') (hs : ∀ y ∈ S, y < B) : SOwn e B w' v l := by
  rcases h with h | ⟨g, h1, h2, h3⟩
  · exact .inl h
  · exact .inr ⟨g, h1, h2, h3.kept f (fun hg => by have := hs g hg; omega)⟩
theorem NOwn.keptS {e : TypeId} {B : Nat} {w w' : World} {v : Value} {l : List Int} {S : List Nat} (h : NOwn e B w v l) (f : Fr S w w') (hs : ∀ y ∈ S, y < B) : NOwn e B w' v l := by
  rcases h with h | ⟨g, h1, h2, h3⟩
  · exact .inl h
  · exact .inr ⟨g, h1, h2, h3.kept f (fun hg => by have := hs g hg; omega)⟩

theorem HOwn.keptS {B : Nat} {w w' : World} {v : Value} {h : Hs} {S : List Nat} (k : HOwn B w v h) (f : Fr S w w') (hs : ∀ y ∈ S, y < B) : HOwn B w' v h := by
  obtain ⟨a, b, c, d, h1, h2, h3, h4, h5, h6, h7⟩ := k
  exact ⟨a, b, c, d, h1, h2, h3, h4.keptS f hs, h5.keptS f hs, h6.keptS f hs, h7.keptS f hs⟩

set_option maxHeartbeats 4000000 in
theorem make_any (v vp vn : Value) (h : Hs) (p n : List Sp) (w : World) (hh : HSrc w v h) (hp : SSrc w vp p) (hn : SSrc w vn n) (hlp : p.length ≤ 1000000) (hln : n.length ≤ 1000000) :
    Calls Try.prog 23 #[v, vp, vn] w fun e w' => ∃ u, e = .returned (.tuple #[u, .int .i64 (mke h p n)]) ∧ HOwn w.heap.size w' u (mkh h p n) ∧ Fr [] w w' := by
  have HP : Hid (SSrc w vp p) := hp
  have HN : Hid (SSrc w vn n) := hn
  have HL : Hid (p.length ≤ 1000000 ∧ n.length ≤ 1000000) := ⟨hlp, hln⟩
  obtain ⟨po, pc, no, nc, qo, qc, ro, rc, rfl, hin, _⟩ := hh.opens
  have HIN : Hid (in64 h.s ∧ inu h.z ∧ inu h.zc ∧ inu h.c ∧ inu h.sm) := hin
  clear hh hin
  obtain ⟨ao, ac, rfl, _⟩ := hp
  obtain ⟨bo, bc, rfl, _⟩ := hn
  clear hlp hln
  go_enter Try.func23, Try.ntmps23
  obtain ⟨cs, hcs⟩ : ∃ cs : Array Value, cs = #[.int .i64 h.s, .int .u64 h.z, .int .u64 h.zc, .int .u64 h.c, .int .u64 h.sm, .slice po h.P.length pc, .slice no h.N.length nc, .slice qo h.pd.length qc, .slice ro h.nd.length rc] := ⟨_, rfl⟩
  have HA : Hid (∀ z, Nine ((w.alloc (.cells cs 26)).alloc (.cells z 26)) w.heap.size cs ∧ Nine ((w.alloc (.cells cs 26)).alloc (.cells z 26)) (w.heap.size + 1) z ∧ Fr [] w ((w.alloc (.cells cs 26)).alloc (.cells z 26))) := fun z => ⟨nine_mid _ _ _, nine_top _ _ _, ((Fr.refl [] w).alloc _).alloc _⟩
  subst hcs
  go_wp2_with fail
  obtain ⟨hA3, hA6, hAF⟩ := HA.out #[.int .i64 0, .int .u64 0, .int .u64 0, .int .u64 0, .int .u64 0, .slice none 0 0, .slice none 0 0, .slice none 0 0, .slice none 0 0]
  clear HA
  generalize (w.alloc (.cells _ _)).alloc (.cells _ _) = wA at hA3 hA6 hAF ⊢
  have HSZ : Hid (w.heap.size + 1 < wA.heap.size) := hA6.lt
  refine (apart_any _ p wA (HP.out.kept hAF) HL.out.1).mono ?_
  rintro e w1 ⟨u, x, rfl, hu, hx, hf1⟩
  have HU : Hid (SOwn 79 wA.heap.size w1 u (aps p)) := hu
  have HX : Hid (NOwn 2 wA.heap.size w1 x (apd p)) := hx
  obtain ⟨ua, uc, rfl⟩ := HU.out.val
  obtain ⟨xa, xc, rfl⟩ := HX.out.val
  have HF1 : Hid (Fr [] w w1) := hAF.trans hf1 (by simp)
  have HS1 : Hid (wA.heap.size ≤ w1.heap.size) := hf1.size
  have h3 := hA3.kept hf1 (by simp)
  have h6 := hA6.kept hf1 (by simp)
  clear hu hx hf1 hA3 hA6 hAF
  have c5 := h3.cell 5 rfl
  have c7 := h3.cell 7 rfl
  have f5 := h3.frozen 5
  have f7 := h3.frozen 7
  have H3 : Hid (Nine ((w1.setCell ⟨w.heap.size, 5, none⟩ (.slice ua (aps p).length uc)).setCell ⟨w.heap.size, 7, none⟩ (.slice xa (apd p).length xc)) w.heap.size _) := h3.set57 (.slice ua (aps p).length uc) (.slice xa (apd p).length xc)
  have H6 : Hid (Nine ((w1.setCell ⟨w.heap.size, 5, none⟩ (.slice ua (aps p).length uc)).setCell ⟨w.heap.size, 7, none⟩ (.slice xa (apd p).length xc)) (w.heap.size + 1) _) := (h6.other (i := 5) (v := (.slice ua (aps p).length uc)) (by omega)).other (i := 7) (v := (.slice xa (apd p).length xc)) (by omega)
  have HFS : Hid (Fr [w.heap.size] w1 ((w1.setCell ⟨w.heap.size, 5, none⟩ (.slice ua (aps p).length uc)).setCell ⟨w.heap.size, 7, none⟩ (.slice xa (apd p).length xc))) := ((Fr.refl _ _).setCell _ _ (.inl (by simp))).setCell _ _ (.inl (by simp))
  clear h3 h6
  go_upto_region 3 with fail
  clear c5 c7 f5 f7
  generalize (w1.setCell ⟨w.heap.size, 5, none⟩ (.slice ua (aps p).length uc)).setCell ⟨w.heap.size, 7, none⟩ (.slice xa (apd p).length xc) = wB at H3 H6 HFS ⊢
  have HUB : Hid (SOwn 79 wA.heap.size wB (.slice ua (aps p).length uc) (aps p)) := HU.out.keptS HFS.out (by have := HSZ.out; simp; omega)
  have HXB : Hid (NOwn 2 wA.heap.size wB (.slice xa (apd p).length xc) (apd p)) := HX.out.keptS HFS.out (by have := HSZ.out; simp; omega)
  have HFB : Hid (Fr [] w wB) := HF1.out.trans HFS.out (by simp)
  have HSB : Hid (wA.heap.size ≤ wB.heap.size) := Nat.le_trans HS1.out HFS.out.size
  clear HU HX HF1 HFS HS1
  by_cases h0 : ape p = 0
  · have HA : Hid (ape p = 0) := h0
    rw [h0]
    clear h0
    go_wp2_with fail
    refine (apart_any _ n wB (HN.out.kept HFB.out) HL.out.2).mono ?_
    rintro e w2 ⟨u2, x2, rfl, hu, hx, hf2⟩
    have HU : Hid (SOwn 79 wA.heap.size w2 u2 (aps n)) := hu.mono HSB.out
    have HX : Hid (NOwn 2 wA.heap.size w2 x2 (apd n)) := hx.mono HSB.out
    obtain ⟨ua2, uc2, rfl⟩ := HU.out.val
    obtain ⟨xa2, xc2, rfl⟩ := HX.out.val
    have HF2 : Hid (Fr [] w w2) := HFB.out.trans hf2 (by simp)
    have HU1 : Hid (SOwn 79 wA.heap.size w2 (.slice ua (aps p).length uc) (aps p)) := HUB.out.kept hf2
    have HX1 : Hid (NOwn 2 wA.heap.size w2 (.slice xa (apd p).length xc) (apd p)) := HXB.out.kept hf2
    have HS2 : Hid (wA.heap.size ≤ w2.heap.size) := Nat.le_trans HSB.out hf2.size
    have h3 := H3.out.kept hf2 (by simp)
    have h6 := H6.out.kept hf2 (by simp)
    clear hu hx hf2 H3 H6 HUB HXB HFB HSB
    have c6 := h3.cell 6 rfl
    have c8 := h3.cell 8 rfl
    have f6 := h3.frozen 6
    have f8 := h3.frozen 8
    have H3 : Hid (Nine ((w2.setCell ⟨w.heap.size, 6, none⟩ (.slice ua2 (aps n).length uc2)).setCell ⟨w.heap.size, 8, none⟩ (.slice xa2 (apd n).length xc2)) w.heap.size _) := h3.set68 (.slice ua2 (aps n).length uc2) (.slice xa2 (apd n).length xc2)
    have H6 : Hid (Nine ((w2.setCell ⟨w.heap.size, 6, none⟩ (.slice ua2 (aps n).length uc2)).setCell ⟨w.heap.size, 8, none⟩ (.slice xa2 (apd n).length xc2)) (w.heap.size + 1) _) := (h6.other (i := 6) (v := (.slice ua2 (aps n).length uc2)) (by omega)).other (i := 8) (v := (.slice xa2 (apd n).length xc2)) (by omega)
    have HFS : Hid (Fr [w.heap.size] w2 ((w2.setCell ⟨w.heap.size, 6, none⟩ (.slice ua2 (aps n).length uc2)).setCell ⟨w.heap.size, 8, none⟩ (.slice xa2 (apd n).length xc2))) := ((Fr.refl _ _).setCell _ _ (.inl (by simp))).setCell _ _ (.inl (by simp))
    clear h3 h6
    go_upto_region 6 with fail
    clear c6 c8 f6 f8
    generalize (w2.setCell ⟨w.heap.size, 6, none⟩ (.slice ua2 (aps n).length uc2)).setCell ⟨w.heap.size, 8, none⟩ (.slice xa2 (apd n).length xc2) = wC at H3 H6 HFS ⊢
    have hb : ∀ y ∈ [w.heap.size], y < wA.heap.size := by have := HSZ.out; simp; omega
    have HU2 : Hid (SOwn 79 wA.heap.size wC (.slice ua2 (aps n).length uc2) (aps n)) := HU.out.keptS HFS.out hb
    have HX2 : Hid (NOwn 2 wA.heap.size wC (.slice xa2 (apd n).length xc2) (apd n)) := HX.out.keptS HFS.out hb
    have HU3 : Hid (SOwn 79 wA.heap.size wC (.slice ua (aps p).length uc) (aps p)) := HU1.out.keptS HFS.out hb
    have HX3 : Hid (NOwn 2 wA.heap.size wC (.slice xa (apd p).length xc) (apd p)) := HX1.out.keptS HFS.out hb
    have HFC : Hid (Fr [] w wC) := HF2.out.trans HFS.out (by simp)
    have HSC : Hid (wA.heap.size ≤ wC.heap.size) := Nat.le_trans HS2.out HFS.out.size
    clear HU HX HU1 HX1 HF2 HFS HS2 hb
    by_cases h0 : ape n = 0
    · have HA2 : Hid (ape n = 0) := h0
      rw [h0]
      clear h0
      have HM : Hid (HOwn wA.heap.size wC (.agg #[.int .i64 h.s, .int .u64 h.z, .int .u64 h.zc, .int .u64 h.c, .int .u64 h.sm, .slice ua (aps p).length uc, .slice ua2 (aps n).length uc2, .slice xa (apd p).length xc, .slice xa2 (apd n).length xc2]) (mks h p n)) := ⟨_, _, _, _, rfl, HIN.out.1, HIN.out.2, HU3.out, HU2.out, HX3.out, HX2.out⟩
      clear HU3 HU2 HX3 HX2
      have c0 := H3.out.cell 0 rfl
      have c1 := H3.out.cell 1 rfl
      have c2 := H3.out.cell 2 rfl
      have c3 := H3.out.cell 3 rfl
      have c4 := H3.out.cell 4 rfl
      have c5 := H3.out.cell 5 rfl
      have c6 := H3.out.cell 6 rfl
      have c7 := H3.out.cell 7 rfl
      have c8 := H3.out.cell 8 rfl
      go_wp2_with fail
      refine (hcheck_any _ (mks h p n) wC (HM.out.src (mks_in h p n))).mono ?_
      rintro e w3 ⟨rfl, hf3⟩
      have HF3 : Hid (Fr [] w w3) := HFC.out.trans hf3 (by simp)
      have HM3 : Hid (HOwn wA.heap.size w3 _ (mks h p n)) := HM.out.kept hf3
      have h3 := H3.out.kept hf3 (by simp)
      have h6 := H6.out.kept hf3 (by simp)
      have HS3 : Hid (wA.heap.size ≤ w3.heap.size) := Nat.le_trans HSC.out hf3.size
      clear c0 c1 c2 c3 c4 c5 c6 c7 c8 hf3 H3 H6 HM HFC HSC
      by_cases h0 : che (mks h p n) = 0
      · have HE : Hid (mke h p n = 0 ∧ mkh h p n = mks h p n) := by
          have e : mke h p n = 0 := by unfold mke; rw [if_pos HA.out, if_pos HA2.out]; exact h0
          unfold Hid mkh; rw [if_pos e]; exact ⟨e, rfl⟩
        rw [h0]
        clear h0
        have c0 := h3.cell 0 rfl
        have c1 := h3.cell 1 rfl
        have c2 := h3.cell 2 rfl
        have c3 := h3.cell 3 rfl
        have c4 := h3.cell 4 rfl
        have c5 := h3.cell 5 rfl
        have c6 := h3.cell 6 rfl
        have c7 := h3.cell 7 rfl
        have c8 := h3.cell 8 rfl
        have d0 := h6.cell 0 rfl
        have d1 := h6.cell 1 rfl
        have d2 := h6.cell 2 rfl
        have d3 := h6.cell 3 rfl
        have d4 := h6.cell 4 rfl
        have d5 := h6.cell 5 rfl
        have d6 := h6.cell 6 rfl
        have d7 := h6.cell 7 rfl
        have d8 := h6.cell 8 rfl
        have f0 := h6.frozen 0
        have f1 := h6.frozen 1
        have f2 := h6.frozen 2
        have f3 := h6.frozen 3
        have f4 := h6.frozen 4
        have f5 := h6.frozen 5
        have f6 := h6.frozen 6
        have f7 := h6.frozen 7
        have f8 := h6.frozen 8
        have H6 : Hid (Nine w3 (w.heap.size + 1) _) := h6
        clear h3 h6
        go_wp2
        refine bodyPost_ret (hist_res rfl _ _ (w.heap.size + 1) _ _ _ _ _ _ _ _ _ rfl (set9_nine H6.out _ _ _ _ _ _ _ _ _)) rfl ?_
        refine ⟨_, by rw [HE.out.1]; rfl, ?_, set9_fr HF3.out (.inr (by simp)) _ _ _ _ _ _ _ _ _⟩
        rw [HE.out.2]
        have hs9 := set9_fr (S := [w.heap.size + 1]) (g := w.heap.size + 1) (Fr.refl _ w3) (.inl (by simp)) (.int .i64 h.s) (.int .u64 h.z) (.int .u64 h.zc) (.int .u64 h.c) (.int .u64 h.sm) (.slice ua (aps p).length uc) (.slice ua2 (aps n).length uc2) (.slice xa (apd p).length xc) (.slice xa2 (apd n).length xc2)
        exact (HM3.out.keptS hs9 (by have := HSZ.out; simp; omega)).mono (by have := HSZ.out; omega)
      · have HE : Hid (mke h p n = che (mks h p n) ∧ mkh h p n = hzero) := by
          have e : mke h p n = che (mks h p n) := by unfold mke; rw [if_pos HA.out, if_pos HA2.out]
          unfold Hid mkh; rw [if_neg (by rw [e]; exact h0)]; exact ⟨e, rfl⟩
        have H6 : Hid (Nine w3 (w.heap.size + 1) _) := h6
        clear h3 h6
        have d0 := H6.out.cell 0 rfl
        have d1 := H6.out.cell 1 rfl
        have d2 := H6.out.cell 2 rfl
        have d3 := H6.out.cell 3 rfl
        have d4 := H6.out.cell 4 rfl
        have d5 := H6.out.cell 5 rfl
        have d6 := H6.out.cell 6 rfl
        have d7 := H6.out.cell 7 rfl
        have d8 := H6.out.cell 8 rfl
        have f0 := H6.out.frozen 0
        have f1 := H6.out.frozen 1
        have f2 := H6.out.frozen 2
        have f3 := H6.out.frozen 3
        have f4 := H6.out.frozen 4
        have f5 := H6.out.frozen 5
        have f6 := H6.out.frozen 6
        have f7 := H6.out.frozen 7
        have f8 := H6.out.frozen 8
        go_wp2
        refine bodyPost_ret (hist_res rfl _ _ (w.heap.size + 1) _ _ _ _ _ _ _ _ _ rfl (set9_nine H6.out (.int .i64 0) (.int .u64 0) (.int .u64 0) (.int .u64 0) (.int .u64 0) (.slice none 0 0) (.slice none 0 0) (.slice none 0 0) (.slice none 0 0))) rfl ?_
        exact ⟨_, by rw [HE.out.1]; rfl, by rw [HE.out.2]; exact hzero_own _ _, set9_fr HF3.out (.inr (by simp)) (.int .i64 0) (.int .u64 0) (.int .u64 0) (.int .u64 0) (.int .u64 0) (.slice none 0 0) (.slice none 0 0) (.slice none 0 0) (.slice none 0 0)⟩
    · have HE : Hid (mke h p n = ape n ∧ mkh h p n = hzero) := by
        have e : mke h p n = ape n := by unfold mke; rw [if_pos HA.out, if_neg h0]
        unfold Hid mkh; rw [if_neg (by rw [e]; exact h0)]; exact ⟨e, rfl⟩
      have d0 := H6.out.cell 0 rfl
      have d1 := H6.out.cell 1 rfl
      have d2 := H6.out.cell 2 rfl
      have d3 := H6.out.cell 3 rfl
      have d4 := H6.out.cell 4 rfl
      have d5 := H6.out.cell 5 rfl
      have d6 := H6.out.cell 6 rfl
      have d7 := H6.out.cell 7 rfl
      have d8 := H6.out.cell 8 rfl
      have f0 := H6.out.frozen 0
      have f1 := H6.out.frozen 1
      have f2 := H6.out.frozen 2
      have f3 := H6.out.frozen 3
      have f4 := H6.out.frozen 4
      have f5 := H6.out.frozen 5
      have f6 := H6.out.frozen 6
      have f7 := H6.out.frozen 7
      have f8 := H6.out.frozen 8
      go_wp2
      refine bodyPost_ret (hist_res rfl _ _ (w.heap.size + 1) _ _ _ _ _ _ _ _ _ rfl (set9_nine H6.out (.int .i64 0) (.int .u64 0) (.int .u64 0) (.int .u64 0) (.int .u64 0) (.slice none 0 0) (.slice none 0 0) (.slice none 0 0) (.slice none 0 0))) rfl ?_
      exact ⟨_, by rw [HE.out.1]; rfl, by rw [HE.out.2]; exact hzero_own _ _, set9_fr HFC.out (.inr (by simp)) (.int .i64 0) (.int .u64 0) (.int .u64 0) (.int .u64 0) (.int .u64 0) (.slice none 0 0) (.slice none 0 0) (.slice none 0 0) (.slice none 0 0)⟩
  · have HE : Hid (mke h p n = ape p ∧ mkh h p n = hzero) := by
      have e : mke h p n = ape p := by unfold mke; rw [if_neg h0]
      unfold Hid mkh; rw [if_neg (by rw [e]; exact h0)]; exact ⟨e, rfl⟩
    have d0 := H6.out.cell 0 rfl
    have d1 := H6.out.cell 1 rfl
    have d2 := H6.out.cell 2 rfl
    have d3 := H6.out.cell 3 rfl
    have d4 := H6.out.cell 4 rfl
    have d5 := H6.out.cell 5 rfl
    have d6 := H6.out.cell 6 rfl
    have d7 := H6.out.cell 7 rfl
    have d8 := H6.out.cell 8 rfl
    have f0 := H6.out.frozen 0
    have f1 := H6.out.frozen 1
    have f2 := H6.out.frozen 2
    have f3 := H6.out.frozen 3
    have f4 := H6.out.frozen 4
    have f5 := H6.out.frozen 5
    have f6 := H6.out.frozen 6
    have f7 := H6.out.frozen 7
    have f8 := H6.out.frozen 8
    go_wp2
    refine bodyPost_ret (hist_res rfl _ _ (w.heap.size + 1) _ _ _ _ _ _ _ _ _ rfl (set9_nine H6.out (.int .i64 0) (.int .u64 0) (.int .u64 0) (.int .u64 0) (.int .u64 0) (.slice none 0 0) (.slice none 0 0) (.slice none 0 0) (.slice none 0 0))) rfl ?_
    exact ⟨_, by rw [HE.out.1]; rfl, by rw [HE.out.2]; exact hzero_own _ _, set9_fr HFB.out (.inr (by simp)) (.int .i64 0) (.int .u64 0) (.int .u64 0) (.int .u64 0) (.int .u64 0) (.slice none 0 0) (.slice none 0 0) (.slice none 0 0) (.slice none 0 0)⟩
end Go.Proofs.Ytjkiiccdcjcfbaa
