/-
  Histograms whose counts are floats: what is right, reckoned; how they lie in memory. Package fhist: Right, allRight, checkSide, Check.
-/
import Derived.Test.YtoaibabkkphlaaaUMem
import Derived.Test.YtoaibabkkphlaaaHMem
import Derived.Test.YtoaibabkkphlaaaHMade
import Derived.Laws.ResultCell
namespace Go.Proofs.Ytoaibabkkphlaaa
open Go.RowKit Mem Spans
set_option linter.unusedSimpArgs false
set_option linter.unusedVariables false
set_option maxRecDepth 100000

/-- A histogram: its five numbers, both sides' spans and counts. -/
structure Fs where
  s : Int
  z : Int
  zc : Int
  c : Int
  sm : Int
  P : List Sp
  N : List Sp
  pd : List Int
  nd : List Int
/-- A histogram as a value. -/
def FSrc (w : World) (v : Value) (h : Fs) : Prop :=
  ∃ vp vn up un, v = .agg #[.int .i64 h.s, .int .u64 h.z, .int .u64 h.zc, .int .u64 h.c, .int .u64 h.sm, vp, vn, up, un] ∧ in64 h.s ∧ (inu h.z ∧ inu h.zc ∧ inu h.c ∧ inu h.sm) ∧
    SSrc w vp h.P ∧ SSrc w vn h.N ∧ USrc w up h.pd ∧ USrc w un h.nd
theorem FSrc.kept {w w' : World} {v : Value} {h : Fs} (k : FSrc w v h) (f : Fr [] w w') : FSrc w' v h := by
  obtain ⟨a, b, c, d, h1, h2, h3, h4, h5, h6, h7⟩ := k
  exact ⟨a, b, c, d, h1, h2, h3, h4.kept f, h5.kept f, h6.kept f, h7.kept f⟩

theorem FSrc.opens {w : World} {v : Value} {h : Fs} (k : FSrc w v h) : ∃ po pc no nc qo qc ro rc, v = .agg #[.int .i64 h.s, .int .u64 h.z, .int .u64 h.zc, .int .u64 h.c, .int .u64 h.sm, .slice po h.P.length pc, .slice no h.N.length nc, .slice qo h.pd.length qc, .slice ro h.nd.length rc] ∧
    (in64 h.s ∧ inu h.z ∧ inu h.zc ∧ inu h.c ∧ inu h.sm) ∧ (SSrc w (.slice po h.P.length pc) h.P ∧ SSrc w (.slice no h.N.length nc) h.N ∧ USrc w (.slice qo h.pd.length qc) h.pd ∧ USrc w (.slice ro h.nd.length rc) h.nd) ∧ (h.P.length ≤ pc ∧ pc ≤ maxLen) ∧ (h.N.length ≤ nc ∧ nc ≤ maxLen) ∧ (h.pd.length ≤ qc ∧ qc ≤ maxLen) ∧ (h.nd.length ≤ rc ∧ rc ≤ maxLen) := by
  obtain ⟨a, b, c, d, rfl, h2, h3, h4, h5, h6, h7⟩ := k
  have k4 := h4
  have k5 := h5
  have k6 := h6
  have k7 := h7
  obtain ⟨po, pc, rfl, x1, y1, _⟩ := h4
  obtain ⟨no, nc, rfl, x2, y2, _⟩ := h5
  obtain ⟨qo, qc, rfl, x3, y3, _⟩ := h6
  obtain ⟨ro, rc, rfl, x4, y4, _⟩ := h7
  exact ⟨po, pc, no, nc, qo, qc, ro, rc, rfl, ⟨h2, h3⟩, ⟨k4, k5, k6, k7⟩, ⟨x1, y1⟩, ⟨x2, y2⟩, ⟨x3, y3⟩, ⟨x4, y4⟩⟩
/-- Is a count right? Are all? -/
def rgt (v : Int) : Bool := decide (v < 9218868437227405312)
def rgts (l : List Int) : Bool := l.all rgt
/-- A side's error; its places with their counts. -/
def fsd (l : List Sp) (d : List Int) : Int :=
  if chk l = 0 then (if d.length = (pls l).length then (if rgts d = true then 0 else 22) else 23) else chk l
def fsl (l : List Sp) (d : List Int) : List Sp := if fsd l d = 0 then (pls l).zip d else []
/-- Schema, threshold and the two counts that stand alone. -/
def fde (s z zc c : Int) : Int := if hde s z = 0 then (if rgts [zc, c] = true then 0 else 22) else hde s z
/-- Check's error. -/
def fce (h : Fs) : Int :=
  if fde h.s h.z h.zc h.c = 0 then (if fsd h.P h.pd = 0 then fsd h.N h.nd else fsd h.P h.pd) else fde h.s h.z h.zc h.c
def fdp (h : Fs) : List Sp := if fce h = 0 then fsl h.P h.pd else []
def fdn (h : Fs) : List Sp := if fce h = 0 then fsl h.N h.nd else []

theorem fsd_zero {l : List Sp} {d : List Int} : fsd l d = 0 ↔ chk l = 0 ∧ d.length = (pls l).length ∧ rgts d = true := by
  unfold fsd
  constructor
  · intro h
    split at h
    · rename_i h1
      split at h
      · rename_i h2
        split at h
        · rename_i h3; exact ⟨h1, h2, h3⟩
        · cases h
      · cases h
    · rename_i h1; exact absurd h h1
  · rintro ⟨h1, h2, h3⟩
    rw [if_pos h1, if_pos h2, if_pos h3]
theorem fsl_zip {l : List Sp} {d : List Int} (h : fsd l d = 0) : fsl l d = (pls l).zip d ∧ fsts (fsl l d) = pls l ∧ snds (fsl l d) = d := by
  have hz := fsd_zero.1 h
  have e : fsl l d = (pls l).zip d := by unfold fsl; rw [if_pos h]
  refine ⟨e, ?_, ?_⟩
  · rw [e]; unfold fsts; exact List.map_fst_zip (by omega)
  · rw [e]; unfold snds; exact List.map_snd_zip (by omega)
theorem fsl_in (l : List Sp) (d : List Int) (hd : ∀ z ∈ d, inu z) : ∀ x ∈ fsl l d, in64 x.1 ∧ inu x.2 := by
  intro x hx
  by_cases h : fsd l d = 0
  · obtain ⟨h1, h2, h3⟩ := fsl_zip h
    refine ⟨pls_in64 (l := l) x.1 (by rw [← h2]; exact List.mem_map.2 ⟨x, hx, rfl⟩), hd x.2 (by rw [← h3]; exact List.mem_map.2 ⟨x, hx, rfl⟩)⟩
  · unfold fsl at hx; rw [if_neg h] at hx; simp at hx
theorem fsl_le (l : List Sp) (d : List Int) : (fsl l d).length ≤ 4096 := by
  by_cases h : fsd l d = 0
  · have h2 := congrArg List.length (fsl_zip h).2.1
    rw [fsts_length] at h2
    rw [h2]; exact pls_le l
  · unfold fsl; rw [if_neg h]; simp
theorem fce_zero {h : Fs} : fce h = 0 ↔ fde h.s h.z h.zc h.c = 0 ∧ fsd h.P h.pd = 0 ∧ fsd h.N h.nd = 0 := by
  unfold fce
  constructor
  · intro k
    split at k
    · rename_i h1
      split at k
      · rename_i h2; exact ⟨h1, h2, k⟩
      · rename_i h2; exact absurd k h2
    · rename_i h1; exact absurd k h1
  · rintro ⟨h1, h2, h3⟩
    rw [if_pos h1, if_pos h2]; exact h3
/-- All that a histogram has fits. -/
def fin9 (h : Fs) : Prop := (∀ s ∈ h.P, in64 s.1 ∧ in64 s.2) ∧ (∀ s ∈ h.N, in64 s.1 ∧ in64 s.2) ∧ (∀ z ∈ h.pd, inu z) ∧ (∀ z ∈ h.nd, inu z)
theorem FSrc.fin {w : World} {v : Value} {h : Fs} (k : FSrc w v h) : fin9 h := by
  obtain ⟨_, _, _, _, _, _, _, h4, h5, h6, h7⟩ := k
  obtain ⟨_, _, _, _, _, a, _⟩ := h4
  obtain ⟨_, _, _, _, _, b, _⟩ := h5
  obtain ⟨_, _, _, _, _, c, _⟩ := h6
  obtain ⟨_, _, _, _, _, d, _⟩ := h7
  exact ⟨a, b, c, d⟩
theorem fdp_in (h : Fs) (k : fin9 h) : ∀ x ∈ fdp h, in64 x.1 ∧ inu x.2 := by
  intro x hx; unfold fdp at hx; split at hx
  · exact fsl_in _ _ k.2.2.1 x hx
  · simp at hx
theorem fdn_in (h : Fs) (k : fin9 h) : ∀ x ∈ fdn h, in64 x.1 ∧ inu x.2 := by
  intro x hx; unfold fdn at hx; split at hx
  · exact fsl_in _ _ k.2.2.2 x hx
  · simp at hx
theorem fdp_le (h : Fs) : (fdp h).length ≤ 4096 := by unfold fdp; split; exact fsl_le _ _; simp
theorem fdn_le (h : Fs) : (fdn h).length ≤ 4096 := by unfold fdn; split; exact fsl_le _ _; simp
theorem fd_nil {h : Fs} (k : fce h ≠ 0) : fdp h = [] ∧ fdn h = [] := by unfold fdp fdn; rw [if_neg k, if_neg k]; exact ⟨rfl, rfl⟩
theorem zpl_fsl {l : List Sp} {d : List Int} (h : fsd l d = 0) : zpe l d = 0 ∧ zpl l d = fsl l d := by
  have hz := fsd_zero.1 h
  have e : zpe l d = 0 := by unfold zpe; rw [if_pos hz.1, if_pos hz.2.1]
  refine ⟨e, ?_⟩
  unfold zpl fsl
  rw [if_pos e, if_pos h]

/-- A histogram's block. -/
def NineF (w : World) (b : Nat) (cs : Array Value) : Prop := w.heap[b]? = some (.cells cs 26 (0, 0))
theorem NineF.kept {w w' : World} {b : Nat} {cs : Array Value} {S : List Nat} (h : NineF w b cs) (f : Fr S w w') (hb : b ∉ S) : NineF w' b cs := f.heap h hb
theorem NineF.new (w : World) (cs : Array Value) : NineF (w.alloc (.cells cs 26)) w.heap.size cs := heap_alloc_new _ _
theorem NineF.cell {w : World} {b : Nat} {cs : Array Value} (h : NineF w b cs) (i : Nat) {v : Value} (hv : cs[i]? = some v) : w.cell? ⟨b, i, none⟩ = some v := by rw [cell_at h]; exact hv
theorem NineF.lt {w : World} {b : Nat} {cs : Array Value} (h : NineF w b cs) : b < w.heap.size := lt_of_heap h

theorem set9_nineF {w : World} {g : Nat} {a0 a1 a2 a3 a4 a5 a6 a7 a8 : Value} (h : NineF w g #[a0, a1, a2, a3, a4, a5, a6, a7, a8]) (u0 u1 u2 u3 u4 u5 u6 u7 u8 : Value) : NineF (set9 w g u0 u1 u2 u3 u4 u5 u6 u7 u8) g #[u0, u1, u2, u3, u4, u5, u6, u7, u8] := by
  unfold NineF at h ⊢
  simp [set9, World.setCell, Array.getElem?_modify, h]
theorem NineF.set57 {w : World} {g : Nat} {a0 a1 a2 a3 a4 a5 a6 a7 a8 : Value} (h : NineF w g #[a0, a1, a2, a3, a4, a5, a6, a7, a8]) (u x : Value) : NineF ((w.setCell ⟨g, 5, none⟩ u).setCell ⟨g, 7, none⟩ x) g #[a0, a1, a2, a3, a4, u, a6, x, a8] := by
  unfold NineF at h ⊢
  simp [World.setCell, Array.getElem?_modify, h]
theorem NineF.set68 {w : World} {g : Nat} {a0 a1 a2 a3 a4 a5 a6 a7 a8 : Value} (h : NineF w g #[a0, a1, a2, a3, a4, a5, a6, a7, a8]) (u x : Value) : NineF ((w.setCell ⟨g, 6, none⟩ u).setCell ⟨g, 8, none⟩ x) g #[a0, a1, a2, a3, a4, a5, u, a7, x] := by
  unfold NineF at h ⊢
  simp [World.setCell, Array.getElem?_modify, h]
theorem NineF.other {w : World} {b : Nat} {cs : Array Value} (h : NineF w b cs) {g i : Nat} {v : Value} (hn : b ≠ g) : NineF (w.setCell ⟨g, i, none⟩ v) b cs := by
  unfold NineF at h ⊢
  simp [World.setCell, Array.getElem?_modify, h, Ne.symm hn]
theorem NineF.frozen {w : World} {b : Nat} {cs : Array Value} (h : NineF w b cs) (i : Nat) : w.frozen? ⟨b, i, none⟩ = false := frozen_at h i
theorem nineF_mid (w : World) (cs : Array Value) (o : Obj) : NineF ((w.alloc (.cells cs 26)).alloc o) w.heap.size cs := (NineF.new w cs).kept ((Fr.refl [] _).alloc _) (by simp)
theorem nineF_top (w : World) (o : Obj) (cs : Array Value) : NineF ((w.alloc o).alloc (.cells cs 26)) (w.heap.size + 1) cs := by
  have := NineF.new (w.alloc o) cs
  rwa [World.size_alloc] at this

theorem UOwn.keptS {e : TypeId} {B : Nat} {w w' : World} {v : Value} {l : List Int} {S : List Nat} (h : UOwn e B w v l) (f : Fr S w w') (hs : ∀ y ∈ S, y < B) : UOwn e B w' v l := by
  rcases h with h | ⟨g, h1, h2, h3⟩
  · exact .inl h
  · exact .inr ⟨g, h1, h2, h3.kept f (fun hg => by have := hs g hg; omega)⟩

theorem right_any (v : Int) (w : World) :
    Calls Try.prog 17 #[.int .u64 v] w fun e w' => e = .returned (.bool (rgt v)) ∧ w = w' := by
  go_enter Try.func17, Try.ntmps17
  go_wp2
  go_ret
  exact ⟨rfl, rfl⟩

set_option maxHeartbeats 1000000 in
theorem allRight_any (u : Value) (d : List Int) (w : World) (h2 : USrc w u d) :
    Calls Try.prog 50 #[u] w fun e w' => e = .returned (.bool (rgts d)) ∧ w = w' := by
  obtain ⟨ao, cap, rfl, hcap, hmax, _, b, off, ha, hc⟩ := h2
  have HC : Hid (∀ j s, d[j]? = some s → w.cell? ⟨b, off + j, none⟩ = some (.int .u64 s)) := hc
  have HA : Hid (0 < d.length → ao = some ⟨b, off, none⟩) := ha
  clear ha hc
  have hml : d.length ≤ 9223372036854775807 := by unfold maxLen at hmax; omega
  go_enter Try.func50, Try.ntmps50
  go_wp2
  go_loopw [7] (fun i wr => ∃ (k : Nat), k ≤ d.length ∧ i = .int .i64 (k : Int) ∧ rgts (d.take k) = true ∧ wr = w) (fun i _ => d.length - (intOf i).toNat)
  case atStart => exact ⟨0, by omega, rfl, by simp [rgts], rfl⟩
  case round =>
    obtain ⟨k, hk, rfl, hn, rfl⟩ := hrel
    have HN : Hid (rgts (d.take k) = true) := hn
    clear hn
    by_cases hlt : k < d.length
    · obtain rfl := HA.out (by omega)
      obtain ⟨s, hs⟩ := at_lt (l := d) (k := k) hlt
      have c0 := HC.out k s hs
      have HS : Hid (d[k]? = some s) := hs
      clear hs
      go_wp2_with fail
      refine (right_any s _).mono ?_
      rintro e w1 ⟨rfl, rfl⟩
      by_cases h0 : rgt s = true
      · have HN2 : Hid (rgts (d.take (k + 1)) = true) := by
          rw [Hid, take_at HS.out]
          have := HN.out
          simp only [rgts, List.all_append, List.all_cons, List.all_nil, Bool.and_eq_true, Bool.and_true] at this ⊢
          exact ⟨this, h0⟩
        rw [h0]
        go_wp2
        go_roundw
        case rel => exact ⟨k + 1, by omega, by go_num, HN2.out, trivial⟩
        case measure => simp [intOf]; omega
      · have h1 : rgt s = false := by simpa using h0
        have HE : Hid (rgts d = false) := by
          rw [Hid, Bool.eq_false_iff]
          intro h
          have := List.all_eq_true.1 h s (List.mem_of_getElem? HS.out)
          exact h0 this
        rw [h1]
        go_wp2
        go_ret
        exact ⟨by rw [HE.out]; rfl, by trivial⟩
    · have HN2 : Hid (rgts d = true) := by
        have := HN.out
        rw [List.take_of_length_le (by omega)] at this
        exact this
      go_wp2
      go_ret
      exact ⟨by rw [HN2.out]; rfl, by trivial⟩

set_option maxHeartbeats 1000000 in
theorem checkSide_any (v u : Value) (l : List Sp) (d : List Int) (w : World) (h : SSrc w v l) (h2 : USrc w u d) :
    Calls Try.prog 51 #[v, u] w fun e w' => e = .returned (.int .i64 (fsd l d)) ∧ Fr [] w w' := by
  have HSR : Hid (SSrc w v l) := h
  have HIR : Hid (USrc w u d) := h2
  obtain ⟨ao, cap, rfl, hcap, hmax, _⟩ := h
  obtain ⟨bo, bcap, rfl, hbcap, hbmax, _⟩ := h2
  go_enter Try.func51, Try.ntmps51
  go_wp2_with fail
  refine (check_any _ l _ HSR.out).mono ?_
  rintro e w1 ⟨rfl, hf1⟩
  have HF1 : Hid (Fr [] w w1) := hf1
  clear hf1
  by_cases hk : chk l = 0
  · rw [hk]
    go_wp2_with fail
    refine (count_any _ l _ (HSR.out.kept HF1.out)).mono ?_
    rintro e w2 ⟨rfl, hf2⟩
    have HF2 : Hid (Fr [] w w2) := HF1.out.trans hf2 (by simp)
    rw [ctn_pls l hk]
    clear hf2 HF1
    by_cases hd : d.length = (pls l).length
    · have hdl : (d.length : Int) = ((pls l).length : Int) := by omega
      have HE : Hid (fsd l d = if rgts d = true then 0 else 22) := by unfold Hid fsd; rw [if_pos hk, if_pos hd]
      rw [← hdl]
      clear hd hdl hk
      go_wp2_with fail
      refine (allRight_any _ d _ (HIR.out.kept HF2.out)).mono ?_
      rintro e w3 ⟨rfl, rfl⟩
      by_cases h0 : rgts d = true
      · have HE2 : Hid (fsd l d = 0) := by rw [Hid, HE.out, if_pos h0]
        rw [h0]
        go_wp2
        go_ret
        exact ⟨by rw [HE2.out]; rfl, HF2.out⟩
      · have h1 : rgts d = false := by simpa using h0
        have HE2 : Hid (fsd l d = 22) := by rw [Hid, HE.out, if_neg h0]
        rw [h1]
        go_wp2
        go_ret
        exact ⟨by rw [HE2.out]; rfl, HF2.out⟩
    · have HE : Hid (fsd l d = 23) := by unfold Hid fsd; rw [if_pos hk, if_neg hd]
      have hdn : ¬ (d.length : Int) = ((pls l).length : Int) := by omega
      clear hd hk
      go_wp2
      go_ret
      exact ⟨by rw [HE.out]; rfl, HF2.out⟩
  · have HE : Hid (fsd l d = chk l) := by unfold Hid fsd; rw [if_neg hk]
    go_wp2
    go_ret
    exact ⟨by rw [HE.out]; rfl, HF1.out⟩
end Go.Proofs.Ytoaibabkkphlaaa
