/-
  Package fhist: Over.
-/
import Derived.Test.YtoaibabkkphlaaaFSpread
import Derived.Test.YtoaibabkkphlaaaFCanon
import Derived.Test.YtoaibabkkphlaaaHOver
namespace Go.Proofs.Ytoaibabkkphlaaa
open Go.RowKit Mem Spans
set_option linter.unusedSimpArgs false
set_option linter.unusedVariables false
set_option maxRecDepth 100000

/-- Over's error; what it tells. -/
def fove (h : Fs) (p n : List Sp) : Int :=
  if fce h = 0 then (if chk p = 0 then (if chk n = 0 then (if spb (fdp h) p = true then (if spb (fdn h) n = true then 0 else 23) else 23) else chk n) else chk p) else fce h
def fovs (h : Fs) (p n : List Sp) : Fs := ⟨h.s, h.z, h.zc, h.c, h.sm, p, n, (sps (fdp h) (pls p)).2, (sps (fdn h) (pls n)).2⟩
def fovh (h : Fs) (p n : List Sp) : Fs := if fove h p n = 0 then fovs h p n else fzero
theorem fzero_src (w : World) : FSrc w (.agg #[.int .i64 0, .int .u64 0, .int .u64 0, .int .u64 0, .int .u64 0, .slice none 0 0, .slice none 0 0, .slice none 0 0, .slice none 0 0]) fzero := (fzero_own 0 w).src (by unfold fin9 fzero; simp)
/-- A histogram that lies apart from all blocks below B. -/
def FKeep (B : Nat) (w : World) (v : Value) (h : Fs) : Prop := ∀ (S : List Nat) (w' : World), Fr S w w' → (∀ y ∈ S, y < B) → FSrc w' v h
theorem FKeep.src {B : Nat} {w : World} {v : Value} {h : Fs} (k : FKeep B w v h) : FSrc w v h := k [] w (Fr.refl _ _) (by simp)
theorem fzero_keep (B : Nat) (w : World) : FKeep B w (.agg #[.int .i64 0, .int .u64 0, .int .u64 0, .int .u64 0, .int .u64 0, .slice none 0 0, .slice none 0 0, .slice none 0 0, .slice none 0 0]) fzero := fun _ w' _ _ => fzero_src w'
set_option maxHeartbeats 8000000 in
theorem fover_any (v vp vn : Value) (h : Fs) (p n : List Sp) (w : World) (hh : FSrc w v h) (hp : SSrc w vp p) (hn : SSrc w vn n) :
    Calls Try.prog 32 #[v, vp, vn] w fun e w' => ∃ u, e = .returned (.tuple #[u, .int .i64 (fove h p n)]) ∧ FKeep w.heap.size w' u (fovh h p n) ∧ Fr [] w w' := by
  have HP : Hid (SSrc w vp p) := hp
  have HN : Hid (SSrc w vn n) := hn
  have HH : Hid (∀ wx, Fr [] w wx → FSrc wx v h) := fun wx hx => hh.kept hx
  obtain ⟨po, pc, no, nc, qo, qc, ro, rc, rfl, hin, _⟩ := hh.opens
  have HIN : Hid (in64 h.s ∧ inu h.z ∧ inu h.zc ∧ inu h.c ∧ inu h.sm) := hin
  have HFI : Hid (fin9 h) := hh.fin
  clear hh hin
  obtain ⟨ao, ac, rfl, _⟩ := hp
  obtain ⟨bo, bc, rfl, _⟩ := hn
  go_enter Try.func32, Try.ntmps32
  obtain ⟨cs, hcs⟩ : ∃ cs : Array Value, cs = #[.int .i64 h.s, .int .u64 h.z, .int .u64 h.zc, .int .u64 h.c, .int .u64 h.sm, .slice po h.P.length pc, .slice no h.N.length nc, .slice qo h.pd.length qc, .slice ro h.nd.length rc] := ⟨_, rfl⟩
  have HA : Hid (∀ z, NineF ((w.alloc (.cells cs 26)).alloc (.cells z 26)) w.heap.size cs ∧ NineF ((w.alloc (.cells cs 26)).alloc (.cells z 26)) (w.heap.size + 1) z ∧ Fr [] w ((w.alloc (.cells cs 26)).alloc (.cells z 26))) := fun z => ⟨nineF_mid _ _ _, nineF_top _ _ _, ((Fr.refl [] w).alloc _).alloc _⟩
  subst hcs
  go_wp2_with fail
  obtain ⟨hA3, hA6, hAF⟩ := HA.out #[.int .i64 0, .int .u64 0, .int .u64 0, .int .u64 0, .int .u64 0, .slice none 0 0, .slice none 0 0, .slice none 0 0, .slice none 0 0]
  clear HA
  generalize (w.alloc (.cells _ _)).alloc (.cells _ _) = wA at hA3 hA6 hAF ⊢
  have HSZ : Hid (w.heap.size + 1 < wA.heap.size) := hA6.lt
  refine (fsides_any _ h wA (HH.out _ hAF)).mono ?_
  rintro e w1 ⟨x, y, rfl, hx, hy, hf1⟩
  have HX : Hid (PSrc w1 x (fdp h)) := hx.src (fdp_in h HFI.out)
  have HY : Hid (PSrc w1 y (fdn h)) := hy.src (fdn_in h HFI.out)
  have HF1 : Hid (Fr [] w w1) := hAF.trans hf1 (by simp)
  have HS1 : Hid (wA.heap.size ≤ w1.heap.size) := hf1.size
  have H3 : Hid (NineF w1 w.heap.size _) := hA3.kept hf1 (by simp)
  have H6 : Hid (NineF w1 (w.heap.size + 1) _) := hA6.kept hf1 (by simp)
  clear hx hy hf1 hA3 hA6 hAF
  by_cases h0 : fce h = 0
  case neg =>
    have HE : Hid (fove h p n = fce h ∧ fovh h p n = fzero) := by
      have e : fove h p n = fce h := by unfold fove; rw [if_neg h0]
      unfold Hid fovh; rw [if_neg (by rw [e]; exact h0)]; exact ⟨e, rfl⟩
    have d0 := H6.out.cell 0 rfl
    have d1 := H6.out.cell 1 rfl
    have d2 := H6.out.cell 2 rfl
    have d3 := H6.out.cell 3 rfl
    have d4 := H6.out.cell 4 rfl
    have d5 := H6.out.cell 5 rfl
    have d6 := H6.out.cell 6 rfl
    have d7 := H6.out.cell 7 rfl
    have d8 := H6.out.cell 8 rfl
    have f0 := H6.out.frozen 0
    have f1 := H6.out.frozen 1
    have f2 := H6.out.frozen 2
    have f3 := H6.out.frozen 3
    have f4 := H6.out.frozen 4
    have f5 := H6.out.frozen 5
    have f6 := H6.out.frozen 6
    have f7 := H6.out.frozen 7
    have f8 := H6.out.frozen 8
    go_wp2
    refine bodyPost_ret (fhist_res rfl _ _ (w.heap.size + 1) _ _ _ _ _ _ _ _ _ rfl (set9_nineF H6.out (.int .i64 0) (.int .u64 0) (.int .u64 0) (.int .u64 0) (.int .u64 0) (.slice none 0 0) (.slice none 0 0) (.slice none 0 0) (.slice none 0 0))) rfl ?_
    exact ⟨_, by rw [HE.out.1]; rfl, by rw [HE.out.2]; exact fzero_keep _ _, set9_fr HF1.out (.inr (by simp)) (.int .i64 0) (.int .u64 0) (.int .u64 0) (.int .u64 0) (.int .u64 0) (.slice none 0 0) (.slice none 0 0) (.slice none 0 0) (.slice none 0 0)⟩
  have HC : Hid (fce h = 0) := h0
  rw [h0]
  clear h0
  go_wp2_with fail
  refine (check_any _ p _ (HP.out.kept HF1.out)).mono ?_
  rintro e w2 ⟨rfl, hf2⟩
  have HF2 : Hid (Fr [] w w2) := HF1.out.trans hf2 (by simp)
  have HX2 : Hid (PSrc w2 x (fdp h)) := HX.out.kept hf2
  have HY2 : Hid (PSrc w2 y (fdn h)) := HY.out.kept hf2
  have HS2 : Hid (wA.heap.size ≤ w2.heap.size) := Nat.le_trans HS1.out hf2.size
  have H3b : Hid (NineF w2 w.heap.size _) := H3.out.kept hf2 (by simp)
  have H6b : Hid (NineF w2 (w.heap.size + 1) _) := H6.out.kept hf2 (by simp)
  clear hf2 HX HY H3 H6 HF1 HS1
  by_cases h1 : chk p = 0
  case neg =>
    have HE : Hid (fove h p n = chk p ∧ fovh h p n = fzero) := by
      have e : fove h p n = chk p := by unfold fove; rw [if_pos HC.out, if_neg h1]
      unfold Hid fovh; rw [if_neg (by rw [e]; exact h1)]; exact ⟨e, rfl⟩
    have d0 := H6b.out.cell 0 rfl
    have d1 := H6b.out.cell 1 rfl
    have d2 := H6b.out.cell 2 rfl
    have d3 := H6b.out.cell 3 rfl
    have d4 := H6b.out.cell 4 rfl
    have d5 := H6b.out.cell 5 rfl
    have d6 := H6b.out.cell 6 rfl
    have d7 := H6b.out.cell 7 rfl
    have d8 := H6b.out.cell 8 rfl
    have f0 := H6b.out.frozen 0
    have f1 := H6b.out.frozen 1
    have f2 := H6b.out.frozen 2
    have f3 := H6b.out.frozen 3
    have f4 := H6b.out.frozen 4
    have f5 := H6b.out.frozen 5
    have f6 := H6b.out.frozen 6
    have f7 := H6b.out.frozen 7
    have f8 := H6b.out.frozen 8
    go_wp2
    refine bodyPost_ret (fhist_res rfl _ _ (w.heap.size + 1) _ _ _ _ _ _ _ _ _ rfl (set9_nineF H6b.out (.int .i64 0) (.int .u64 0) (.int .u64 0) (.int .u64 0) (.int .u64 0) (.slice none 0 0) (.slice none 0 0) (.slice none 0 0) (.slice none 0 0))) rfl ?_
    exact ⟨_, by rw [HE.out.1]; rfl, by rw [HE.out.2]; exact fzero_keep _ _, set9_fr HF2.out (.inr (by simp)) (.int .i64 0) (.int .u64 0) (.int .u64 0) (.int .u64 0) (.int .u64 0) (.slice none 0 0) (.slice none 0 0) (.slice none 0 0) (.slice none 0 0)⟩
  have HK1 : Hid (chk p = 0) := h1
  rw [h1]
  clear h1
  go_wp2_with fail
  refine (check_any _ n _ (HN.out.kept HF2.out)).mono ?_
  rintro e w3 ⟨rfl, hf3⟩
  have HF3 : Hid (Fr [] w w3) := HF2.out.trans hf3 (by simp)
  have HX3 : Hid (PSrc w3 x (fdp h)) := HX2.out.kept hf3
  have HY3 : Hid (PSrc w3 y (fdn h)) := HY2.out.kept hf3
  have HS3 : Hid (wA.heap.size ≤ w3.heap.size) := Nat.le_trans HS2.out hf3.size
  have H3c : Hid (NineF w3 w.heap.size _) := H3b.out.kept hf3 (by simp)
  have H6c : Hid (NineF w3 (w.heap.size + 1) _) := H6b.out.kept hf3 (by simp)
  clear hf3 HX2 HY2 H3b H6b HF2 HS2
  by_cases h2 : chk n = 0
  case neg =>
    have HE : Hid (fove h p n = chk n ∧ fovh h p n = fzero) := by
      have e : fove h p n = chk n := by unfold fove; rw [if_pos HC.out, if_pos HK1.out, if_neg h2]
      unfold Hid fovh; rw [if_neg (by rw [e]; exact h2)]; exact ⟨e, rfl⟩
    have d0 := H6c.out.cell 0 rfl
    have d1 := H6c.out.cell 1 rfl
    have d2 := H6c.out.cell 2 rfl
    have d3 := H6c.out.cell 3 rfl
    have d4 := H6c.out.cell 4 rfl
    have d5 := H6c.out.cell 5 rfl
    have d6 := H6c.out.cell 6 rfl
    have d7 := H6c.out.cell 7 rfl
    have d8 := H6c.out.cell 8 rfl
    have f0 := H6c.out.frozen 0
    have f1 := H6c.out.frozen 1
    have f2 := H6c.out.frozen 2
    have f3 := H6c.out.frozen 3
    have f4 := H6c.out.frozen 4
    have f5 := H6c.out.frozen 5
    have f6 := H6c.out.frozen 6
    have f7 := H6c.out.frozen 7
    have f8 := H6c.out.frozen 8
    go_wp2
    refine bodyPost_ret (fhist_res rfl _ _ (w.heap.size + 1) _ _ _ _ _ _ _ _ _ rfl (set9_nineF H6c.out (.int .i64 0) (.int .u64 0) (.int .u64 0) (.int .u64 0) (.int .u64 0) (.slice none 0 0) (.slice none 0 0) (.slice none 0 0) (.slice none 0 0))) rfl ?_
    exact ⟨_, by rw [HE.out.1]; rfl, by rw [HE.out.2]; exact fzero_keep _ _, set9_fr HF3.out (.inr (by simp)) (.int .i64 0) (.int .u64 0) (.int .u64 0) (.int .u64 0) (.int .u64 0) (.slice none 0 0) (.slice none 0 0) (.slice none 0 0) (.slice none 0 0)⟩
  have HK2 : Hid (chk n = 0) := h2
  rw [h2]
  clear h2
  go_wp2_with fail
  refine (fspread_any x _ (fdp h) p _ HX3.out (HP.out.kept HF3.out) (by have := fdp_le h; omega)).mono ?_
  rintro e w4 ⟨q, rfl, hq, hf4⟩
  have HF4 : Hid (Fr [] w w4) := HF3.out.trans hf4 (by simp)
  have HQ4 : Hid (UOwn 22 wA.heap.size w4 q ((sps (fdp h) (pls p)).2)) := hq.mono HS3.out
  have HY4 : Hid (PSrc w4 y (fdn h)) := HY3.out.kept hf4
  have HS4 : Hid (wA.heap.size ≤ w4.heap.size) := Nat.le_trans HS3.out hf4.size
  have H3d : Hid (NineF w4 w.heap.size _) := H3c.out.kept hf4 (by simp)
  have H6d : Hid (NineF w4 (w.heap.size + 1) _) := H6c.out.kept hf4 (by simp)
  clear hf4 hq HX3 HY3 H3c H6c HF3 HS3
  have HB1 : Hid (decide ((sps (fdp h) (pls p)).1 = (fdp h).length) = spb (fdp h) p) := rfl
  rw [HB1.out]
  go_wp2_with fail
  refine (fspread_any y _ (fdn h) n _ HY4.out (HN.out.kept HF4.out) (by have := fdn_le h; omega)).mono ?_
  rintro e w5 ⟨r, rfl, hr, hf5⟩
  have HF5 : Hid (Fr [] w w5) := HF4.out.trans hf5 (by simp)
  have HQ5 : Hid (UOwn 22 wA.heap.size w5 q ((sps (fdp h) (pls p)).2)) := HQ4.out.kept hf5
  have HR5 : Hid (UOwn 22 wA.heap.size w5 r ((sps (fdn h) (pls n)).2)) := hr.mono HS4.out
  have HS5 : Hid (wA.heap.size ≤ w5.heap.size) := Nat.le_trans HS4.out hf5.size
  have H3e : Hid (NineF w5 w.heap.size _) := H3d.out.kept hf5 (by simp)
  have H6e : Hid (NineF w5 (w.heap.size + 1) _) := H6d.out.kept hf5 (by simp)
  clear hf5 hr HQ4 HY4 H3d H6d HF4 HS4
  have HB2 : Hid (decide ((sps (fdn h) (pls n)).1 = (fdn h).length) = spb (fdn h) n) := rfl
  rw [HB2.out]
  clear HB1 HB2
  obtain ⟨qa, qcc, rfl⟩ := HQ5.out.val
  obtain ⟨ra, rcc, rfl⟩ := HR5.out.val
  by_cases hb1 : spb (fdp h) p = true
  case neg =>
    have hb1' : spb (fdp h) p = false := by simpa using hb1
    have HE : Hid (fove h p n = 23 ∧ fovh h p n = fzero) := by
      have e : fove h p n = 23 := by unfold fove; rw [if_pos HC.out, if_pos HK1.out, if_pos HK2.out, if_neg hb1]
      unfold Hid fovh; rw [if_neg (by rw [e]; decide)]; exact ⟨e, rfl⟩
    rw [hb1']
    clear hb1 hb1'
    have d0 := H6e.out.cell 0 rfl
    have d1 := H6e.out.cell 1 rfl
    have d2 := H6e.out.cell 2 rfl
    have d3 := H6e.out.cell 3 rfl
    have d4 := H6e.out.cell 4 rfl
    have d5 := H6e.out.cell 5 rfl
    have d6 := H6e.out.cell 6 rfl
    have d7 := H6e.out.cell 7 rfl
    have d8 := H6e.out.cell 8 rfl
    have f0 := H6e.out.frozen 0
    have f1 := H6e.out.frozen 1
    have f2 := H6e.out.frozen 2
    have f3 := H6e.out.frozen 3
    have f4 := H6e.out.frozen 4
    have f5 := H6e.out.frozen 5
    have f6 := H6e.out.frozen 6
    have f7 := H6e.out.frozen 7
    have f8 := H6e.out.frozen 8
    go_wp2
    refine bodyPost_ret (fhist_res rfl _ _ (w.heap.size + 1) _ _ _ _ _ _ _ _ _ rfl (set9_nineF H6e.out (.int .i64 0) (.int .u64 0) (.int .u64 0) (.int .u64 0) (.int .u64 0) (.slice none 0 0) (.slice none 0 0) (.slice none 0 0) (.slice none 0 0))) rfl ?_
    exact ⟨_, by rw [HE.out.1]; rfl, by rw [HE.out.2]; exact fzero_keep _ _, set9_fr HF5.out (.inr (by simp)) (.int .i64 0) (.int .u64 0) (.int .u64 0) (.int .u64 0) (.int .u64 0) (.slice none 0 0) (.slice none 0 0) (.slice none 0 0) (.slice none 0 0)⟩
  have HB1 : Hid (spb (fdp h) p = true) := hb1
  rw [hb1]
  clear hb1
  by_cases hb2 : spb (fdn h) n = true
  case neg =>
    have hb2' : spb (fdn h) n = false := by simpa using hb2
    have HE : Hid (fove h p n = 23 ∧ fovh h p n = fzero) := by
      have e : fove h p n = 23 := by unfold fove; rw [if_pos HC.out, if_pos HK1.out, if_pos HK2.out, if_pos HB1.out, if_neg hb2]
      unfold Hid fovh; rw [if_neg (by rw [e]; decide)]; exact ⟨e, rfl⟩
    rw [hb2']
    clear hb2 hb2'
    have d0 := H6e.out.cell 0 rfl
    have d1 := H6e.out.cell 1 rfl
    have d2 := H6e.out.cell 2 rfl
    have d3 := H6e.out.cell 3 rfl
    have d4 := H6e.out.cell 4 rfl
    have d5 := H6e.out.cell 5 rfl
    have d6 := H6e.out.cell 6 rfl
    have d7 := H6e.out.cell 7 rfl
    have d8 := H6e.out.cell 8 rfl
    have f0 := H6e.out.frozen 0
    have f1 := H6e.out.frozen 1
    have f2 := H6e.out.frozen 2
    have f3 := H6e.out.frozen 3
    have f4 := H6e.out.frozen 4
    have f5 := H6e.out.frozen 5
    have f6 := H6e.out.frozen 6
    have f7 := H6e.out.frozen 7
    have f8 := H6e.out.frozen 8
    go_wp2
    refine bodyPost_ret (fhist_res rfl _ _ (w.heap.size + 1) _ _ _ _ _ _ _ _ _ rfl (set9_nineF H6e.out (.int .i64 0) (.int .u64 0) (.int .u64 0) (.int .u64 0) (.int .u64 0) (.slice none 0 0) (.slice none 0 0) (.slice none 0 0) (.slice none 0 0))) rfl ?_
    exact ⟨_, by rw [HE.out.1]; rfl, by rw [HE.out.2]; exact fzero_keep _ _, set9_fr HF5.out (.inr (by simp)) (.int .i64 0) (.int .u64 0) (.int .u64 0) (.int .u64 0) (.int .u64 0) (.slice none 0 0) (.slice none 0 0) (.slice none 0 0) (.slice none 0 0)⟩
  have HE : Hid (fove h p n = 0 ∧ fovh h p n = fovs h p n) := by
    have e : fove h p n = 0 := by unfold fove; rw [if_pos HC.out, if_pos HK1.out, if_pos HK2.out, if_pos HB1.out, if_pos hb2]
    unfold Hid fovh; rw [if_pos e]; exact ⟨e, rfl⟩
  rw [hb2]
  clear hb2
  go_wp2_with fail
  refine (clone_any _ p w5 (HP.out.kept HF5.out) (chk_len HK1.out)).mono ?_
  rintro e w6 ⟨ka, kc, rfl, hk, hf6⟩
  have HKP : Hid (w6.ownsRow wA.heap.size 95 2 (.slice ka p.length kc) p.length (spCells p)) := ownsRow_mono hk HS5.out
  have HF6 : Hid (Fr [] w w6) := HF5.out.trans hf6 (by simp)
  have HQ6 : Hid (UOwn 22 wA.heap.size w6 _ ((sps (fdp h) (pls p)).2)) := HQ5.out.kept hf6
  have HR6 : Hid (UOwn 22 wA.heap.size w6 _ ((sps (fdn h) (pls n)).2)) := HR5.out.kept hf6
  have HS6 : Hid (wA.heap.size ≤ w6.heap.size) := Nat.le_trans HS5.out hf6.size
  have h3 := H3e.out.kept hf6 (by simp)
  have h6 := H6e.out.kept hf6 (by simp)
  clear hk hf6 HQ5 HR5 H3e H6e HF5 HS5
  have c5 := h3.cell 5 rfl
  have c7 := h3.cell 7 rfl
  have f5 := h3.frozen 5
  have f7 := h3.frozen 7
  have H3 : Hid (NineF ((w6.setCell ⟨w.heap.size, 5, none⟩ (.slice ka p.length kc)).setCell ⟨w.heap.size, 7, none⟩ (.slice qa (sps (fdp h) (pls p)).2.length qcc)) w.heap.size _) := h3.set57 (.slice ka p.length kc) (.slice qa (sps (fdp h) (pls p)).2.length qcc)
  have H6 : Hid (NineF ((w6.setCell ⟨w.heap.size, 5, none⟩ (.slice ka p.length kc)).setCell ⟨w.heap.size, 7, none⟩ (.slice qa (sps (fdp h) (pls p)).2.length qcc)) (w.heap.size + 1) _) := (h6.other (i := 5) (v := (.slice ka p.length kc)) (by omega)).other (i := 7) (v := (.slice qa (sps (fdp h) (pls p)).2.length qcc)) (by omega)
  have HFS : Hid (Fr [w.heap.size] w6 ((w6.setCell ⟨w.heap.size, 5, none⟩ (.slice ka p.length kc)).setCell ⟨w.heap.size, 7, none⟩ (.slice qa (sps (fdp h) (pls p)).2.length qcc))) := ((Fr.refl _ _).setCell _ _ (.inl (by simp))).setCell _ _ (.inl (by simp))
  clear h3 h6
  go_upto_region 15 with fail
  clear c5 c7 f5 f7
  generalize (w6.setCell ⟨w.heap.size, 5, none⟩ (.slice ka p.length kc)).setCell ⟨w.heap.size, 7, none⟩ (.slice qa (sps (fdp h) (pls p)).2.length qcc) = wB at H3 H6 HFS ⊢
  have hb : ∀ y ∈ [w.heap.size], y < wA.heap.size := by have := HSZ.out; simp; omega
  have HKB : Hid (wB.ownsRow wA.heap.size 95 2 (.slice ka p.length kc) p.length (spCells p)) := ownsRow_keptS HKP.out HFS.out hb
  have HQB : Hid (UOwn 22 wA.heap.size wB _ ((sps (fdp h) (pls p)).2)) := HQ6.out.keptS HFS.out hb
  have HRB : Hid (UOwn 22 wA.heap.size wB _ ((sps (fdn h) (pls n)).2)) := HR6.out.keptS HFS.out hb
  have HFB : Hid (Fr [] w wB) := HF6.out.trans HFS.out (by simp)
  have HSB : Hid (wA.heap.size ≤ wB.heap.size) := Nat.le_trans HS6.out HFS.out.size
  clear HKP HQ6 HR6 HF6 HFS HS6 hb
  go_wp2_with fail
  refine (clone_any _ n wB (HN.out.kept HFB.out) (chk_len HK2.out)).mono ?_
  rintro e w7 ⟨ka2, kc2, rfl, hk, hf7⟩
  have HKN : Hid (w7.ownsRow wA.heap.size 95 2 (.slice ka2 n.length kc2) n.length (spCells n)) := ownsRow_mono hk HSB.out
  have HKP : Hid (w7.ownsRow wA.heap.size 95 2 (.slice ka p.length kc) p.length (spCells p)) := ownsRow_keptS HKB.out hf7 (by simp)
  have HF7 : Hid (Fr [] w w7) := HFB.out.trans hf7 (by simp)
  have HQ7 : Hid (UOwn 22 wA.heap.size w7 _ ((sps (fdp h) (pls p)).2)) := HQB.out.kept hf7
  have HR7 : Hid (UOwn 22 wA.heap.size w7 _ ((sps (fdn h) (pls n)).2)) := HRB.out.kept hf7
  have h3 := H3.out.kept hf7 (by simp)
  have h6 := H6.out.kept hf7 (by simp)
  clear hk hf7 HQB HRB HKB H3 H6 HFB HSB
  have c6 := h3.cell 6 rfl
  have c8 := h3.cell 8 rfl
  have f6 := h3.frozen 6
  have f8 := h3.frozen 8
  have H3 : Hid (NineF ((w7.setCell ⟨w.heap.size, 6, none⟩ (.slice ka2 n.length kc2)).setCell ⟨w.heap.size, 8, none⟩ (.slice ra (sps (fdn h) (pls n)).2.length rcc)) w.heap.size _) := h3.set68 (.slice ka2 n.length kc2) (.slice ra (sps (fdn h) (pls n)).2.length rcc)
  have H6 : Hid (NineF ((w7.setCell ⟨w.heap.size, 6, none⟩ (.slice ka2 n.length kc2)).setCell ⟨w.heap.size, 8, none⟩ (.slice ra (sps (fdn h) (pls n)).2.length rcc)) (w.heap.size + 1) _) := (h6.other (i := 6) (v := (.slice ka2 n.length kc2)) (by omega)).other (i := 8) (v := (.slice ra (sps (fdn h) (pls n)).2.length rcc)) (by omega)
  have HFS : Hid (Fr [w.heap.size] w7 ((w7.setCell ⟨w.heap.size, 6, none⟩ (.slice ka2 n.length kc2)).setCell ⟨w.heap.size, 8, none⟩ (.slice ra (sps (fdn h) (pls n)).2.length rcc))) := ((Fr.refl _ _).setCell _ _ (.inl (by simp))).setCell _ _ (.inl (by simp))
  clear h3 h6
  go_upto_region 16 with fail
  clear c6 c8 f6 f8
  generalize (w7.setCell ⟨w.heap.size, 6, none⟩ (.slice ka2 n.length kc2)).setCell ⟨w.heap.size, 8, none⟩ (.slice ra (sps (fdn h) (pls n)).2.length rcc) = wC at H3 H6 HFS ⊢
  have c0 := H3.out.cell 0 rfl
  have c1 := H3.out.cell 1 rfl
  have c2 := H3.out.cell 2 rfl
  have c3 := H3.out.cell 3 rfl
  have c4 := H3.out.cell 4 rfl
  have c5 := H3.out.cell 5 rfl
  have c6 := H3.out.cell 6 rfl
  have c7 := H3.out.cell 7 rfl
  have c8 := H3.out.cell 8 rfl
  have d0 := H6.out.cell 0 rfl
  have d1 := H6.out.cell 1 rfl
  have d2 := H6.out.cell 2 rfl
  have d3 := H6.out.cell 3 rfl
  have d4 := H6.out.cell 4 rfl
  have d5 := H6.out.cell 5 rfl
  have d6 := H6.out.cell 6 rfl
  have d7 := H6.out.cell 7 rfl
  have d8 := H6.out.cell 8 rfl
  have f0 := H6.out.frozen 0
  have f1 := H6.out.frozen 1
  have f2 := H6.out.frozen 2
  have f3 := H6.out.frozen 3
  have f4 := H6.out.frozen 4
  have f5 := H6.out.frozen 5
  have f6 := H6.out.frozen 6
  have f7 := H6.out.frozen 7
  have f8 := H6.out.frozen 8
  go_wp2
  have hs9 := set9_fr (S := [w.heap.size, w.heap.size + 1]) (g := w.heap.size + 1) (HFS.out.mono (S' := [w.heap.size, w.heap.size + 1]) (by simp)) (.inl (by simp)) (.int .i64 h.s) (.int .u64 h.z) (.int .u64 h.zc) (.int .u64 h.c) (.int .u64 h.sm) (.slice ka p.length kc) (.slice ka2 n.length kc2) (.slice qa (sps (fdp h) (pls p)).2.length qcc) (.slice ra (sps (fdn h) (pls n)).2.length rcc)
  have hb : ∀ y ∈ [w.heap.size, w.heap.size + 1], y < wA.heap.size := by have := HSZ.out; simp; omega
  have k1 := ownsRow_keptS HKP.out hs9 hb
  have k2 := ownsRow_keptS HKN.out hs9 hb
  have k3 := HQ7.out.keptS hs9 hb
  have k4 := HR7.out.keptS hs9 hb
  have hp64 : ∀ s ∈ p, in64 s.1 ∧ in64 s.2 := by obtain ⟨_, _, _, _, _, h64, _⟩ := HP.out; exact h64
  have hn64 : ∀ s ∈ n, in64 s.1 ∧ in64 s.2 := by obtain ⟨_, _, _, _, _, h64, _⟩ := HN.out; exact h64
  refine bodyPost_ret (fhist_res rfl _ _ (w.heap.size + 1) _ _ _ _ _ _ _ _ _ rfl (set9_nineF H6.out _ _ _ _ _ _ _ _ _)) rfl ?_
  refine ⟨_, by rw [HE.out.1]; rfl, ?_, set9_fr ((HF7.out.trans HFS.out (by simp)) : Fr [] w wC) (.inr (by simp)) _ _ _ _ _ _ _ _ _⟩
  rw [HE.out.2]
  intro S w2 hS hbS
  have hb3 : ∀ y ∈ S, y < wA.heap.size := fun y hy => by have := hbS y hy; have := HSZ.out; omega
  obtain ⟨_, _, _, k5⟩ := ssrc_of_owns (ownsRow_keptS k1 hS hb3) hp64
  obtain ⟨_, _, _, k6⟩ := ssrc_of_owns (ownsRow_keptS k2 hS hb3) hn64
  exact ⟨_, _, _, _, rfl, HIN.out.1, HIN.out.2, k5, k6, (k3.keptS hS hb3).src (spsU_in (fdp_in h HFI.out) _), (k4.keptS hS hb3).src (spsU_in (fdn_in h HFI.out) _)⟩
end Go.Proofs.Ytoaibabkkphlaaa
