/-
  Histograms whose counts are floats, in the document's own text: places among others; on other places a right histogram counts the same.
-/
import Derived.Test.YtoaibabkkphlaaaGG
import Derived.Test.YtoaibabkkphlaaaGJ
import Derived.Test.YtoaibabkkphlaaaGE
import Derived.Test.YtoaibabkkphlaaaGB
namespace Go.Proofs.Ytoaibabkkphlaaa
open Go.RowKit Mem Spans
set_option linter.unusedSimpArgs false
set_option linter.unusedVariables false
set_option maxRecDepth 100000

/-- Counts laid on places: they, and which of the own ones were not met. -/
def mrg : List Sp → List Int → List Int × List Sp
  | o, [] => ([], o)
  | [], _ :: ps => (0 :: (mrg [] ps).1, (mrg [] ps).2)
  | s :: r, p :: ps => if s.1 = p then (s.2 :: (mrg r ps).1, (mrg r ps).2) else (0 :: (mrg (s :: r) ps).1, (mrg (s :: r) ps).2)
theorem mrg_len (o : List Sp) (ps : List Int) : (mrg o ps).2.length ≤ o.length := by
  induction ps generalizing o with
  | nil => cases o <;> simp [mrg]
  | cons p ps ih =>
    cases o with
    | nil => simpa [mrg] using ih []
    | cons s r =>
      simp only [mrg]
      split
      · have := ih r; simp only [List.length_cons]; omega
      · exact ih (s :: r)
theorem sps_mrg (o : List Sp) (ps : List Int) (k : Nat) (acc : List Int) (hk : k ≤ o.length) : ps.foldl (spt o) (k, acc) = (o.length - (mrg (o.drop k) ps).2.length, acc ++ (mrg (o.drop k) ps).1) := by
  induction ps generalizing k acc with
  | nil => simp [mrg]; omega
  | cons p ps ih =>
    rw [List.foldl_cons]
    by_cases hlt : k < o.length
    · obtain ⟨s, hs⟩ := at_lt hlt
      have hd := drop_at hs
      by_cases hsp : s.1 = p
      · rw [spt_hit (st := (k, acc)) hs hsp, ih _ _ (by omega), hd]
        simp only [mrg]
        rw [if_pos hsp]
        simp
      · rw [spt_miss (st := (k, acc)) (fun t ht => by simp only at ht; rw [hs] at ht; cases ht; exact hsp), ih _ _ hk, hd]
        simp only [mrg]
        rw [if_neg hsp]
        simp
    · have hd : o.drop k = [] := List.drop_eq_nil_of_le (by omega)
      rw [spt_miss (st := (k, acc)) (fun t ht => by have := (List.getElem?_eq_some_iff.1 ht).1; simp only at this; omega), ih _ _ hk, hd]
      simp [mrg]
theorem sps_eq (o : List Sp) (ps : List Int) : sps o ps = (o.length - (mrg o ps).2.length, (mrg o ps).1) := by
  have := sps_mrg o ps 0 [] (Nat.zero_le _)
  simpa [sps] using this
theorem mrg_vals (o : List Sp) (ps : List Int) : (mrg o ps).1.length = ps.length ∧ ∀ z ∈ (mrg o ps).1, z = 0 ∨ z ∈ snds o := by
  induction ps generalizing o with
  | nil => cases o <;> simp [mrg]
  | cons p ps ih =>
    cases o with
    | nil =>
      have := ih []
      simp only [mrg, List.length_cons]
      refine ⟨by omega, fun z hz => ?_⟩
      rcases List.mem_cons.1 hz with h | h
      · exact .inl h
      · exact this.2 z h
    | cons s r =>
      simp only [mrg]
      split
      · have := ih r
        refine ⟨by simp only [List.length_cons]; omega, fun z hz => ?_⟩
        rcases List.mem_cons.1 hz with h | h
        · exact .inr (by rw [h]; simp [snds])
        · rcases this.2 z h with h1 | h1
          · exact .inl h1
          · exact .inr (by simp only [snds, List.map_cons, List.mem_cons]; exact .inr h1)
      · have := ih (s :: r)
        refine ⟨by simp only [List.length_cons]; omega, fun z hz => ?_⟩
        rcases List.mem_cons.1 hz with h | h
        · exact .inl h
        · exact this.2 z h
theorem mrg_all {o : List Sp} {ps : List Int} (ho : up o) (hp : ps.Pairwise (· < ·)) : (mrg o ps).2 = [] ↔ ∀ s ∈ o, s.1 ∈ ps := by
  induction ps generalizing o with
  | nil =>
    cases o with
    | nil => simp [mrg]
    | cons s r =>
      simp only [mrg]
      constructor
      · intro h; cases h
      · intro h; exact absurd (h s (by simp)) (by simp)
  | cons p ps ih =>
    rw [List.pairwise_cons] at hp
    cases o with
    | nil =>
      simp only [mrg]
      rw [ih (o := []) List.Pairwise.nil hp.2]
      simp
    | cons s r =>
      have ho2 := ho
      unfold up at ho2
      rw [List.pairwise_cons] at ho2
      simp only [mrg]
      split
      · rename_i h
        rw [ih (o := r) ho2.2 hp.2]
        constructor
        · intro k t ht
          rcases List.mem_cons.1 ht with h1 | h1
          · rw [h1, h]; simp
          · exact List.mem_cons_of_mem _ (k t h1)
        · intro k t ht
          rcases List.mem_cons.1 (k t (List.mem_cons_of_mem _ ht)) with h1 | h1
          · have := ho2.1 t ht; omega
          · exact h1
      · rename_i h
        rw [ih (o := s :: r) ho hp.2]
        constructor
        · intro k t ht; exact List.mem_cons_of_mem _ (k t ht)
        · intro k t ht
          have hs : s.1 ∈ ps := by
            rcases List.mem_cons.1 (k s (by simp)) with h1 | h1
            · exact absurd h1 h
            · exact h1
          rcases List.mem_cons.1 (k t ht) with h1 | h1
          · have h2 := hp.1 s.1 hs
            rcases List.mem_cons.1 ht with h3 | h3
            · rw [h3] at h1; exact absurd h1 h
            · have := ho2.1 t h3; omega
          · exact h1
theorem mrg_wio {o : List Sp} {ps : List Int} (h : (mrg o ps).2 = []) : wio (ps.zip (mrg o ps).1) 0 = wio o 0 := by
  induction ps generalizing o with
  | nil =>
    cases o with
    | nil => rfl
    | cons s r => simp only [mrg] at h; cases h
  | cons p ps ih =>
    cases o with
    | nil =>
      simp only [mrg, List.zip_cons_cons] at h ⊢
      have := ih h
      unfold wio at this ⊢
      rw [List.filter_cons_of_neg (by simp)]
      exact this
    | cons s r =>
      simp only [mrg] at h ⊢
      split at h
      · rename_i hs
        rw [if_pos hs, List.zip_cons_cons, show (p, s.2) = s from Prod.ext hs.symm rfl]
        have := ih h
        unfold wio at this ⊢
        by_cases h0 : s.2 = 0
        · rw [List.filter_cons_of_neg (by simp [h0]), List.filter_cons_of_neg (by simp [h0])]; exact this
        · rw [List.filter_cons_of_pos (by simp [h0]), List.filter_cons_of_pos (by simp [h0]), this]
      · rename_i hs
        rw [if_neg hs, List.zip_cons_cons]
        have := ih h
        unfold wio at this ⊢
        rw [List.filter_cons_of_neg (by simp)]
        exact this
theorem uni_in (a b : List Sp) : ∀ x ∈ uni (pls a) (pls b), in64 x := by
  intro x hx
  rcases (uni_mem _ _ x).1 hx with h | h
  · exact pls_in a x h
  · exact pls_in b x h
def wth (xs ys : List Int) : Bool := xs.all fun x => decide (x ∈ ys)
/-- Every place is among the others just if joining adds none. -/
theorem uni_wth {xs ys : List Int} (hx : xs.Pairwise (· < ·)) (hy : ys.Pairwise (· < ·)) : ((uni xs ys).length = ys.length) ↔ wth xs ys = true := by
  have hu := uni_pair hx hy
  constructor
  · intro h
    have e : (uni xs ys).filter (fun z => decide (z ∈ ys)) = ys := by
      refine rising_ext (hu.filter _) hy fun x => ?_
      rw [List.mem_filter, uni_mem]
      simp
      exact .inr
    have hl : ((uni xs ys).filter (fun z => decide (z ∈ ys))).length = (uni xs ys).length := by rw [e, h]
    have hall := List.length_filter_eq_length_iff.1 hl
    unfold wth
    rw [List.all_eq_true]
    intro x hxm
    exact hall x ((uni_mem xs ys x).2 (.inl hxm))
  · intro h
    unfold wth at h
    rw [List.all_eq_true] at h
    have e : uni xs ys = ys := rising_ext hu hy fun x => by
      rw [uni_mem]
      constructor
      · rintro (k | k)
        · exact of_decide_eq_true (h x k)
        · exact k
      · exact .inr
    rw [e]
theorem uni_pls (a b : List Sp) : (((uni (pls a) (pls b)).length : Int) == ((pls b).length : Int)) = wth (pls a) (pls b) := by
  have := uni_wth (rises_pair (pls_rises a)) (rises_pair (pls_rises b))
  rw [Bool.eq_iff_iff, ← this, beq_iff_eq]
  omega
theorem spb_wthF {l : List Sp} {d : List Int} {p : List Sp} (h : fsd l d = 0) : spb (fsl l d) p = wth (pls l) (pls p) := by
  rw [Bool.eq_iff_iff]
  have hi : spb (fsl l d) p = true ↔ ∀ s ∈ fsl l d, s.1 ∈ pls p := by
    unfold spb
    rw [sps_eq, decide_eq_true_iff]
    rw [← mrg_all (fsl_up l d) (rises_pair (pls_rises p))]
    have := mrg_len (fsl l d) (pls p)
    simp only
    constructor
    · intro h; exact List.eq_nil_of_length_eq_zero (by omega)
    · intro h; rw [h]; simp
  rw [hi]
  unfold wth
  rw [List.all_eq_true, ← (fsl_zip h).2.1]
  constructor
  · intro k x hx
    obtain ⟨s, hs, rfl⟩ := List.mem_map.1 hx
    exact decide_eq_true (k s hs)
  · intro k s hs
    exact of_decide_eq_true (k s.1 (List.mem_map.2 ⟨s, hs, rfl⟩))
theorem overF_side {l : List Sp} {d : List Int} {p : List Sp} (h : fsd l d = 0) (hp : chk p = 0) (hb : spb (fsl l d) p = true) :
    fsd p (sps (fsl l d) (pls p)).2 = 0 ∧ wio (fsl p (sps (fsl l d) (pls p)).2) 0 = wio (fsl l d) 0 := by
  have hall : (mrg (fsl l d) (pls p)).2 = [] := by
    unfold spb at hb
    rw [sps_eq, decide_eq_true_iff] at hb
    have := mrg_len (fsl l d) (pls p)
    simp only at hb
    exact List.eq_nil_of_length_eq_zero (by omega)
  rw [sps_eq]
  simp only
  have hv := mrg_vals (fsl l d) (pls p)
  have hz : ∀ z ∈ (mrg (fsl l d) (pls p)).1, rgt z = true := by
    intro z hz
    rcases hv.2 z hz with h1 | h1
    · rw [h1]; decide
    · have h2 : z ∈ snds (fsl l d) := h1
      rw [(fsl_zip h).2.2] at h2
      exact rgts_iff.1 (fsd_zero.1 h).2.2 z h2
  have h0 : fsd p (mrg (fsl l d) (pls p)).1 = 0 := fsd_zero.2 ⟨hp, by rw [hv.1], rgts_iff.2 hz⟩
  refine ⟨h0, ?_⟩
  rw [(fsl_zip h0).1]
  exact mrg_wio hall
theorem overF_ok {h : Fs} {p n : List Sp} (k : fce h = 0) (hp : chk p = 0) (hn : chk n = 0) (b1 : spb (fdp h) p = true) (b2 : spb (fdn h) n = true) : fce (fovs h p n) = 0 ∧ feq (fovs h p n) h = true := by
  have kz := fce_zero.1 k
  have e1 : fdp h = fsl h.P h.pd ∧ fdn h = fsl h.N h.nd := by unfold fdp fdn; rw [if_pos k, if_pos k]; exact ⟨rfl, rfl⟩
  rw [e1.1] at b1
  rw [e1.2] at b2
  have o1 := overF_side kz.2.1 hp b1
  have o2 := overF_side kz.2.2 hn b2
  have hc : fce (fovs h p n) = 0 := by
    rw [fce_zero]
    unfold fovs
    rw [e1.1, e1.2]
    exact ⟨kz.1, o1.1, o2.1⟩
  refine ⟨hc, ?_⟩
  have s1 : fdp (fovs h p n) = fsl p (sps (fdp h) (pls p)).2 ∧ fdn (fovs h p n) = fsl n (sps (fdn h) (pls n)).2 := by unfold fdp fdn; rw [if_pos hc, if_pos hc]; exact ⟨rfl, rfl⟩
  unfold feq
  rw [decide_eq_true_iff, s1.1, s1.2]
  refine ⟨hc, k, rfl, rfl, rfl, rfl, rfl, ?_, ?_⟩
  · rw [e1.1]; exact o1.2
  · rw [e1.2]; exact o2.2
theorem fovh_len {h : Fs} {p n : List Sp} (hp : p.length ≤ 1024) (hn : n.length ≤ 1024) : (fovh h p n).P.length ≤ 1024 ∧ (fovh h p n).N.length ≤ 1024 := by
  unfold fovh
  split
  · exact ⟨hp, hn⟩
  · exact ⟨by simp [fzero], by simp [fzero]⟩

set_option maxHeartbeats 4000000 in
theorem within10_any (v u : Value) (a b : List Sp) (w : World) (h1 : SSrc w v a) (h2 : SSrc w u b) (ka : chk a = 0) (kb : chk b = 0) :
    Calls Try.prog 35 #[v, u] w fun e w' => e = .returned (.bool (wth (pls a) (pls b))) ∧ Fr [] w w' := by
  have H1 : Hid (∀ wx, Fr [] w wx → SSrc wx v a) := fun wx hx => h1.kept hx
  have H2 : Hid (SSrc w u b) := h2
  have HK : Hid (chk a = 0 ∧ chk b = 0) := ⟨ka, kb⟩
  have HL : Hid (a.length ≤ 1024 ∧ b.length ≤ 1024) := ⟨(chk_zero.1 ka).1, (chk_zero.1 kb).1⟩
  have HB : Hid (∀ s ∈ b, in64 s.1 ∧ in64 s.2) := by obtain ⟨_, _, _, _, _, h64, _⟩ := h2; exact h64
  have HA : Hid (∀ s ∈ a, in64 s.1 ∧ in64 s.2) := by obtain ⟨_, _, _, _, _, h64, _⟩ := h1; exact h64
  clear h1 h2 ka kb
  go_enter Try.func35, Try.ntmps35
  go_wp2_with fail
  refine (spans10_any _ b w H2.out HL.out.2).mono ?_
  rintro e w1 ⟨x1, rfl, hx1, hf1⟩
  have HX1 : Hid (SSrc w1 x1 b) := hx1.src HB.out
  have HF1 : Hid (Fr [] w w1) := hf1
  clear hx1 hf1
  go_wp2_with fail
  refine (lplaces_any _ b w1 HX1.out HK.out.2).mono ?_
  rintro e w2 ⟨y2, rfl, hy2, hf2⟩
  have HY2 : Hid (ISrc w2 y2 (pls b)) := IOwn.src hy2 (pls_in64 (l := b))
  have HF2 : Hid (Fr [] w w2) := HF1.out.trans hf2 (by simp)
  clear hy2 hf2 HX1 HF1
  go_wp2_with fail
  refine (spans10_any _ a w2 (H1.out _ HF2.out) HL.out.1).mono ?_
  rintro e w3 ⟨x3, rfl, hx3, hf3⟩
  have HX3 : Hid (SSrc w3 x3 a) := hx3.src HA.out
  have HY3 : Hid (ISrc w3 y2 (pls b)) := HY2.out.kept hf3
  have HF3 : Hid (Fr [] w w3) := HF2.out.trans hf3 (by simp)
  clear hx3 hf3 HY2 HF2
  go_wp2_with fail
  refine (lplaces_any _ a w3 HX3.out HK.out.1).mono ?_
  rintro e w4 ⟨y4, rfl, hy4, hf4⟩
  have HY4 : Hid (ISrc w4 y4 (pls a)) := IOwn.src hy4 (pls_in64 (l := a))
  have HY : Hid (ISrc w4 y2 (pls b)) := HY3.out.kept hf4
  have HF4 : Hid (Fr [] w w4) := HF3.out.trans hf4 (by simp)
  clear hy4 hf4 HX3 HF3 HY3
  go_wp2_with fail
  refine (lmerge_any _ _ (pls a) (pls b) w4 HY4.out HY.out (by have := pls_le a; have := pls_le b; omega)).mono ?_
  rintro e w5 ⟨y5, rfl, hy5, hf5⟩
  have HY5 : Hid (ISrc w5 y5 (uni (pls a) (pls b))) := IOwn.src hy5 (uni_in a b)
  have HF5 : Hid (Fr [] w w5) := HF4.out.trans hf5 (by simp)
  have HY6 : Hid (ISrc w5 y2 (pls b)) := HY.out.kept hf5
  clear hy5 hf5 HF4 HY4 HY
  obtain ⟨c1, d1, rfl, _⟩ := HY5.out
  obtain ⟨c2, d2, rfl, _⟩ := HY6.out
  have HE : Hid ((((uni (pls a) (pls b)).length : Int) == ((pls b).length : Int)) = wth (pls a) (pls b)) := uni_pls a b
  generalize uni (pls a) (pls b) = U at *
  go_wp2
  go_ret
  exact ⟨by rw [HE.out]; rfl, HF5.out⟩
end Go.Proofs.Ytoaibabkkphlaaa
