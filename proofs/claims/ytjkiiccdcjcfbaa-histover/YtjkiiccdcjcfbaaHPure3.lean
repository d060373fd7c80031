/-
  Histograms of whole counts: on other places, which have all of its own, a right one counts the same.
-/
import Derived.Test.YtjkiiccdcjcfbaaHPure2
namespace Go.Proofs.Ytjkiiccdcjcfbaa
open Go.RowKit Mem Spans
set_option linter.unusedSimpArgs false
set_option linter.unusedVariables false

/-- Counts laid on places: they, and which of the own ones were not met. -/
def mrg : List Sp → List Int → List Int × List Sp
  | o, [] => ([], o)
  | [], _ :: ps => (0 :: (mrg [] ps).1, (mrg [] ps).2)
  | s :: r, p :: ps => if s.1 = p then (s.2 :: (mrg r ps).1, (mrg r ps).2) else (0 :: (mrg (s :: r) ps).1, (mrg (s :: r) ps).2)
theorem mrg_len (o : List Sp) (ps : List Int) : (mrg o ps).2.length ≤ o.length := by
  induction ps generalizing o with
  | nil => cases o <;> simp [mrg]
  | cons p ps ih =>
    cases o with
    | nil => simpa [mrg] using ih []
    | cons s r =>
      simp only [mrg]
      split
      · have := ih r; simp only [List.length_cons]; omega
      · exact ih (s :: r)
theorem sps_mrg (o : List Sp) (ps : List Int) (k : Nat) (acc : List Int) (hk : k ≤ o.length) : ps.foldl (spt o) (k, acc) = (o.length - (mrg (o.drop k) ps).2.length, acc ++ (mrg (o.drop k) ps).1) := by
  induction ps generalizing k acc with
  | nil => simp [mrg]; omega
  | cons p ps ih =>
    rw [List.foldl_cons]
    by_cases hlt : k < o.length
    · obtain ⟨s, hs⟩ := at_lt hlt
      have hd := drop_at hs
      by_cases hsp : s.1 = p
      · rw [spt_hit (st := (k, acc)) hs hsp, ih _ _ (by omega), hd]
        simp only [mrg]
        rw [if_pos hsp]
        simp
      · rw [spt_miss (st := (k, acc)) (fun t ht => by simp only at ht; rw [hs] at ht; cases ht; exact hsp), ih _ _ hk, hd]
        simp only [mrg]
        rw [if_neg hsp]
        simp
    · have hd : o.drop k = [] := List.drop_eq_nil_of_le (by omega)
      rw [spt_miss (st := (k, acc)) (fun t ht => by have := (List.getElem?_eq_some_iff.1 ht).1; simp only at this; omega), ih _ _ hk, hd]
      simp [mrg]
theorem sps_eq (o : List Sp) (ps : List Int) : sps o ps = (o.length - (mrg o ps).2.length, (mrg o ps).1) := by
  have := sps_mrg o ps 0 [] (Nat.zero_le _)
  simpa [sps] using this
theorem mrg_vals (o : List Sp) (ps : List Int) : (mrg o ps).1.length = ps.length ∧ ∀ z ∈ (mrg o ps).1, z = 0 ∨ z ∈ snds o := by
  induction ps generalizing o with
  | nil => cases o <;> simp [mrg]
  | cons p ps ih =>
    cases o with
    | nil =>
      have := ih []
      simp only [mrg, List.length_cons]
      refine ⟨by omega, fun z hz => ?_⟩
      rcases List.mem_cons.1 hz with h | h
      · exact .inl h
      · exact this.2 z h
    | cons s r =>
      simp only [mrg]
      split
      · have := ih r
        refine ⟨by simp only [List.length_cons]; omega, fun z hz => ?_⟩
        rcases List.mem_cons.1 hz with h | h
        · exact .inr (by rw [h]; simp [snds])
        · rcases this.2 z h with h1 | h1
          · exact .inl h1
          · exact .inr (by simp only [snds, List.map_cons, List.mem_cons]; exact .inr h1)
      · have := ih (s :: r)
        refine ⟨by simp only [List.length_cons]; omega, fun z hz => ?_⟩
        rcases List.mem_cons.1 hz with h | h
        · exact .inl h
        · exact this.2 z h
theorem mrg_all {o : List Sp} {ps : List Int} (ho : up o) (hp : ps.Pairwise (· < ·)) : (mrg o ps).2 = [] ↔ ∀ s ∈ o, s.1 ∈ ps := by
  induction ps generalizing o with
  | nil =>
    cases o with
    | nil => simp [mrg]
    | cons s r =>
      simp only [mrg]
      constructor
      · intro h; cases h
      · intro h; exact absurd (h s (by simp)) (by simp)
  | cons p ps ih =>
    rw [List.pairwise_cons] at hp
    cases o with
    | nil =>
      simp only [mrg]
      rw [ih (o := []) List.Pairwise.nil hp.2]
      simp
    | cons s r =>
      have ho2 := ho
      unfold up at ho2
      rw [List.pairwise_cons] at ho2
      simp only [mrg]
      split
      · rename_i h
        rw [ih (o := r) ho2.2 hp.2]
        constructor
        · intro k t ht
          rcases List.mem_cons.1 ht with h1 | h1
          · rw [h1, h]; simp
          · exact List.mem_cons_of_mem _ (k t h1)
        · intro k t ht
          rcases List.mem_cons.1 (k t (List.mem_cons_of_mem _ ht)) with h1 | h1
          · have := ho2.1 t ht; omega
          · exact h1
      · rename_i h
        rw [ih (o := s :: r) ho hp.2]
        constructor
        · intro k t ht; exact List.mem_cons_of_mem _ (k t ht)
        · intro k t ht
          have hs : s.1 ∈ ps := by
            rcases List.mem_cons.1 (k s (by simp)) with h1 | h1
            · exact absurd h1 h
            · exact h1
          rcases List.mem_cons.1 (k t ht) with h1 | h1
          · have h2 := hp.1 s.1 hs
            rcases List.mem_cons.1 ht with h3 | h3
            · rw [h3] at h1; exact absurd h1 h
            · have := ho2.1 t h3; omega
          · exact h1
theorem mrg_wio {o : List Sp} {ps : List Int} (h : (mrg o ps).2 = []) : wio (ps.zip (mrg o ps).1) 0 = wio o 0 := by
  induction ps generalizing o with
  | nil =>
    cases o with
    | nil => rfl
    | cons s r => simp only [mrg] at h; cases h
  | cons p ps ih =>
    cases o with
    | nil =>
      simp only [mrg, List.zip_cons_cons] at h ⊢
      have := ih h
      unfold wio at this ⊢
      rw [List.filter_cons_of_neg (by simp)]
      exact this
    | cons s r =>
      simp only [mrg] at h ⊢
      split at h
      · rename_i hs
        rw [if_pos hs, List.zip_cons_cons, show (p, s.2) = s from Prod.ext hs.symm rfl]
        have := ih h
        unfold wio at this ⊢
        by_cases h0 : s.2 = 0
        · rw [List.filter_cons_of_neg (by simp [h0]), List.filter_cons_of_neg (by simp [h0])]; exact this
        · rw [List.filter_cons_of_pos (by simp [h0]), List.filter_cons_of_pos (by simp [h0]), this]
      · rename_i hs
        rw [if_neg hs, List.zip_cons_cons]
        have := ih h
        unfold wio at this ⊢
        rw [List.filter_cons_of_neg (by simp)]
        exact this
theorem snds_zip {ps vs : List Int} (h : vs.length = ps.length) : snds (ps.zip vs) = vs := by unfold snds; exact List.map_snd_zip (by omega)
/-- Have spans all places? -/
theorem spb_iff {l : List Sp} {d : List Int} {p : List Sp} : spb (sdl l d) p = true ↔ ∀ s ∈ sdl l d, s.1 ∈ pls p := by
  unfold spb
  rw [sps_eq, decide_eq_true_iff]
  rw [← mrg_all (sdl_up l d) (rises_pair (pls_rises p))]
  have := mrg_len (sdl l d) (pls p)
  simp only
  constructor
  · intro h; exact List.eq_nil_of_length_eq_zero (by omega)
  · intro h; rw [h]; simp
def wth (xs ys : List Int) : Bool := xs.all fun x => decide (x ∈ ys)
theorem spb_wth {l : List Sp} {d : List Int} {p : List Sp} (h : sde l d = 0) : spb (sdl l d) p = wth (pls l) (pls p) := by
  rw [Bool.eq_iff_iff, spb_iff]
  unfold wth
  rw [List.all_eq_true, ← (sdl_zip h).2.1]
  constructor
  · intro k x hx
    obtain ⟨s, hs, rfl⟩ := List.mem_map.1 hx
    exact decide_eq_true (k s hs)
  · intro k s hs
    exact of_decide_eq_true (k s.1 (List.mem_map.2 ⟨s, hs, rfl⟩))
/-- One side on other places. -/
theorem over_side {l : List Sp} {d : List Int} {p : List Sp} (h : sde l d = 0) (hp : chk p = 0) (hb : spb (sdl l d) p = true) :
    sde p (dlv (sps (sdl l d) (pls p)).2) = 0 ∧ wio (sdl p (dlv (sps (sdl l d) (pls p)).2)) 0 = wio (sdl l d) 0 ∧ abv (dlv (sps (sdl l d) (pls p)).2) = (sps (sdl l d) (pls p)).2 := by
  have hall : (mrg (sdl l d) (pls p)).2 = [] := (mrg_all (sdl_up l d) (rises_pair (pls_rises p))).2 (spb_iff.1 hb)
  rw [sps_eq]
  simp only
  have hv := mrg_vals (sdl l d) (pls p)
  have hz : ∀ z ∈ (mrg (sdl l d) (pls p)).1, 0 ≤ z ∧ in64 z := by
    intro z hz
    rcases hv.2 z hz with h1 | h1
    · rw [h1]; unfold in64; omega
    · obtain ⟨s, hs, rfl⟩ := List.mem_map.1 h1
      exact abv_nn h s hs
  have kd := dlv_ab (dle_up hz) (fun z hz2 => (hz z hz2).2)
  have h0 : sde p (dlv (mrg (sdl l d) (pls p)).1) = 0 := sde_zero.2 ⟨hp, by rw [kd.2.2]; exact hv.1, kd.1, by rw [kd.2.1]; exact nng_iff.2 (fun z hz2 => (hz z hz2).1)⟩
  refine ⟨h0, ?_, kd.2.1⟩
  rw [(sdl_zip h0).1, kd.2.1]
  exact mrg_wio hall
theorem nn_abv {l : List Sp} {d : List Int} (h : sde l d = 0) : ∀ z ∈ abv d, 0 ≤ z := nng_iff.1 (sde_zero.1 h).2.2.2
theorem fts_wio {l l2 m m2 : List Sp} {d d2 e e2 : List Int} {zc c sm : Int} (h1 : sde l d = 0) (h2 : sde l2 d2 = 0) (h3 : sde m e = 0) (h4 : sde m2 e2 = 0) (w1 : wio (sdl l2 d2) 0 = wio (sdl l d) 0) (w2 : wio (sdl m2 e2) 0 = wio (sdl m e) 0) :
    fts zc c sm (abv d2) (abv e2) = fts zc c sm (abv d) (abv e) := by
  unfold fts
  by_cases hzc : zc ≤ c
  · have f1 : ∀ {a b : List Int} (x : Int), 0 ≤ x → (∀ z ∈ a, 0 ≤ z) → (∀ z ∈ b, 0 ≤ z) → lft x (a ++ b) = lft x ((a.filter fun z => !decide (z = 0)) ++ (b.filter fun z => !decide (z = 0))) := by
      intro a b x hx ha hb
      rw [← List.filter_append, lft_drop0 hx (by
        intro z hz
        rcases List.mem_append.1 hz with k | k
        · exact ha z k
        · exact hb z k)]
    have g : ∀ {l : List Sp} {d : List Int}, sde l d = 0 → ((abv d).filter fun z => !decide (z = 0)) = snds (wio (sdl l d) 0) := by
      intro l d h
      rw [snds_wio, (sdl_zip h).2.2]
    rw [f1 _ (by omega) (nn_abv h2) (nn_abv h4), f1 _ (by omega) (nn_abv h1) (nn_abv h3), g h1, g h2, g h3, g h4, w1, w2]
  · rw [decide_eq_false hzc]
    rfl
theorem over_ok {h : Hs} {p n : List Sp} (k : che h = 0) (hp : chk p = 0) (hn : chk n = 0) (b1 : spb (sdp h) p = true) (b2 : spb (sdn h) n = true) : che (ovs h p n) = 0 ∧ heq (ovs h p n) h = true := by
  have kz := che_zero.1 k
  have e1 : sdp h = sdl h.P h.pd ∧ sdn h = sdl h.N h.nd := by unfold sdp sdn; rw [if_pos k, if_pos k]; exact ⟨rfl, rfl⟩
  rw [e1.1] at b1
  rw [e1.2] at b2
  have o1 := over_side kz.2.1 hp b1
  have o2 := over_side kz.2.2.1 hn b2
  have hc : che (ovs h p n) = 0 := by
    rw [che_zero]
    unfold ovs
    rw [e1.1, e1.2]
    refine ⟨kz.1, o1.1, o2.1, ?_⟩
    rw [fts_wio kz.2.1 o1.1 kz.2.2.1 o2.1 o1.2.1 o2.2.1]
    exact kz.2.2.2
  refine ⟨hc, ?_⟩
  have s1 : sdp (ovs h p n) = sdl p (dlv (sps (sdp h) (pls p)).2) ∧ sdn (ovs h p n) = sdl n (dlv (sps (sdn h) (pls n)).2) := by unfold sdp sdn; rw [if_pos hc, if_pos hc]; exact ⟨rfl, rfl⟩
  unfold heq
  rw [decide_eq_true_iff, s1.1, s1.2]
  refine ⟨hc, k, rfl, rfl, rfl, rfl, rfl, ?_, ?_⟩
  · rw [e1.1]; exact o1.2.1
  · rw [e1.2]; exact o2.2.1
end Go.Proofs.Ytjkiiccdcjcfbaa
