/-
  Histograms of whole counts: what is made of places and counts has them; without empty buckets it counts the same.
-/
import Derived.Test.YtjkiiccdcjcfbaaHPure
import Derived.Test.YtjkiiccdcjcfbaaArgsS
namespace Go.Proofs.Ytjkiiccdcjcfbaa
open Go.RowKit Mem Spans
set_option linter.unusedSimpArgs false
set_option linter.unusedVariables false

theorem absl_dltl {a : Int} {l o : List Int} (h : dltl a l = some o) (hl : ∀ z ∈ l, in64 z) : absl a o = some l := by
  induction l generalizing a o with
  | nil => simp [dltl] at h; subst h; rfl
  | cons d r ih =>
    simp only [dltl] at h
    split at h
    · obtain ⟨t, h1, rfl⟩ := Option.map_eq_some_iff.1 h
      simp only [absl]
      rw [show a + (d - a) = d from by omega, if_pos (fits_iff.2 (hl d (by simp))), ih h1 (fun z hz => hl z (by simp [hz]))]
      rfl
    · cases h
theorem dltl_up {a : Int} {l : List Int} (ha : 0 ≤ a ∧ in64 a) (hl : ∀ z ∈ l, 0 ≤ z ∧ in64 z) : ∃ o, dltl a l = some o := by
  induction l generalizing a with
  | nil => exact ⟨[], rfl⟩
  | cons d r ih =>
    have hd := hl d (by simp)
    obtain ⟨o, ho⟩ := ih hd (fun z hz => hl z (by simp [hz]))
    refine ⟨(d - a) :: o, ?_⟩
    simp only [dltl]
    rw [if_pos (fits_iff.2 (by have h1 := ha.2; have h2 := hd.2; unfold in64 at h1 h2 ⊢; omega)), ho]
    rfl
theorem dle_zero {l : List Int} : dle l = 0 ↔ ∃ o, dltl 0 l = some o := by unfold dle; cases dltl 0 l <;> simp
theorem dle_up {l : List Int} (hl : ∀ z ∈ l, 0 ≤ z ∧ in64 z) : dle l = 0 := dle_zero.2 (dltl_up ⟨by omega, by unfold in64; omega⟩ hl)
theorem dlv_ab {l : List Int} (h : dle l = 0) (hl : ∀ z ∈ l, in64 z) : abe (dlv l) = 0 ∧ abv (dlv l) = l ∧ (dlv l).length = l.length := by
  obtain ⟨o, ho⟩ := dle_zero.1 h
  have e : dlv l = o := by unfold dlv; rw [ho]; rfl
  have k := absl_dltl ho hl
  rw [e]
  refine ⟨abe_zero.2 ⟨l, k⟩, by unfold abv; rw [k]; rfl, (dltl_in ho).1⟩
/-- What apart tells has these places and counts. -/
theorem ap_sde {l : List Sp} (h : ape l = 0) (hl : ∀ s ∈ l, in64 s.1 ∧ in64 s.2) : sde (aps l) (apd l) = (if nng (snds l) = true then 0 else 22) ∧ abv (apd l) = snds l ∧ pls (aps l) = fsts l ∧ cnn (aps l) = true := by
  have k := ape_zero.1 h
  have kf := frm_ok k.1
  have e1 : aps l = rns 0 (fsts l) := by unfold aps; rw [if_pos h]
  have e2 : apd l = dlv (snds l) := by unfold apd; rw [if_pos h]
  have hs : ∀ z ∈ snds l, in64 z := by
    intro z hz
    obtain ⟨s, hs, rfl⟩ := List.mem_map.1 hz
    exact (hl s hs).2
  have kd := dlv_ab k.2 hs
  have ep : pls (rns 0 (fsts l)) = fsts l := by unfold pls; rw [if_pos kf.1, kf.2.2]
  rw [e1, e2]
  refine ⟨?_, kd.2.1, ep, ?_⟩
  · unfold sde
    rw [if_pos kf.1, if_pos (by rw [ep, kd.2.2, fsts_length, snds_length]), if_pos kd.1, kd.2.1]
  · unfold cnn
    rw [decide_eq_true kf.1, (shpB_iff _ _).2 kf.2.1]
    rfl
theorem ap_sdl {l : List Sp} (h : ape l = 0) (hl : ∀ s ∈ l, in64 s.1 ∧ in64 s.2) (hn : nng (snds l) = true) : sdl (aps l) (apd l) = l := by
  have k := ap_sde h hl
  have h0 : sde (aps l) (apd l) = 0 := by rw [k.1, if_pos hn]
  rw [(sdl_zip h0).1, k.2.1, k.2.2.1, zip_self]
/-- Make's error, as the document has it. -/
def mka (h : Hs) (p n : List Sp) : Int :=
  if ape p = 0 then (if ape n = 0 then (if hde h.s h.z = 0 then (if nng (snds p) = true then (if nng (snds n) = true then fte h.zc h.c h.sm (snds p) (snds n) else 22) else 22) else hde h.s h.z) else ape n) else ape p
theorem mke_mka (h : Hs) {p n : List Sp} (hp : ∀ s ∈ p, in64 s.1 ∧ in64 s.2) (hn : ∀ s ∈ n, in64 s.1 ∧ in64 s.2) : mke h p n = mka h p n := by
  unfold mke mka
  by_cases h1 : ape p = 0
  · rw [if_pos h1, if_pos h1]
    by_cases h2 : ape n = 0
    · rw [if_pos h2, if_pos h2]
      have k1 := ap_sde h1 hp
      have k2 := ap_sde h2 hn
      by_cases h3 : hde h.s h.z = 0
      · rw [if_pos h3]
        by_cases h4 : nng (snds p) = true
        · rw [if_pos h4]
          by_cases h5 : nng (snds n) = true
          · rw [if_pos h5, che_fts (h := mks h p n) h3 (by show sde (aps p) (apd p) = 0; rw [k1.1, if_pos h4]) (by show sde (aps n) (apd n) = 0; rw [k2.1, if_pos h5])]
            show (if fts h.zc h.c h.sm (abv (apd p)) (abv (apd n)) = true then (0 : Int) else 22) = _
            rw [k1.2.1, k2.2.1]; rfl
          · rw [if_neg h5, che_neg (h := mks h p n) h3 (by show sde (aps p) (apd p) = 0; rw [k1.1, if_pos h4]) (by show sde (aps n) (apd n) ≠ 0; rw [k2.1, if_neg h5]; decide)]
            show sde (aps n) (apd n) = 22
            rw [k2.1, if_neg h5]
        · rw [if_neg h4, che_pos (h := mks h p n) h3 (by show sde (aps p) (apd p) ≠ 0; rw [k1.1, if_neg h4]; decide)]
          show sde (aps p) (apd p) = 22
          rw [k1.1, if_neg h4]
      · rw [if_neg h3, che_head (h := mks h p n) h3]; rfl
    · rw [if_neg h2, if_neg h2]
  · rw [if_neg h1, if_neg h1]
/-- What was made has just these places and counts. -/
theorem mks_sd {h : Hs} {p n : List Sp} (hp : ∀ s ∈ p, in64 s.1 ∧ in64 s.2) (hn : ∀ s ∈ n, in64 s.1 ∧ in64 s.2) (k : mke h p n = 0) : che (mks h p n) = 0 ∧ sdp (mks h p n) = p ∧ sdn (mks h p n) = n ∧ cnn (aps p) = true ∧ cnn (aps n) = true := by
  have kk := k
  rw [mke_mka h hp hn] at kk
  unfold mka at kk
  unfold mke at k
  split at kk
  · rename_i h1
    split at kk
    · rename_i h2
      split at kk
      · split at kk
        · rename_i h4
          split at kk
          · rename_i h5
            rw [if_pos h1, if_pos h2] at k
            refine ⟨k, ?_, ?_, (ap_sde h1 hp).2.2.2, (ap_sde h2 hn).2.2.2⟩
            · unfold sdp; rw [if_pos k]; exact ap_sdl h1 hp h4
            · unfold sdn; rw [if_pos k]; exact ap_sdl h2 hn h5
          · cases kk
        · cases kk
      · rename_i h3; exact absurd kk h3
    · rename_i h2; exact absurd kk h2
  · rename_i h1; exact absurd kk h1

theorem lft_drop0 {a : Int} {l : List Int} (ha : 0 ≤ a) (hl : ∀ z ∈ l, 0 ≤ z) : lft a (l.filter fun z => !decide (z = 0)) = lft a l := by
  induction l generalizing a with
  | nil => rfl
  | cons d r ih =>
    have hd := hl d (by simp)
    have hr : ∀ z ∈ r, 0 ≤ z := fun z hz => hl z (by simp [hz])
    by_cases h0 : d = 0
    · subst h0
      rw [List.filter_cons_of_neg (by simp), lft_cons, if_pos ha, Int.sub_zero]
      exact ih ha hr
    · rw [List.filter_cons_of_pos (by simpa using h0), lft_cons, lft_cons]
      by_cases h1 : d ≤ a
      · rw [if_pos h1, if_pos h1]; exact ih (by omega) hr
      · rw [if_neg h1, if_neg h1]
theorem snds_wio (l : List Sp) : snds (wio l 0) = (snds l).filter fun z => !decide (z = 0) := by
  unfold snds wio
  rw [List.filter_map]
  rfl
theorem wio_wio (l : List Sp) : wio (wio l 0) 0 = wio l 0 := by
  unfold wio
  rw [List.filter_filter]
  congr 1
  funext s
  simp
theorem abv_nn {l : List Sp} {d : List Int} (h : sde l d = 0) : ∀ s ∈ sdl l d, 0 ≤ s.2 ∧ in64 s.2 := by
  intro s hs
  refine ⟨?_, (sdl_in l d s hs).2⟩
  have h1 : s.2 ∈ snds (sdl l d) := List.mem_map.2 ⟨s, hs, rfl⟩
  rw [(sdl_zip h).2.2] at h1
  exact nng_iff.1 (sde_zero.1 h).2.2.2 _ h1
theorem sdl_ape {l : List Sp} {d : List Int} (h : sde l d = 0) (hl : (sdl l d).length ≤ 1024) : ape (wio (sdl l d) 0) = 0 ∧ nng (snds (wio (sdl l d) 0)) = true := by
  have hup := up_wio (z := 0) (sdl_up l d)
  have hlen := wio_le (sdl l d) 0
  constructor
  · refine ape_zero.2 ⟨frm_zero.2 ⟨?_, ?_, ?_⟩, ?_⟩
    · refine rises_of (up_fsts.1 hup) fun x hx => ?_
      obtain ⟨s, hs, rfl⟩ := List.mem_map.1 hx
      have h1 : s.1 ∈ fsts (sdl l d) := List.mem_map.2 ⟨s, (wio_mem.1 hs).1, rfl⟩
      rw [(sdl_zip h).2.1] at h1
      exact rises_mem (pls_rises l) s.1 h1
    · rw [fsts_length]; omega
    · rw [rns_runs]
      have := rn_le_length none (fsts (wio (sdl l d) 0))
      rw [fsts_length] at this
      omega
    · refine dle_up fun z hz => ?_
      obtain ⟨s, hs, rfl⟩ := List.mem_map.1 hz
      exact abv_nn h s (wio_mem.1 hs).1
  · rw [nng_iff]
    intro z hz
    obtain ⟨s, hs, rfl⟩ := List.mem_map.1 hz
    exact (abv_nn h s (wio_mem.1 hs).1).1
/-- Canon of what is right and has few buckets. -/
theorem canon_ok {h : Hs} (k : che h = 0) (hl : h.pd.length ≤ 300 ∧ h.nd.length ≤ 300) : cae h = 0 ∧ cah h = mks h (wio (sdp h) 0) (wio (sdn h) 0) ∧ che (mks h (wio (sdp h) 0) (wio (sdn h) 0)) = 0 ∧ sdp (mks h (wio (sdp h) 0) (wio (sdn h) 0)) = wio (sdp h) 0 ∧ sdn (mks h (wio (sdp h) 0) (wio (sdn h) 0)) = wio (sdn h) 0 ∧ cnn (aps (wio (sdp h) 0)) = true ∧ cnn (aps (wio (sdn h) 0)) = true := by
  have kz := che_zero.1 k
  have e1 : sdp h = sdl h.P h.pd ∧ sdn h = sdl h.N h.nd := by unfold sdp sdn; rw [if_pos k, if_pos k]; exact ⟨rfl, rfl⟩
  have len : ∀ {l : List Sp} {d : List Int}, sde l d = 0 → d.length ≤ 300 → (sdl l d).length ≤ 1024 := by
    intro l d h1 h2
    have h3 := congrArg List.length (sdl_zip h1).2.2
    rw [snds_length, abv_length (sde_zero.1 h1).2.2.1] at h3
    omega
  have a1 := sdl_ape kz.2.1 (len kz.2.1 hl.1)
  have a2 := sdl_ape kz.2.2.1 (len kz.2.2.1 hl.2)
  have i1 := wio_in (z := 0) (sdp_in h)
  have i2 := wio_in (z := 0) (sdn_in h)
  rw [← e1.1] at a1
  rw [← e1.2] at a2
  have hm : mke h (wio (sdp h) 0) (wio (sdn h) 0) = 0 := by
    rw [mke_mka h i1 i2]
    unfold mka
    rw [if_pos a1.1, if_pos a2.1, if_pos kz.1, if_pos a1.2, if_pos a2.2]
    have hf := kz.2.2.2
    unfold fte
    rw [if_pos]
    unfold fts at hf ⊢
    by_cases hzc : h.zc ≤ h.c
    · rw [snds_wio, snds_wio, ← List.filter_append, e1.1, e1.2, (sdl_zip kz.2.1).2.2, (sdl_zip kz.2.2.1).2.2]
      rw [lft_drop0 (by omega) (by
        intro z hz
        rcases List.mem_append.1 hz with h1 | h1
        · exact nng_iff.1 (sde_zero.1 kz.2.1).2.2.2 z h1
        · exact nng_iff.1 (sde_zero.1 kz.2.2.1).2.2.2 z h1)]
      exact hf
    · rw [decide_eq_false hzc] at hf; cases hf
  have hs := mks_sd i1 i2 hm
  refine ⟨by unfold cae; rw [if_pos k]; exact hm, ?_, hs⟩
  unfold cah mkh
  rw [if_pos k, if_pos hm]
theorem canon_twice {h : Hs} (k : che h = 0) (hl : h.pd.length ≤ 300 ∧ h.nd.length ≤ 300) : cae (cah h) = 0 ∧ cah (cah h) = cah h ∧ heq (cah h) h = true := by
  have c := canon_ok k hl
  have hm : mke (mks h (wio (sdp h) 0) (wio (sdn h) 0)) (wio (sdp h) 0) (wio (sdn h) 0) = 0 := by
    have h1 := c.1
    unfold cae at h1
    rw [if_pos k] at h1
    exact h1
  have e : cae (cah h) = 0 ∧ cah (cah h) = cah h := by
    rw [c.2.1]
    unfold cae cah
    rw [if_pos c.2.2.1, if_pos c.2.2.1, c.2.2.2.1, c.2.2.2.2.1, wio_wio, wio_wio]
    refine ⟨hm, ?_⟩
    unfold mkh
    rw [if_pos hm]
    rfl
  refine ⟨e.1, e.2, ?_⟩
  rw [c.2.1]
  unfold heq
  rw [decide_eq_true_iff, c.2.2.2.1, c.2.2.2.2.1, wio_wio, wio_wio]
  exact ⟨c.2.2.1, k, rfl, rfl, rfl, rfl, rfl, rfl, rfl⟩
end Go.Proofs.Ytjkiiccdcjcfbaa
