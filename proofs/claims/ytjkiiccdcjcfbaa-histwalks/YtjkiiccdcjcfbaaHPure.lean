/-
  Histograms of whole counts: the document's Equal is Equal.
-/
import Derived.Test.YtjkiiccdcjcfbaaRef9E
namespace Go.Proofs.Ytjkiiccdcjcfbaa
open Go.RowKit Mem Spans
set_option linter.unusedSimpArgs false
set_option linter.unusedVariables false

/-- Places that rise. -/
def up (l : List Sp) : Prop := l.Pairwise fun s t => s.1 < t.1
theorem up_fsts {l : List Sp} : up l ↔ (fsts l).Pairwise (· < ·) := by unfold up fsts; rw [List.pairwise_map]
theorem sdl_up (l : List Sp) (d : List Int) : up (sdl l d) := by
  by_cases h : sde l d = 0
  · rw [up_fsts, (sdl_zip h).2.1]; exact rises_pair (pls_rises l)
  · unfold sdl; rw [if_neg h]; exact List.Pairwise.nil
theorem up_wio {l : List Sp} {z : Int} (h : up l) : up (wio l z) := List.Pairwise.filter _ h
theorem up_ext {A B : List Sp} (hA : up A) (hB : up B) (h : ∀ s, s ∈ A ↔ s ∈ B) : A = B := by
  induction A generalizing B with
  | nil =>
    cases B with
    | nil => rfl
    | cons b r => exact absurd ((h b).2 (by simp)) (by simp)
  | cons a r ih =>
    cases B with
    | nil => exact absurd ((h a).1 (by simp)) (by simp)
    | cons b q =>
      unfold up at hA hB
      rw [List.pairwise_cons] at hA hB
      have hab : a = b := by
        rcases List.mem_cons.1 ((h a).1 (by simp)) with h1 | h1
        · exact h1
        · rcases List.mem_cons.1 ((h b).2 (by simp)) with h2 | h2
          · exact h2.symm
          · have := hA.1 b h2
            have := hB.1 a h1
            omega
      subst hab
      congr 1
      refine ih hA.2 hB.2 fun s => ?_
      constructor
      · intro hs
        rcases List.mem_cons.1 ((h s).1 (List.mem_cons_of_mem _ hs)) with h1 | h1
        · have := hA.1 s hs; rw [h1] at this; omega
        · exact h1
      · intro hs
        rcases List.mem_cons.1 ((h s).2 (List.mem_cons_of_mem _ hs)) with h1 | h1
        · have := hB.1 s hs; rw [h1] at this; omega
        · exact h1
theorem alk_out {l : List Sp} {p : Int} (h : ∀ s ∈ l, s.1 ≠ p) : alk (fsts l) (snds l) p = 0 := by
  induction l with
  | nil => rfl
  | cons a r ih =>
    show (if a.1 = p then a.2 else alk (fsts r) (snds r) p) = 0
    rw [if_neg (h a (by simp))]
    exact ih fun s hs => h s (by simp [hs])
theorem alk_mem {l : List Sp} {s : Sp} (h : up l) (hs : s ∈ l) : alk (fsts l) (snds l) s.1 = s.2 := by
  induction l with
  | nil => simp at hs
  | cons a r ih =>
    unfold up at h
    rw [List.pairwise_cons] at h
    show (if a.1 = s.1 then a.2 else alk (fsts r) (snds r) s.1) = s.2
    rcases List.mem_cons.1 hs with h1 | h1
    · rw [h1, if_pos rfl]
    · have := h.1 s h1
      rw [if_neg (by omega)]
      exact ih h.2 h1
theorem zip_self (l : List Sp) : (fsts l).zip (snds l) = l := by
  induction l with
  | nil => rfl
  | cons a r ih => show (a.1, a.2) :: ((fsts r).zip (snds r)) = a :: r; rw [ih]
theorem hlf_iff {A : List Sp} {qs ns : List Int} : hlf (fsts A) (snds A) qs ns = true ↔ ∀ s ∈ A, s.2 = alk qs ns s.1 := by
  unfold hlf
  rw [zip_self, List.all_eq_true]
  simp
theorem alk_wio {A B : List Sp} (hA : up A) (hB : up B) (e : wio A 0 = wio B 0) {s : Sp} (hs : s ∈ A) : s.2 = alk (fsts B) (snds B) s.1 := by
  by_cases h : ∃ t ∈ B, t.1 = s.1
  · obtain ⟨t, ht, hts⟩ := h
    rw [← hts, alk_mem hB ht]
    by_cases h0 : s.2 = 0
    · by_cases h1 : t.2 = 0
      · omega
      · have h2 : t ∈ wio A 0 := by rw [e]; exact wio_mem.2 ⟨ht, h1⟩
        have h3 := alk_mem hA (wio_mem.1 h2).1
        have h4 := alk_mem hA hs
        rw [hts] at h3
        omega
    · have h2 : s ∈ wio B 0 := by rw [← e]; exact wio_mem.2 ⟨hs, h0⟩
      have h3 := alk_mem hB (wio_mem.1 h2).1
      have h4 := alk_mem hB ht
      rw [hts] at h4
      omega
  · have hn : ∀ t ∈ B, t.1 ≠ s.1 := fun t ht e2 => h ⟨t, ht, e2⟩
    rw [alk_out hn]
    refine Classical.byContradiction fun h0 => ?_
    have h2 : s ∈ wio B 0 := by rw [← e]; exact wio_mem.2 ⟨hs, h0⟩
    exact hn s (wio_mem.1 h2).1 rfl
theorem smb_wio {A B : List Sp} (hA : up A) (hB : up B) : smb (fsts A) (snds A) (fsts B) (snds B) = decide (wio A 0 = wio B 0) := by
  rw [Bool.eq_iff_iff, decide_eq_true_iff]
  unfold smb
  rw [Bool.and_eq_true, hlf_iff, hlf_iff]
  constructor
  · rintro ⟨h1, h2⟩
    have one : ∀ {A B : List Sp}, (∀ s ∈ A, s.2 = alk (fsts B) (snds B) s.1) → up B → ∀ s ∈ wio A 0, s ∈ wio B 0 := by
      intro A B h hB s hs
      obtain ⟨hs1, hs2⟩ := wio_mem.1 hs
      have e := h s hs1
      by_cases hm : ∃ t ∈ B, t.1 = s.1
      · obtain ⟨t, ht, hts⟩ := hm
        have h3 := alk_mem hB ht
        rw [hts, ← e] at h3
        have : s = t := Prod.ext hts.symm h3
        rw [this] at hs2 ⊢
        exact wio_mem.2 ⟨ht, hs2⟩
      · rw [alk_out (fun t ht e2 => hm ⟨t, ht, e2⟩)] at e
        exact absurd e hs2
    exact up_ext (up_wio hA) (up_wio hB) fun s => ⟨one h1 hB s, one h2 hA s⟩
  · intro e
    exact ⟨fun s hs => alk_wio hA hB e hs, fun s hs => alk_wio hB hA e.symm hs⟩
theorem spl_sdl {l : List Sp} {d : List Int} (h : sde l d = 0) : spl l d = fsts (sdl l d) ∧ svl l d = snds (sdl l d) := by
  have := sdl_zip h
  unfold spl svl
  rw [if_pos h, if_pos h]
  exact ⟨this.2.1.symm, this.2.2.symm⟩
theorem req_heq (a b : Hs) : req a b = heq a b := by
  by_cases h : che a = 0 ∧ che b = 0
  · obtain ⟨h1, h2⟩ := h
    have k1 := che_zero.1 h1
    have k2 := che_zero.1 h2
    have e1 : sdp a = sdl a.P a.pd ∧ sdn a = sdl a.N a.nd := by unfold sdp sdn; rw [if_pos h1, if_pos h1]; exact ⟨rfl, rfl⟩
    have e2 : sdp b = sdl b.P b.pd ∧ sdn b = sdl b.N b.nd := by unfold sdp sdn; rw [if_pos h2, if_pos h2]; exact ⟨rfl, rfl⟩
    have e3 : smx a b = decide (wio (sdp a) 0 = wio (sdp b) 0 ∧ wio (sdn a) 0 = wio (sdn b) 0) := by
      unfold smx
      rw [(spl_sdl k1.2.1).1, (spl_sdl k1.2.1).2, (spl_sdl k1.2.2.1).1, (spl_sdl k1.2.2.1).2, (spl_sdl k2.2.1).1, (spl_sdl k2.2.1).2, (spl_sdl k2.2.2.1).1, (spl_sdl k2.2.2.1).2, smb_wio (sdl_up _ _) (sdl_up _ _), smb_wio (sdl_up _ _) (sdl_up _ _), e1.1, e1.2, e2.1, e2.2]
      rw [Bool.eq_iff_iff]; simp
    unfold req heq
    rw [e3, Bool.eq_iff_iff]
    simp only [Bool.and_eq_true, decide_eq_true_eq]
    constructor
    · rintro ⟨⟨p1, p2, p3, p4, p5, p6, p7⟩, p8, p9⟩; exact ⟨p1, p2, p3, p4, p5, p6, p7, p8, p9⟩
    · rintro ⟨p1, p2, p3, p4, p5, p6, p7, p8, p9⟩; exact ⟨⟨p1, p2, p3, p4, p5, p6, p7⟩, p8, p9⟩
  · unfold req heq
    rw [decide_eq_false (fun k => h ⟨k.1, k.2.1⟩), decide_eq_false (fun k => h ⟨k.1, k.2.1⟩)]
    rfl
theorem heq_comm (a b : Hs) : heq b a = heq a b := by
  unfold heq
  rw [decide_eq_decide]
  constructor <;> · rintro ⟨p1, p2, p3, p4, p5, p6, p7, p8, p9⟩; exact ⟨p2, p1, p3.symm, p4.symm, p5.symm, p6.symm, p7.symm, p8.symm, p9.symm⟩
theorem heq_self (a : Hs) : heq a a = (che a == 0) := by
  unfold heq
  rw [Bool.eq_iff_iff, decide_eq_true_iff, beq_iff_eq]
  exact ⟨fun h => h.1, fun h => ⟨h, h, rfl, rfl, rfl, rfl, rfl, rfl, rfl⟩⟩
end Go.Proofs.Ytjkiiccdcjcfbaa
