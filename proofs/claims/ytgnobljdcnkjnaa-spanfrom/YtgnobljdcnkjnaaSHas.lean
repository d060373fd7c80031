/-
  Package span: Has.
-/
import Derived.Test.YtgnobljdcnkjnaaSPlaces
namespace Go.Proofs.Ytgnobljdcnkjnaa
open Go.RowKit Go.Shelf Mem Spans
set_option linter.unusedSimpArgs false
set_option linter.unusedVariables false
set_option maxRecDepth 100000
attribute [local go_sem] Oper.semAt_some

theorem has_met {l : List Sp} {place : Int} {ini : List (Int × Int)} {y : Int × Int} (hp : ini ++ [y] <+: tot l) (h1 : ∀ x ∈ ini, x.2 < place) (h2 : place ≤ y.2) : (place ∈ pls l) ↔ y.2 = place := by
  obtain ⟨t, ht⟩ := hp
  have e : pls l = sec ini ++ (y.2 :: sec t) := by
    have : sec (tot l) = pls l := prs_snd 0 (pls l)
    rw [← this, ← ht]
    simp [sec]
  have hr := rises_pair (pls_rises l)
  rw [e, List.pairwise_append, List.pairwise_cons] at hr
  rw [e]
  constructor
  · intro h
    rcases List.mem_append.1 h with h | h
    · obtain ⟨x, hx, rfl⟩ := List.mem_map.1 h
      have := h1 x hx
      omega
    · rcases List.mem_cons.1 h with h | h
      · exact h.symm
      · have := hr.2.1.1 place h
        omega
  · intro h
    rw [← h]
    simp
theorem has_none {l : List Sp} {place : Int} (h1 : ∀ x ∈ tot l, x.2 < place) : ¬ place ∈ pls l := by
  intro h
  have e : sec (tot l) = pls l := prs_snd 0 (pls l)
  rw [← e] at h
  obtain ⟨x, hx, e2⟩ := List.mem_map.1 h
  have := h1 x hx
  omega

set_option maxHeartbeats 2000000 in
theorem has_any (v : Value) (l : List Sp) (place : Int) (w : World) (h : SSrc w v l) :
    Calls Try.prog 16 #[v, .int .i64 place] w fun e w' => e = .returned (.bool (decide (place ∈ pls l))) ∧ Fr [] w w' := by
  have HSR : Hid (SSrc w v l) := h
  obtain ⟨ao, cap, rfl, hcap, hmax, _⟩ := h
  refine (callsIn_wide (n := 3)).1 ?_
  refine callsIn_of_wp_marks Try.func16 rfl trivial ?_ rfl
  simp only [Try.ntmps16, List.size_toArray, List.length_cons, List.length_nil, Nat.reduceAdd, Nat.reduceSub, Array.replicate_succ, Array.replicate_zero, List.push_toArray, List.append_toArray, List.nil_append, List.cons_append]
  gi_wp2_with fail
  refine ⟨trivial, (all_in _ _ _ _ _).mono ?_⟩
  rintro e w2 ⟨rfl, rfl⟩
  gi_wp2_with fail
  have bP := Boxed.new w 3 (.int .i64 place)
  have bR := Boxed.new (w.alloc (.cells #[.int .i64 place] 3)) 4 (.bool false)
  have bN := Boxed.new ((w.alloc (.cells #[.int .i64 place] 3)).alloc (.cells #[.bool false] 4)) 22 (.slice ao l.length cap)
  rw [World.size_alloc] at bR bN
  rw [World.size_alloc] at bN
  have hB0 : Below w.heap.size w (((w.alloc (.cells #[.int .i64 place] 3)).alloc (.cells #[.bool false] 4)).alloc (.cells #[.slice ao l.length cap] 22)) := (((Below.refl _ w).alloc (Nat.le_refl _) _).alloc (by simp) _).alloc (by simp; omega) _
  refine wpIn_rangeFunc_ownG rfl (by decide) (gf := 29) (lb := #[.pointer (some ⟨w.heap.size + 1 + 1, 0, none⟩)]) rfl trivial (enters_of Try.func29 (by kernel_rfl) rfl)
    (all_stops (3 - 1) (by decide) (w.heap.size + 1 + 1) _ l w _ HSR.out hB0 (by simp) bN.cell) belowK_t (belowK_b (by simp; omega)) (Below.refl _ _) (fun _ => rfl)
    (fun pre W => ((∀ x ∈ pre, x.2 < place) ∧ W.cell? ⟨w.heap.size, 0, none⟩ = some (.int .i64 place) ∧ W.cell? ⟨w.heap.size + 1, 0, none⟩ = some (.bool false) ∧ W.frozen? ⟨w.heap.size + 1, 0, none⟩ = false) ∧ Below w.heap.size w W)
    (fun c pre W => (c = .ret ∧ ∃ ini last, pre = ini ++ [last] ∧ (∀ x ∈ ini, x.2 < place) ∧ place ≤ last.2 ∧ W.cell? ⟨w.heap.size + 1, 0, none⟩ = some (.bool (last.2 == place))) ∧ Below w.heap.size w W)
    (OwnFrom.and (Own.from (fun s A B row hs hg hr => ⟨hs.1, cell_kept hs.2.1 hg hr, cell_kept hs.2.2.1 hg hr, (frozen_kept hs.2.2.1 hg hr).trans hs.2.2.2⟩) _) (ownFrom_below (Nat.le_refl _) (by simp; omega)))
    (fun c => OwnFrom.and (Own.from (fun s A B row hs hg hr => by obtain ⟨hc, ini, last, e1, e2, e3, e4⟩ := hs; exact ⟨hc, ini, last, e1, e2, e3, cell_kept e4 hg hr⟩) _) (ownFrom_below (Nat.le_refl _) (by simp; omega)))
    ⟨⟨by simp, ((bP.alloc _).alloc _).cell, (bR.alloc _).cell, (bR.alloc _).frozen⟩, hB0⟩
    (fun x => { tmps := #[.slice ao l.length cap, .int .i64 place, undef, .pointer (some ⟨w.heap.size, 0, none⟩), .pointer (some ⟨w.heap.size + 1, 0, none⟩), undef, .int .i64 x.2, .slice ao l.length cap, .func (.func 29) #[] #[.pointer (some ⟨w.heap.size + 1 + 1, 0, none⟩)], .int .i64 x.1, .int .i64 x.2, undef, undef, undef, undef, undef, undef], defers := [] }) ?assign ?body ?done ?stop
  case assign =>
    intro lp x W K hK
    gi_wp2
    exact hK
  case body =>
    rintro lp pre x W ⟨⟨hp, hcp, hcr, hfr⟩, hB⟩ _
    gi_wp2
    · have hx : place ≤ x.2 := by assumption
      exact ⟨(KeepsOthers.setCell _ _ _).from _, ⟨rfl, pre, x, rfl, hp, hx, World.cell?_setCell_same' _ _ _ (by rw [hcr]; rfl)⟩, hB.setCell (p := ⟨w.heap.size + 1, 0, none⟩) (by simp) _⟩
    · have hx : x.2 < place := by assumption
      exact ⟨KeepsFrom.refl _ _, Below.refl _ _, ⟨fun p hp' => (List.mem_append.1 hp').elim (hp p) (fun e => by simp at e; subst e; exact hx), hcp, hcr, hfr⟩, hB⟩
  case done =>
    rintro D ys W hD rfl ⟨⟨hne, hcp, hcr, hfr⟩, hB⟩ hK
    gi_wp2
    have hK' := (KeepsOthers.setCell W ⟨w.heap.size + 1, 0, none⟩ (.bool false)).same D _ hK rfl
    refine ⟨by simp, .inl ⟨_, _, rfl, run_takeDeferred hK', ?_⟩⟩
    have hc5 := cell_kept (World.cell?_setCell_same' W ⟨w.heap.size + 1, 0, none⟩ (.bool false) (by rw [hcr]; rfl)) (grownBy_putObj' _ D (.deferred none)) (fun r e => by cases e; exact ⟨_, hK', rfl⟩)
    refine ⟨.bool false, ?_, by rw [decide_eq_false (has_none hne)], Fr.ofBelow ((hB.setCell (p := ⟨w.heap.size + 1, 0, none⟩) (by simp) _).trans (belowK_b (w := w) (Nat.le_refl _) _ D _ _ (by simp at hD; omega) hK' rfl rfl))⟩
    simp [results, Try.f16, go_sem, hc5]
  case stop =>
    rintro D c pre W hD hpre ⟨⟨rfl, ini, last, rfl, e2, e3, hcr⟩, hB⟩ hK
    gi_wp2
    refine ⟨by simp, .inl ⟨_, _, rfl, run_takeDeferred hK, ?_⟩⟩
    have hc5 := cell_kept hcr (grownBy_putObj' _ D (.deferred none)) (fun r e => by cases e; exact ⟨_, hK, rfl⟩)
    refine ⟨.bool (last.2 == place), ?_, ?_, Fr.ofBelow (hB.trans (belowK_b (w := w) (Nat.le_refl _) W D _ _ (by simp at hD; omega) hK rfl rfl))⟩
    · simp [results, Try.f16, go_sem, hc5]
    · have := has_met hpre e2 e3
      congr 2
      by_cases hq : last.2 = place
      · rw [decide_eq_true (this.2 hq)]; simpa using hq
      · rw [decide_eq_false (fun h => hq (this.1 h))]; simpa using hq
end Go.Proofs.Ytgnobljdcnkjnaa
