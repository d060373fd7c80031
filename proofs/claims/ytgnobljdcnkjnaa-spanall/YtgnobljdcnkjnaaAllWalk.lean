/-
  SpanAll: whatever list, and however far it is asked, the law returns true, and nothing is turned that was there.
-/
import Derived.Test.YtgnobljdcnkjnaaArgs6
namespace Go.Proofs.Ytgnobljdcnkjnaa
open Go.RowKit Go.Shelf Mem Spans
set_option linter.unusedSimpArgs false
set_option linter.unusedVariables false
set_option maxRecDepth 100000
attribute [local go_sem] Oper.semAt_some

theorem Boxed.fr {w w' : World} {B : Nat} {t : TypeId} {v : Value} (h : Boxed w B t v) (f : Fr [] w w') : Boxed w' B t v := f.heap h (by simp)

theorem IOwn.kept1 {B p : Nat} {w w' : World} {v : Value} {zs : List Int} (h : IOwn B w v zs) (f : Fr [p] w w') (hp : p < B) : IOwn B w' v zs := by
  rcases h with h | ⟨g, h1, h2, h3⟩
  · exact .inl h
  · exact .inr ⟨g, h1, h2, h3.kept f (by simp; omega)⟩

/-- A result in a cell, at the end. -/
theorem all_res {w : World} {B : Nat} {v : Value} (h : w.cell? ⟨B, 0, none⟩ = some v) (tmps : Array Value) (ht : tmps[4]?.getD undef = .pointer (some ⟨B, 0, none⟩)) : (results Try.f4 tmps).run Try.prog w = .ok v w := by
  simp [results, Try.f4, go_sem, ht, h]

set_option maxHeartbeats 4000000 in
theorem all_walk (a0 : Option Addr) (len0 cap0 : Nat) (z0 : List Sp) (a1 : Int) (w : World) (w0 : IsSpans w a0 len0 cap0 z0) (w1 : (Lit.int .i64 a1).wf = true) :
    Calls Try.prog 4 #[.slice a0 len0 cap0, .int .i64 a1] w fun e w' => e = .returned (.bool true) ∧ Below w.heap.size w w' := by
  obtain ⟨rfl, hsrc⟩ := w0
  have HS : Hid (SSrc w (.slice a0 z0.length cap0) z0) := hsrc
  have HZ : Hid (∀ s ∈ z0, in64 s.1 ∧ in64 s.2) := by obtain ⟨_, _, _, _, _, h, _⟩ := hsrc; exact h
  clear hsrc w1
  refine (callsIn_wide (n := 3)).1 ?_
  refine callsIn_of_wp_marks Try.func4 rfl trivial ?_ rfl
  simp only [Try.ntmps4, List.size_toArray, List.length_cons, List.length_nil, Nat.reduceAdd, Nat.reduceSub, Array.replicate_succ, Array.replicate_zero, List.push_toArray, List.append_toArray, List.nil_append, List.cons_append]
  gi_wp2_with fail
  obtain ⟨W0, hW0⟩ : ∃ W0, (w.alloc (.cells #[.int .i64 a1] 3)).alloc (.cells #[.bool false] 4) = W0 := ⟨_, rfl⟩
  have bS0 : Boxed W0 w.heap.size 3 (.int .i64 a1) := by rw [← hW0]; exact (Boxed.new w 3 (.int .i64 a1)).alloc _
  have bR0 : Boxed W0 (w.heap.size + 1) 4 (.bool false) := by
    rw [← hW0]
    have := Boxed.new (w.alloc (.cells #[.int .i64 a1] 3)) 4 (.bool false)
    rwa [World.size_alloc] at this
  have HF0 : Hid (Fr [] w W0) := by rw [Hid, ← hW0]; exact ((Fr.refl _ _).alloc _).alloc _
  rw [hW0]
  clear hW0
  refine ⟨trivial, (callsIn_wide.2 (small_any _ z0 W0 (HS.out.kept HF0.out))).mono ?_⟩
  rintro e w1 ⟨r, rfl, hr, hf1⟩
  have HF1 : Hid (Fr [] w w1) := HF0.out.trans hf1 (by simp)
  have bS1 := Boxed.fr bS0 hf1
  have bR1 := Boxed.fr bR0 hf1
  clear hf1 HF0 bS0 bR0
  cases r
  · gi_wp2_with fail
    refine ⟨trivial, ?_⟩
    gi_wp2_with fail
    refine ⟨trivial, (callsIn_wide.2 (awake_any w1)).mono ?_⟩
    rintro e w2 ⟨rfl, hf2⟩
    have HF2 : Hid (Fr [] w w2) := HF1.out.trans hf2 (by simp)
    have bR2 := Boxed.fr bR1 hf2
    have hc2 := bR2.cell
    have hz2 := bR2.frozen
    clear hf2
    gi_wp2
    exact ⟨_, all_res (World.cell?_setCell_same' _ _ _ (by rw [hc2]; rfl)) _ rfl, rfl, (HF2.out.setCell _ _ (.inr (by simp))).below (Nat.le_refl _) (by simp)⟩
  have hl0 := hr rfl
  clear hr
  gi_wp2_with fail
  refine ⟨trivial, (callsIn_wide.2 (awake_any w1)).mono ?_⟩
  rintro e w2 ⟨rfl, hf2⟩
  have HF2 : Hid (Fr [] w w2) := HF1.out.trans hf2 (by simp)
  have bS2 := Boxed.fr bS1 hf2
  have bR2 := Boxed.fr bR1 hf2
  have hcs := bS2.cell
  clear hf2 HF1 bS1 bR1
  by_cases hst : a1 < 1
  · have hc2 := bR2.cell
    have hz2 := bR2.frozen
    gi_wp2_with fail
    refine ⟨trivial, (callsIn_wide.2 (awake_any w2)).mono ?_⟩
    rintro e w3 ⟨rfl, hf3⟩
    have HF3 : Hid (Fr [] w w3) := HF2.out.trans hf3 (by simp)
    have bR3 := Boxed.fr bR2 hf3
    have hc3 := bR3.cell
    have hz3 := bR3.frozen
    clear hf3 hc2 hz2
    gi_wp2
    exact ⟨_, all_res (World.cell?_setCell_same' _ _ _ (by rw [hc3]; rfl)) _ rfl, rfl, (HF3.out.setCell _ _ (.inr (by simp))).below (Nat.le_refl _) (by simp)⟩
  have bP2 := Boxed.new w2 28 (.slice none 0 0)
  have bS3 := bS2.alloc (.cells #[.slice none 0 0] 28)
  have bR3 := bR2.alloc (.cells #[.slice none 0 0] 28)
  have HF3 : Hid (Fr [] w (w2.alloc (.cells #[.slice none 0 0] 28))) := HF2.out.alloc _
  have HZ2 : Hid (w.heap.size + 1 < w2.heap.size) := bR2.lt
  gi_wp2_with fail
  generalize w2.heap.size = P0 at *
  generalize w2.alloc (.cells #[.slice none 0 0] 28) = w3 at *
  clear HF2 bS2 bR2 hcs
  refine ⟨trivial, (callsIn_wide.2 (lref_any _ z0 w3 (HS.out.kept HF3.out) (by omega))).mono ?_⟩
  rintro e w4 ⟨ra, rfl, hra, hf4⟩
  have HF4 : Hid (Fr [] w w4) := HF3.out.trans hf4 (by simp)
  have HRA : Hid (SSrc w4 ra z0) := hra.src HZ.out
  have bS4 := Boxed.fr bS3 hf4
  have bR4 := Boxed.fr bR3 hf4
  have bP4 := Boxed.fr bP2 hf4
  clear hra hf4 HF3 bS3 bR3 bP2
  gi_wp2_with fail
  refine ⟨trivial, (callsIn_wide.2 (lcheck_any _ z0 w4 HRA.out)).mono ?_⟩
  rintro e w5 ⟨rfl, hf5⟩
  have HF5 : Hid (Fr [] w w5) := HF4.out.trans hf5 (by simp)
  have bS5 := Boxed.fr bS4 hf5
  have bR5 := Boxed.fr bR4 hf5
  have bP5 := Boxed.fr bP4 hf5
  clear hf5 HF4 HRA bS4 bR4 bP4
  by_cases hk : chk z0 = 0
  · have HK : Hid (chk z0 = 0) := hk
    rw [hk]
    clear hk
    gi_wp2_with fail
    refine ⟨trivial, (callsIn_wide.2 (lref_any _ z0 w5 (HS.out.kept HF5.out) (by omega))).mono ?_⟩
    rintro e w6 ⟨rb, rfl, hrb, hf6⟩
    have HF6 : Hid (Fr [] w w6) := HF5.out.trans hf6 (by simp)
    have HRB : Hid (SSrc w6 rb z0) := hrb.src HZ.out
    have bS6 := Boxed.fr bS5 hf6
    have bR6 := Boxed.fr bR5 hf6
    have bP6 := Boxed.fr bP5 hf6
    clear hrb hf6 HF5 bS5 bR5 bP5
    gi_wp2_with fail
    refine ⟨trivial, (callsIn_wide.2 (lplaces_any _ z0 w6 HRB.out HK.out)).mono ?_⟩
    rintro e w7 ⟨q, rfl, hq, hf7⟩
    have HF7 : Hid (Fr [] w w7) := HF6.out.trans hf7 (by simp)
    have HQ7 : Hid (IOwn w6.heap.size w7 q (pls z0)) := hq
    obtain ⟨aoq, capq, rfl⟩ := hq.val
    have bS7 := Boxed.fr bS6 hf7
    have bR7 := Boxed.fr bR6 hf7
    have bP7 := Boxed.fr bP6 hf7
    have hcp := bP7.cell
    have hzp := bP7.frozen
    have HPL : Hid (P0 < w6.heap.size) := bP6.lt
    have HP7 : Hid (P0 < w7.heap.size) := bP7.lt
    clear hq hf7 HF6 HRB bS6 bR6 bP6
    gi_wp2_with fail
    have frS : Fr [P0] w7 (w7.setCell ⟨P0, 0, none⟩ (.slice aoq (pls z0).length capq)) := (Fr.refl [P0] w7).setCell ⟨P0, 0, none⟩ _ (.inl (by simp))
    have szS : (w7.setCell ⟨P0, 0, none⟩ (.slice aoq (pls z0).length capq)).heap.size = w7.heap.size := by simp [World.setCell]
    have bS8 : Boxed ((w7.setCell ⟨P0, 0, none⟩ (.slice aoq (pls z0).length capq)).alloc (.cells #[.int .i64 0] 3)) w.heap.size 3 (.int .i64 a1) := Boxed.alloc (frS.heap bS7 (by have := HZ2.out; simp; omega)) _
    have bR8 : Boxed ((w7.setCell ⟨P0, 0, none⟩ (.slice aoq (pls z0).length capq)).alloc (.cells #[.int .i64 0] 3)) (w.heap.size + 1) 4 (.bool false) := Boxed.alloc (frS.heap bR7 (by have := HZ2.out; simp; omega)) _
    have bP8 : Boxed ((w7.setCell ⟨P0, 0, none⟩ (.slice aoq (pls z0).length capq)).alloc (.cells #[.int .i64 0] 3)) P0 28 (.slice aoq (pls z0).length capq) := Boxed.alloc (bP7.set _) _
    have bK8 : Boxed ((w7.setCell ⟨P0, 0, none⟩ (.slice aoq (pls z0).length capq)).alloc (.cells #[.int .i64 0] 3)) w7.heap.size 3 (.int .i64 0) := by
      have := Boxed.new (w7.setCell ⟨P0, 0, none⟩ (.slice aoq (pls z0).length capq)) 3 (.int .i64 0)
      rwa [szS] at this
    have HF8 : Hid (Fr [] w ((w7.setCell ⟨P0, 0, none⟩ (.slice aoq (pls z0).length capq)).alloc (.cells #[.int .i64 0] 3))) := (HF7.out.setCell ⟨P0, 0, none⟩ _ (.inr (by have := HZ2.out; simp; omega))).alloc _
    have sz8 : ((w7.setCell ⟨P0, 0, none⟩ (.slice aoq (pls z0).length capq)).alloc (.cells #[.int .i64 0] 3)).heap.size = w7.heap.size + 1 := by rw [World.size_alloc, szS]
    obtain ⟨b, off, hab, hcb⟩ : ∃ b off, (0 < (pls z0).length → aoq = some ⟨b, off, none⟩) ∧ ∀ j x, (pls z0)[j]? = some x → b < w7.heap.size ∧ ((w7.setCell ⟨P0, 0, none⟩ (.slice aoq (pls z0).length capq)).alloc (.cells #[.int .i64 0] 3)).cell? ⟨b, off + j, none⟩ = some (.int .i64 x) := by
      obtain ⟨_, _, e1, _, _, _, b, off, ha, hc⟩ := HQ7.out.src (pls_in z0)
      obtain ⟨_, _, e2, _, _, _, b', off', ha', hc'⟩ := ((HQ7.out.kept1 frS HPL.out).kept ((Fr.refl [] _).alloc (.cells #[.int .i64 0] 3))).src (pls_in z0)
      simp only [Value.slice.injEq, true_and] at e1 e2
      obtain ⟨rfl, rfl⟩ := e1
      obtain ⟨rfl, rfl⟩ := e2
      refine ⟨b', off', ha', fun j x hj => ⟨?_, hc' j x hj⟩⟩
      have hl : 0 < (pls z0).length := by have := (List.getElem?_eq_some_iff.1 hj).1; omega
      have e3 := (ha hl).symm.trans (ha' hl)
      simp at e3
      obtain ⟨rfl, rfl⟩ := e3
      exact World.block_lt_of_cell? w7 _ (hc j x hj)
    have HAB : Hid (0 < (pls z0).length → aoq = some ⟨b, off, none⟩) := hab
    generalize (w7.setCell ⟨P0, 0, none⟩ (.slice aoq (pls z0).length capq)).alloc (.cells #[.int .i64 0] 3) = w8 at *
    generalize w7.heap.size = K0 at *
    have HCB : Hid (∀ j x, (pls z0)[j]? = some x → b < K0 ∧ w8.cell? ⟨b, off + j, none⟩ = some (.int .i64 x)) := hcb
    have HSZ : Hid (w8.heap.size = K0 + 1) := sz8
    clear frS szS sz8 hab hcb hcp hzp bS7 bR7 bP7 HQ7 HF7
    refine ⟨trivial, (all_in _ _ _ _ _).mono ?_⟩
    rintro e w9 ⟨rfl, rfl⟩
    gi_wp2_with fail
    have bN := Boxed.new w8 22 (.slice a0 z0.length cap0)
    have hB9 : Below w.heap.size w (w8.alloc (.cells #[.slice a0 z0.length cap0] 22)) := (HF8.out.below (Nat.le_refl _) (by simp)).alloc HF8.out.size _
    have hK8 : K0 ≤ w8.heap.size := by have := HSZ.out; omega
    have hwK : w.heap.size ≤ K0 := by have := HZ2.out; have := HP7.out; omega
    refine wpIn_rangeFunc_ownG rfl (by decide) (gf := 29) (lb := #[.pointer (some ⟨w8.heap.size, 0, none⟩)]) rfl trivial (enters_of Try.func29 (by kernel_rfl) rfl)
      (all_stops (3 - 1) (by decide) w8.heap.size _ z0 w _ HS.out hB9 (by simp) bN.cell) belowK_t (belowK_b (by simp; omega)) (Below.refl _ _) (fun _ => rfl)
      (fun pre W => (W.cell? ⟨K0, 0, none⟩ = some (.int .i64 (pre.length : Int)) ∧ W.frozen? ⟨K0, 0, none⟩ = false ∧ pre <+: tot z0 ∧ (pre.length : Int) < a1) ∧ Below K0 w8 W)
      (fun c pre W => (c = .ret ∧ ¬ pre <+: tot z0) ∨ (c = .exit 0 ∧ ((pre.length : Int) = a1 ∧ W.cell? ⟨K0, 0, none⟩ = some (.int .i64 a1)) ∧ Below K0 w8 W))
      (OwnFrom.and (Own.from (fun s A B row hs hg hr => ⟨cell_kept hs.1 hg hr, (frozen_kept hs.1 hg hr).trans hs.2.1, hs.2.2⟩) _) (ownFrom_below hK8 (by simp; omega)))
      (fun c s A B row hs hg hr => by
        rcases hs with hs | ⟨h1, ⟨h2, h3⟩, h4⟩
        · exact .inl hs
        · exact .inr ⟨h1, ⟨h2, cell_kept h3 hg (fun r e => (hr r e).2)⟩, (ownFrom_below (β := List (Int × Int)) (B := (w8.alloc (.cells #[.slice a0 z0.length cap0] 22)).heap.size) hK8 (by simp; omega)) s A B row h4 hg hr⟩)
      ⟨⟨(bK8.alloc _).cell, (bK8.alloc _).frozen, List.nil_prefix, by simp; omega⟩, (Below.refl K0 w8).alloc hK8 _⟩
      (fun x => { tmps := #[.slice a0 z0.length cap0, .int .i64 a1, undef, .pointer (some ⟨w.heap.size, 0, none⟩), .pointer (some ⟨w.heap.size + 1, 0, none⟩), .pointer (some ⟨P0, 0, none⟩), .pointer (some ⟨K0, 0, none⟩), .int .i64 x.1, .int .i64 x.2, .slice a0 z0.length cap0, .bool true, .bool false, .bool false, .bool true, .bool false, .bool false, .bool false, .int .i64 a1, .bool (decide (a1 < 1)), .bool (decide (a1 < 1)), undef, .slice a0 z0.length cap0, ra, .int .i64 0, .bool true, .slice a0 z0.length cap0, rb, .slice aoq (pls z0).length capq, .slice a0 z0.length cap0, .func (.func 29) #[] #[.pointer (some ⟨w8.heap.size, 0, none⟩)], .int .i64 x.1, .int .i64 x.2, undef, undef, undef, undef, undef, undef, undef, undef, undef, undef, undef, undef, undef, undef, undef, undef, undef, undef, undef, undef, undef, undef, undef, undef, undef, undef, undef, undef, undef, undef, undef], defers := [] }) ?assign ?body ?done ?stop
    case assign =>
      intro lp x W K hK
      gi_wp2
      exact hK
    case body =>
      rintro lp pre x W ⟨⟨hck, hfk, hpre, hlt⟩, hB⟩ hN
      have hNZ : pre.length < (pls z0).length := by rw [tot, prs_length] at hN; exact hN
      obtain rfl := HAB.out (by omega)
      obtain ⟨y, hy⟩ := at_lt hNZ
      have cz : W.cell? ⟨b, off + pre.length, none⟩ = some (.int .i64 y) := (hB.cell (p := ⟨b, off + pre.length, none⟩) (HCB.out _ y hy).1).trans (HCB.out _ y hy).2
      have hcp : W.cell? ⟨P0, 0, none⟩ = some (.slice (some ⟨b, off, none⟩) (pls z0).length capq) := (hB.cell (p := ⟨P0, 0, none⟩) HP7.out).trans bP8.cell
      have hcs : W.cell? ⟨w.heap.size, 0, none⟩ = some (.int .i64 a1) := (hB.cell (p := ⟨w.heap.size, 0, none⟩) (by have := HZ2.out; have := HP7.out; show w.heap.size < K0; omega)).trans bS8.cell
      have bRW : Boxed W (w.heap.size + 1) 4 (.bool false) := (hB.block (w.heap.size + 1) (by have := HZ2.out; have := HP7.out; omega)).trans bR8
      have hcr := bRW.cell
      have hzr := bRW.frozen
      have hge : decide (((pls z0).length : Int) ≤ (pre.length : Int)) = false := decide_eq_false (by omega)
      have HTX : Hid (pre ++ [x] <+: tot z0 ↔ x = ((pre.length : Int), y)) := by
        have hat : (tot z0)[pre.length]? = some ((pre.length : Int), y) := by
          rw [tot, prs_at, hy]; simp
        constructor
        · intro h
          obtain ⟨t, ht⟩ := h
          rw [← ht] at hat
          simpa using hat
        · intro h
          subst h
          obtain ⟨t, ht⟩ := hpre
          rw [← ht] at hat
          cases t with
          | nil => simp at hat
          | cons u t =>
            have : u = ((pre.length : Int), y) := by simpa using hat
            subst this
            exact ⟨t, by rw [← ht]; simp⟩
      have hpl : (pls z0).length ≤ 4096 := pls_le z0
      clear hy hpre
      by_cases h1 : x.1 = (pre.length : Int)
      · have d1 : (x.1 != (pre.length : Int)) = false := by simpa using h1
        by_cases h2 : x.2 = y
        · have d2 : (x.2 != y) = false := by simpa using h2
          have HPX : Hid (pre ++ [x] <+: tot z0) := HTX.out.2 (Prod.ext h1 h2)
          clear HTX h1 h2
          by_cases h3 : (pre.length : Int) + 1 = a1
          · have hck2 := World.cell?_setCell_same' W ⟨K0, 0, none⟩ (.int .i64 a1) (by rw [hck]; rfl)
            have hcs2 : (W.setCell ⟨K0, 0, none⟩ (.int .i64 a1)).cell? ⟨w.heap.size, 0, none⟩ = some (.int .i64 a1) := ((Fr.refl [K0] W).setCell ⟨K0, 0, none⟩ _ (.inl (by simp))).cell_some hcs (by have := HZ2.out; have := HP7.out; simp; omega)
            have d3 : ((pre.length : Int) + 1 == a1) = true := by simpa using h3
            gi_wp2
            exact ⟨(KeepsOthers.setCell _ _ _).from _, .inr ⟨rfl, ⟨by simp; exact h3, hck2⟩, hB.setCell (p := ⟨K0, 0, none⟩) (Nat.le_refl _) _⟩⟩
          · have hck2 := World.cell?_setCell_same' W ⟨K0, 0, none⟩ (.int .i64 ((pre.length : Int) + 1)) (by rw [hck]; rfl)
            have hcs2 : (W.setCell ⟨K0, 0, none⟩ (.int .i64 ((pre.length : Int) + 1))).cell? ⟨w.heap.size, 0, none⟩ = some (.int .i64 a1) := ((Fr.refl [K0] W).setCell ⟨K0, 0, none⟩ _ (.inl (by simp))).cell_some hcs (by have := HZ2.out; have := HP7.out; simp; omega)
            have d3 : ((pre.length : Int) + 1 == a1) = false := by simpa using h3
            gi_wp2
            exact ⟨(KeepsOthers.setCell _ _ _).from _, (Below.refl w.heap.size W).setCell (p := ⟨K0, 0, none⟩) hwK _, ⟨by rw [hck2]; simp, by rw [World.frozen?_setCell]; exact hfk, HPX.out, by simp; omega⟩, hB.setCell (p := ⟨K0, 0, none⟩) (Nat.le_refl _) _⟩
        · have d2 : (x.2 != y) = true := by simpa using h2
          have HNO : Hid (¬ pre ++ [x] <+: tot z0) := fun h => h2 (by rw [HTX.out.1 h])
          clear HTX h1 h2
          gi_wp2
          exact ⟨(KeepsOthers.setCell _ _ _).from _, .inl ⟨rfl, HNO.out⟩⟩
      · have d1 : (x.1 != (pre.length : Int)) = true := by simpa using h1
        have HNO : Hid (¬ pre ++ [x] <+: tot z0) := fun h => h1 (by rw [HTX.out.1 h])
        clear HTX h1
        gi_wp2
        exact ⟨(KeepsOthers.setCell _ _ _).from _, .inl ⟨rfl, HNO.out⟩⟩
    case done =>
      rintro D ys W hD rfl ⟨⟨hck, hfk, hpre, hlt⟩, hB⟩ hK
      rw [show (tot z0).length = (pls z0).length from by rw [tot, prs_length]] at hck hlt
      have hmin : min a1 ((pls z0).length : Int) = ((pls z0).length : Int) := by omega
      have hcp : W.cell? ⟨P0, 0, none⟩ = some (.slice aoq (pls z0).length capq) := (hB.cell (p := ⟨P0, 0, none⟩) HP7.out).trans bP8.cell
      have hcs : W.cell? ⟨w.heap.size, 0, none⟩ = some (.int .i64 a1) := (hB.cell (p := ⟨w.heap.size, 0, none⟩) (by have := HZ2.out; have := HP7.out; show w.heap.size < K0; omega)).trans bS8.cell
      gi_wp2_with fail
      refine ⟨trivial, (callsIn_wide.2 (awake_any W)).mono ?_⟩
      rintro e w10 ⟨rfl, hf10⟩
      have hK' : w10.heap[D]? = some (.deferred (some [])) := hf10.heap hK (by simp)
      have bR10 : Boxed w10 (w.heap.size + 1) 4 (.bool false) := Boxed.fr ((hB.block (w.heap.size + 1) (by have := HZ2.out; have := HP7.out; omega)).trans bR8) hf10
      have hcr := bR10.cell
      have hzr := bR10.frozen
      have HBW : Hid (Below w.heap.size w w10) := ((HF8.out.below (Nat.le_refl _) (by simp)).trans (hB.mono (by have := HZ2.out; have := HP7.out; omega))).trans (hf10.below (by have := hB.size; have := HSZ.out; have := HZ2.out; have := HP7.out; omega) (by simp))
      have HDD : Hid (w.heap.size ≤ D) := by rw [Hid]; have := HSZ.out; have := HZ2.out; have := HP7.out; simp at hD; omega
      clear hf10 hK hD
      gi_wp2
      have hK2 := (KeepsOthers.setCell w10 ⟨w.heap.size + 1, 0, none⟩ (.bool true)).same D _ hK' rfl
      refine ⟨by simp, .inl ⟨_, _, rfl, run_takeDeferred hK2, ?_⟩⟩
      have hc5 := cell_kept (World.cell?_setCell_same' w10 ⟨w.heap.size + 1, 0, none⟩ (.bool true) (by rw [hcr]; rfl)) (grownBy_putObj' _ D (.deferred none)) (fun r e => by cases e; exact ⟨_, hK2, rfl⟩)
      exact ⟨_, all_res hc5 _ rfl, rfl, (HBW.out.setCell (p := ⟨w.heap.size + 1, 0, none⟩) (by simp) _).trans (belowK_b (w := w) (Nat.le_refl _) _ D _ _ HDD.out hK2 rfl rfl)⟩
    case stop =>
      rintro D c pre W hD hSp hIx hK
      rcases hIx with ⟨_, h⟩ | ⟨rfl, ⟨h1, hck⟩, hB⟩
      · exact absurd hSp h
      · have hple : pre.length ≤ (pls z0).length := by have := hSp.length_le; rwa [tot, prs_length] at this
        have hmin : min a1 ((pls z0).length : Int) = a1 := by omega
        have hee : (a1 == a1) = true := by simp
        clear h1 hSp
        have hcp : W.cell? ⟨P0, 0, none⟩ = some (.slice aoq (pls z0).length capq) := (hB.cell (p := ⟨P0, 0, none⟩) HP7.out).trans bP8.cell
        have hcs : W.cell? ⟨w.heap.size, 0, none⟩ = some (.int .i64 a1) := (hB.cell (p := ⟨w.heap.size, 0, none⟩) (by have := HZ2.out; have := HP7.out; show w.heap.size < K0; omega)).trans bS8.cell
        gi_wp2_with fail
        refine ⟨trivial, (callsIn_wide.2 (awake_any W)).mono ?_⟩
        rintro e w10 ⟨rfl, hf10⟩
        have hK' : w10.heap[D]? = some (.deferred (some [])) := hf10.heap hK (by simp)
        have bR10 : Boxed w10 (w.heap.size + 1) 4 (.bool false) := Boxed.fr ((hB.block (w.heap.size + 1) (by have := HZ2.out; have := HP7.out; omega)).trans bR8) hf10
        have hcr := bR10.cell
        have hzr := bR10.frozen
        have HBW : Hid (Below w.heap.size w w10) := ((HF8.out.below (Nat.le_refl _) (by simp)).trans (hB.mono (by have := HZ2.out; have := HP7.out; omega))).trans (hf10.below (by have := hB.size; have := HSZ.out; have := HZ2.out; have := HP7.out; omega) (by simp))
        have HDD : Hid (w.heap.size ≤ D) := by rw [Hid]; have := HSZ.out; have := HZ2.out; have := HP7.out; simp at hD; omega
        clear hf10 hK hD
        gi_wp2
        have hK2 := (KeepsOthers.setCell w10 ⟨w.heap.size + 1, 0, none⟩ (.bool true)).same D _ hK' rfl
        refine ⟨by simp, .inl ⟨_, _, rfl, run_takeDeferred hK2, ?_⟩⟩
        have hc5 := cell_kept (World.cell?_setCell_same' w10 ⟨w.heap.size + 1, 0, none⟩ (.bool true) (by rw [hcr]; rfl)) (grownBy_putObj' _ D (.deferred none)) (fun r e => by cases e; exact ⟨_, hK2, rfl⟩)
        exact ⟨_, all_res hc5 _ rfl, rfl, (HBW.out.setCell (p := ⟨w.heap.size + 1, 0, none⟩) (by simp) _).trans (belowK_b (w := w) (Nat.le_refl _) _ D _ _ HDD.out hK2 rfl rfl)⟩
  · have HTN : Hid (tot z0 = []) := by unfold Hid tot pls; rw [if_neg hk]; rfl
    have hkb : (chk z0 == 0) = false := by simpa using hk
    have bK8 := Boxed.new w5 3 (.int .i64 0)
    have bS8 := bS5.alloc (.cells #[.int .i64 0] 3)
    have bR8 := bR5.alloc (.cells #[.int .i64 0] 3)
    have bP8 := bP5.alloc (.cells #[.int .i64 0] 3)
    have HF8 : Hid (Fr [] w (w5.alloc (.cells #[.int .i64 0] 3))) := HF5.out.alloc _
    have HP7 : Hid (P0 < w5.heap.size) := bP5.lt
    have HSZ : Hid ((w5.alloc (.cells #[.int .i64 0] 3)).heap.size = w5.heap.size + 1) := World.size_alloc _ _
    gi_wp2_with fail
    generalize w5.alloc (.cells #[.int .i64 0] 3) = w8 at *
    generalize w5.heap.size = K0 at *
    clear HF5 bS5 bR5 bP5
    refine ⟨trivial, (all_in _ _ _ _ _).mono ?_⟩
    rintro e w9 ⟨rfl, rfl⟩
    gi_wp2_with fail
    have bN := Boxed.new w8 22 (.slice a0 z0.length cap0)
    have hB9 : Below w.heap.size w (w8.alloc (.cells #[.slice a0 z0.length cap0] 22)) := (HF8.out.below (Nat.le_refl _) (by simp)).alloc HF8.out.size _
    have hK8 : K0 ≤ w8.heap.size := by have := HSZ.out; omega
    have hwK : w.heap.size ≤ K0 := by have := HZ2.out; have := HP7.out; omega
    refine wpIn_rangeFunc_ownG rfl (by decide) (gf := 29) (lb := #[.pointer (some ⟨w8.heap.size, 0, none⟩)]) rfl trivial (enters_of Try.func29 (by kernel_rfl) rfl)
      (all_stops (3 - 1) (by decide) w8.heap.size _ z0 w _ HS.out hB9 (by simp) bN.cell) belowK_t (belowK_b (by simp; omega)) (Below.refl _ _) (fun _ => rfl)
      (fun pre W => (W.cell? ⟨K0, 0, none⟩ = some (.int .i64 (pre.length : Int)) ∧ W.frozen? ⟨K0, 0, none⟩ = false ∧ pre <+: tot z0 ∧ (pre.length : Int) < a1) ∧ Below K0 w8 W)
      (fun c pre W => (c = .ret ∧ ¬ pre <+: tot z0) ∨ (c = .exit 0 ∧ ((pre.length : Int) = a1 ∧ W.cell? ⟨K0, 0, none⟩ = some (.int .i64 a1)) ∧ Below K0 w8 W))
      (OwnFrom.and (Own.from (fun s A B row hs hg hr => ⟨cell_kept hs.1 hg hr, (frozen_kept hs.1 hg hr).trans hs.2.1, hs.2.2⟩) _) (ownFrom_below hK8 (by simp; omega)))
      (fun c s A B row hs hg hr => by
        rcases hs with hs | ⟨h1, ⟨h2, h3⟩, h4⟩
        · exact .inl hs
        · exact .inr ⟨h1, ⟨h2, cell_kept h3 hg (fun r e => (hr r e).2)⟩, (ownFrom_below (β := List (Int × Int)) (B := (w8.alloc (.cells #[.slice a0 z0.length cap0] 22)).heap.size) hK8 (by simp; omega)) s A B row h4 hg hr⟩)
      ⟨⟨(bK8.alloc _).cell, (bK8.alloc _).frozen, List.nil_prefix, by simp; omega⟩, (Below.refl K0 w8).alloc hK8 _⟩
      (fun x => { tmps := #[.slice a0 z0.length cap0, .int .i64 a1, undef, .pointer (some ⟨w.heap.size, 0, none⟩), .pointer (some ⟨w.heap.size + 1, 0, none⟩), .pointer (some ⟨P0, 0, none⟩), .pointer (some ⟨K0, 0, none⟩), .int .i64 x.1, .int .i64 x.2, .slice a0 z0.length cap0, .bool true, .bool false, .bool false, .bool true, .bool false, .bool false, .bool false, .int .i64 a1, .bool (decide (a1 < 1)), .bool (decide (a1 < 1)), undef, .slice a0 z0.length cap0, ra, .int .i64 (chk z0), .bool false, undef, undef, undef, .slice a0 z0.length cap0, .func (.func 29) #[] #[.pointer (some ⟨w8.heap.size, 0, none⟩)], .int .i64 x.1, .int .i64 x.2, undef, undef, undef, undef, undef, undef, undef, undef, undef, undef, undef, undef, undef, undef, undef, undef, undef, undef, undef, undef, undef, undef, undef, undef, undef, undef, undef, undef, undef, undef, undef], defers := [] }) ?assign ?body ?done ?stop
    case assign =>
      intro lp x W K hK
      gi_wp2
      exact hK
    case body =>
      intro lp pre x W _ hN
      rw [HTN.out] at hN
      simp at hN
    case done =>
      rintro D ys W hD rfl ⟨⟨hck, hfk, hpre, hlt⟩, hB⟩ hK
      rw [HTN.out] at hck hlt
      have hmin : min a1 (0 : Int) = 0 := by omega
      simp only [List.length_nil] at hck hlt
      have hcp : W.cell? ⟨P0, 0, none⟩ = some (.slice none 0 0) := (hB.cell (p := ⟨P0, 0, none⟩) HP7.out).trans bP8.cell
      have hcs : W.cell? ⟨w.heap.size, 0, none⟩ = some (.int .i64 a1) := (hB.cell (p := ⟨w.heap.size, 0, none⟩) (by have := HZ2.out; have := HP7.out; show w.heap.size < K0; omega)).trans bS8.cell
      gi_wp2_with fail
      refine ⟨trivial, (callsIn_wide.2 (awake_any W)).mono ?_⟩
      rintro e w10 ⟨rfl, hf10⟩
      have hK' : w10.heap[D]? = some (.deferred (some [])) := hf10.heap hK (by simp)
      have bR10 : Boxed w10 (w.heap.size + 1) 4 (.bool false) := Boxed.fr ((hB.block (w.heap.size + 1) (by have := HZ2.out; have := HP7.out; omega)).trans bR8) hf10
      have hcr := bR10.cell
      have hzr := bR10.frozen
      have HBW : Hid (Below w.heap.size w w10) := ((HF8.out.below (Nat.le_refl _) (by simp)).trans (hB.mono (by have := HZ2.out; have := HP7.out; omega))).trans (hf10.below (by have := hB.size; have := HSZ.out; have := HZ2.out; have := HP7.out; omega) (by simp))
      have HDD : Hid (w.heap.size ≤ D) := by rw [Hid]; have := HSZ.out; have := HZ2.out; have := HP7.out; simp at hD; omega
      clear hf10 hK hD
      gi_wp2
      have hK2 := (KeepsOthers.setCell w10 ⟨w.heap.size + 1, 0, none⟩ (.bool true)).same D _ hK' rfl
      refine ⟨by simp, .inl ⟨_, _, rfl, run_takeDeferred hK2, ?_⟩⟩
      have hc5 := cell_kept (World.cell?_setCell_same' w10 ⟨w.heap.size + 1, 0, none⟩ (.bool true) (by rw [hcr]; rfl)) (grownBy_putObj' _ D (.deferred none)) (fun r e => by cases e; exact ⟨_, hK2, rfl⟩)
      exact ⟨_, all_res hc5 _ rfl, rfl, (HBW.out.setCell (p := ⟨w.heap.size + 1, 0, none⟩) (by simp) _).trans (belowK_b (w := w) (Nat.le_refl _) _ D _ _ HDD.out hK2 rfl rfl)⟩
    case stop =>
      rintro D c pre W hD hSp hIx hK
      rcases hIx with ⟨_, h⟩ | ⟨rfl, ⟨h1, hck⟩, hB⟩
      · exact absurd hSp h
      · exfalso
        rw [HTN.out] at hSp
        have := hSp.length_le
        simp at this
        subst this
        simp at h1
        omega
end Go.Proofs.Ytgnobljdcnkjnaa
