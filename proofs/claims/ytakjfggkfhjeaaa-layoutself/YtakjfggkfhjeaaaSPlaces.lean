/-
  Package span: Places.
-/
import Derived.Test.YtakjfggkfhjeaaaSAll
namespace Go.Proofs.Ytakjfggkfhjeaaa
open Go.RowKit Go.Shelf Mem Spans
set_option linter.unusedSimpArgs false
set_option linter.unusedVariables false
set_option maxRecDepth 100000
attribute [local go_sem] Oper.semAt_some

theorem IOwn.of_owns {B : Nat} {w : World} {v : Value} {zs : List Int} (h : w.ownsRow B 3 1 v zs.length (zs.map (Value.int .i64))) (hn : v = .slice none 0 0 ↔ zs = []) : IOwn B w v zs := by
  rcases h.2 with ⟨h1, h2⟩ | ⟨g, cap, cur, hv, hg, r⟩
  · exact .inl ⟨hn.1 h1, h1⟩
  · refine .inr ⟨g, hg, ?_, h.1, cap, cur, hv, r⟩
    cases zs with
    | nil => have := hn.2 rfl; rw [hv] at this; simp at this
    | cons x r => simp

/-- The places of what came. -/
def sec (pre : List (Int × Int)) : List Int := pre.map (fun x => x.2)
theorem sec_snoc (pre : List (Int × Int)) (x : Int × Int) : sec (pre ++ [x]) = sec pre ++ [x.2] := by simp [sec]
theorem sec_length (pre : List (Int × Int)) : (sec pre).length = pre.length := by simp [sec]

set_option maxHeartbeats 2000000 in
theorem places_any (v : Value) (l : List Sp) (w : World) (h : SSrc w v l) :
    Calls Try.prog 27 #[v] w fun e w' => ∃ u, e = .returned (.tuple #[u, .int .i64 (chk l)]) ∧ IOwn w.heap.size w' u (pls l) ∧ Fr [] w w' := by
  have HSR : Hid (SSrc w v l) := h
  obtain ⟨ao, cap, rfl, hcap, hmax, _⟩ := h
  obtain ⟨i0, hi, hz0, hz1, hz2⟩ := info_int
  have HPL : Hid ((tot l).length ≤ 4096) := by rw [Hid, tot, prs_length]; exact pls_le l
  refine (callsIn_wide (n := 3)).1 ?_
  refine callsIn_of_wp_marks Try.func27 rfl trivial ?_ rfl
  simp only [Try.ntmps27, List.size_toArray, List.length_cons, List.length_nil, Nat.reduceAdd, Nat.reduceSub, Array.replicate_succ, Array.replicate_zero, List.push_toArray, List.append_toArray, List.nil_append, List.cons_append]
  gi_wp2_with fail
  refine ⟨trivial, (callsIn_wide.2 (check_any _ l w HSR.out)).mono ?_⟩
  rintro e w1 ⟨rfl, hf1⟩
  have HF1 : Hid (Fr [] w w1) := hf1
  clear hf1
  by_cases hk0 : chk l = 0
  · gi_wp2_with fail
    refine ⟨trivial, (all_in _ _ _ _ _).mono ?_⟩
    rintro e w2 ⟨rfl, rfl⟩
    gi_wp2_with fail
    have bO := Boxed.new w1 32 (.slice none 0 0)
    have bN := Boxed.new (w1.alloc (.cells #[.slice none 0 0] 32)) 22 (.slice ao l.length cap)
    rw [World.size_alloc] at bN
    have hz1' := HF1.out.size
    have hB0 : Below w.heap.size w ((w1.alloc (.cells #[.slice none 0 0] 32)).alloc (.cells #[.slice ao l.length cap] 22)) := ((HF1.out.below (Nat.le_refl _) (by simp)).alloc (by omega) _).alloc (by simp; omega) _
    refine wpIn_rangeFunc_ownG rfl (by decide) (gf := 40) (lb := #[.pointer (some ⟨w1.heap.size + 1, 0, none⟩)]) rfl trivial (enters_of Try.func40 (by kernel_rfl) rfl)
      (all_stops (3 - 1) (by decide) (w1.heap.size + 1) _ l w _ HSR.out hB0 (by simp) bN.cell) belowK_t (belowK_b (by simp; omega)) (Below.refl _ _) (fun _ => rfl)
      (fun pre W => (∃ v, Boxed W w1.heap.size 32 v ∧ W.ownsRow w.heap.size 3 1 v (sec pre).length ((sec pre).map (Value.int .i64)) ∧ (v = .slice none 0 0 ↔ sec pre = [])) ∧ Below w.heap.size w W)
      (fun _ _ _ => False)
      (OwnFrom.and (Own.from (holdsRow_own w.heap.size w1.heap.size 32 3 1 (fun pre => (sec pre).length) (fun pre => (sec pre).map (Value.int .i64)) (fun pre v => v = .slice none 0 0 ↔ sec pre = [])) _) (ownFrom_below (Nat.le_refl _) (by simp; omega)))
      (fun _ _ _ _ _ hs _ _ => hs)
      ⟨⟨_, bO.alloc _, World.ownsRow_nil _ _ _ _, by simp [sec]⟩, hB0⟩
      (fun x => { tmps := #[.slice ao l.length cap, undef, .slice none 0 0, .int .i64 0, .int .i64 0, .pointer (some ⟨w1.heap.size, 0, none⟩), undef, .int .i64 x.2, .slice ao l.length cap, .int .i64 0, .int .i64 0, .bool false, undef, .slice ao l.length cap, .func (.func 40) #[] #[.pointer (some ⟨w1.heap.size + 1, 0, none⟩)], .int .i64 x.1, .int .i64 x.2, undef, undef, undef, undef, undef], defers := [] }) ?assign ?body ?done ?stop
    case assign =>
      intro lp x W K hK
      gi_wp2
      exact hK
    case body =>
      rintro lp pre x W ⟨⟨v, hv, hrow, hnil⟩, hB⟩ hlt
      have hc := hv.cell
      have hpl : (sec pre).length ≤ 4096 := by rw [sec_length]; have := HPL.out; omega
      have hsz := hB.size
      gi_wp2_with (gi_at_builtin; refine wpListIn_append_own _ rfl _ _ 32 rfl w.heap.size 3 i0 (.int .i64 0) 1 8 Try.underlying32 hi hz0 hz1 hz2 rfl (by decide) _ _ _ rfl (hrow.alloc _) ⟨W.heap.size, 0, none⟩ 1 1 [.int .i64 x.2] rfl rfl (cell_one_new _ _ _) (by simp [Value.oneCell']) (by unfold maxLen; omega) (by omega) (by have := hB.size; simp; omega) ?_; intro v' w3 hown' hgrow _; obtain ⟨g', cap', rfl⟩ := ownsRow_succ hown'; obtain ⟨hv1, hv2, hr2, hk2, hb2⟩ := hv.appended (by decide) hrow hB.size (by omega) hown' hgrow; have hc1 := hv1.cell; have hf1 := hv1.frozen)
      exact ⟨hk2.from _, hb2, ⟨_, hv2, by rw [sec_snoc]; simpa using hr2, by simp [sec]⟩, hB.trans hb2⟩
    case done =>
      rintro D ys W hD rfl ⟨⟨v, hv, hrow, hnil⟩, hB⟩ hK
      have hc := hv.cell
      gi_wp2
      refine ⟨by simp, .inl ⟨_, _, rfl, run_takeDeferred hK, ?_⟩⟩
      have e : sec (tot l) = pls l := prs_snd 0 (pls l)
      rw [e] at hrow hnil
      have hbb : Below w.heap.size w (W.putObj D (.deferred none)) := hB.trans (belowK_b (w := w) (Nat.le_refl _) W D _ _ (by simp at hD; omega) hK rfl rfl)
      exact ⟨_, results_tmp2 rfl _ _ _, v, by rw [hk0]; rfl, IOwn.of_owns (ownsRow_putObj hrow _ hK rfl) hnil, Fr.ofBelow hbb⟩
    case stop =>
      rintro D c pre W _ _ h _
      exact h.elim
  · have HT : Hid (pls l = []) := by unfold Hid pls; rw [if_neg hk0]
    gi_wp2
    exact ⟨_, results_tmp2 rfl _ _ _, _, rfl, .inl ⟨HT.out, rfl⟩, HF1.out⟩
end Go.Proofs.Ytakjfggkfhjeaaa
