/-
  slices.Backward's own function: the pairs from behind, as far as it is asked.
-/
import Derived.Test.YtjkiiccdcjcfbaaRange9
namespace Go.Proofs.Ytjkiiccdcjcfbaa
open Go.RowKit Go.Shelf Mem Spans
set_option linter.unusedSimpArgs false
set_option linter.unusedVariables false
set_option maxRecDepth 100000
attribute [local go_sem] Oper.semAt_some

/-- What Backward tells: the number, the pair. -/
def bkf (l : List Sp) (k : Nat) : Int × Sp := (((l.length - 1 - k : Nat) : Int), l[l.length - 1 - k]?.getD (0, 0))
def bkl (l : List Sp) (k : Nat) : List (Int × Sp) := (List.range k).map (bkf l)
theorem bkl_succ (l : List Sp) (k : Nat) : bkl l (k + 1) = bkl l k ++ [bkf l k] := by simp [bkl, List.range_succ]
theorem bkl_length (l : List Sp) (k : Nat) : (bkl l k).length = k := by simp [bkl]
theorem bkl_pre (l : List Sp) {k n : Nat} (h : k ≤ n) : bkl l k <+: bkl l n := by
  unfold bkl
  obtain ⟨d, rfl⟩ := Nat.le.dest h
  rw [List.range_add, List.map_append]
  exact List.prefix_append _ _
theorem bkl_snd (l : List Sp) : (bkl l l.length).map (fun x => x.2) = l.reverse := by
  apply List.ext_getElem
  · simp [bkl]
  · intro i h1 h2
    have hi : i < l.length := by simpa using h2
    simp only [bkl, List.getElem_map, List.getElem_range, bkf, List.getElem_reverse]
    rw [List.getElem?_eq_getElem (by omega)]
    rfl

theorem rev_at {l : List Sp} {k : Nat} (hk : k < l.length) {s : Sp} (hs : l[l.length - 1 - k]? = some s) : l.reverse.take (k + 1) = l.reverse.take k ++ [s] := by
  have : l.reverse[k]? = some s := by rw [List.getElem?_reverse hk]; exact hs
  rw [List.take_add_one, this]; rfl

set_option maxHeartbeats 2000000 in
theorem back_tells (lp Bs b off cap : Nat) (ao : Option Addr) (S : List Nat) (l : List Sp) (W : World)
    (hml : l.length ≤ 9223372036854775807) (hS : Bs ∉ S) (hb : b ∉ S) (hao : 0 < l.length → ao = some ⟨b, off, none⟩)
    (hBs : W.cell? ⟨Bs, 0, none⟩ = some (.slice ao l.length cap))
    (hc : ∀ j s, l[j]? = some s → W.cell? ⟨b, off + j * 2, none⟩ = some (.int .i64 s.1) ∧ W.cell? ⟨b, off + j * 2 + 1, none⟩ = some (.int .i64 s.2)) :
    Tells Try.prog 69 lp #[.pointer (some ⟨Bs, 0, none⟩)] (fun x : Int × Sp => #[.int .i64 x.1, .agg #[.int .i64 x.2.1, .int .i64 x.2.2]]) (Kc S) (bkl l l.length) W := by
  intro n J Jx _ _ hY h0
  have HCW : Hid (∀ wr, Kc S W wr → ∀ j s, l[j]? = some s → wr.cell? ⟨b, off + j * 2, none⟩ = some (.int .i64 s.1) ∧ wr.cell? ⟨b, off + j * 2 + 1, none⟩ = some (.int .i64 s.2)) :=
    fun wr hk j s hj => ⟨hk.cell (hc j s hj).1 hb, hk.cell (hc j s hj).2 hb⟩
  have HBX : Hid (∀ wr, Kc S W wr → wr.cell? ⟨Bs, 0, none⟩ = some (.slice ao l.length cap)) := fun wr hk => hk.cell hBs hS
  have HY : Hid (∀ m pre x W1, J pre W1 → pre ++ [x] <+: bkl l l.length → YieldAt Fence.wide m Try.prog lp #[.int .i64 x.1, .agg #[.int .i64 x.2.1, .int .i64 x.2.2]] W1 (Told (Kc S) J Jx pre x W1)) := hY
  have H0 : Hid (J [] W) := h0
  have HAO : Hid (0 < l.length → ao = some ⟨b, off, none⟩) := hao
  clear hc hb hY h0 hao hS
  refine callsIn_of_wp Try.func69 rfl trivial ?_ rfl
  simp only [Try.ntmps69, List.size_toArray, List.length_cons, List.length_nil, Nat.reduceAdd, Nat.reduceSub, Array.replicate_succ, Array.replicate_zero, List.push_toArray, List.append_toArray, List.nil_append, List.cons_append]
  gi_wp2
  clear hBs
  gi_loopw [3] (fun i wr => ∃ (k : Nat), k ≤ l.length ∧ i = .int .i64 ((l.length : Int) - 1 - (k : Int)) ∧ J (bkl l k) wr ∧ Kc S W wr) (fun i _ => (intOf i + 1).toNat)
  case atStart => exact ⟨0, by omega, by simp, H0.out, Kc.refl _ _⟩
  case round =>
    obtain ⟨k, hk, rfl, hJk, hKk⟩ := hrel
    have HJ : Hid (J (bkl l k) wr) := hJk
    have HK : Hid (Kc S W wr) := hKk
    clear hJk hKk
    by_cases hlt : k < l.length
    · obtain rfl := HAO.out (by omega)
      obtain ⟨s, hs⟩ := at_lt (l := l) (k := l.length - 1 - k) (by omega)
      have c0 := (HCW.out wr HK.out _ s hs).1
      have c1 := (HCW.out wr HK.out _ s hs).2
      have cb := HBX.out wr HK.out
      have hidx : ((l.length : Int) - 1 - (k : Int)) = ((l.length - 1 - k : Nat) : Int) := by omega
      rw [hidx]
      obtain ⟨fn, tmps, assign, body, hy, hR⟩ := HY.out (n - 0) (bkl l k) (bkf l k) wr HJ.out (by rw [← bkl_succ]; exact bkl_pre l (by omega))
      have HBK : Hid (bkl l k ++ [bkf l k] = bkl l (k + 1)) := (bkl_succ l k).symm
      have e1 : bkf l k = (((l.length - 1 - k : Nat) : Int), s) := by unfold bkf; rw [hs]; rfl
      rw [e1] at hy
      clear hs e1
      obtain ⟨p, v⟩ := s
      dsimp only at hy c0 c1
      have hlt2 : l.length - 1 - k < l.length := by omega
      have HIX : Hid (((l.length - 1 - k : Nat) : Int) - 1 = (l.length : Int) - 1 - ((k + 1 : Nat) : Int)) := by rw [Hid]; omega
      gi_wp2
      refine hR.mono ?_
      rintro e W3 (⟨rfl, hJ3, hk3⟩ | ⟨rfl, hJx3, _⟩)
      · have HK3 : Hid (Kc S W W3) := HK.out.trans hk3
        have HJ3 : Hid (J (bkl l (k + 1)) W3) := by rw [Hid, ← HBK.out]; exact hJ3
        clear hk3 hJ3 hR hy
        gi_wp2
        go_roundw
        case rel =>
          refine ⟨k + 1, by omega, ?_, HJ3.out, HK3.out⟩
          first | rw [HIX.out] | (go_num; have := HIX.out; omega)
        case measure => simp [intOf]
      · have HJx : Hid (Jx (bkl l (k + 1)) W3) := by rw [Hid, ← HBK.out]; exact hJx3
        clear hJx3 hR hy
        gi_wp2
        refine bodyPost_ret (results_none rfl _ _ _) rfl ?_
        exact ⟨⟨_, rfl⟩, .inr ⟨_, bkl_pre l (by omega), HJx.out⟩⟩
    · obtain rfl : k = l.length := by omega
      gi_wp2
      go_end0
      exact ⟨⟨_, rfl⟩, .inl HJ.out⟩

set_option maxHeartbeats 400000 in
/-- Backward: the slice is boxed; the function value captures the box. -/
theorem back_in (n : Nat) (a : Option Addr) (len cap : Nat) (w : World) :
    CallsIn Fence.wide n Try.prog 56 #[.slice a len cap] w fun e w' => e = .returned (.func (.func 69) #[] #[.pointer (some ⟨w.heap.size, 0, none⟩)]) ∧ w' = w.alloc (.cells #[.slice a len cap] 39) := by
  refine callsIn_of_wp Try.func56 rfl trivial ?_ rfl
  simp only [Try.ntmps56, List.size_toArray, List.length_cons, List.length_nil, Nat.reduceAdd, Nat.reduceSub, Array.replicate_succ, Array.replicate_zero, List.push_toArray, List.append_toArray, List.nil_append, List.cons_append]
  gi_wp2
  go_ret
  exact ⟨rfl, rfl⟩
end Go.Proofs.Ytjkiiccdcjcfbaa
