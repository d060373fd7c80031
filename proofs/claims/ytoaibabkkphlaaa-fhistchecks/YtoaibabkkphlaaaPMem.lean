/-
  Package pairs: rows of numbers of whatever type; same and joined, which defer a function that recovers.
-/
import Derived.Test.YtoaibabkkphlaaaSOwns
import Derived.Test.YtoaibabkkphlaaaSFrom
import Derived.Defers
import Derived.Recover
import Derived.Laws.Pointers
namespace Go.Proofs.Ytoaibabkkphlaaa
open Go.RowKit Mem Spans
set_option linter.unusedSimpArgs false
set_option linter.unusedVariables false
set_option maxRecDepth 100000

theorem idle45 (w : World) : CallsD Try.prog 102 #[] .returning w fun e u' w' => e = .returned (.tuple #[]) ∧ u' = .returning ∧ w' = w := by
  refine callsD_of_wpS Try.func102 rfl fun c₀ cs hu => ?_
  apply wpS_region
  simp [wpOpsS, go_sem, recoverD, hu, Try.ntmps102, Exit.thenS, bodyPostS, results, Try.results102]
  cases c₀
  simp_all
theorem idle46 (w : World) : CallsD Try.prog 103 #[] .returning w fun e u' w' => e = .returned (.tuple #[]) ∧ u' = .returning ∧ w' = w := by
  refine callsD_of_wpS Try.func103 rfl fun c₀ cs hu => ?_
  apply wpS_region
  simp [wpOpsS, go_sem, recoverD, hu, Try.ntmps103, Exit.thenS, bodyPostS, results, Try.results103]
  cases c₀
  simp_all

set_option maxHeartbeats 400000 in
theorem same64_any (x y : Int) (w : World) : Calls Try.prog 94 #[.int .i64 x, .int .i64 y] w fun e w' => e = .returned (.bool (decide (x = y))) ∧ w' = w := by
  have hmf : ∀ (fn : Fn) (first cap : Array Value) (w : World), (Instr.makeFunc fn first cap).run Try.prog w = .ok (.func fn first cap) w := fun _ _ _ _ => rfl
  go_enter_defers Try.func94, Try.ntmps94
  go_wp2
  refine leaves_cons (f := 103) (args := #[]) (by simp) (by simp [go_sem]) ?_
  refine (idle46 _).mono ?_
  rintro e u' w'' ⟨rfl, rfl, rfl⟩
  by_cases h : x = y <;> simp [h, Leaves, settle, results, Try.results94, go_sem]

set_option maxHeartbeats 800000 in
theorem samePair_any (x y : Sp) (w : World) : Calls Try.prog 93 #[.agg #[.int .i64 x.1, .int .i64 x.2], .agg #[.int .i64 y.1, .int .i64 y.2]] w fun e w' => e = .returned (.bool (decide (x = y))) ∧ Fr [] w w' := by
  have hmf : ∀ (fn : Fn) (first cap : Array Value) (w : World), (Instr.makeFunc fn first cap).run Try.prog w = .ok (.func fn first cap) w := fun _ _ _ _ => rfl
  obtain ⟨a, b⟩ := x
  obtain ⟨c, d⟩ := y
  have HF : Hid (Fr [] w ((w.alloc (.cells #[.int .i64 a, .int .i64 b] 141)).alloc (.cells #[.int .i64 c, .int .i64 d] 141))) := ((Fr.refl _ _).alloc _).alloc _
  go_enter_defers Try.func93, Try.ntmps93
  go_wp2
  all_goals refine leaves_cons (f := 102) (args := #[]) (by simp) (by simp [go_sem]) ?_
  all_goals refine (idle45 _).mono ?_
  all_goals rintro e u' w'' ⟨rfl, rfl, rfl⟩
  all_goals have HG := HF.out
  all_goals clear hmf HF
  all_goals simp_all [Leaves, settle, results, Try.results93, go_sem]


set_option maxHeartbeats 2000000 in
theorem equalFunc_any (v u : Value) (xs ys : List Sp) (w : World) (h1 : SSrc w v xs) (h2 : SSrc w u ys) :
    Calls Try.prog 92 #[v, u, .func (.func 93) #[] #[]] w fun e w' => e = .returned (.bool (decide (xs = ys))) ∧ Fr [] w w' := by
  obtain ⟨ao, cap, rfl, hcap, hmax, _, b, off, ha, hc⟩ := h1
  obtain ⟨ao2, cap2, rfl, hcap2, hmax2, _, b2, off2, ha2, hc2⟩ := h2
  have HC : Hid (∀ j s, xs[j]? = some s → w.cell? ⟨b, off + j * 2, none⟩ = some (.int .i64 s.1) ∧ w.cell? ⟨b, off + j * 2 + 1, none⟩ = some (.int .i64 s.2)) := hc
  have HC2 : Hid (∀ j s, ys[j]? = some s → w.cell? ⟨b2, off2 + j * 2, none⟩ = some (.int .i64 s.1) ∧ w.cell? ⟨b2, off2 + j * 2 + 1, none⟩ = some (.int .i64 s.2)) := hc2
  have HA : Hid (0 < xs.length → ao = some ⟨b, off, none⟩) := ha
  have HA2 : Hid (0 < ys.length → ao2 = some ⟨b2, off2, none⟩) := ha2
  clear hc ha hc2 ha2
  go_enter Try.func92, Try.ntmps92
  by_cases hl : xs.length = ys.length
  · have HL : Hid (xs.length = ys.length) := hl
    rw [← hl]
    have hcap2' : xs.length ≤ cap2 := by omega
    have hml : xs.length ≤ 9223372036854775807 := by unfold maxLen at hmax; omega
    clear hl hcap2
    go_wp2
    go_loopw [17] (fun i wr => ∃ (k : Nat), k ≤ xs.length ∧ i = .int .i64 (k : Int) ∧ xs.take k = ys.take k ∧ Fr [] w wr) (fun i _ => xs.length - (intOf i).toNat)
    case atStart => exact ⟨0, by omega, rfl, by simp, Fr.refl _ _⟩
    case round =>
      obtain ⟨k, hk, rfl, hpre, hf⟩ := hrel
      have HF : Hid (Fr [] w wr) := hf
      have HP : Hid (xs.take k = ys.take k) := hpre
      clear hf hpre
      by_cases hlt : k < xs.length
      · obtain rfl := HA.out (by omega)
        obtain rfl := HA2.out (by have := HL.out; omega)
        obtain ⟨s, hs⟩ := at_lt hlt
        obtain ⟨t, ht⟩ := at_lt (l := ys) (k := k) (by have := HL.out; omega)
        have HS : Hid (xs[k]? = some s ∧ ys[k]? = some t) := ⟨hs, ht⟩
        have c0 : wr.cell? ⟨b, off + k * 2, none⟩ = some (.int .i64 s.1) := HF.out.cell_some (HC.out k s hs).1 (by simp)
        have c1 : wr.cell? ⟨b, off + k * 2 + 1, none⟩ = some (.int .i64 s.2) := HF.out.cell_some (HC.out k s hs).2 (by simp)
        have F1 := HF.out.alloc (.cells #[.int .i64 s.1, .int .i64 s.2] 141)
        have HF1 : Hid (Fr [] w (wr.alloc (.cells #[.int .i64 s.1, .int .i64 s.2] 141))) := F1
        have d0 : (wr.alloc (.cells #[.int .i64 s.1, .int .i64 s.2] 141)).cell? ⟨b2, off2 + k * 2, none⟩ = some (.int .i64 t.1) := F1.cell_some (HC2.out k t ht).1 (by simp)
        have d1 : (wr.alloc (.cells #[.int .i64 s.1, .int .i64 s.2] 141)).cell? ⟨b2, off2 + k * 2 + 1, none⟩ = some (.int .i64 t.2) := F1.cell_some (HC2.out k t ht).2 (by simp)
        clear hs ht F1
        go_wp2_with fail
        refine (samePair_any s t _).mono ?_
        rintro e w2 ⟨rfl, hf2⟩
        have HF2 : Hid (Fr [] w w2) := (HF1.out.alloc _).trans hf2 (by simp)
        clear hf2 c0 c1 d0 d1 HF1
        by_cases hst : s = t
        · have hd : decide (s = t) = true := decide_eq_true hst
          have HP2 : Hid (xs.take (k + 1) = ys.take (k + 1)) := by
            rw [Hid, take_at HS.out.1, take_at HS.out.2, HP.out, hst]
          clear hst HS
          go_wp2
          go_roundw
          case rel => exact ⟨k + 1, by omega, by go_num, HP2.out, HF2.out⟩
          case measure => simp [intOf]; omega
        · have hd : decide (s = t) = false := decide_eq_false hst
          have HE : Hid (decide (xs = ys) = false) := decide_eq_false (fun h => hst (by
            have h1 := HS.out.1
            rw [h, HS.out.2] at h1
            exact (Option.some.inj h1).symm))
          clear hst HS
          go_wp2
          go_ret
          exact ⟨by rw [HE.out]; rfl, HF2.out⟩
      · have HE : Hid (decide (xs = ys) = true) := decide_eq_true (by
          have h := HP.out
          rw [List.take_of_length_le (by omega), List.take_of_length_le (by have := HL.out; omega)] at h
          exact h)
        go_wp2
        go_ret
        exact ⟨by rw [HE.out]; rfl, HF.out⟩
  · have HE : Hid (decide (xs = ys) = false) := decide_eq_false (fun h => hl (by rw [h]))
    have hl2 : ¬ (xs.length : Int) = (ys.length : Int) := by omega
    go_wp2
    go_ret
    exact ⟨by rw [HE.out]; rfl, Fr.refl _ _⟩

set_option maxHeartbeats 400000 in
theorem pequal_any (v u : Value) (xs ys : List Sp) (w : World) (h1 : SSrc w v xs) (h2 : SSrc w u ys) :
    Calls Try.prog 76 #[v, u] w fun e w' => e = .returned (.bool (decide (xs = ys))) ∧ Fr [] w w' := by
  have H1 : Hid (SSrc w v xs) := h1
  have H2 : Hid (SSrc w u ys) := h2
  clear h1 h2
  go_enter Try.func76, Try.ntmps76
  go_wp2_with fail
  refine (equalFunc_any _ _ xs ys w H1.out H2.out).mono ?_
  rintro e w1 ⟨rfl, hf⟩
  have HF : Hid (Fr [] w w1) := hf
  clear hf
  go_wp2
  go_ret
  exact ⟨rfl, HF.out⟩
end Go.Proofs.Ytoaibabkkphlaaa
