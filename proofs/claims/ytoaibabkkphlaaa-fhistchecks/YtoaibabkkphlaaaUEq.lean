/-
  Package pairs, over numbers without a sign: same, Equal, Without.
-/
import Derived.Test.YtoaibabkkphlaaaUMem
import Derived.Test.YtoaibabkkphlaaaPNum
namespace Go.Proofs.Ytoaibabkkphlaaa
open Go.RowKit Mem Spans
set_option linter.unusedSimpArgs false
set_option linter.unusedVariables false
set_option maxRecDepth 100000

theorem idleU45 (w : World) : CallsD Try.prog 98 #[] .returning w fun e u' w' => e = .returned (.tuple #[]) ∧ u' = .returning ∧ w' = w := by
  refine callsD_of_wpS Try.func98 rfl fun c₀ cs hu => ?_
  apply wpS_region
  simp [wpOpsS, go_sem, recoverD, hu, Try.ntmps98, Exit.thenS, bodyPostS, results, Try.results98]
  cases c₀
  simp_all
theorem idleU46 (w : World) : CallsD Try.prog 97 #[] .returning w fun e u' w' => e = .returned (.tuple #[]) ∧ u' = .returning ∧ w' = w := by
  refine callsD_of_wpS Try.func97 rfl fun c₀ cs hu => ?_
  apply wpS_region
  simp [wpOpsS, go_sem, recoverD, hu, Try.ntmps97, Exit.thenS, bodyPostS, results, Try.results97]
  cases c₀
  simp_all
set_option maxHeartbeats 400000 in
theorem sameU_any (x y : Int) (w : World) : Calls Try.prog 82 #[.int .u64 x, .int .u64 y] w fun e w' => e = .returned (.bool (decide (x = y))) ∧ w' = w := by
  have hmf : ∀ (fn : Fn) (first cap : Array Value) (w : World), (Instr.makeFunc fn first cap).run Try.prog w = .ok (.func fn first cap) w := fun _ _ _ _ => rfl
  go_enter_defers Try.func82, Try.ntmps82
  go_wp2
  refine leaves_cons (f := 97) (args := #[]) (by simp) (by simp [go_sem]) ?_
  refine (idleU46 _).mono ?_
  rintro e u' w'' ⟨rfl, rfl, rfl⟩
  by_cases h : x = y <;> simp [h, Leaves, settle, results, Try.results82, go_sem]

set_option maxHeartbeats 800000 in
theorem samePU_any (x y : Sp) (w : World) : Calls Try.prog 85 #[.agg #[.int .i64 x.1, .int .u64 x.2], .agg #[.int .i64 y.1, .int .u64 y.2]] w fun e w' => e = .returned (.bool (decide (x = y))) ∧ Fr [] w w' := by
  have hmf : ∀ (fn : Fn) (first cap : Array Value) (w : World), (Instr.makeFunc fn first cap).run Try.prog w = .ok (.func fn first cap) w := fun _ _ _ _ => rfl
  obtain ⟨a, b⟩ := x
  obtain ⟨c, d⟩ := y
  have HF : Hid (Fr [] w ((w.alloc (.cells #[.int .i64 a, .int .u64 b] 43)).alloc (.cells #[.int .i64 c, .int .u64 d] 43))) := ((Fr.refl _ _).alloc _).alloc _
  go_enter_defers Try.func85, Try.ntmps85
  go_wp2
  all_goals refine leaves_cons (f := 98) (args := #[]) (by simp) (by simp [go_sem]) ?_
  all_goals refine (idleU45 _).mono ?_
  all_goals rintro e u' w'' ⟨rfl, rfl, rfl⟩
  all_goals have HG := HF.out
  all_goals clear hmf HF
  all_goals simp_all [Leaves, settle, results, Try.results85, go_sem]

set_option maxHeartbeats 2000000 in
theorem equalFuncU_any (v u : Value) (xs ys : List Sp) (w : World) (h1 : PSrc w v xs) (h2 : PSrc w u ys) :
    Calls Try.prog 84 #[v, u, .func (.func 85) #[] #[]] w fun e w' => e = .returned (.bool (decide (xs = ys))) ∧ Fr [] w w' := by
  obtain ⟨ao, cap, rfl, hcap, hmax, _, b, off, ha, hc⟩ := h1
  obtain ⟨ao2, cap2, rfl, hcap2, hmax2, _, b2, off2, ha2, hc2⟩ := h2
  have HC : Hid (∀ j s, xs[j]? = some s → w.cell? ⟨b, off + j * 2, none⟩ = some (.int .i64 s.1) ∧ w.cell? ⟨b, off + j * 2 + 1, none⟩ = some (.int .u64 s.2)) := hc
  have HC2 : Hid (∀ j s, ys[j]? = some s → w.cell? ⟨b2, off2 + j * 2, none⟩ = some (.int .i64 s.1) ∧ w.cell? ⟨b2, off2 + j * 2 + 1, none⟩ = some (.int .u64 s.2)) := hc2
  have HA : Hid (0 < xs.length → ao = some ⟨b, off, none⟩) := ha
  have HA2 : Hid (0 < ys.length → ao2 = some ⟨b2, off2, none⟩) := ha2
  clear hc ha hc2 ha2
  go_enter Try.func84, Try.ntmps84
  by_cases hl : xs.length = ys.length
  · have HL : Hid (xs.length = ys.length) := hl
    rw [← hl]
    have hcap2' : xs.length ≤ cap2 := by omega
    have hml : xs.length ≤ 9223372036854775807 := by unfold maxLen at hmax; omega
    clear hl hcap2
    go_wp2
    go_loopw [17] (fun i wr => ∃ (k : Nat), k ≤ xs.length ∧ i = .int .i64 (k : Int) ∧ xs.take k = ys.take k ∧ Fr [] w wr) (fun i _ => xs.length - (intOf i).toNat)
    case atStart => exact ⟨0, by omega, rfl, by simp, Fr.refl _ _⟩
    case round =>
      obtain ⟨k, hk, rfl, hpre, hf⟩ := hrel
      have HF : Hid (Fr [] w wr) := hf
      have HP : Hid (xs.take k = ys.take k) := hpre
      clear hf hpre
      by_cases hlt : k < xs.length
      · obtain rfl := HA.out (by omega)
        obtain rfl := HA2.out (by have := HL.out; omega)
        obtain ⟨s, hs⟩ := at_lt hlt
        obtain ⟨t, ht⟩ := at_lt (l := ys) (k := k) (by have := HL.out; omega)
        have HS : Hid (xs[k]? = some s ∧ ys[k]? = some t) := ⟨hs, ht⟩
        have c0 : wr.cell? ⟨b, off + k * 2, none⟩ = some (.int .i64 s.1) := HF.out.cell_some (HC.out k s hs).1 (by simp)
        have c1 : wr.cell? ⟨b, off + k * 2 + 1, none⟩ = some (.int .u64 s.2) := HF.out.cell_some (HC.out k s hs).2 (by simp)
        have F1 := HF.out.alloc (.cells #[.int .i64 s.1, .int .u64 s.2] 43)
        have HF1 : Hid (Fr [] w (wr.alloc (.cells #[.int .i64 s.1, .int .u64 s.2] 43))) := F1
        have d0 : (wr.alloc (.cells #[.int .i64 s.1, .int .u64 s.2] 43)).cell? ⟨b2, off2 + k * 2, none⟩ = some (.int .i64 t.1) := F1.cell_some (HC2.out k t ht).1 (by simp)
        have d1 : (wr.alloc (.cells #[.int .i64 s.1, .int .u64 s.2] 43)).cell? ⟨b2, off2 + k * 2 + 1, none⟩ = some (.int .u64 t.2) := F1.cell_some (HC2.out k t ht).2 (by simp)
        clear hs ht F1
        go_wp2_with fail
        refine (samePU_any s t _).mono ?_
        rintro e w2 ⟨rfl, hf2⟩
        have HF2 : Hid (Fr [] w w2) := (HF1.out.alloc _).trans hf2 (by simp)
        clear hf2 c0 c1 d0 d1 HF1
        by_cases hst : s = t
        · have hd : decide (s = t) = true := decide_eq_true hst
          have HP2 : Hid (xs.take (k + 1) = ys.take (k + 1)) := by
            rw [Hid, take_at HS.out.1, take_at HS.out.2, HP.out, hst]
          clear hst HS
          go_wp2
          go_roundw
          case rel => exact ⟨k + 1, by omega, by go_num, HP2.out, HF2.out⟩
          case measure => simp [intOf]; omega
        · have hd : decide (s = t) = false := decide_eq_false hst
          have HE : Hid (decide (xs = ys) = false) := decide_eq_false (fun h => hst (by
            have h1 := HS.out.1
            rw [h, HS.out.2] at h1
            exact (Option.some.inj h1).symm))
          clear hst HS
          go_wp2
          go_ret
          exact ⟨by rw [HE.out]; rfl, HF2.out⟩
      · have HE : Hid (decide (xs = ys) = true) := decide_eq_true (by
          have h := HP.out
          rw [List.take_of_length_le (by omega), List.take_of_length_le (by have := HL.out; omega)] at h
          exact h)
        go_wp2
        go_ret
        exact ⟨by rw [HE.out]; rfl, HF.out⟩
  · have HE : Hid (decide (xs = ys) = false) := decide_eq_false (fun h => hl (by rw [h]))
    have hl2 : ¬ (xs.length : Int) = (ys.length : Int) := by omega
    go_wp2
    go_ret
    exact ⟨by rw [HE.out]; rfl, Fr.refl _ _⟩

set_option maxHeartbeats 400000 in
theorem pequalU_any (v u : Value) (xs ys : List Sp) (w : World) (h1 : PSrc w v xs) (h2 : PSrc w u ys) :
    Calls Try.prog 61 #[v, u] w fun e w' => e = .returned (.bool (decide (xs = ys))) ∧ Fr [] w w' := by
  have H1 : Hid (PSrc w v xs) := h1
  have H2 : Hid (PSrc w u ys) := h2
  clear h1 h2
  go_enter Try.func61, Try.ntmps61
  go_wp2_with fail
  refine (equalFuncU_any _ _ xs ys w H1.out H2.out).mono ?_
  rintro e w1 ⟨rfl, hf⟩
  have HF : Hid (Fr [] w w1) := hf
  clear hf
  go_wp2
  go_ret
  exact ⟨rfl, HF.out⟩
set_option maxHeartbeats 2000000 in
theorem withoutU_any (v : Value) (l : List Sp) (z : Int) (w : World) (h : PSrc w v l) (hl : l.length ≤ 1000000) :
    Calls Try.prog 58 #[v, .int .u64 z] w fun e w' => ∃ u, e = .returned u ∧ POwn 43 w.heap.size w' u (wio l z) ∧ Fr [] w w' := by
  obtain ⟨ao, cap, rfl, hcap, hmax, _, b, off, ha, hc⟩ := h
  have HC : Hid (∀ j s, l[j]? = some s → w.cell? ⟨b, off + j * 2, none⟩ = some (.int .i64 s.1) ∧ w.cell? ⟨b, off + j * 2 + 1, none⟩ = some (.int .u64 s.2)) := hc
  have HA : Hid (0 < l.length → ao = some ⟨b, off, none⟩) := ha
  obtain ⟨i0, hi⟩ := info_pu
  have HI : Hid (PUInfo 43 i0) := hi
  clear hc ha hi
  go_enter Try.func58, Try.ntmps58
  go_wp2
  go_loopw [5, 10] (fun u i wr => ∃ (k : Nat), k ≤ l.length ∧ i = .int .i64 (k : Int) ∧ POwn 43 w.heap.size wr u (wio (l.take k) z) ∧ Fr [] w wr) (fun _ i _ => l.length - (intOf i).toNat)
  case atStart => exact ⟨0, by omega, rfl, .inl ⟨by simp [wio], rfl⟩, Fr.refl _ _⟩
  case round =>
    obtain ⟨k, hk, rfl, hso, hf⟩ := hrel
    have HF : Hid (Fr [] w wr) := hf
    have HS : Hid (POwn 43 w.heap.size wr u5 (wio (l.take k) z)) := hso
    clear hf hso
    by_cases hlt : k < l.length
    · obtain rfl := HA.out (by omega)
      obtain ⟨s, hs⟩ := at_lt hlt
      have c0 : wr.cell? ⟨b, off + k * 2, none⟩ = some (.int .i64 s.1) := HF.out.cell_some (HC.out k s hs).1 (by simp)
      have c1 : wr.cell? ⟨b, off + k * 2 + 1, none⟩ = some (.int .u64 s.2) := HF.out.cell_some (HC.out k s hs).2 (by simp)
      have HT : Hid (wio (l.take (k + 1)) z = wio (l.take k) z ++ wio [s] z) := by rw [Hid, take_at hs]; simp [wio]
      have HL : Hid ((wio (l.take k) z).length ≤ 1000000) := by
        have := List.length_filter_le (fun s : Sp => !decide (s.2 = z)) (l.take k)
        rw [List.length_take] at this
        unfold Hid wio; omega
      clear hs
      obtain ⟨o, n⟩ := s
      simp only at c0 c1
      have HF2 : Hid (Fr [] w (wr.alloc (.cells #[.int .i64 o, .int .u64 n] 43))) := HF.out.alloc _
      go_wp2_with fail
      refine (sameU_any n z _).mono ?_
      rintro e w2 ⟨rfl, rfl⟩
      by_cases hn : n = z
      · have hd : decide (n = z) = true := decide_eq_true hn
        have HT2 : Hid (wio (l.take (k + 1)) z = wio (l.take k) z) := by rw [Hid, HT.out]; simp [wio, hn]
        have HS2 := HS.out.kept ((Fr.refl [] _).alloc (.cells #[.int .i64 o, .int .u64 n] 43))
        have HS3 : Hid (POwn 43 w.heap.size (wr.alloc (.cells #[.int .i64 o, .int .u64 n] 43)) u5 (wio (l.take k) z)) := HS2
        clear HS2 hn HT
        go_wp2
        go_roundw
        case rel => exact ⟨k + 1, by omega, by go_num, by rw [HT2.out]; exact HS3.out, HF2.out⟩
        case measure => simp [intOf]; omega
      · have hd : decide (n = z) = false := decide_eq_false hn
        have HT2 : Hid (wio (l.take (k + 1)) z = wio (l.take k) z ++ [(o, n)]) := by rw [Hid, HT.out]; simp [wio, hn]
        have HSZ : Hid (w.heap.size ≤ wr.heap.size) := HF.out.size
        clear HT hn
        go_wp2_with (at_builtin; refine wpList_append_pu _ rfl _ _ 38 rfl Try.underlying38 HI.out.1 HI.out.2.1 HI.out.2.2.1 HI.out.2.2.2 (B := w.heap.size) (s := (o, n)) (by have := HSZ.out; simp; omega) rfl rfl (HS.out.kept (((Fr.refl [] _).alloc _).alloc _)) (lit_pu' 43 (wr.alloc _) [(o, n)] (World.size_alloc _ _) (by have := HSZ.out; omega) (by simp) (by unfold maxLen; simp)) HL.out ?_; intro v3 w3 ho3 hb3; have HO3 : Hid (POwn 43 w.heap.size w3 v3 (wio (l.take k) z ++ [(o, n)])) := ho3; have HB3 : Hid (Fr [] w w3) := Fr.ofBelow ((((HF.out.alloc _).alloc _).below (Nat.le_refl _) (by simp)).trans hb3); clear ho3 hb3)
        go_roundw
        case rel => exact ⟨k + 1, by omega, by go_num, by rw [HT2.out]; exact HO3.out, HB3.out⟩
        case measure => simp [intOf]; omega
    · have HS2 : Hid (POwn 43 w.heap.size wr u5 (wio l z)) := by
        have := HS.out
        rw [List.take_of_length_le (by omega)] at this
        exact this
      clear HS
      go_wp2
      go_ret
      exact ⟨_, rfl, HS2.out, HF.out⟩
end Go.Proofs.Ytoaibabkkphlaaa
