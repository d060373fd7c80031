/-
  What the statements of layer 8 share: ref, small, numbers, same, right, sums.
-/
import Derived.Test.YtakjfggkfhjeaaaRef6P
import Derived.Test.YtakjfggkfhjeaaaInserts
import Derived.Test.YtakjfggkfhjeaaaNRow
namespace Go.Proofs.Ytakjfggkfhjeaaa
open Go.RowKit Mem Spans
set_option linter.unusedSimpArgs false
set_option linter.unusedVariables false
set_option maxRecDepth 100000

set_option maxHeartbeats 2000000 in
theorem lref8_any (v : Value) (l : List Sp) (w : World) (h : SSrc w v l) (hl : l.length ≤ 1024) :
    Calls Try.prog 13 #[v] w fun e w' => ∃ u, e = .returned u ∧ SOwn 61 w.heap.size w' u l ∧ Fr [] w w' := by
  obtain ⟨ao, cap, rfl, hcap, hmax, h64, b, off, ha, hc⟩ := h
  have HC : Hid (∀ j s, l[j]? = some s → w.cell? ⟨b, off + j * 2, none⟩ = some (.int .i64 s.1) ∧ w.cell? ⟨b, off + j * 2 + 1, none⟩ = some (.int .i64 s.2)) := hc
  have HA : Hid (0 < l.length → ao = some ⟨b, off, none⟩) := ha
  obtain ⟨i0, hi, hz0, hz1, hz2⟩ := info_refspan
  have HI : Hid (Try.prog.info? 61 = some i0 ∧ i0.zero = some (.agg #[.int .i64 0, .int .i64 0]) ∧ i0.size = 2 ∧ i0.bytes = 16) := ⟨hi, hz0, hz1, hz2⟩
  clear hc ha h64 hi hz0 hz1 hz2
  go_enter Try.func13, Try.ntmps13
  go_wp2
  go_loopw [3, 8] (fun u i wr => ∃ (k : Nat), k ≤ l.length ∧ i = .int .i64 (k : Int) ∧ SOwn 61 w.heap.size wr u (l.take k) ∧ Fr [] w wr) (fun _ i _ => l.length - (intOf i).toNat)
  case atStart => exact ⟨0, by omega, rfl, .inl ⟨by simp, rfl⟩, Fr.refl _ _⟩
  case round =>
    obtain ⟨k, hk, rfl, hso, hf⟩ := hrel
    have HF : Hid (Fr [] w wr) := hf
    have HS : Hid (SOwn 61 w.heap.size wr u3 (l.take k)) := hso
    clear hf hso
    by_cases hlt : k < l.length
    · obtain rfl := HA.out (by omega)
      obtain ⟨s, hs⟩ := at_lt hlt
      have c0 : wr.cell? ⟨b, off + k * 2, none⟩ = some (.int .i64 s.1) := HF.out.cell_some (HC.out k s hs).1 (by simp)
      have c1 : wr.cell? ⟨b, off + k * 2 + 1, none⟩ = some (.int .i64 s.2) := HF.out.cell_some (HC.out k s hs).2 (by simp)
      have HT : Hid (l.take (k + 1) = l.take k ++ [s]) := take_at hs
      have HL : Hid ((l.take k).length ≤ 1000000) := by rw [Hid, List.length_take]; omega
      clear hs
      obtain ⟨o, n⟩ := s
      simp only at c0 c1
      have HSZ : Hid (w.heap.size ≤ wr.heap.size) := HF.out.size
      go_wp2_with (at_builtin; refine wpList_append_sp _ rfl _ _ 34 rfl Try.underlying34 HI.out.1 HI.out.2.1 HI.out.2.2.1 HI.out.2.2.2 (B := w.heap.size) (s := (o, n)) (by have := HSZ.out; simp; omega) rfl rfl (HS.out.kept (((Fr.refl [] _).alloc _).alloc _)) (lit_sp' 61 (wr.alloc _) [(o, n)] (World.size_alloc _ _) (by have := HSZ.out; omega) (by simp) (by unfold maxLen; simp)) HL.out ?_; intro v3 w3 ho3 hb3; have HO3 : Hid (SOwn 61 w.heap.size w3 v3 (l.take k ++ [(o, n)])) := ho3; have HB3 : Hid (Fr [] w w3) := Fr.ofBelow ((((HF.out.alloc _).alloc _).below (Nat.le_refl _) (by simp)).trans hb3); clear ho3 hb3)
      go_roundw
      case rel => exact ⟨k + 1, by omega, by go_num, by rw [HT.out]; exact HO3.out, HB3.out⟩
      case measure => simp [intOf]; omega
    · have HS2 : Hid (SOwn 61 w.heap.size wr u3 l) := by
        have := HS.out
        rw [List.take_of_length_le (by omega)] at this
        exact this
      clear HS
      go_wp2
      go_ret
      exact ⟨_, rfl, HS2.out, HF.out⟩

def SmallPost8 (l : List Sp) (w : World) (e : Ending) (w' : World) : Prop := ∃ r : Bool, e = .returned (.bool r) ∧ (r = true → l.length ≤ 300) ∧ Fr [] w w'

set_option maxHeartbeats 2000000 in
theorem small8_any (v : Value) (l : List Sp) (w : World) (h : SSrc w v l) :
    Calls Try.prog 7 #[v] w fun e w' => SmallPost8 l w e w' := by
  obtain ⟨ao, cap, rfl, hcap, hmax, h64, b, off, ha, hc⟩ := h
  have HC : Hid (∀ j s, l[j]? = some s → w.cell? ⟨b, off + j * 2, none⟩ = some (.int .i64 s.1) ∧ w.cell? ⟨b, off + j * 2 + 1, none⟩ = some (.int .i64 s.2)) := hc
  have HA : Hid (0 < l.length → ao = some ⟨b, off, none⟩) := ha
  have H64 : Hid (∀ s ∈ l, in64 s.1 ∧ in64 s.2) := h64
  have hml : l.length ≤ 9223372036854775807 := by unfold maxLen at hmax; omega
  clear hc ha h64
  go_enter Try.func7, Try.ntmps7
  go_wp2
  go_loopw [3, 8] (fun c i wr => ∃ (k : Nat) (N : Int), k ≤ l.length ∧ i = .int .i64 (k : Int) ∧ c = .int .i64 N ∧ (k : Int) ≤ N ∧ N ≤ 300 ∧ Fr [] w wr) (fun _ i _ => l.length - (intOf i).toNat)
  case atStart => exact ⟨0, 0, by omega, rfl, rfl, by omega, by omega, Fr.refl _ _⟩
  case round =>
    obtain ⟨k, N, hk, rfl, rfl, hN1, hN2, hf⟩ := hrel
    have HF : Hid (Fr [] w wr) := hf
    clear hf
    by_cases hlt : k < l.length
    · obtain rfl := HA.out (by omega)
      obtain ⟨s, hs⟩ := at_lt hlt
      have HM := (H64.out s (List.mem_of_getElem? hs)).2
      have c0 : wr.cell? ⟨b, off + k * 2, none⟩ = some (.int .i64 s.1) := HF.out.cell_some (HC.out k s hs).1 (by simp)
      have c1 : wr.cell? ⟨b, off + k * 2 + 1, none⟩ = some (.int .i64 s.2) := HF.out.cell_some (HC.out k s hs).2 (by simp)
      clear hs
      obtain ⟨o, n⟩ := s
      obtain ⟨hn1, hn2⟩ := HM
      simp only at c0 c1 hn1 hn2
      have HF2 : Hid (Fr [] w (wr.alloc (.cells #[.int .i64 o, .int .i64 n] 54))) := HF.out.alloc _
      by_cases hp : 0 < n
      · by_cases h5 : 5000 < n
        · go_wp2
          go_ret
          exact ⟨false, rfl, by simp, HF2.out⟩
        · by_cases h6 : N + (1 + n / 4) + 1 ≤ 300
          · go_wp2
            go_roundw
            case rel => exact ⟨k + 1, _, by omega, by go_num, rfl, by omega, by omega, HF2.out⟩
            case measure => simp [intOf]; omega
          · go_wp2
            go_ret
            exact ⟨false, rfl, by simp, HF2.out⟩
      · by_cases h6 : N + 1 ≤ 300
        · go_wp2
          go_roundw
          case rel => exact ⟨k + 1, N + 1, by omega, by go_num, rfl, by omega, by omega, HF2.out⟩
          case measure => simp [intOf]; omega
        · go_wp2
          go_ret
          exact ⟨false, rfl, by simp, HF2.out⟩
    · go_wp2
      go_ret
      exact ⟨true, rfl, fun _ => by omega, HF.out⟩

set_option maxHeartbeats 1000000 in
theorem lsame8_any (v u : Value) (xs ys : List Int) (w : World) (h1 : ISrc w v xs) (h2 : ISrc w u ys) :
    Calls Try.prog 17 #[v, u] w fun e w' => e = .returned (.bool (decide (xs = ys))) ∧ Fr [] w w' := by
  obtain ⟨ao, cap, rfl, hcap, hmax, _, b, off, ha, hc⟩ := h1
  obtain ⟨ao2, cap2, rfl, hcap2, hmax2, _, b2, off2, ha2, hc2⟩ := h2
  have HC : Hid (∀ j x, xs[j]? = some x → w.cell? ⟨b, off + j, none⟩ = some (.int .i64 x)) := hc
  have HC2 : Hid (∀ j x, ys[j]? = some x → w.cell? ⟨b2, off2 + j, none⟩ = some (.int .i64 x)) := hc2
  have HA : Hid (0 < xs.length → ao = some ⟨b, off, none⟩) := ha
  have HA2 : Hid (0 < ys.length → ao2 = some ⟨b2, off2, none⟩) := ha2
  have hml : xs.length ≤ 9223372036854775807 := by unfold maxLen at hmax; omega
  have hml2 : ys.length ≤ 9223372036854775807 := by unfold maxLen at hmax2; omega
  clear hc ha hc2 ha2
  go_enter Try.func17, Try.ntmps17
  by_cases hl : xs.length = ys.length
  · have hlb : ((xs.length : Int) != (ys.length : Int)) = false := by simp; omega
    have hle1 : xs.length ≤ ys.length := by omega
    have hle2 : ys.length ≤ xs.length := by omega
    clear hl
    go_wp2
    clear hlb
    go_loopw [13] (fun i wr => ∃ (k : Nat), k ≤ xs.length ∧ i = .int .i64 (k : Int) ∧ xs.take k = ys.take k ∧ Fr [] w wr) (fun i _ => xs.length - (intOf i).toNat)
    case atStart => exact ⟨0, by omega, rfl, by simp, Fr.refl _ _⟩
    case round =>
      obtain ⟨k, hk, rfl, ht, hf⟩ := hrel
      have HF : Hid (Fr [] w wr) := hf
      have HT : Hid (xs.take k = ys.take k) := ht
      clear hf ht
      by_cases hlt : k < xs.length
      · obtain rfl := HA.out (by omega)
        obtain rfl := HA2.out (by omega)
        obtain ⟨x, hx⟩ := at_lt hlt
        obtain ⟨y, hy⟩ := at_lt (show k < ys.length by omega)
        have c0 : wr.cell? ⟨b, off + k, none⟩ = some (.int .i64 x) := HF.out.cell_some (HC.out k x hx) (by simp)
        have c1 : wr.cell? ⟨b2, off2 + k, none⟩ = some (.int .i64 y) := HF.out.cell_some (HC2.out k y hy) (by simp)
        have hk2 : k < ys.length := by omega
        by_cases hxy : x = y
        · have HT2 : Hid (xs.take (k + 1) = ys.take (k + 1)) := by rw [Hid, take_at hx, take_at hy, HT.out, hxy]
          clear HT hx hy
          subst hxy
          go_wp2_with fail
          go_quiet (fail)
          go_wp2
          go_roundw
          case rel => exact ⟨k + 1, by omega, by go_num, HT2.out, HF.out.drewN _⟩
          case measure => simp [intOf]; omega
        · have HNO : Hid (decide (xs = ys) = false) := by
            rw [Hid, decide_eq_false_iff_not]
            intro h
            subst h
            rw [hx] at hy
            simp at hy
            exact hxy hy
          clear HT hx hy
          go_wp2_with fail
          go_quiet (fail)
          go_wp2
          go_ret
          exact ⟨by rw [HNO.out]; rfl, HF.out.drewN _⟩
      · have HYES : Hid (decide (xs = ys) = true) := by
          rw [Hid, decide_eq_true_iff]
          have := HT.out
          rw [List.take_of_length_le (show xs.length ≤ k by omega), List.take_of_length_le (show ys.length ≤ k by omega)] at this
          exact this
        clear HT
        go_wp2
        go_ret
        exact ⟨by rw [HYES.out]; rfl, HF.out⟩
  · have HNO : Hid (decide (xs = ys) = false) := by
      rw [Hid, decide_eq_false_iff_not]
      exact fun h => hl (by rw [h])
    have hlb : ((xs.length : Int) != (ys.length : Int)) = true := by simp; omega
    go_wp2
    go_ret
    exact ⟨by rw [HNO.out]; rfl, Fr.refl _ _⟩

set_option maxHeartbeats 2000000 in
theorem lright_any (v : Value) (l : List Sp) (n : Nat) (w : World) (h : SSrc w v l) (hn : n ≤ 9223372036854775807) :
    Calls Try.prog 21 #[v, .int .i64 (n : Int)] w fun e w' => e = .returned (.bool (rgtB (-1) 4096 n l)) ∧ Fr [] w w' := by
  obtain ⟨ao, cap, rfl, hcap, hmax, h64, b, off, ha, hc⟩ := h
  have HC : Hid (∀ j s, l[j]? = some s → w.cell? ⟨b, off + j * 2, none⟩ = some (.int .i64 s.1) ∧ w.cell? ⟨b, off + j * 2 + 1, none⟩ = some (.int .i64 s.2)) := hc
  have HA : Hid (0 < l.length → ao = some ⟨b, off, none⟩) := ha
  have H64 : Hid (∀ s ∈ l, in64 s.1 ∧ in64 s.2) := h64
  have hml : l.length ≤ 9223372036854775807 := by unfold maxLen at hmax; omega
  clear hc ha h64
  go_enter Try.func21, Try.ntmps21
  go_wp2
  go_loopw [5, 6, 11] (fun c r i wr => ∃ (k : Nat) (A R : Int), k ≤ l.length ∧ i = .int .i64 (k : Int) ∧ c = .int .i64 A ∧ r = .int .i64 R ∧ 0 ≤ R ∧ R ≤ 4096 ∧ rgtB (-1) 4096 n l = rgtB A (4096 - R) n (l.drop k) ∧ Fr [] w wr) (fun _ _ i _ => l.length - (intOf i).toNat)
  case atStart => exact ⟨0, -1, 0, by omega, rfl, rfl, rfl, by omega, by omega, by simp, Fr.refl _ _⟩
  case round =>
    obtain ⟨k, A, R, hk, rfl, rfl, rfl, hR0, hR1, hx, hf⟩ := hrel
    have HF : Hid (Fr [] w wr) := hf
    have HX : Hid (rgtB (-1) 4096 n l = rgtB A (4096 - R) n (l.drop k)) := hx
    clear hf hx
    by_cases hlt : k < l.length
    · obtain rfl := HA.out (by omega)
      obtain ⟨s, hs⟩ := at_lt hlt
      have HM := H64.out s (List.mem_of_getElem? hs)
      have c0 : wr.cell? ⟨b, off + k * 2, none⟩ = some (.int .i64 s.1) := HF.out.cell_some (HC.out k s hs).1 (by simp)
      have c1 : wr.cell? ⟨b, off + k * 2 + 1, none⟩ = some (.int .i64 s.2) := HF.out.cell_some (HC.out k s hs).2 (by simp)
      have HX2 : Hid (rgtB (-1) 4096 n l = rgtB A (4096 - R) n (s :: l.drop (k + 1))) := by rw [Hid, ← drop_at hs]; exact HX.out
      clear hs HX
      obtain ⟨o, q⟩ := s
      obtain ⟨⟨ho1, ho2⟩, hq1, hq2⟩ := HM
      simp only at c0 c1 ho1 ho2 hq1 hq2
      have HF2 : Hid (Fr [] w (wr.alloc (.cells #[.int .i64 o, .int .i64 q] 47))) := HF.out.alloc _
      by_cases a1 : A < o
      · by_cases a2 : o ≤ n
        · by_cases a3 : 1 ≤ q
          · by_cases a5 : q ≤ 4096
            · by_cases a4 : R + q ≤ 4096
              · have HX3 : Hid (rgtB (-1) 4096 n l = rgtB o (4096 - (R + q)) n (l.drop (k + 1))) := by
                  rw [Hid, HX2.out, rgtB]
                  simp only [a1, a2, a3, decide_true, Bool.true_and]
                  rw [show 4096 - R - q = 4096 - (R + q) from by omega, decide_eq_true (show q ≤ 4096 - R by omega), Bool.true_and]
                go_wp2
                go_roundw
                case rel => exact ⟨k + 1, o, R + q, by omega, by go_num, rfl, rfl, by omega, by omega, HX3.out, HF2.out⟩
                case measure => simp [intOf]; omega
              · have HX3 : Hid (rgtB (-1) 4096 n l = false) := by rw [Hid, HX2.out, rgtB, decide_eq_false (show ¬ q ≤ 4096 - R by omega)]; simp
                go_wp2
                go_ret
                exact ⟨by rw [HX3.out]; rfl, HF2.out⟩
            · have HX3 : Hid (rgtB (-1) 4096 n l = false) := by rw [Hid, HX2.out, rgtB, decide_eq_false (show ¬ q ≤ 4096 - R by omega)]; simp
              go_wp2
              go_ret
              exact ⟨by rw [HX3.out]; rfl, HF2.out⟩
          · have HX3 : Hid (rgtB (-1) 4096 n l = false) := by rw [Hid, HX2.out, rgtB]; simp [a3]
            go_wp2
            go_ret
            exact ⟨by rw [HX3.out]; rfl, HF2.out⟩
        · have HX3 : Hid (rgtB (-1) 4096 n l = false) := by rw [Hid, HX2.out, rgtB]; simp [a2]
          go_wp2
          go_ret
          exact ⟨by rw [HX3.out]; rfl, HF2.out⟩
      · have HX3 : Hid (rgtB (-1) 4096 n l = false) := by rw [Hid, HX2.out, rgtB]; simp [a1]
        go_wp2
        go_ret
        exact ⟨by rw [HX3.out]; rfl, HF2.out⟩
    · have HX3 : Hid (rgtB (-1) 4096 n l = true) := by rw [Hid, HX.out, List.drop_eq_nil_of_le (by omega)]; rfl
      go_wp2
      go_ret
      exact ⟨by rw [HX3.out]; rfl, HF.out⟩
end Go.Proofs.Ytakjfggkfhjeaaa
