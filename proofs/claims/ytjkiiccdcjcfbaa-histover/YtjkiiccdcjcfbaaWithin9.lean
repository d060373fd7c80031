/-
  HistOver: the walk.
-/
import Derived.Test.YtjkiiccdcjcfbaaLawF9
import Derived.Test.YtjkiiccdcjcfbaaHPure3
namespace Go.Proofs.Ytjkiiccdcjcfbaa
open Go.RowKit Mem Spans
set_option linter.unusedSimpArgs false
set_option linter.unusedVariables false
set_option maxRecDepth 100000


theorem wth_snoc {xs ys : List Int} {k : Nat} {x : Int} (hx : xs[k]? = some x) : wth (xs.take (k + 1)) ys = (wth (xs.take k) ys && decide (x ∈ ys)) := by
  unfold wth; rw [take_at hx]; simp
theorem wth_no {xs ys : List Int} {k : Nat} {x : Int} (hx : xs[k]? = some x) (h : ¬ x ∈ ys) : wth xs ys = false := by
  rw [Bool.eq_false_iff]
  intro h2
  unfold wth at h2
  rw [List.all_eq_true] at h2
  exact h (by simpa using h2 x (List.mem_of_getElem? hx))

set_option maxHeartbeats 4000000 in
theorem within_any (v u : Value) (xs ys : List Int) (w : World) (h1 : ISrc w v xs) (h2 : ISrc w u ys) :
    Calls Try.prog 39 #[v, u] w fun e w' => e = .returned (.bool (wth xs ys)) ∧ Fr [] w w' := by
  obtain ⟨ao, cap, rfl, hcap, hmax, _, b, off, ha, hc⟩ := h1
  obtain ⟨ao2, cap2, rfl, hcap2, hmax2, _, b2, off2, ha2, hc2⟩ := h2
  have HC : Hid (∀ j s, xs[j]? = some s → w.cell? ⟨b, off + j, none⟩ = some (.int .i64 s)) := hc
  have HC2 : Hid (∀ j s, ys[j]? = some s → w.cell? ⟨b2, off2 + j, none⟩ = some (.int .i64 s)) := hc2
  have HA : Hid (0 < xs.length → ao = some ⟨b, off, none⟩) := ha
  have HA2 : Hid (0 < ys.length → ao2 = some ⟨b2, off2, none⟩) := ha2
  have hml : xs.length ≤ 9223372036854775807 := by unfold maxLen at hmax; omega
  have hml2 : ys.length ≤ 9223372036854775807 := by unfold maxLen at hmax2; omega
  clear hc ha hc2 ha2
  go_enter Try.func39, Try.ntmps39
  go_wp2
  go_loopw [12] (fun i wr => ∃ (k : Nat), k ≤ xs.length ∧ i = .int .i64 (k : Int) ∧ wth (xs.take k) ys = true ∧ wr = w) (fun i _ => xs.length - (intOf i).toNat)
  case atStart => exact ⟨0, by omega, rfl, by simp [wth], rfl⟩
  case round =>
    obtain ⟨k, hk, rfl, hr, rfl⟩ := hrel
    have HR : Hid (wth (xs.take k) ys = true) := hr
    clear hr
    by_cases hlt : k < xs.length
    · obtain rfl := HA.out (by omega)
      obtain ⟨x, hx⟩ := at_lt hlt
      have c0 := HC.out k x hx
      have HX : Hid (xs[k]? = some x) := hx
      clear hx
      go_wp2
      go_loopw [7, 18] (fun f i wx => ∃ (m : Nat), m ≤ ys.length ∧ i = .int .i64 (m : Int) ∧ f = .bool (decide (x ∈ ys.take m)) ∧ wx = wr) (fun _ i _ => ys.length - (intOf i).toNat)
      case atStart => exact ⟨0, by omega, rfl, by simp, rfl⟩
      case round =>
        obtain ⟨m, hm, rfl, rfl, rfl⟩ := hrel
        by_cases hml3 : m < ys.length
        · obtain rfl := HA2.out (by omega)
          obtain ⟨y, hy⟩ := at_lt hml3
          have c1 := HC2.out m y hy
          have HT : Hid (decide (x ∈ ys.take (m + 1)) = (decide (x ∈ ys.take m) || decide (x = y))) := by rw [Hid, take_at hy]; simp
          clear hy
          cases hin : decide (x ∈ ys.take m) with
          | true =>
            have HT2 : Hid (decide (x ∈ ys.take (m + 1)) = true) := by rw [Hid, HT.out, hin]; rfl
            clear HT hin
            go_wp2
            go_roundw
            case rel => first | exact ⟨m + 1, by omega, by go_num, by rw [HT2.out], trivial⟩ | exact ⟨_, _, ⟨m + 1, by omega, rfl, by rw [HT2.out]⟩, rfl, by go_num⟩ | exact ⟨_, _, _, ⟨m + 1, by omega, rfl, rfl⟩, rfl, by rw [HT2.out], by go_num⟩
            case measure => simp [intOf]; omega
          | false =>
            have HT2 : Hid (decide (x ∈ ys.take (m + 1)) = (x == y)) := by rw [Hid, HT.out, hin, Bool.false_or]; rfl
            clear HT hin
            go_wp2
            go_roundw
            case rel => first | exact ⟨m + 1, by omega, by go_num, by rw [HT2.out], trivial⟩ | exact ⟨_, _, ⟨m + 1, by omega, rfl, by rw [HT2.out]⟩, rfl, by go_num⟩ | exact ⟨_, _, _, ⟨m + 1, by omega, rfl, rfl⟩, rfl, by rw [HT2.out], by go_num⟩
            case measure => simp [intOf]; omega
        · have HT : Hid (decide (x ∈ ys.take m) = decide (x ∈ ys)) := by rw [Hid, List.take_of_length_le (by omega)]
          by_cases hin : x ∈ ys
          · have HW : Hid (wth (xs.take (k + 1)) ys = true) := by rw [Hid, wth_snoc HX.out, HR.out, decide_eq_true hin]; rfl
            rw [HT.out, decide_eq_true hin]
            clear HT hin
            go_wp2
            go_roundw
            case rel => first | exact ⟨k + 1, by omega, by go_num, HW.out, trivial⟩ | exact ⟨_, _, ⟨k + 1, by omega, rfl, HW.out⟩, rfl, by go_num⟩
            case measure => simp [intOf]; omega
          · have HW : Hid (wth xs ys = false) := wth_no HX.out hin
            rw [HT.out, decide_eq_false hin]
            clear HT hin
            go_wp2
            go_ret
            exact ⟨by rw [HW.out]; rfl, Fr.refl _ _⟩
    · have HW : Hid (wth xs ys = true) := by
        have := HR.out
        rw [List.take_of_length_le (by omega)] at this
        exact this
      go_wp2
      go_ret
      exact ⟨by rw [HW.out]; rfl, Fr.refl _ _⟩

theorem ovh_len {h : Hs} {p n : List Sp} (hp : p.length ≤ 1024) (hn : n.length ≤ 1024) : (ovh h p n).P.length ≤ 1024 ∧ (ovh h p n).N.length ≤ 1024 := by
  unfold ovh
  split
  · exact ⟨hp, hn⟩
  · exact ⟨by simp [hzero], by simp [hzero]⟩
end Go.Proofs.Ytjkiiccdcjcfbaa
