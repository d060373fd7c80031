/-
  The document's Find and Rising over pairs.
-/
import Derived.Test.YtlcnjiibapehbaaPNum
import Derived.Test.YtlcnjiibapehbaaRef6
namespace Go.Proofs.Ytlcnjiibapehbaa
open Go.RowKit Mem Spans
set_option linter.unusedSimpArgs false
set_option linter.unusedVariables false
set_option maxRecDepth 100000

/-- The number of the first pair with a place; -1: there is none. -/
def lfx (l : List Sp) (p : Int) : Int := if fdx l p < l.length then (fdx l p : Int) else -1

set_option maxHeartbeats 1000000 in
theorem lfind_any (v : Value) (l : List Sp) (p : Int) (w : World) (h : SSrc w v l) (hl : l.length ≤ 1000000) :
    Calls Try.prog 20 #[v, .int .i64 p] w fun e w' => e = .returned (.int .i64 (lfx l p)) ∧ w = w' := by
  obtain ⟨ao, cap, rfl, hcap, hmax, _, b, off, ha, hc⟩ := h
  have HC : Hid (∀ j s, l[j]? = some s → w.cell? ⟨b, off + j * 2, none⟩ = some (.int .i64 s.1) ∧ w.cell? ⟨b, off + j * 2 + 1, none⟩ = some (.int .i64 s.2)) := hc
  have HA : Hid (0 < l.length → ao = some ⟨b, off, none⟩) := ha
  clear hc ha
  go_enter Try.func20, Try.ntmps20
  go_wp2
  go_loopw [5] (fun i wr => ∃ (k : Nat), k ≤ l.length ∧ i = .int .i64 (k : Int) ∧ fdx l p = k + fdx (l.drop k) p ∧ wr = w) (fun i _ => l.length - (intOf i).toNat)
  case atStart => exact ⟨0, by omega, rfl, by simp, rfl⟩
  case round =>
    obtain ⟨k, hk, rfl, hx, rfl⟩ := hrel
    have HX : Hid (fdx l p = k + fdx (l.drop k) p) := hx
    clear hx
    by_cases hlt : k < l.length
    · obtain rfl := HA.out (by omega)
      obtain ⟨s, hs⟩ := at_lt hlt
      have c0 := (HC.out k s hs).1
      have HX2 : Hid (fdx l p = k + fdx (s :: l.drop (k + 1)) p) := by rw [Hid, ← drop_at hs]; exact HX.out
      clear hs HX
      obtain ⟨o, n⟩ := s
      simp only at c0
      by_cases ho : o = p
      · have HE : Hid (lfx l p = (k : Int)) := by
          have h1 : fdx l p = k := by rw [HX2.out, fdx, if_pos ho]; rfl
          unfold Hid lfx
          rw [h1, if_pos hlt]
        subst ho
        go_wp2
        go_ret
        exact ⟨by rw [HE.out]; rfl, rfl⟩
      · have HX3 : Hid (fdx l p = k + 1 + fdx (l.drop (k + 1)) p) := by rw [Hid, HX2.out, fdx, if_neg ho]; omega
        go_wp2
        go_roundw
        case rel => exact ⟨k + 1, by omega, by go_num, HX3.out, trivial⟩
        case measure => simp [intOf]; omega
    · have HE : Hid (lfx l p = -1) := by
        have h1 : fdx l p = l.length := by rw [HX.out, List.drop_eq_nil_of_le (by omega)]; simp [fdx]; omega
        unfold Hid lfx
        rw [h1, if_neg (by omega)]
      go_wp2
      go_ret
      exact ⟨by rw [HE.out]; rfl, rfl⟩

/-- Do pairs rise by places? -/
def risB : List Sp → Bool
  | [] => true
  | [_] => true
  | a :: b :: r => decide (a.1 < b.1) && risB (b :: r)

set_option maxHeartbeats 1000000 in
theorem lrisingP_any (v : Value) (l : List Sp) (w : World) (h : SSrc w v l) (hl : l.length ≤ 1000000) :
    Calls Try.prog 23 #[v] w fun e w' => e = .returned (.bool (risB l)) ∧ Fr [] w w' := by
  obtain ⟨ao, cap, rfl, hcap, hmax, _, b, off, ha, hc⟩ := h
  have HC : Hid (∀ j s, l[j]? = some s → w.cell? ⟨b, off + j * 2, none⟩ = some (.int .i64 s.1) ∧ w.cell? ⟨b, off + j * 2 + 1, none⟩ = some (.int .i64 s.2)) := hc
  have HA : Hid (0 < l.length → ao = some ⟨b, off, none⟩) := ha
  clear hc ha
  go_enter Try.func23, Try.ntmps23
  go_wp2
  go_loopw [3] (fun i wr => ∃ (k : Nat), (k ≤ l.length) ∧ i = .int .i64 ((k : Int) + 1) ∧ risB l = risB (l.drop k) ∧ Fr [] w wr) (fun i _ => l.length + 1 - (intOf i).toNat)
  case atStart => exact ⟨0, by omega, rfl, by simp, Fr.refl _ _⟩
  case round =>
    obtain ⟨k, hk, rfl, hx, hf⟩ := hrel
    have HX : Hid (risB l = risB (l.drop k)) := hx
    have HF : Hid (Fr [] w wr) := hf
    clear hx hf
    by_cases hlt : k + 1 < l.length
    · obtain rfl := HA.out (by omega)
      obtain ⟨s, hs⟩ := at_lt (l := l) (k := k) (by omega)
      obtain ⟨t, ht⟩ := at_lt hlt
      have c0 : wr.cell? ⟨b, off + k * 2, none⟩ = some (.int .i64 s.1) := HF.out.cell_some (HC.out k s hs).1 (by simp)
      have c1 : wr.cell? ⟨b, off + (k + 1) * 2, none⟩ = some (.int .i64 t.1) := HF.out.cell_some (HC.out (k + 1) t ht).1 (by simp)
      have HX2 : Hid (risB l = (decide (s.1 < t.1) && risB (l.drop (k + 1)))) := by
        rw [Hid, HX.out, drop_at hs, drop_at ht, risB]
      clear hs ht HX
      obtain ⟨o, n⟩ := s
      obtain ⟨o2, n2⟩ := t
      simp only at c0 c1
      have hlt2 : (k : Int) + 1 < (l.length : Int) := by omega
      by_cases hlo : o < o2
      · have d1 : decide (o2 ≤ o) = false := decide_eq_false (by omega)
        have HX3 : Hid (risB l = risB (l.drop (k + 1))) := by rw [Hid, HX2.out]; simp [hlo]
        clear HX2 hlo
        go_wp2_with fail
        go_quiet (fail)
        go_wp2
        go_roundw
        case rel => exact ⟨k + 1, by omega, by go_num, HX3.out, HF.out.drewN _⟩
        case measure => simp [intOf]; omega
      · have d1 : decide (o2 ≤ o) = true := decide_eq_true (by omega)
        have HX3 : Hid (risB l = false) := by rw [Hid, HX2.out]; simp [hlo]
        clear HX2 hlo
        go_wp2_with fail
        go_quiet (fail)
        go_wp2
        go_ret
        exact ⟨by rw [HX3.out]; rfl, HF.out.drewN _⟩
    · have HE : Hid (risB l = true) := by
        rw [Hid, HX.out]
        have : (l.drop k).length ≤ 1 := by simp; omega
        match hd : l.drop k, this with
        | [], _ => rfl
        | [a], _ => rfl
      have hge : ¬ (k : Int) + 1 < (l.length : Int) := by omega
      go_wp2
      go_ret
      exact ⟨by rw [HE.out]; rfl, HF.out⟩
end Go.Proofs.Ytlcnjiibapehbaa
