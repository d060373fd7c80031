/-
  Package layout: Right, Many.
-/
import Derived.Test.YtakjfggkfhjeaaaInserts
import Derived.Test.YtakjfggkfhjeaaaNRow
namespace Go.Proofs.Ytakjfggkfhjeaaa
open Go.RowKit Mem Spans
set_option linter.unusedSimpArgs false
set_option linter.unusedVariables false
set_option maxRecDepth 100000

set_option maxHeartbeats 2000000 in
theorem right_any (v : Value) (l : List Sp) (n : Nat) (w : World) (h : SSrc w v l) (hn : n ≤ 9223372036854775807) :
    Calls Try.prog 20 #[v, .int .i64 (n : Int)] w fun e w' => e = .returned (.bool (rgtB (-1) 4096 n l)) ∧ Fr [] w w' := by
  obtain ⟨ao, cap, rfl, hcap, hmax, h64, b, off, ha, hc⟩ := h
  have HC : Hid (∀ j s, l[j]? = some s → w.cell? ⟨b, off + j * 2, none⟩ = some (.int .i64 s.1) ∧ w.cell? ⟨b, off + j * 2 + 1, none⟩ = some (.int .i64 s.2)) := hc
  have HA : Hid (0 < l.length → ao = some ⟨b, off, none⟩) := ha
  have H64 : Hid (∀ s ∈ l, in64 s.1 ∧ in64 s.2) := h64
  have hml : l.length ≤ 9223372036854775807 := by unfold maxLen at hmax; omega
  clear hc ha h64
  go_enter Try.func20, Try.ntmps20
  go_wp2
  go_loopw [5, 6, 11] (fun c r i wr => ∃ (k : Nat) (A R : Int), k ≤ l.length ∧ i = .int .i64 (k : Int) ∧ c = .int .i64 A ∧ r = .int .i64 R ∧ 0 ≤ R ∧ R ≤ 4096 ∧ rgtB (-1) 4096 n l = rgtB A R n (l.drop k) ∧ Fr [] w wr) (fun _ _ i _ => l.length - (intOf i).toNat)
  case atStart => exact ⟨0, -1, 4096, by omega, rfl, rfl, rfl, by omega, by omega, by simp, Fr.refl _ _⟩
  case round =>
    obtain ⟨k, A, R, hk, rfl, rfl, rfl, hR0, hR1, hx, hf⟩ := hrel
    have HF : Hid (Fr [] w wr) := hf
    have HX : Hid (rgtB (-1) 4096 n l = rgtB A R n (l.drop k)) := hx
    clear hf hx
    by_cases hlt : k < l.length
    · obtain rfl := HA.out (by omega)
      obtain ⟨s, hs⟩ := at_lt hlt
      have HM := H64.out s (List.mem_of_getElem? hs)
      have c0 : wr.cell? ⟨b, off + k * 2, none⟩ = some (.int .i64 s.1) := HF.out.cell_some (HC.out k s hs).1 (by simp)
      have c1 : wr.cell? ⟨b, off + k * 2 + 1, none⟩ = some (.int .i64 s.2) := HF.out.cell_some (HC.out k s hs).2 (by simp)
      have HX2 : Hid (rgtB (-1) 4096 n l = rgtB A R n (s :: l.drop (k + 1))) := by rw [Hid, ← drop_at hs]; exact HX.out
      clear hs HX
      obtain ⟨o, q⟩ := s
      obtain ⟨⟨ho1, ho2⟩, hq1, hq2⟩ := HM
      simp only at c0 c1 ho1 ho2 hq1 hq2
      have HF2 : Hid (Fr [] w (wr.alloc (.cells #[.int .i64 o, .int .i64 q] 47))) := HF.out.alloc _
      by_cases a1 : A < o
      · by_cases a2 : o ≤ n
        · by_cases a3 : 1 ≤ q
          · by_cases a4 : q ≤ R
            · have HX3 : Hid (rgtB (-1) 4096 n l = rgtB o (R - q) n (l.drop (k + 1))) := by rw [Hid, HX2.out, rgtB]; simp [a1, a2, a3, a4]
              go_wp2
              go_roundw
              case rel => exact ⟨k + 1, o, R - q, by omega, by go_num, rfl, rfl, by omega, by omega, HX3.out, HF2.out⟩
              case measure => simp [intOf]; omega
            · have HX3 : Hid (rgtB (-1) 4096 n l = false) := by rw [Hid, HX2.out, rgtB]; simp [a4]
              go_wp2
              go_ret
              exact ⟨by rw [HX3.out]; rfl, HF2.out⟩
          · have HX3 : Hid (rgtB (-1) 4096 n l = false) := by rw [Hid, HX2.out, rgtB]; simp [a3]
            go_wp2
            go_ret
            exact ⟨by rw [HX3.out]; rfl, HF2.out⟩
        · have HX3 : Hid (rgtB (-1) 4096 n l = false) := by rw [Hid, HX2.out, rgtB]; simp [a2]
          go_wp2
          go_ret
          exact ⟨by rw [HX3.out]; rfl, HF2.out⟩
      · have HX3 : Hid (rgtB (-1) 4096 n l = false) := by rw [Hid, HX2.out, rgtB]; simp [a1]
        go_wp2
        go_ret
        exact ⟨by rw [HX3.out]; rfl, HF2.out⟩
    · have HX3 : Hid (rgtB (-1) 4096 n l = true) := by rw [Hid, HX.out, List.drop_eq_nil_of_le (by omega)]; rfl
      go_wp2
      go_ret
      exact ⟨by rw [HX3.out]; rfl, HF.out⟩

set_option maxHeartbeats 1000000 in
theorem many_any (v : Value) (l : List Sp) (w : World) (h : SSrc w v l) (hp : ∀ s ∈ l, 0 ≤ s.2) (hm : smN l ≤ 1000000) :
    Calls Try.prog 19 #[v] w fun e w' => e = .returned (.int .i64 (smN l)) ∧ Fr [] w w' := by
  obtain ⟨ao, cap, rfl, hcap, hmax, h64, b, off, ha, hc⟩ := h
  have HC : Hid (∀ j s, l[j]? = some s → w.cell? ⟨b, off + j * 2, none⟩ = some (.int .i64 s.1) ∧ w.cell? ⟨b, off + j * 2 + 1, none⟩ = some (.int .i64 s.2)) := hc
  have HA : Hid (0 < l.length → ao = some ⟨b, off, none⟩) := ha
  have HP : Hid (∀ s ∈ l, 0 ≤ s.2) := hp
  have hml : l.length ≤ 9223372036854775807 := by unfold maxLen at hmax; omega
  have HM : Hid (smN l ≤ 1000000) := hm
  clear hc ha h64 hp hm
  go_enter Try.func19, Try.ntmps19
  go_wp2
  go_loopw [3, 8] (fun c i wr => ∃ (k : Nat) (A : Int), k ≤ l.length ∧ i = .int .i64 (k : Int) ∧ c = .int .i64 A ∧ 0 ≤ A ∧ A + smN (l.drop k) = smN l ∧ Fr [] w wr) (fun _ i _ => l.length - (intOf i).toNat)
  case atStart => exact ⟨0, 0, by omega, rfl, rfl, by omega, by simp, Fr.refl _ _⟩
  case round =>
    obtain ⟨k, A, hk, rfl, rfl, hA0, hx, hf⟩ := hrel
    have HF : Hid (Fr [] w wr) := hf
    have HX : Hid (A + smN (l.drop k) = smN l) := hx
    clear hf hx
    by_cases hlt : k < l.length
    · obtain rfl := HA.out (by omega)
      obtain ⟨s, hs⟩ := at_lt hlt
      have hs0 := HP.out s (List.mem_of_getElem? hs)
      have c0 : wr.cell? ⟨b, off + k * 2, none⟩ = some (.int .i64 s.1) := HF.out.cell_some (HC.out k s hs).1 (by simp)
      have c1 : wr.cell? ⟨b, off + k * 2 + 1, none⟩ = some (.int .i64 s.2) := HF.out.cell_some (HC.out k s hs).2 (by simp)
      have HX2 : Hid (A + s.2 + smN (l.drop (k + 1)) = smN l) := by
        have := HX.out
        rw [drop_at hs] at this
        simp only [smN] at this
        rw [Hid]; omega
      have hge : 0 ≤ smN (l.drop (k + 1)) := by
        have key : ∀ r : List Sp, (∀ s ∈ r, 0 ≤ s.2) → 0 ≤ smN r := by
          intro r
          induction r with
          | nil => intro _; simp [smN]
          | cons y r ih => intro h; have := ih (fun x hx => h x (by simp [hx])); have := h y (by simp); simp only [smN]; omega
        exact key _ (fun x hx => HP.out x (List.mem_of_mem_drop hx))
      have hb : A + s.2 ≤ 1000000 := by have := HX2.out; have := HM.out; omega
      clear hs HX hge
      obtain ⟨o, q⟩ := s
      simp only at c0 c1 hs0 hb
      have HF2 : Hid (Fr [] w (wr.alloc (.cells #[.int .i64 o, .int .i64 q] 47))) := HF.out.alloc _
      go_wp2
      go_roundw
      case rel => exact ⟨k + 1, A + q, by omega, by go_num, rfl, by omega, HX2.out, HF2.out⟩
      case measure => simp [intOf]; omega
    · have HX3 : Hid (smN l = A) := by
        have := HX.out
        rw [List.drop_eq_nil_of_le (by omega)] at this
        simp only [smN] at this
        rw [Hid]; omega
      go_wp2
      go_ret
      exact ⟨by rw [HX3.out]; rfl, HF.out⟩
end Go.Proofs.Ytakjfggkfhjeaaa
