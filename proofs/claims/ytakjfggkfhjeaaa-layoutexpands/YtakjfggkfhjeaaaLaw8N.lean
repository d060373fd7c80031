/-
  What the statements of layer 8 share: numbers, sums; the document's Has and Expand.
-/
import Derived.Test.YtakjfggkfhjeaaaLaw8
namespace Go.Proofs.Ytakjfggkfhjeaaa
open Go.RowKit Mem Spans
set_option linter.unusedSimpArgs false
set_option linter.unusedVariables false
set_option maxRecDepth 100000

set_option maxHeartbeats 1000000 in
theorem numbers_any (n : Nat) (z : Int) (w : World) (hn : n ≤ 5000) (hz : in64 z) :
    Calls Try.prog 14 #[.int .i64 (n : Int), .int .i64 z] w fun e w' => ∃ u zs, e = .returned u ∧ zs.length = n ∧ (∀ x ∈ zs, in64 x) ∧ NOwn 2 w.heap.size w' u zs ∧ Fr [] w w' := by
  obtain ⟨i0, hi⟩ := info_int64
  have HI : Hid (NInfo 2 i0) := hi
  clear hi
  go_enter Try.func14, Try.ntmps14
  go_wp2
  go_loopw [5, 8] (fun u i wr => ∃ (k : Nat) (out : List Int), k ≤ n ∧ i = .int .i64 (k : Int) ∧ out.length = k ∧ (∀ x ∈ out, in64 x) ∧ NOwn 2 w.heap.size wr u out ∧ Fr [] w wr) (fun _ i _ => n - (intOf i).toNat)
  case atStart => exact ⟨0, [], by omega, rfl, rfl, by simp, .inl ⟨rfl, rfl⟩, Fr.refl _ _⟩
  case round =>
    obtain ⟨k, out, hk, rfl, hol, hin, hno, hf⟩ := hrel
    have HF : Hid (Fr [] w wr) := hf
    have HOL : Hid (out.length = k) := hol
    have HIN : Hid (∀ x ∈ out, in64 x) := hin
    have HN : Hid (NOwn 2 w.heap.size wr u5 out) := hno
    clear hf hol hno hin
    by_cases hlt : k < n
    · have HSZ : Hid (w.heap.size ≤ wr.heap.size) := HF.out.size
      have HT : Hid (in64 (wrap64 (wrap64 (z * ((k : Int) + 1)) + wrap64 ((k : Int) * (k : Int))))) := wrap_in _
      go_wp2_with (at_builtin; refine wpList_append_n _ rfl _ _ 36 rfl Try.underlying36 HI.out.1 HI.out.2.1 HI.out.2.2.1 HI.out.2.2.2 (B := w.heap.size) (s := wrap64 (wrap64 (z * ((k : Int) + 1)) + wrap64 ((k : Int) * (k : Int)))) (by have := HSZ.out; simp; omega) rfl rfl (HN.out.kept ((Fr.refl [] _).alloc _)) (lit_n 2 wr [wrap64 (wrap64 (z * ((k : Int) + 1)) + wrap64 ((k : Int) * (k : Int)))] rfl HSZ.out (by simp) (by unfold maxLen; simp)) (by have := HOL.out; omega) ?_; intro v3 w3 ho3 hb3; generalize wrap64 (wrap64 (z * ((k : Int) + 1)) + wrap64 ((k : Int) * (k : Int))) = T at ho3 HT ⊢; have HO3 : Hid (NOwn 2 w.heap.size w3 v3 (out ++ [T])) := ho3; have HB3 : Hid (Fr [] w w3) := Fr.ofBelow (((HF.out.alloc _).below (Nat.le_refl _) (by simp)).trans hb3); clear ho3 hb3)
      go_roundw
      case rel =>
        refine ⟨k + 1, out ++ [T], by omega, by go_num, by have := HOL.out; simp; omega, ?_, HO3.out, HB3.out⟩
        intro x hx
        rcases List.mem_append.1 hx with h | h
        · exact HIN.out x h
        · have : x = T := by simpa using h
          rw [this]; exact HT.out
      case measure => simp [intOf]; omega
    · go_wp2
      go_ret
      exact ⟨_, _, rfl, by have := HOL.out; omega, HIN.out, HN.out, HF.out⟩

theorem u64_wrap (z : Int) : IntKind.u64.wrap z = z % 18446744073709551616 := by unfold IntKind.wrap; simp [IntKind.bits, IntKind.signed]
theorem u64_sum {S A d : Int} (h : A = S % 18446744073709551616) : wrap64 (IntKind.u64.wrap (A + IntKind.u64.wrap d)) = wrap64 (S + d) ∧ IntKind.u64.wrap (A + IntKind.u64.wrap d) = wrap64 (IntKind.u64.wrap (A + IntKind.u64.wrap d)) % 18446744073709551616 := by
  subst h
  rw [u64_wrap, u64_wrap]
  unfold wrap64
  omega

set_option maxHeartbeats 1000000 in
theorem lsums8_any (v : Value) (l : List Int) (w : World) (h : ISrc w v l) (hl : l.length ≤ 1000000) :
    Calls Try.prog 23 #[v] w fun e w' => ∃ u, e = .returned u ∧ NOwn 2 w.heap.size w' u (wsm 0 l) ∧ Fr [] w w' := by
  obtain ⟨ao, cap, rfl, hcap, hmax, h64, b, off, ha, hc⟩ := h
  have HC : Hid (∀ j s, l[j]? = some s → w.cell? ⟨b, off + j, none⟩ = some (.int .i64 s)) := hc
  have HA : Hid (0 < l.length → ao = some ⟨b, off, none⟩) := ha
  obtain ⟨i0, hi⟩ := info_int64
  have HI : Hid (NInfo 2 i0) := hi
  clear hc ha h64 hi
  go_enter Try.func23, Try.ntmps23
  go_wp2
  go_loopw [3, 4, 9] (fun u s i wr => ∃ (k : Nat) (S A : Int) (out : List Int), k ≤ l.length ∧ i = .int .i64 (k : Int) ∧ s = .int .u64 A ∧ A = S % 18446744073709551616 ∧ out.length = k ∧ wsm 0 l = out ++ wsm S (l.drop k) ∧ NOwn 2 w.heap.size wr u out ∧ Fr [] w wr) (fun _ _ i _ => l.length - (intOf i).toNat)
  case atStart => exact ⟨0, 0, 0, [], by omega, rfl, rfl, rfl, rfl, by simp, .inl ⟨rfl, rfl⟩, Fr.refl _ _⟩
  case round =>
    obtain ⟨k, S, A, out, hk, rfl, rfl, hAS, hol, hst, hno, hf⟩ := hrel
    have HF : Hid (Fr [] w wr) := hf
    have HOL : Hid (out.length = k) := hol
    have HAS : Hid (A = S % 18446744073709551616) := hAS
    have HN : Hid (NOwn 2 w.heap.size wr u3 out) := hno
    have HST : Hid (wsm 0 l = out ++ wsm S (l.drop k)) := hst
    clear hf hol hst hno hAS
    by_cases hlt : k < l.length
    · obtain rfl := HA.out (by omega)
      obtain ⟨d, hd⟩ := at_lt hlt
      have c0 : wr.cell? ⟨b, off + k, none⟩ = some (.int .i64 d) := HF.out.cell_some (HC.out k d hd) (by simp)
      have HSZ : Hid (w.heap.size ≤ wr.heap.size) := HF.out.size
      have HK := u64_sum (d := d) HAS.out
      obtain ⟨A', hA'⟩ : ∃ A', IntKind.u64.wrap (A + IntKind.u64.wrap d) = A' := ⟨_, rfl⟩
      obtain ⟨T, hT⟩ : ∃ T, wrap64 A' = T := ⟨_, rfl⟩
      rw [hA', hT] at HK
      have HK2 : Hid (T = wrap64 (S + d) ∧ A' = T % 18446744073709551616) := HK
      have HST2 : Hid (wsm 0 l = (out ++ [T]) ++ wsm T (l.drop (k + 1))) := by
        rw [Hid, HST.out, drop_at hd, wsm, ← HK.1]; simp
      clear hd HST HK
      go_wp2_with (at_builtin; refine wpList_append_n _ rfl _ _ 36 rfl Try.underlying36 HI.out.1 HI.out.2.1 HI.out.2.2.1 HI.out.2.2.2 (B := w.heap.size) (s := T) (by have := HSZ.out; simp; omega) rfl rfl (HN.out.kept ((Fr.refl [] _).alloc _)) (lit_n 2 wr [T] rfl HSZ.out (by simp) (by unfold maxLen; simp)) (by have := HOL.out; omega) ?_; intro v3 w3 ho3 hb3; have HO3 : Hid (NOwn 2 w.heap.size w3 v3 (out ++ [T])) := ho3; have HB3 : Hid (Fr [] w w3) := Fr.ofBelow (((HF.out.alloc _).below (Nat.le_refl _) (by simp)).trans hb3); clear ho3 hb3)
      go_roundw
      case rel => exact ⟨k + 1, T, A', out ++ [T], by omega, by go_num, rfl, HK2.out.2, by have := HOL.out; simp; omega, HST2.out, HO3.out, HB3.out⟩
      case measure => simp [intOf]; omega
    · have HE : Hid (wsm 0 l = out) := by rw [Hid, HST.out, List.drop_eq_nil_of_le (by omega), wsm, List.append_nil]
      go_wp2
      go_ret
      exact ⟨_, rfl, by rw [HE.out]; exact HN.out, HF.out⟩

set_option maxHeartbeats 1000000 in
theorem rhas_any (v : Value) (l : List Int) (p : Int) (w : World) (h : ISrc w v l) :
    Calls Try.prog 16 #[v, .int .i64 p] w fun e w' => e = .returned (.bool (decide (p ∈ l))) ∧ Fr [] w w' := by
  obtain ⟨ao, cap, rfl, hcap, hmax, h64, b, off, ha, hc⟩ := h
  have HC : Hid (∀ j s, l[j]? = some s → w.cell? ⟨b, off + j, none⟩ = some (.int .i64 s)) := hc
  have HA : Hid (0 < l.length → ao = some ⟨b, off, none⟩) := ha
  have hml : l.length ≤ 9223372036854775807 := by unfold maxLen at hmax; omega
  clear hc ha h64
  go_enter Try.func16, Try.ntmps16
  go_wp2
  go_loopw [5] (fun i wr => ∃ (k : Nat), k ≤ l.length ∧ i = .int .i64 (k : Int) ∧ p ∉ l.take k ∧ Fr [] w wr) (fun i _ => l.length - (intOf i).toNat)
  case atStart => exact ⟨0, by omega, rfl, by simp, Fr.refl _ _⟩
  case round =>
    obtain ⟨k, hk, rfl, hx, hf⟩ := hrel
    have HF : Hid (Fr [] w wr) := hf
    have HX : Hid (p ∉ l.take k) := hx
    clear hf hx
    by_cases hlt : k < l.length
    · obtain rfl := HA.out (by omega)
      obtain ⟨d, hd⟩ := at_lt hlt
      have c0 : wr.cell? ⟨b, off + k, none⟩ = some (.int .i64 d) := HF.out.cell_some (HC.out k d hd) (by simp)
      by_cases hdp : d = p
      · have HE : Hid (decide (p ∈ l) = true) := decide_eq_true (hdp ▸ List.mem_of_getElem? hd)
        clear hd
        subst hdp
        go_wp2
        go_ret
        exact ⟨by rw [HE.out]; rfl, HF.out⟩
      · have HX2 : Hid (p ∉ l.take (k + 1)) := by
          rw [Hid, take_at hd]
          intro h
          rcases List.mem_append.1 h with h | h
          · exact HX.out h
          · have h2 : p = d := by simpa using h
            exact hdp h2.symm
        clear hd
        go_wp2
        go_roundw
        case rel => exact ⟨k + 1, by omega, by go_num, HX2.out, HF.out⟩
        case measure => simp [intOf]; omega
    · have HE : Hid (decide (p ∈ l) = false) := by
        have := HX.out
        rw [List.take_of_length_le (by omega)] at this
        exact decide_eq_false this
      go_wp2
      go_ret
      exact ⟨by rw [HE.out]; rfl, HF.out⟩
end Go.Proofs.Ytakjfggkfhjeaaa
