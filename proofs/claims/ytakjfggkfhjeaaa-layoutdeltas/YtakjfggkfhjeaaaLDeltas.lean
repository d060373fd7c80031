/-
  Package layout: sums, differences, ExpandDeltas.
-/
import Derived.Test.YtakjfggkfhjeaaaLExpand
namespace Go.Proofs.Ytakjfggkfhjeaaa
open Go.RowKit Mem Spans
set_option linter.unusedSimpArgs false
set_option linter.unusedVariables false
set_option maxRecDepth 100000

set_option maxHeartbeats 1000000 in
theorem psums_any (v : Value) (l : List Int) (w : World) (h : ISrc w v l) (hl : l.length ≤ 1000000) :
    Calls Try.prog 31 #[v] w fun e w' => ∃ u, e = .returned u ∧ NOwn 2 w.heap.size w' u (wsm 0 l) ∧ Fr [] w w' := by
  obtain ⟨ao, cap, rfl, hcap, hmax, h64, b, off, ha, hc⟩ := h
  have HC : Hid (∀ j s, l[j]? = some s → w.cell? ⟨b, off + j, none⟩ = some (.int .i64 s)) := hc
  have HA : Hid (0 < l.length → ao = some ⟨b, off, none⟩) := ha
  obtain ⟨i0, hi⟩ := info_int64
  have HI : Hid (NInfo 2 i0) := hi
  clear hc ha h64 hi
  go_enter Try.func31, Try.ntmps31
  go_wp2
  go_loopw [3, 4, 9] (fun u s i wr => ∃ (k : Nat) (S : Int) (out : List Int), k ≤ l.length ∧ i = .int .i64 (k : Int) ∧ s = .int .i64 S ∧ out.length = k ∧ wsm 0 l = out ++ wsm S (l.drop k) ∧ NOwn 2 w.heap.size wr u out ∧ Fr [] w wr) (fun _ _ i _ => l.length - (intOf i).toNat)
  case atStart => exact ⟨0, 0, [], by omega, rfl, rfl, rfl, by simp, .inl ⟨rfl, rfl⟩, Fr.refl _ _⟩
  case round =>
    obtain ⟨k, S, out, hk, rfl, rfl, hol, hst, hno, hf⟩ := hrel
    have HF : Hid (Fr [] w wr) := hf
    have HOL : Hid (out.length = k) := hol
    have HN : Hid (NOwn 2 w.heap.size wr u3 out) := hno
    have HST : Hid (wsm 0 l = out ++ wsm S (l.drop k)) := hst
    clear hf hol hst hno
    by_cases hlt : k < l.length
    · obtain rfl := HA.out (by omega)
      obtain ⟨d, hd⟩ := at_lt hlt
      have c0 : wr.cell? ⟨b, off + k, none⟩ = some (.int .i64 d) := HF.out.cell_some (HC.out k d hd) (by simp)
      have HSZ : Hid (w.heap.size ≤ wr.heap.size) := HF.out.size
      obtain ⟨T, hT⟩ : ∃ T, wrap64 (S + d) = T := ⟨_, rfl⟩
      have HST2 : Hid (wsm 0 l = (out ++ [T]) ++ wsm T (l.drop (k + 1))) := by
        rw [Hid, HST.out, drop_at hd, wsm, hT]; simp
      clear hd HST
      go_wp2_with (at_builtin; refine wpList_append_n _ rfl _ _ 36 rfl Try.underlying36 HI.out.1 HI.out.2.1 HI.out.2.2.1 HI.out.2.2.2 (B := w.heap.size) (s := T) (by have := HSZ.out; simp; omega) rfl rfl (HN.out.kept ((Fr.refl [] _).alloc _)) (lit_n 2 wr [T] rfl HSZ.out (by simp) (by unfold maxLen; simp)) (by have := HOL.out; omega) ?_; intro v3 w3 ho3 hb3; have HO3 : Hid (NOwn 2 w.heap.size w3 v3 (out ++ [T])) := ho3; have HB3 : Hid (Fr [] w w3) := Fr.ofBelow (((HF.out.alloc _).below (Nat.le_refl _) (by simp)).trans hb3); clear ho3 hb3)
      go_roundw
      case rel => exact ⟨k + 1, T, out ++ [T], by omega, by go_num, rfl, by have := HOL.out; simp; omega, HST2.out, HO3.out, HB3.out⟩
      case measure => simp [intOf]; omega
    · have HE : Hid (wsm 0 l = out) := by rw [Hid, HST.out, List.drop_eq_nil_of_le (by omega), wsm, List.append_nil]
      go_wp2
      go_ret
      exact ⟨_, rfl, by rw [HE.out]; exact HN.out, HF.out⟩

set_option maxHeartbeats 1000000 in
theorem pdiffs_any (v : Value) (l : List Int) (w : World) (h : ISrc w v l) (hl : l.length ≤ 1000000) :
    Calls Try.prog 32 #[v] w fun e w' => ∃ u, e = .returned u ∧ NOwn 2 w.heap.size w' u (wdf 0 l) ∧ Fr [] w w' := by
  obtain ⟨ao, cap, rfl, hcap, hmax, h64, b, off, ha, hc⟩ := h
  have HC : Hid (∀ j s, l[j]? = some s → w.cell? ⟨b, off + j, none⟩ = some (.int .i64 s)) := hc
  have HA : Hid (0 < l.length → ao = some ⟨b, off, none⟩) := ha
  obtain ⟨i0, hi⟩ := info_int64
  have HI : Hid (NInfo 2 i0) := hi
  clear hc ha h64 hi
  go_enter Try.func32, Try.ntmps32
  go_wp2
  go_loopw [3, 4, 9] (fun u s i wr => ∃ (k : Nat) (S : Int) (out : List Int), k ≤ l.length ∧ i = .int .i64 (k : Int) ∧ s = .int .i64 S ∧ out.length = k ∧ wdf 0 l = out ++ wdf S (l.drop k) ∧ NOwn 2 w.heap.size wr u out ∧ Fr [] w wr) (fun _ _ i _ => l.length - (intOf i).toNat)
  case atStart => exact ⟨0, 0, [], by omega, rfl, rfl, rfl, by simp, .inl ⟨rfl, rfl⟩, Fr.refl _ _⟩
  case round =>
    obtain ⟨k, S, out, hk, rfl, rfl, hol, hst, hno, hf⟩ := hrel
    have HF : Hid (Fr [] w wr) := hf
    have HOL : Hid (out.length = k) := hol
    have HN : Hid (NOwn 2 w.heap.size wr u3 out) := hno
    have HST : Hid (wdf 0 l = out ++ wdf S (l.drop k)) := hst
    clear hf hol hst hno
    by_cases hlt : k < l.length
    · obtain rfl := HA.out (by omega)
      obtain ⟨d, hd⟩ := at_lt hlt
      have c0 : wr.cell? ⟨b, off + k, none⟩ = some (.int .i64 d) := HF.out.cell_some (HC.out k d hd) (by simp)
      have HSZ : Hid (w.heap.size ≤ wr.heap.size) := HF.out.size
      obtain ⟨T, hT⟩ : ∃ T, wrap64 (d - S) = T := ⟨_, rfl⟩
      have HST2 : Hid (wdf 0 l = (out ++ [T]) ++ wdf d (l.drop (k + 1))) := by
        rw [Hid, HST.out, drop_at hd, wdf, hT]; simp
      clear hd HST
      go_wp2_with (at_builtin; refine wpList_append_n _ rfl _ _ 36 rfl Try.underlying36 HI.out.1 HI.out.2.1 HI.out.2.2.1 HI.out.2.2.2 (B := w.heap.size) (s := T) (by have := HSZ.out; simp; omega) rfl rfl (HN.out.kept ((Fr.refl [] _).alloc _)) (lit_n 2 wr [T] rfl HSZ.out (by simp) (by unfold maxLen; simp)) (by have := HOL.out; omega) ?_; intro v3 w3 ho3 hb3; have HO3 : Hid (NOwn 2 w.heap.size w3 v3 (out ++ [T])) := ho3; have HB3 : Hid (Fr [] w w3) := Fr.ofBelow (((HF.out.alloc _).below (Nat.le_refl _) (by simp)).trans hb3); clear ho3 hb3)
      go_roundw
      case rel => exact ⟨k + 1, d, out ++ [T], by omega, by go_num, rfl, by have := HOL.out; simp; omega, HST2.out, HO3.out, HB3.out⟩
      case measure => simp [intOf]; omega
    · have HE : Hid (wdf 0 l = out) := by rw [Hid, HST.out, List.drop_eq_nil_of_le (by omega), wdf, List.append_nil]
      go_wp2
      go_ret
      exact ⟨_, rfl, by rw [HE.out]; exact HN.out, HF.out⟩

/-- ExpandDeltas' values. -/
def edv (ds : List Int) (l : List Sp) : List Int := if rgtB (-1) 4096 ds.length l = true then wdf 0 (exf 0 (wsm 0 ds) 0 l) else []
theorem exv_in {z : Int} {vs : List Int} {l : List Sp} (hz : in64 z) (hv : ∀ x ∈ vs, in64 x) : ∀ x ∈ exv z vs l, in64 x := by
  unfold exv
  split
  · intro x hx
    rcases exf_mem x hx with rfl | h
    · exact hz
    · exact hv x h
  · simp
theorem exv_length {z : Int} {vs : List Int} {l : List Sp} : (exv z vs l).length ≤ vs.length + 4096 := by
  unfold exv
  split
  · rename_i h
    have h1 := (rgtB_iff (by omega)).1 h
    have := exf_length (z := z) (t := 0) h1.1 (by omega) (by omega) (by omega)
    omega
  · simp

set_option maxHeartbeats 1000000 in
theorem expandDeltas_any (v u : Value) (ds : List Int) (l : List Sp) (w : World) (h : ISrc w v ds) (h2 : SSrc w u l) (hl : ds.length ≤ 900000) :
    Calls Try.prog 22 #[v, u] w fun e w' => ∃ r, e = .returned (.tuple #[r, .int .i64 (exe ds l)]) ∧ NOwn 2 w.heap.size w' r (edv ds l) ∧ Fr [] w w' := by
  have HV : Hid (ISrc w v ds) := h
  have HL : Hid (SSrc w u l) := h2
  clear h h2
  go_enter Try.func22, Try.ntmps22
  go_wp2_with fail
  refine (psums_any _ ds w HV.out (by omega)).mono ?_
  rintro e w1 ⟨s1, rfl, hs1, hf1⟩
  have HF1 : Hid (Fr [] w w1) := hf1
  have HS1 : Hid (ISrc w1 s1 (wsm 0 ds)) := hs1.src (wsm_in 0 ds)
  clear hs1 hf1
  go_wp2_with fail
  refine (expand_any _ _ (wsm 0 ds) l 0 w1 HS1.out (HL.out.kept HF1.out) (by rw [wsm_length]; exact hl) (by unfold in64; omega)).mono ?_
  rintro e w2 ⟨r, rfl, hr, hf2⟩
  have HF2 : Hid (Fr [] w w2) := HF1.out.trans hf2 (by simp)
  have HR : Hid (ISrc w2 r (exv 0 (wsm 0 ds) l)) := hr.src (exv_in (by unfold in64; omega) (wsm_in 0 ds))
  have HSZ : Hid (w.heap.size ≤ w2.heap.size) := HF2.out.size
  have hee : exe (wsm 0 ds) l = exe ds l := by unfold exe; rw [wsm_length]
  rw [hee]
  clear hr hf2 hee
  by_cases hrg : rgtB (-1) 4096 ds.length l = true
  · have e1 : exe ds l = 0 := by unfold exe; rw [if_pos hrg]
    have HE : Hid (exe ds l = 0 ∧ edv ds l = wdf 0 (exv 0 (wsm 0 ds) l)) := by
      refine ⟨e1, ?_⟩
      unfold edv exv
      rw [wsm_length, if_pos hrg, if_pos hrg]
    rw [e1]
    clear e1 hrg
    go_wp2_with fail
    refine (pdiffs_any _ _ w2 HR.out (by have := exv_length (z := 0) (vs := wsm 0 ds) (l := l); rw [wsm_length] at this; omega)).mono ?_
    rintro e w3 ⟨r3, rfl, hr3, hf3⟩
    have HF3 : Hid (Fr [] w w3) := HF2.out.trans hf3 (by simp)
    have HR3 : Hid (NOwn 2 w.heap.size w3 r3 (wdf 0 (exv 0 (wsm 0 ds) l))) := hr3.mono HSZ.out
    clear hr3 hf3
    go_wp2
    go_ret2
    exact ⟨_, by rw [HE.out.1]; rfl, by rw [HE.out.2]; exact HR3.out, HF3.out⟩
  · have e1 : exe ds l = 11 := by unfold exe; rw [if_neg hrg]
    have HE : Hid (exe ds l = 11 ∧ edv ds l = []) := by
      refine ⟨e1, ?_⟩
      unfold edv
      rw [if_neg hrg]
    rw [e1]
    clear e1 hrg
    go_wp2
    go_ret2
    exact ⟨_, by rw [HE.out.1]; rfl, .inl ⟨HE.out.2, rfl⟩, HF2.out⟩
end Go.Proofs.Ytakjfggkfhjeaaa
