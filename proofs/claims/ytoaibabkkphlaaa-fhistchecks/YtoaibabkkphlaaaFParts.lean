/-
  Package fhist: floats, wholes, differences.
-/
import Derived.Test.YtoaibabkkphlaaaFFloat
namespace Go.Proofs.Ytoaibabkkphlaaa
open Go.RowKit Mem Spans Floats
set_option linter.unusedSimpArgs false
set_option linter.unusedVariables false
set_option maxRecDepth 100000

/-- The float of a number; the number of a float, and whether it has one. -/
def flI (z : Int) : Int := (flt z.toNat : Nat)
def wvI (z : Int) : Int := (whv z.toNat : Nat)
def wbI (z : Int) : Bool := whb z.toNat
theorem flI_in {z : Int} (h : inu z) : inu (flI z) := by
  unfold inu at h
  have := flt_lt (n := z.toNat) (by omega)
  unfold inu flI; omega
theorem wvI_in (z : Int) : inu (wvI z) := by
  unfold wvI whv whl
  split
  · rename_i h
    split
    · have := trn_lt h; unfold inu; simp; omega
    · unfold inu; simp
  · unfold inu; simp
theorem floatI_any (z : Int) (w : World) (h : inu z) :
    Calls Try.prog 39 #[.int .u64 z] w fun e w' => e = .returned (.int .u64 (flI z)) ∧ w = w' := by
  unfold inu at h
  obtain ⟨n, rfl⟩ := Int.eq_ofNat_of_zero_le h.1
  have := float_any n w (by omega)
  simpa [flI] using this
theorem wholeI_any (z : Int) (w : World) (h : inu z) :
    Calls Try.prog 37 #[.int .u64 z] w fun e w' => e = .returned (.tuple #[.int .u64 (wvI z), .bool (wbI z)]) ∧ w = w' := by
  unfold inu at h
  obtain ⟨n, rfl⟩ := Int.eq_ofNat_of_zero_le h.1
  have := whole_any n w
  simpa [wvI, wbI] using this

/-- floats' list. -/
def fla (d : List Int) : List Int := (abv d).map flI

set_option maxHeartbeats 2000000 in
theorem floats_any (v : Value) (d : List Int) (w : World) (h : ISrc w v d) (hl : d.length ≤ 1000000) (hn : ∀ z ∈ abv d, 0 ≤ z) :
    Calls Try.prog 68 #[v] w fun e w' => ∃ u, e = .returned u ∧ UOwn 22 w.heap.size w' u (fla d) ∧ Fr [] w w' := by
  have HIS : Hid (ISrc w v d) := h
  have HNN : Hid (∀ z ∈ abv d, 0 ≤ z) := hn
  have HLV : Hid ((abv d).length ≤ 1000000) := by
    rcases abe_cases d with h0 | h0
    · rw [Hid, abv_length h0]; exact hl
    · unfold abe at h0
      unfold Hid abv
      cases hh : absl 0 d with
      | none => simp
      | some o => rw [hh] at h0; cases h0
  obtain ⟨ao, cap, rfl, _⟩ := h
  obtain ⟨i0, hi⟩ := info_uint64
  have HI : Hid (UInfo 22 i0) := hi
  clear hi hn
  go_enter Try.func68, Try.ntmps68
  go_wp2_with fail
  refine (absolute_any _ d _ HIS.out hl).mono ?_
  rintro e w1 ⟨u, rfl, hu, hf1⟩
  have HU : Hid (∀ wx, Fr [] w1 wx → ISrc wx u (abv d)) := fun wx hx => (hu.src (abv_in d)).kept hx
  have HF1 : Hid (Fr [] w w1) := hf1
  have HFL : Hid (fla d = (abv d).map flI) := rfl
  have H64 : Hid (∀ z ∈ abv d, in64 z) := abv_in d
  clear hu hf1
  generalize abv d = A at *
  obtain ⟨bo, bcap, rfl, hbc, hbm, _, b, off, ha, hc⟩ := HU.out w1 (Fr.refl _ _)
  have HC : Hid (∀ j s, A[j]? = some s → w1.cell? ⟨b, off + j, none⟩ = some (.int .i64 s)) := hc
  have HA : Hid (0 < A.length → bo = some ⟨b, off, none⟩) := ha
  have hml : A.length ≤ 9223372036854775807 := by unfold maxLen at hbm; omega
  clear ha hc HU
  go_wp2
  go_loopw [5, 15] (fun u i wr => ∃ (k : Nat), k ≤ A.length ∧ i = .int .i64 (k : Int) ∧ UOwn 22 w1.heap.size wr u ((A.take k).map flI) ∧ Fr [] w1 wr) (fun _ i _ => A.length - (intOf i).toNat)
  case atStart => exact ⟨0, by omega, rfl, .inl ⟨by simp, rfl⟩, Fr.refl _ _⟩
  case round =>
    obtain ⟨k, hk, rfl, hso, hf⟩ := hrel
    have HF : Hid (Fr [] w1 wr) := hf
    have HS : Hid (UOwn 22 w1.heap.size wr u5 ((A.take k).map flI)) := hso
    have HSZ : Hid (w1.heap.size ≤ wr.heap.size) := HF.out.size
    clear hf hso
    by_cases hlt : k < A.length
    · obtain rfl := HA.out (by omega)
      obtain ⟨s, hs⟩ := at_lt hlt
      have c0 : wr.cell? ⟨b, off + k, none⟩ = some (.int .i64 s) := HF.out.cell_some (HC.out k s hs) (by simp)
      have hm := List.mem_of_getElem? hs
      have hin := H64.out s hm
      have hpos := HNN.out s hm
      have HT : Hid ((A.take (k + 1)).map flI = (A.take k).map flI ++ [flI s]) := by rw [Hid, take_at hs]; simp
      have HL : Hid (((A.take k).map flI).length ≤ 1000000) := by rw [Hid, List.length_map, List.length_take]; have := HLV.out; omega
      have HIU : Hid (inu s) := by unfold in64 at hin; unfold Hid inu; omega
      have hw : IntKind.u64.wrap s = s := by rw [IntKind.wrap_u64]; have := HIU.out; unfold inu at this; omega
      clear hs hm hin hpos
      go_wp2_with fail
      refine (floatI_any s _ HIU.out).mono ?_
      rintro e w2 ⟨rfl, rfl⟩
      generalize flI s = F at *
      go_wp2_with (at_builtin; refine wpList_append_u _ rfl _ _ 24 rfl Try.underlying24 HI.out.1 HI.out.2.1 HI.out.2.2.1 HI.out.2.2.2 (B := w1.heap.size) (s := F) (by have := HSZ.out; simp; omega) rfl rfl (HS.out.kept ((Fr.refl [] _).alloc _)) (lit_u 22 wr [F] rfl HSZ.out (by simp) (by unfold maxLen; simp)) HL.out ?_; intro v3 w3 ho3 hb3; have HO3 : Hid (UOwn 22 w1.heap.size w3 v3 (((A.take k).map flI) ++ [F])) := ho3; have HB3 : Hid (Fr [] w1 w3) := Fr.ofBelow (((HF.out.alloc _).below (Nat.le_refl _) (by simp)).trans hb3); clear ho3 hb3)
      go_roundw
      case rel => exact ⟨k + 1, by omega, by go_num, by rw [HT.out]; exact HO3.out, HB3.out⟩
      case measure => simp [intOf]; omega
    · have HS2 : Hid (UOwn 22 w.heap.size wr u5 (A.map flI)) := by
        have := HS.out
        rw [List.take_of_length_le (by omega)] at this
        exact this.mono HF1.out.size
      have HF2 : Hid (Fr [] w wr) := HF1.out.trans HF.out (by simp)
      clear HS
      go_wp2
      go_ret
      exact ⟨_, rfl, by rw [HFL.out]; exact HS2.out, HF2.out⟩

/-- wholes' answers. -/
def wab (l : List Int) : Bool := l.all wbI
def wal (l : List Int) : List Int := if wab l = true then l.map wvI else []

set_option maxHeartbeats 2000000 in
theorem wholes_any (v : Value) (l : List Int) (w : World) (h : USrc w v l) (hl : l.length ≤ 1000000) :
    Calls Try.prog 73 #[v] w fun e w' => ∃ u, e = .returned (.tuple #[u, .bool (wab l)]) ∧ UOwn 22 w.heap.size w' u (wal l) ∧ Fr [] w w' := by
  obtain ⟨ao, cap, rfl, hcap, hmax, h64, b, off, ha, hc⟩ := h
  have HC : Hid (∀ j s, l[j]? = some s → w.cell? ⟨b, off + j, none⟩ = some (.int .u64 s)) := hc
  have HA : Hid (0 < l.length → ao = some ⟨b, off, none⟩) := ha
  have H64 : Hid (∀ z ∈ l, inu z) := h64
  obtain ⟨i0, hi⟩ := info_uint64
  have HI : Hid (UInfo 22 i0) := hi
  have hml : l.length ≤ 9223372036854775807 := by omega
  clear hi ha hc h64
  go_enter Try.func73, Try.ntmps73
  go_wp2
  go_loopw [4, 11] (fun u i wr => ∃ (k : Nat), k ≤ l.length ∧ i = .int .i64 (k : Int) ∧ wab (l.take k) = true ∧ UOwn 22 w.heap.size wr u ((l.take k).map wvI) ∧ Fr [] w wr) (fun _ i _ => l.length - (intOf i).toNat)
  case atStart => exact ⟨0, by omega, rfl, by simp [wab], .inl ⟨by simp, rfl⟩, Fr.refl _ _⟩
  case round =>
    obtain ⟨k, hk, rfl, hwb, hso, hf⟩ := hrel
    have HF : Hid (Fr [] w wr) := hf
    have HWB : Hid (wab (l.take k) = true) := hwb
    have HS : Hid (UOwn 22 w.heap.size wr u4 ((l.take k).map wvI)) := hso
    have HSZ : Hid (w.heap.size ≤ wr.heap.size) := HF.out.size
    clear hf hso hwb
    by_cases hlt : k < l.length
    · obtain rfl := HA.out (by omega)
      obtain ⟨s, hs⟩ := at_lt hlt
      have c0 : wr.cell? ⟨b, off + k, none⟩ = some (.int .u64 s) := HF.out.cell_some (HC.out k s hs) (by simp)
      have HIU : Hid (inu s) := H64.out s (List.mem_of_getElem? hs)
      have HM : Hid (s ∈ l) := List.mem_of_getElem? hs
      have HT : Hid ((l.take (k + 1)).map wvI = (l.take k).map wvI ++ [wvI s]) := by rw [Hid, take_at hs]; simp
      have HT2 : Hid (wbI s = true → wab (l.take (k + 1)) = true) := by
        intro h
        have := HWB.out
        rw [take_at hs]
        simp only [wab, List.all_append, List.all_cons, List.all_nil, Bool.and_eq_true, Bool.and_true] at this ⊢
        exact ⟨this, h⟩
      have HL : Hid (((l.take k).map wvI).length ≤ 1000000) := by rw [Hid, List.length_map, List.length_take]; omega
      clear hs
      go_wp2_with fail
      refine (wholeI_any s _ HIU.out).mono ?_
      rintro e w2 ⟨rfl, rfl⟩
      by_cases hb : wbI s = true
      · have HT3 : Hid (wab (l.take (k + 1)) = true) := HT2.out hb
        rw [hb]
        clear hb HT2
        generalize wvI s = F at *
        go_wp2_with (at_builtin; refine wpList_append_u _ rfl _ _ 24 rfl Try.underlying24 HI.out.1 HI.out.2.1 HI.out.2.2.1 HI.out.2.2.2 (B := w.heap.size) (s := F) (by have := HSZ.out; simp; omega) rfl rfl (HS.out.kept ((Fr.refl [] _).alloc _)) (lit_u 22 wr [F] rfl HSZ.out (by simp) (by unfold maxLen; simp)) HL.out ?_; intro v3 w3 ho3 hb3; have HO3 : Hid (UOwn 22 w.heap.size w3 v3 (((l.take k).map wvI) ++ [F])) := ho3; have HB3 : Hid (Fr [] w w3) := Fr.ofBelow (((HF.out.alloc _).below (Nat.le_refl _) (by simp)).trans hb3); clear ho3 hb3)
        go_roundw
        case rel => exact ⟨k + 1, by omega, by go_num, HT3.out, by rw [HT.out]; exact HO3.out, HB3.out⟩
        case measure => simp [intOf]; omega
      · have hb2 : wbI s = false := by simpa using hb
        have HE : Hid (wab l = false ∧ wal l = []) := by
          have e : wab l = false := by
            rw [Bool.eq_false_iff]
            intro h
            exact hb (List.all_eq_true.1 h s HM.out)
          refine ⟨e, ?_⟩
          unfold wal; rw [e]; rfl
        rw [hb2]
        clear hb hb2
        go_wp2
        go_ret2
        exact ⟨_, by rw [HE.out.1]; rfl, .inl ⟨HE.out.2, rfl⟩, HF.out⟩
    · have hkl : l.take k = l := List.take_of_length_le (by omega)
      have HE : Hid (wab l = true ∧ wal l = l.map wvI) := by
        have := HWB.out
        rw [hkl] at this
        refine ⟨this, ?_⟩
        unfold wal; rw [if_pos this]
      have HS2 : Hid (UOwn 22 w.heap.size wr u4 (l.map wvI)) := by have := HS.out; rw [hkl] at this; exact this
      clear HS hkl HWB
      go_wp2
      go_ret2
      exact ⟨_, by rw [HE.out.1]; rfl, by rw [HE.out.2]; exact HS2.out, HF.out⟩

/-- differences' answers. -/
def dfb (l : List Int) : Bool := l.all fun z => decide (z ≤ 9223372036854775807)
def dfe (l : List Int) : Int := if dfb l = true then dle l else 28
def dfl (l : List Int) : List Int := if dfb l = true then dlv l else []

set_option maxHeartbeats 2000000 in
theorem differences_any (v : Value) (l : List Int) (w : World) (h : USrc w v l) (hl : l.length ≤ 1000000) :
    Calls Try.prog 74 #[v] w fun e w' => ∃ u, e = .returned (.tuple #[u, .int .i64 (dfe l)]) ∧ NOwn 2 w.heap.size w' u (dfl l) ∧ Fr [] w w' := by
  obtain ⟨ao, cap, rfl, hcap, hmax, h64, b, off, ha, hc⟩ := h
  have HC : Hid (∀ j s, l[j]? = some s → w.cell? ⟨b, off + j, none⟩ = some (.int .u64 s)) := hc
  have HA : Hid (0 < l.length → ao = some ⟨b, off, none⟩) := ha
  have H64 : Hid (∀ z ∈ l, inu z) := h64
  obtain ⟨i0, hi⟩ := info_int64
  have HI : Hid (NInfo 2 i0) := hi
  have hml : l.length ≤ 9223372036854775807 := by omega
  clear hi ha hc h64
  go_enter Try.func74, Try.ntmps74
  go_wp2
  go_loopw [4, 9] (fun u i wr => ∃ (k : Nat), k ≤ l.length ∧ i = .int .i64 (k : Int) ∧ dfb (l.take k) = true ∧ NOwn 2 w.heap.size wr u (l.take k) ∧ Fr [] w wr) (fun _ i _ => l.length - (intOf i).toNat)
  case atStart => exact ⟨0, by omega, rfl, by simp [dfb], .inl ⟨by simp, rfl⟩, Fr.refl _ _⟩
  case round =>
    obtain ⟨k, hk, rfl, hwb, hso, hf⟩ := hrel
    have HF : Hid (Fr [] w wr) := hf
    have HWB : Hid (dfb (l.take k) = true) := hwb
    have HS : Hid (NOwn 2 w.heap.size wr u4 (l.take k)) := hso
    have HSZ : Hid (w.heap.size ≤ wr.heap.size) := HF.out.size
    clear hf hso hwb
    by_cases hlt : k < l.length
    · obtain rfl := HA.out (by omega)
      obtain ⟨s, hs⟩ := at_lt hlt
      have c0 : wr.cell? ⟨b, off + k, none⟩ = some (.int .u64 s) := HF.out.cell_some (HC.out k s hs) (by simp)
      have HIU : Hid (inu s) := H64.out s (List.mem_of_getElem? hs)
      have HM : Hid (s ∈ l) := List.mem_of_getElem? hs
      have HT : Hid (l.take (k + 1) = l.take k ++ [s]) := take_at hs
      have HL : Hid ((l.take k).length ≤ 1000000) := by rw [Hid, List.length_take]; omega
      clear hs
      by_cases hb : s ≤ 9223372036854775807
      · have HT3 : Hid (dfb (l.take (k + 1)) = true) := by
          have := HWB.out
          rw [Hid, HT.out]
          simp only [dfb, List.all_append, List.all_cons, List.all_nil, Bool.and_eq_true, Bool.and_true] at this ⊢
          exact ⟨this, decide_eq_true hb⟩
        have hw : IntKind.i64.wrap s = s := by rw [IntKind.wrap_i64]; have := HIU.out; unfold inu at this; omega
        have hw2 : wrap64 s = s := by have := HIU.out; unfold inu at this; unfold wrap64; omega
        have hb3 : ¬ 9223372036854775807 < s := by omega
        go_wp2_with (at_builtin; refine wpList_append_n _ rfl _ _ 68 rfl Try.underlying68 HI.out.1 HI.out.2.1 HI.out.2.2.1 HI.out.2.2.2 (B := w.heap.size) (s := s) (by have := HSZ.out; simp; omega) rfl rfl (HS.out.kept ((Fr.refl [] _).alloc _)) (lit_n 2 wr [s] rfl HSZ.out (by simp) (by unfold maxLen; simp)) HL.out ?_; intro v3 w3 ho3 hb3; have HO3 : Hid (NOwn 2 w.heap.size w3 v3 (l.take k ++ [s])) := ho3; have HB3 : Hid (Fr [] w w3) := Fr.ofBelow (((HF.out.alloc _).below (Nat.le_refl _) (by simp)).trans hb3); clear ho3 hb3)
        go_roundw
        case rel => exact ⟨k + 1, by omega, by go_num, HT3.out, by rw [HT.out]; exact HO3.out, HB3.out⟩
        case measure => simp [intOf]; omega
      · have HE : Hid (dfe l = 28 ∧ dfl l = []) := by
          have e : dfb l = false := by
            rw [Bool.eq_false_iff]
            intro h
            exact hb (of_decide_eq_true (List.all_eq_true.1 h s HM.out))
          unfold Hid dfe dfl; rw [e]; exact ⟨rfl, rfl⟩
        have hb3 : 9223372036854775807 < s := by omega
        go_wp2
        go_ret2
        exact ⟨_, by rw [HE.out.1]; rfl, .inl ⟨HE.out.2, rfl⟩, HF.out⟩
    · have hkl : l.take k = l := List.take_of_length_le (by omega)
      have HE : Hid (dfe l = dle l ∧ dfl l = dlv l ∧ ∀ z ∈ l, in64 z) := by
        have := HWB.out
        rw [hkl] at this
        refine ⟨by unfold dfe; rw [if_pos this], by unfold dfl; rw [if_pos this], fun z hz => ?_⟩
        have h1 := of_decide_eq_true (List.all_eq_true.1 this z hz)
        have h2 := H64.out z hz
        unfold inu at h2; unfold in64; omega
      have HS2 : Hid (ISrc wr u4 l) := by have := HS.out; rw [hkl] at this; exact this.src HE.out.2.2
      clear HS hkl HWB
      go_wp2_with fail
      refine (deltas_any _ l _ HS2.out hl).mono ?_
      rintro e w2 ⟨y, rfl, hy, hf2⟩
      have HY : Hid (NOwn 2 w.heap.size w2 y (dlv l)) := hy.mono HSZ.out
      have HF2 : Hid (Fr [] w w2) := HF.out.trans hf2 (by simp)
      clear hy hf2
      go_wp2
      go_ret2
      exact ⟨_, by rw [HE.out.1]; rfl, by rw [HE.out.2.1]; exact HY.out, HF2.out⟩
end Go.Proofs.Ytoaibabkkphlaaa
