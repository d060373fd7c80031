/-
  tidepolelaw02.places: the places, the last one first, in a row of the call's own.
-/
import Derived.Test.YtobhpachigagkaaDoorWraps
namespace Go.Proofs.YtobhpachigagkaaDoor
open Go.RowKit Go.Extern.Stop Go.Stop Go.Extern Mem
set_option linter.unusedSimpArgs false
set_option linter.unusedVariables false
set_option maxRecDepth 100000

/-- The cells of places. -/
def plCells (y : List Wp) : List Value := y.flatMap fun x => [.string x.1, .int .i64 x.2]
theorem plCells_length (y : List Wp) : (plCells y).length = y.length * 2 := by
  induction y with
  | nil => rfl
  | cons x y ih => rw [plCells, List.flatMap_cons, List.length_append, ← plCells, ih]; simp; omega
theorem plCells_append (y y' : List Wp) : plCells (y ++ y') = plCells y ++ plCells y' := by simp [plCells]
theorem plCells_at (y : List Wp) (j : Nat) (h : j < y.length) : (plCells y)[j * 2]? = some (.string (y[j]).1) ∧ (plCells y)[j * 2 + 1]? = some (.int .i64 (y[j]).2) := by
  induction y generalizing j with
  | nil => simp at h
  | cons x y ih =>
    have e : plCells (x :: y) = .string x.1 :: .int .i64 x.2 :: plCells y := by simp [plCells]
    rw [e]
    rcases j with _ | j
    · simp
    · have := ih j (by simpa using h)
      rw [show (j + 1) * 2 = j * 2 + 1 + 1 from by omega]
      simpa using this

/-- A slice of places that the call made itself, from block B on. -/
def IsPlaces (B : Nat) (w : World) (v : Value) (y : List Wp) : Prop :=
  (y = [] ∧ v = .slice none 0 0) ∨ ∃ g, B ≤ g ∧ 0 < y.length ∧ Row w 41 2 v g y.length (plCells y)
theorem IsPlaces.kept {B : Nat} {w w' : World} {v : Value} {y : List Wp} (h : IsPlaces B w v y) (f : Fr [] w w') : IsPlaces B w' v y := by
  rcases h with h | ⟨g, h1, h2, h3⟩
  · exact .inl h
  · exact .inr ⟨g, h1, h2, h3.kept f (by simp)⟩

theorem Tryd.infoPlace : (Tryd.prog.info? 41).map (fun i => (i.zero, i.size, i.bytes)) = some (some (.agg #[.string ByteArray.empty, .int .i64 0]), 2, 24) := by kernel_rfl
theorem info_place : ∃ i, Tryd.prog.info? 41 = some i ∧ i.zero = some (.agg #[.string ByteArray.empty, .int .i64 0]) ∧ i.size = 2 ∧ i.bytes = 24 := by
  obtain ⟨i, hi, h⟩ := Option.map_eq_some_iff.1 Tryd.infoPlace
  simp only [Prod.mk.injEq] at h
  exact ⟨i, hi, h.1, h.2.1, h.2.2⟩

def PlacesPost (z : List Wp) (w : World) (e : Ending) (w' : World) : Prop := ∃ v, e = .returned v ∧ IsPlaces w.heap.size w' v z.reverse ∧ Fr [] w w'

set_option maxHeartbeats 4000000 in
theorem places_any (a : Option Addr) (len cap : Nat) (z : List Wp) (w : World) (h : IsWraps w a len cap z) (hl : len ≤ 1000) :
    Calls Tryd.prog 14 #[.slice a len cap] w fun e w' => PlacesPost z w e w' := by
  obtain ⟨hzl, hlm, hok, b, off, ha, hc⟩ := h
  have HC : Hid (∀ j (h : j < z.length), w.cell? ⟨b, off + j * 2, none⟩ = some (.string (z[j]).1) ∧ w.cell? ⟨b, off + j * 2 + 1, none⟩ = some (.int .i64 (z[j]).2)) := hc
  have HZ : Hid (z.length = len) := hzl
  have HA : Hid (0 < len → a = some ⟨b, off, none⟩) := ha
  clear hc hok hzl ha hlm
  go_enter Tryd.func14, Tryd.ntmps14
  go_wp2
  go_loopw [3, 8] (fun o i wr => ∃ k : Nat, k ≤ len ∧ i = .int .i64 (k : Int) ∧ IsPlaces w.heap.size wr o (z.reverse.take k) ∧ Fr [] w wr) (fun _ i _ => len - (intOf i).toNat)
  case atStart => exact ⟨0, by omega, rfl, .inl ⟨rfl, rfl⟩, Fr.refl _ _⟩
  case round =>
    obtain ⟨k, hk, rfl, hp, hf⟩ := hrel
    have HP : Hid (IsPlaces w.heap.size wr u3 (z.reverse.take k)) := hp
    have HF : Hid (Fr [] w wr) := hf
    clear hp hf
    by_cases hlt : k < len
    · obtain rfl := HA.out (by omega)
      obtain ⟨j, hj⟩ : ∃ j : Nat, j = len - 1 - k := ⟨_, rfl⟩
      have hjz : j < z.length := by rw [HZ.out]; omega
      have hkr : k < z.reverse.length := by rw [List.length_reverse, HZ.out]; exact hlt
      have c0 : wr.cell? ⟨b, off + j * 2, none⟩ = some (.string (z[j]).1) := HF.out.cell_some (HC.out j hjz).1 (by simp)
      have c1 : wr.cell? ⟨b, off + j * 2 + 1, none⟩ = some (.int .i64 (z[j]).2) := HF.out.cell_some (HC.out j hjz).2 (by simp)
      have HT : Hid (z.reverse.take (k + 1) = z.reverse.take k ++ [z[j]]) := by
        rw [Hid, List.take_succ_eq_append_getElem hkr, List.getElem_reverse]
        have : z.length - 1 - k = j := by rw [HZ.out]; exact hj.symm
        simp only [this]
      have hidx : (len : Int) - 1 - (k : Int) = (j : Int) := by omega
      have hjl : (j : Int) < (len : Int) := by omega
      have HKL : Hid (k + 1 ≤ len ∧ (z.reverse.take k).length = k) := ⟨by omega, by rw [List.length_take]; omega⟩
      generalize z[j] = x at *
      obtain ⟨p, n⟩ := x
      simp only at c0 c1
      clear hj hkr hk HC HA HZ
      obtain ⟨i0, hi, hz0, hz1, hz2⟩ := info_place
      have HI : Hid (Tryd.prog.info? 41 = some i0 ∧ i0.zero = some (.agg #[.string ByteArray.empty, .int .i64 0]) ∧ i0.size = 2 ∧ i0.bytes = 24) := ⟨hi, hz0, hz1, hz2⟩
      clear hi hz0 hz1 hz2
      rcases HP.out with ⟨hy, rfl⟩ | ⟨g, hg, hy, hrow⟩
      · have HY : Hid (z.reverse.take k = []) := hy
        clear hy
        go_wp2_with (at_builtin; refine wpList_append_new _ rfl _ _ 38 rfl 41 i0 (.agg #[.string ByteArray.empty, .int .i64 0]) 2 24 Tryd.underlying38 HI.out.1 HI.out.2.1 HI.out.2.2.1 HI.out.2.2.2 rfl rfl ⟨wr.heap.size + 1, 0, none⟩ 1 1 [.string p, .int .i64 n] rfl rfl ?c1 ?c2 ?c3 ?c4 ?_)
        case c1 =>
          intro i u hu
          match i, hu with
          | 0, hu => simp at hu; subst hu; simp [Addr.add]
          | 1, hu => simp at hu; subst hu; simp [Addr.add]
        case c2 => decide
        case c3 => decide
        case c4 => decide
        intro v' w' hrow hfr
        have HR : Hid (Row w' 41 2 v' (wr.heap.size + 1 + 1) 1 [.string p, .int .i64 n]) := by rw [Hid]; simpa using hrow
        have HF' : Hid (Fr [] w w') := ((HF.out.alloc _).alloc _).trans hfr (by simp)
        clear hrow hfr
        go_wp2
        go_roundw
        case rel =>
          refine ⟨k + 1, HKL.out.1, by go_num, ?_, HF'.out⟩
          rw [HT.out, HY.out]
          exact .inr ⟨_, by have := HF.out.size; omega, by simp, HR.out⟩
        case measure => simp [intOf]; omega
      · rw [HKL.out.2] at hrow
        have HY : Hid (Row wr 41 2 u3 g k (plCells (z.reverse.take k))) := hrow
        have HG : Hid (w.heap.size ≤ g) := hg
        clear hrow hg
        go_wp2_with (at_builtin; refine wpList_append_row _ rfl _ _ 38 rfl 41 i0 (.agg #[.string ByteArray.empty, .int .i64 0]) 2 24 Tryd.underlying38 HI.out.1 HI.out.2.1 HI.out.2.2.1 HI.out.2.2.2 rfl u3 g k (plCells (z.reverse.take k)) rfl ((HY.out.kept ((Fr.refl [] wr).alloc _) (by simp)).kept ((Fr.refl [] _).alloc _) (by simp)) ⟨wr.heap.size + 1, 0, none⟩ 1 1 [.string p, .int .i64 n] rfl rfl ?c1 ?c2 ?c3 ?c4 ?_)
        case c1 =>
          intro i u hu
          match i, hu with
          | 0, hu => simp at hu; subst hu; simp [Addr.add]
          | 1, hu => simp at hu; subst hu; simp [Addr.add]
        case c2 => intro u hu; simp at hu; rcases hu with rfl | rfl <;> rfl
        case c3 => unfold maxLen; omega
        case c4 => omega
        intro v' g' w' hrow hgg hfr
        have HR : Hid (Row w' 41 2 v' g' (k + 1) (plCells (z.reverse.take k) ++ [.string p, .int .i64 n])) := hrow
        have HF' : Hid (Fr [] w w') := ((HF.out.alloc _).alloc _).trans hfr (by simp; exact HG.out)
        have HGG : Hid (w.heap.size ≤ g') := by
          rcases hgg.out with h | h
          · rw [Hid, h]; exact HG.out
          · have h1 : g' = wr.heap.size + 1 + 1 := by simpa using h
            rw [Hid, h1]; have := HF.out.size; omega
        clear hrow hfr hgg
        go_wp2
        go_roundw
        case rel =>
          refine ⟨k + 1, HKL.out.1, by go_num, ?_, HF'.out⟩
          rw [HT.out]
          refine .inr ⟨g', HGG.out, by simp, ?_⟩
          rw [plCells_append, List.length_append, HKL.out.2]
          exact HR.out
        case measure => simp [intOf]; omega
    · have hkl : k = len := by omega
      go_wp2
      go_ret
      refine ⟨u3, rfl, ?_, HF.out⟩
      have := HP.out
      rw [List.take_of_length_le (by rw [List.length_reverse, HZ.out]; omega)] at this
      exact this
end Go.Proofs.YtobhpachigagkaaDoor
