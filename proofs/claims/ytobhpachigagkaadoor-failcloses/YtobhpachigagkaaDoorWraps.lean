/-
  A slice of places that came in (tidepolelaw02.Wrap); tidepolelaw02.small and places over it.
-/
import Derived.Test.YtobhpachigagkaaDoorDigits
import Derived.Deep.Strs
import Derived.ProofKit
namespace Go.Proofs.YtobhpachigagkaaDoor
open Go.RowKit Go.Extern.Stop Go.Stop Go.Extern Mem
open Go.ChangeShapes Go.WideShapes Go.ChangeAt
set_option linter.unusedSimpArgs false
set_option linter.unusedVariables false
set_option maxRecDepth 100000

/-- A place's name, and a number there. -/
abbrev Wp := ByteArray × Int
def WpOk (x : Wp) : Prop := x.1.size ≤ 9223372036854775807 ∧ -9223372036854775808 ≤ x.2 ∧ x.2 ≤ 9223372036854775807
/-- What the walk is told of such a slice. -/
def IsWraps (w : World) (a : Option Addr) (len cap : Nat) (z : List Wp) : Prop :=
  z.length = len ∧ len ≤ 9223372036854775807 ∧ (∀ x ∈ z, WpOk x) ∧ ∃ b off, (0 < len → a = some ⟨b, off, none⟩) ∧ ∀ j (h : j < z.length), w.cell? ⟨b, off + j * 2, none⟩ = some (.string (z[j]).1) ∧ w.cell? ⟨b, off + j * 2 + 1, none⟩ = some (.int .i64 (z[j]).2)

theorem IsWraps.kept {w w' : World} {a : Option Addr} {len cap : Nat} {z : List Wp} (h : IsWraps w a len cap z) (f : Fr [] w w') : IsWraps w' a len cap z := by
  obtain ⟨h1, h2, h3, b, off, h4, h5⟩ := h
  exact ⟨h1, h2, h3, b, off, h4, fun j hj => ⟨f.cell_some (h5 j hj).1 (by simp), f.cell_some (h5 j hj).2 (by simp)⟩⟩

theorem Tryd.cells30 : Tryd.prog.cellsOf 30 = 2 := by kernel_rfl
theorem Tryd.cells3 : Tryd.prog.cellsOf 3 = 1 := by kernel_rfl
theorem Tryd.cells9 : Tryd.prog.cellsOf 9 = 1 := by kernel_rfl

theorem wraps_of {H : Type} {enc : TypeId × Value → H} {W : World} {base : Nat} {a : Option Addr} {len cap : Nat} {d : DataW H} {p : List MemPlace}
    (h : DataW.Trod enc Tryd.prog W base (fun _ => true) true 23 (.slice a len cap) d p) : ∃ z, IsWraps W a len cap z := by
  obtain ⟨fuel, hf⟩ := h
  rcases Go.Deep.open_slice Tryd.underlying23 hf with ⟨hcs, _⟩ | ⟨x, l, c, m, n, D, Pl, hcs, _, hl, hm, hmm, _, hx⟩
  · simp [Value.cells] at hcs
    obtain ⟨rfl, rfl, rfl⟩ := hcs
    exact ⟨[], rfl, by omega, by simp, 0, 0, fun h => by omega, fun j h => by simp at h⟩
  · simp [Value.cells] at hcs
    obtain ⟨rfl, rfl, rfl⟩ := hcs
    have hlm : len ≤ m := by rw [hmm]; split <;> omega
    have each : ∀ i, i < len → ∃ y : Wp, (W.cell? (x.add (i * 2)) = some (.string y.1) ∧ W.cell? (x.add (i * 2 + 1)) = some (.int .i64 y.2)) ∧ WpOk y := by
      intro i hi
      obtain ⟨cs, hc, ht⟩ := hx i (by omega)
      rw [Tryd.cells30] at hc
      obtain ⟨_, hlen, hcell⟩ := World.cells?_some hc
      obtain ⟨y0, y1, k, _, _, t0, t1⟩ := trod_struct2 Tryd.underlying30 ht
      match cs, hlen with
      | [c0, c1], _ =>
        simp only [Tryd.cells3, Tryd.cells9, List.drop_zero, List.drop_succ_cons, List.take_succ_cons, List.take_zero] at t0 t1
        obtain ⟨n0, e0, _, w0⟩ := DataW.trod_string Tryd.underlying9 t0
        obtain ⟨n1, e1, _, w1⟩ := DataW.trod_int Tryd.underlying3 t1
        simp at e0 e1
        subst e0 e1
        simp [Lit.wf, IntKind.min, IntKind.max, IntKind.bits, IntKind.signed] at w1
        have h0 := hcell 0 (by omega)
        have h1 := hcell 1 (by omega)
        rw [Go.Deep.add_add] at h0 h1
        refine ⟨(n0, n1), ⟨by simpa using h0, by simpa using h1⟩, ?_, by omega, by omega⟩
        unfold maxLen at w0
        exact w0
    have : Inhabited Wp := ⟨(ByteArray.empty, 0)⟩
    obtain ⟨z, hz⟩ := Go.Deep.choose_lt each
    refine ⟨(List.range len).map z, by simp, by unfold maxLen at hm; omega, fun y hy => ?_, ?_⟩
    · simp only [List.mem_map, List.mem_range] at hy
      obtain ⟨j, hj, rfl⟩ := hy
      exact (hz j hj).2
    · by_cases h0 : 0 < len
      · obtain ⟨b, off, spot⟩ := x
        have hc0 := (hz 0 h0).1.1
        have hspot : spot = none := by simpa [Addr.add] using World.cell?_spot hc0
        subst hspot
        have e1 : ∀ j, (⟨b, off, none⟩ : Addr).add j = ⟨b, off + j, none⟩ := by intro j; unfold Addr.add; split <;> simp_all
        refine ⟨b, off, fun _ => rfl, fun j hj => ?_⟩
        have hj' : j < len := by simpa using hj
        have := (hz j hj').1
        rw [e1, e1, ← Nat.add_assoc] at this
        simpa using this
      · exact ⟨0, 0, fun h => by omega, fun j h => by simp at h; omega⟩

def SmallPost (z : List Wp) (len : Nat) (w : World) (e : Ending) (w' : World) : Prop :=
  ∃ r, e = .returned (.bool r) ∧ Fr [] w w' ∧ (r = true → len ≤ 30 ∧ ∀ x ∈ z, x.1.size ≤ 50)

set_option maxHeartbeats 2000000 in
theorem small_any (a : Option Addr) (len cap : Nat) (z : List Wp) (w : World) (h : IsWraps w a len cap z) :
    Calls Tryd.prog 6 #[.slice a len cap] w fun e w' => SmallPost z len w e w' := by
  obtain ⟨hzl, hlm, hok, b, off, ha, hc⟩ := h
  have HC : Hid (∀ j (h : j < z.length), w.cell? ⟨b, off + j * 2, none⟩ = some (.string (z[j]).1) ∧ w.cell? ⟨b, off + j * 2 + 1, none⟩ = some (.int .i64 (z[j]).2)) := hc
  have HO : Hid (∀ x ∈ z, WpOk x) := hok
  have HZ : Hid (z.length = len) := hzl
  have HA : Hid (0 < len → a = some ⟨b, off, none⟩) := ha
  clear hc hok hzl ha
  go_enter Tryd.func6, Tryd.ntmps6
  go_wp2
  go_loopw [7] (fun i wr => ∃ k : Nat, k ≤ len ∧ i = .int .i64 (k : Int) ∧ (∀ x ∈ z.take k, x.1.size ≤ 50) ∧ Fr [] w wr) (fun i _ => len - (intOf i).toNat)
  case atStart => exact ⟨0, by omega, rfl, by simp, Fr.refl _ _⟩
  case round =>
    obtain ⟨k, hk, rfl, hs, hf⟩ := hrel
    have HS : Hid (∀ x ∈ z.take k, x.1.size ≤ 50) := hs
    have HF : Hid (Fr [] w wr) := hf
    clear hs hf
    by_cases hlt : k < len
    · obtain rfl := HA.out (by omega)
      have hkz : k < z.length := by rw [HZ.out]; exact hlt
      have c0 : wr.cell? ⟨b, off + k * 2, none⟩ = some (.string (z[k]).1) := HF.out.cell_some (HC.out k hkz).1 (by simp)
      have c1 : wr.cell? ⟨b, off + k * 2 + 1, none⟩ = some (.int .i64 (z[k]).2) := HF.out.cell_some (HC.out k hkz).2 (by simp)
      have ho := (HO.out z[k] (List.getElem_mem hkz)).1
      have HT : Hid (z.take (k + 1) = z.take k ++ [z[k]]) := List.take_succ_eq_append_getElem hkz
      generalize hzk : z[k] = x at *
      have HX : Hid (z[k] = x) := hzk
      clear hzk
      obtain ⟨p, n⟩ := x
      simp only at c0 c1 ho
      by_cases hp : 50 < (p.size : Int)
      · go_wp2
        go_ret
        exact ⟨false, rfl, HF.out.alloc _, fun h => by cases h⟩
      · go_wp2
        go_roundw
        case rel =>
          refine ⟨k + 1, by omega, by go_num, ?_, HF.out.alloc _⟩
          intro y hy
          rw [HT.out] at hy
          rcases List.mem_append.1 hy with h | h
          · exact HS.out y h
          · rw [List.mem_singleton.1 h]; simp only; omega
        case measure => simp [intOf]; omega
    · have hkl : k = len := by omega
      by_cases h30 : (len : Int) ≤ 30
      · go_wp2
        go_ret
        refine ⟨true, by simp, HF.out, fun _ => ⟨by omega, ?_⟩⟩
        have := HS.out
        rw [List.take_of_length_le (by rw [HZ.out]; omega)] at this
        exact this
      · have hd : decide ((len : Int) ≤ 30) = false := decide_eq_false h30
        go_wp2
        go_ret
        exact ⟨false, by simp [hd], HF.out, fun h => by cases h⟩
end Go.Proofs.YtobhpachigagkaaDoor
