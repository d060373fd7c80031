/-
  The document's own answers of layer 2 (package tidepoleref02): At and Text, over places of the call's own.
-/
import Derived.Test.YtobhpachigagkaaDoorPlaces
namespace Go.Proofs.YtobhpachigagkaaDoor
open Go.RowKit Go.Extern.Stop Go.Stop Go.Extern Mem
set_option linter.unusedSimpArgs false
set_option linter.unusedVariables false
set_option maxRecDepth 100000

theorem IsPlaces.cells {B : Nat} {w : World} {v : Value} {y : List Wp} (h : IsPlaces B w v y) :
    ∃ ao cap, v = .slice ao y.length cap ∧ (0 < y.length → ∃ g, ao = some ⟨g, 0, none⟩ ∧ ∀ j (hj : j < y.length), w.cell? ⟨g, j * 2, none⟩ = some (.string (y[j]).1) ∧ w.cell? ⟨g, j * 2 + 1, none⟩ = some (.int .i64 (y[j]).2)) := by
  rcases h with ⟨rfl, rfl⟩ | ⟨g, _, hy, hrow⟩
  · exact ⟨none, 0, rfl, fun h => by simp at h⟩
  · obtain ⟨cap, hv⟩ := hrow.val
    refine ⟨_, cap, hv, fun _ => ⟨g, rfl, fun j hj => ?_⟩⟩
    have := plCells_at y j hj
    rw [hrow.cell _ (by omega), hrow.cell _ (by omega)]
    exact this

/-- The number of the first place of that name. -/
def atW (name : ByteArray) : List Wp → Option Int
  | [] => none
  | x :: r => if x.1.toList == name.toList then some x.2 else atW name r
theorem atW_append (name : ByteArray) : ∀ (pre r : List Wp), (∀ n ∈ pre, (n.1.toList == name.toList) = false) → atW name (pre ++ r) = atW name r
  | [], _, _ => rfl
  | m :: pre, r, h => by
    rw [List.cons_append, atW, if_neg (by rw [h m (by simp)]; simp), atW_append name pre r (fun n hn => h n (by simp [hn]))]
/-- What tidepoleref02.At answers. -/
def atV : Option Int → Value
  | none => .tuple #[.int .i64 0, .int .i64 0]
  | some a => .tuple #[.int .i64 a, .int .i64 1]

set_option maxHeartbeats 2000000 in
theorem rat_any (B : Nat) (v : Value) (y : List Wp) (name : ByteArray) (w : World) (h : IsPlaces B w v y) (hl : y.length ≤ 1000) :
    Calls Tryd.prog 13 #[v, .string name] w fun e w' => e = .returned (atV (atW name y)) ∧ w' = w := by
  obtain ⟨ao, cap, rfl, hc⟩ := h.cells
  have HC : Hid (0 < y.length → ∃ g, ao = some ⟨g, 0, none⟩ ∧ ∀ j (hj : j < y.length), w.cell? ⟨g, j * 2, none⟩ = some (.string (y[j]).1) ∧ w.cell? ⟨g, j * 2 + 1, none⟩ = some (.int .i64 (y[j]).2)) := hc
  obtain ⟨n, hn⟩ : ∃ n, n = y.length := ⟨_, rfl⟩
  have HN : Hid (n = y.length) := hn
  rw [← hn] at hl ⊢
  clear hc hn h
  go_enter Tryd.func13, Tryd.ntmps13
  go_wp2
  go_loop [6] (fun i => ∃ k : Nat, k ≤ n ∧ i = .int .i64 (k : Int) ∧ ∀ x ∈ y.take k, (x.1.toList == name.toList) = false) (fun i => n - (intOf i).toNat)
  case atStart => exact ⟨0, by omega, rfl, by simp⟩
  case round =>
    obtain ⟨k, hk, rfl, hs⟩ := hrel
    have HS : Hid (∀ x ∈ y.take k, (x.1.toList == name.toList) = false) := hs
    clear hs
    by_cases hlt : k < n
    · have hky : k < y.length := by rw [← HN.out]; exact hlt
      obtain ⟨g, rfl, hcc⟩ := HC.out (by omega)
      have c0 := (hcc k hky).1
      have c1 := (hcc k hky).2
      have HT : Hid (y.take (k + 1) = y.take k ++ [y[k]] ∧ y = y.take k ++ y[k] :: y.drop (k + 1)) := ⟨List.take_succ_eq_append_getElem hky, by rw [List.getElem_cons_drop, List.take_append_drop]⟩
      generalize y[k] = x at *
      obtain ⟨p, a⟩ := x
      simp only at c0 c1
      clear hcc
      by_cases he : (p.toList == name.toList) = true
      · go_wp2
        go_ret2
        refine ⟨?_, rfl⟩
        rw [HT.out.2, atW_append name _ _ HS.out, atW, if_pos he]
        rfl
      · have he' : (p.toList == name.toList) = false := by simpa using he
        clear he
        go_wp2
        go_round
        case rel =>
          refine ⟨k + 1, by omega, by go_num, ?_⟩
          intro x hx
          rw [HT.out.1] at hx
          rcases List.mem_append.1 hx with h | h
          · exact HS.out x h
          · rw [List.mem_singleton.1 h]; exact he'
        case measure => simp [intOf]; omega
    · have hkn : k = n := by omega
      go_wp2
      go_ret2
      refine ⟨?_, rfl⟩
      have h1 := HS.out
      rw [List.take_of_length_le (by rw [← HN.out]; omega)] at h1
      have h2 := atW_append name y [] h1
      rw [List.append_nil] at h2
      rw [h2]
      rfl

/-- What one place has in the text. -/
def partW (x : Wp) : List UInt8 := if (x.1.toList == []) = true then [] else x.1.data.toList ++ [32] ++ Lib.itoa x.2 ++ [58, 32]
theorem partW_len (x : Wp) (h : x.1.size ≤ 50) (h0 : -9223372036854775808 ≤ x.2) (h1 : x.2 ≤ 9223372036854775807) : (partW x).length ≤ 100 := by
  have hi := itoa_len x.2 h0 h1
  have hs : x.1.data.toList.length = x.1.size := by rw [Array.length_toList]; rfl
  unfold partW
  split
  · simp
  · simp only [List.length_append, hs, List.length_cons, List.length_nil]
    omega
theorem partsW_len : ∀ (y : List Wp), (∀ x ∈ y, x.1.size ≤ 50 ∧ -9223372036854775808 ≤ x.2 ∧ x.2 ≤ 9223372036854775807) → ((y.map partW).flatten).length ≤ 100 * y.length
  | [], _ => by simp
  | x :: r, h => by
    have h1 := h x (by simp)
    have := partW_len x h1.1 h1.2.1 h1.2.2
    have := partsW_len r (fun m hm => h m (by simp [hm]))
    simp only [List.map_cons, List.flatten_cons, List.length_append, List.length_cons]
    omega
/-- The text of places, behind which 's' stands. -/
def textW (y : List Wp) (s : List UInt8) : List UInt8 := (y.map partW).flatten ++ s

theorem textW_drop (y : List Wp) (s : List UInt8) (j : Nat) (h : j < y.length) : textW (y.drop j) s = partW y[j] ++ textW (y.drop (j + 1)) s := by
  have e := (List.getElem_cons_drop h).symm
  rw [textW, e, List.map_cons, List.flatten_cons, List.append_assoc, textW]

set_option maxHeartbeats 4000000 in
theorem rtext_any (B : Nat) (v : Value) (y : List Wp) (s : List UInt8) (w : World) (h : IsPlaces B w v y) (hl : y.length ≤ 1000) (hs : s.length ≤ 100) (hok : ∀ x ∈ y, x.1.size ≤ 50 ∧ -9223372036854775808 ≤ x.2 ∧ x.2 ≤ 9223372036854775807) :
    Calls Tryd.prog 17 #[v, .string ⟨s.toArray⟩] w fun e w' => e = .returned (.string ⟨(textW y s).toArray⟩) ∧ Fr [] w w' := by
  obtain ⟨ao, cap, rfl, hc⟩ := h.cells
  have HC : Hid (0 < y.length → ∃ g, ao = some ⟨g, 0, none⟩ ∧ ∀ j (hj : j < y.length), w.cell? ⟨g, j * 2, none⟩ = some (.string (y[j]).1) ∧ w.cell? ⟨g, j * 2 + 1, none⟩ = some (.int .i64 (y[j]).2)) := hc
  have HO : Hid (∀ x ∈ y, x.1.size ≤ 50 ∧ -9223372036854775808 ≤ x.2 ∧ x.2 ≤ 9223372036854775807) := hok
  obtain ⟨n, hn⟩ : ∃ n, n = y.length := ⟨_, rfl⟩
  have HN : Hid (n = y.length) := hn
  rw [← hn] at hl ⊢
  clear hc hn h hok
  go_enter Tryd.func17, Tryd.ntmps17
  go_wp2
  go_loopg [5, 6] n (fun gk o i wr => ∃ k : Nat, k ≤ n ∧ k ≤ gk ∧ i = .int .i64 ((k : Int) - 1) ∧ o = .string ⟨(textW (y.drop k) s).toArray⟩ ∧ Fr [] w wr)
  case atStart =>
    refine ⟨n, by omega, Nat.le_refl _, rfl, ?_, Fr.refl _ _⟩
    rw [List.drop_of_length_le (by rw [← HN.out]; omega)]
    rfl
  case round =>
    obtain ⟨k, hk, hgk, rfl, rfl, hf⟩ := hrel
    have HF : Hid (Fr [] w wr) := hf
    clear hf
    rcases k with _ | j
    · have h1 : ((0 : Nat) : Int) - 1 = -1 := by omega
      rw [h1]
      go_wp2
      go_ret
      exact ⟨rfl, HF.out⟩
    · have hjy : j < y.length := by rw [← HN.out]; omega
      have h1 : ((j + 1 : Nat) : Int) - 1 = (j : Int) := by omega
      rw [h1]
      obtain ⟨g, rfl, hcc⟩ := HC.out (by omega)
      have c0 : wr.cell? ⟨g, j * 2, none⟩ = some (.string (y[j]).1) := HF.out.cell_some (hcc j hjy).1 (by simp)
      have c1 : wr.cell? ⟨g, j * 2 + 1, none⟩ = some (.int .i64 (y[j]).2) := HF.out.cell_some (hcc j hjy).2 (by simp)
      have HT : Hid (textW (y.drop j) s = partW y[j] ++ textW (y.drop (j + 1)) s) := textW_drop y s j hjy
      have hox := HO.out y[j] (List.getElem_mem hjy)
      have hil := itoa_len y[j].2 hox.2.1 hox.2.2
      have HSZ : Hid ((textW (y.drop (j + 1)) s).length ≤ 100100) := by
        rw [Hid, textW, List.length_append]
        have h2 := partsW_len (y.drop (j + 1)) (fun x hx => HO.out x (List.mem_of_mem_drop hx))
        have h3 : (y.drop (j + 1)).length ≤ 1000 := by rw [List.length_drop, ← HN.out]; omega
        omega
      generalize textW (y.drop (j + 1)) s = O at *
      generalize y[j] = x at *
      obtain ⟨p, a⟩ := x
      simp only at c0 c1 hox hil
      obtain ⟨hp, ha0, ha1⟩ := hox
      clear hcc
      by_cases he : (p.toList == []) = true
      · go_wp2
        go_roundg j
        case measure => omega
        case rel =>
          refine ⟨j, by omega, Nat.le_refl _, by go_num, ?_, HF.out⟩
          rw [HT.out, partW, if_pos he]
          rfl
      · have he' : (p.toList == []) = false := by simpa using he
        clear he
        have s1 : (ByteArray.mk #[32]).size = 1 := rfl
        have s2 : (ByteArray.mk #[58, 32]).size = 2 := rfl
        have s3 := size_mk (Lib.itoa a)
        have s4 := size_mk O
        have s5 := HSZ.out
        have a1 := adds p ⟨#[32]⟩ (by omega)
        have a2 := adds (p ++ ⟨#[32]⟩) ⟨(Lib.itoa a).toArray⟩ (by rw [ByteArray.size_append]; omega)
        have a3 := adds ((p ++ ⟨#[32]⟩) ++ ⟨(Lib.itoa a).toArray⟩) ⟨#[58, 32]⟩ (by rw [ByteArray.size_append, ByteArray.size_append]; omega)
        have a4 := adds (((p ++ ⟨#[32]⟩) ++ ⟨(Lib.itoa a).toArray⟩) ++ ⟨#[58, 32]⟩) ⟨O.toArray⟩ (by rw [ByteArray.size_append, ByteArray.size_append, ByteArray.size_append]; omega)
        have HR : Hid ((((p ++ ⟨#[32]⟩) ++ ⟨(Lib.itoa a).toArray⟩) ++ ⟨#[58, 32]⟩) ++ ⟨O.toArray⟩ = (⟨(textW (y.drop j) s).toArray⟩ : ByteArray)) := by
          rw [Hid, HT.out, partW, if_neg (by rw [he']; simp)]
          apply ByteArray.ext
          rw [ByteArray.data_append, ByteArray.data_append, ByteArray.data_append, ByteArray.data_append]
          simp
        clear s1 s2 s3 s4 s5 hil
        have hji : (j : Int) < (n : Int) := by omega
        have hj0 : (0 : Int) ≤ (j : Int) := by omega
        go_wp2
        go_region_held3 (fun w' => w'.cell? ⟨g, j * 2, none⟩ = some (.string p) ∧ w'.cell? ⟨g, j * 2 + 1, none⟩ = some (.int .i64 a)) (go_keep) (first
          | (go_at_call 18; refine (digits_any a ha0 ha1 _).mono ?_; rintro e w1 ⟨rfl, f1⟩; have k1 := f1.cell_some (p := ⟨g, j * 2, none⟩) (v := .string p) c0 (by simp); have k2 := f1.cell_some (p := ⟨g, j * 2 + 1, none⟩) (v := .int .i64 a) c1 (by simp)))
        have F1 : Hid (Fr [] w w1) := HF.out.trans (show Fr [] wr w1 from ⟨f1.os, f1.tape, f1.output, f1.size, f1.block⟩) (by simp)
        go_wp2
        go_roundg j
        case measure => omega
        case rel => exact ⟨j, by omega, Nat.le_refl _, by go_num, by rw [HR.out], F1.out⟩
end Go.Proofs.YtobhpachigagkaaDoor
