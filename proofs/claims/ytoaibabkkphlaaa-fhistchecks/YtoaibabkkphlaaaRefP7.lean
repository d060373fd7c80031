/-
  The document's Fits, Absolute, Deltas.
-/
import Derived.Test.YtoaibabkkphlaaaPSums
namespace Go.Proofs.Ytoaibabkkphlaaa
open Go.RowKit Mem Spans
set_option linter.unusedSimpArgs false
set_option linter.unusedVariables false
set_option maxRecDepth 100000

theorem wr_id {z : Int} (h1 : -9223372036854775808 ≤ z) (h2 : z ≤ 9223372036854775807) : wrap64 z = z := by unfold wrap64; omega
set_option maxHeartbeats 400000 in
theorem lfits_any (x y : Int) (w : World) (hx : in64 x) (hy : in64 y) :
    Calls Try.prog 72 #[.int .i64 x, .int .i64 y] w fun e w' => e = .returned (.bool (fits (x + y))) ∧ w = w' := by
  go_enter Try.func72, Try.ntmps72
  by_cases h0 : 0 ≤ y
  · have HE : Hid (decide (x ≤ 9223372036854775807 - y) = fits (x + y)) := by
      unfold in64 at hx hy
      unfold Hid fits
      rw [decide_eq_true (p := -9223372036854775808 ≤ x + y) (by omega), Bool.true_and, decide_eq_decide]
      omega
    have hw : wrap64 (9223372036854775807 - y) = 9223372036854775807 - y := by unfold in64 at hy; exact wr_id (by omega) (by omega)
    clear hx hy
    go_wp2
    go_ret
    exact ⟨by rw [← HE.out]; rfl, rfl⟩
  · have HE : Hid (decide (-9223372036854775808 - y ≤ x) = fits (x + y)) := by
      unfold in64 at hx hy
      unfold Hid fits
      rw [decide_eq_true (p := x + y ≤ 9223372036854775807) (by omega), Bool.and_true, decide_eq_decide]
      omega
    have hw : wrap64 (-9223372036854775808 - y) = -9223372036854775808 - y := by unfold in64 at hy; exact wr_id (by omega) (by omega)
    clear hx hy
    go_wp2
    go_ret
    exact ⟨by rw [← HE.out]; rfl, rfl⟩

/-- Does it refuse? -/
def abo (l : List Int) : Int := match absl 0 l with | some _ => 0 | none => 1
def dlo (l : List Int) : Int := match dltl 0 l with | some _ => 0 | none => 1

set_option maxHeartbeats 2000000 in
theorem labsolute_any (v : Value) (l : List Int) (w : World) (h : ISrc w v l) (hl : l.length ≤ 1000000) :
    Calls Try.prog 44 #[v] w fun e w' => ∃ u, e = .returned (.tuple #[u, .int .i64 (abo l)]) ∧ NOwn 2 w.heap.size w' u (abv l) ∧ Fr [] w w' := by
  obtain ⟨ao, cap, rfl, hcap, hmax, h64, b, off, ha, hc⟩ := h
  have HC : Hid (∀ j s, l[j]? = some s → w.cell? ⟨b, off + j, none⟩ = some (.int .i64 s)) := hc
  have HA : Hid (0 < l.length → ao = some ⟨b, off, none⟩) := ha
  have H64 : Hid (∀ z ∈ l, in64 z) := h64
  obtain ⟨i0, hi⟩ := info_int64
  have HI : Hid (NInfo 2 i0) := hi
  clear hc ha h64 hi
  go_enter Try.func44, Try.ntmps44
  go_wp2
  go_loopw [4, 5, 6] (fun u s i wr => ∃ (k : Nat) (S : Int) (out : List Int), k ≤ l.length ∧ i = .int .i64 (k : Int) ∧ s = .int .i64 S ∧ in64 S ∧ out.length = k ∧ absl 0 l = (absl S (l.drop k)).map (fun t => out ++ t) ∧ NOwn 2 w.heap.size wr u out ∧ Fr [] w wr) (fun _ _ i _ => l.length - (intOf i).toNat)
  case atStart => exact ⟨0, 0, [], by omega, rfl, rfl, by unfold in64; omega, rfl, by simp, .inl ⟨rfl, rfl⟩, Fr.refl _ _⟩
  case round =>
    obtain ⟨k, S, out, hk, rfl, rfl, hS, hol, hst, hno, hf⟩ := hrel
    have HF : Hid (Fr [] w wr) := hf
    have HS : Hid (in64 S) := hS
    have HOL : Hid (out.length = k) := hol
    have HN : Hid (NOwn 2 w.heap.size wr u4 out) := hno
    have HST : Hid (absl 0 l = (absl S (l.drop k)).map (fun t => out ++ t)) := hst
    clear hf hS hol hst hno
    by_cases hlt : k < l.length
    · obtain rfl := HA.out (by omega)
      obtain ⟨d, hd⟩ := at_lt hlt
      have HD : Hid (in64 d) := H64.out d (List.mem_of_getElem? hd)
      have c0 : wr.cell? ⟨b, off + k, none⟩ = some (.int .i64 d) := HF.out.cell_some (HC.out k d hd) (by simp)
      have HST2 : Hid (absl 0 l = (absl S (d :: l.drop (k + 1))).map (fun t => out ++ t)) := by rw [Hid, ← drop_at hd]; exact HST.out
      have HSZ : Hid (w.heap.size ≤ wr.heap.size) := HF.out.size
      clear hd HST
      go_wp2_with fail
      refine (lfits_any S d wr HS.out HD.out).mono ?_
      rintro e w2 ⟨rfl, rfl⟩
      by_cases hfit : fits (S + d) = true
      · have HTI : Hid (in64 (S + d)) := fits_iff.1 hfit
        have HST3 : Hid (absl 0 l = (absl (S + d) (l.drop (k + 1))).map (fun t => (out ++ [S + d]) ++ t)) := by
          rw [Hid, HST2.out, absl, if_pos hfit, Option.map_map]
          congr 1
          funext t
          simp
        obtain ⟨T, hT⟩ : ∃ T, T = S + d := ⟨_, rfl⟩
        have hw : wrap64 (S + d) = T := by rw [sum_fit hfit, hT]
        have HT : Hid (T = S + d) := hT
        clear hT HST2
        rw [hfit]
        clear hfit
        go_wp2_with (at_builtin; refine wpList_append_n _ rfl _ _ 68 rfl Try.underlying68 HI.out.1 HI.out.2.1 HI.out.2.2.1 HI.out.2.2.2 (B := w.heap.size) (s := T) (by have := HSZ.out; simp; omega) rfl rfl (HN.out.kept ((Fr.refl [] _).alloc _)) (lit_n 2 wr [T] rfl HSZ.out (by simp) (by unfold maxLen; simp)) (by have := HOL.out; omega) ?_; intro v3 w3 ho3 hb3; have HO3 : Hid (NOwn 2 w.heap.size w3 v3 (out ++ [T])) := ho3; have HB3 : Hid (Fr [] w w3) := Fr.ofBelow (((HF.out.alloc _).below (Nat.le_refl _) (by simp)).trans hb3); clear ho3 hb3)
        go_roundw
        case rel => exact ⟨k + 1, T, out ++ [T], by omega, by go_num, rfl, by rw [HT.out]; exact HTI.out, by have := HOL.out; simp; omega, by rw [HT.out]; exact HST3.out, HO3.out, HB3.out⟩
        case measure => simp [intOf]; omega
      · have hno : fits (S + d) = false := by simpa using hfit
        have HE : Hid (abo l = 1 ∧ abv l = []) := by
          have : absl 0 l = none := by rw [HST2.out, absl, if_neg hfit]; rfl
          unfold Hid abo abv
          rw [this]
          exact ⟨rfl, rfl⟩
        rw [hno]
        clear hno hfit HST2
        go_wp2
        go_ret2
        exact ⟨_, by rw [HE.out.1]; rfl, .inl ⟨HE.out.2, rfl⟩, HF.out⟩
    · have HE : Hid (abo l = 0 ∧ abv l = out) := by
        have : absl 0 l = some out := by rw [HST.out, List.drop_eq_nil_of_le (by omega), absl]; simp
        unfold Hid abo abv
        rw [this]
        exact ⟨rfl, rfl⟩
      go_wp2
      go_ret2
      exact ⟨_, by rw [HE.out.1]; rfl, by rw [HE.out.2]; exact HN.out, HF.out⟩

theorem lo_fit {S d : Int} (hS : in64 S) (hd : in64 d) (h0 : 0 ≤ S) : (d < -9223372036854775808 + S ↔ fits (d - S) = false) ∧ wrap64 (-9223372036854775808 + S) = -9223372036854775808 + S := by
  rw [fits_not]; unfold in64 at *; exact ⟨by omega, wr_id (by omega) (by omega)⟩
theorem hi_fit {S d : Int} (hS : in64 S) (hd : in64 d) (h0 : S < 0) : (9223372036854775807 + S < d ↔ fits (d - S) = false) ∧ wrap64 (9223372036854775807 + S) = 9223372036854775807 + S := by
  rw [fits_not]; unfold in64 at *; exact ⟨by omega, wr_id (by omega) (by omega)⟩


end Go.Proofs.Ytoaibabkkphlaaa
