/-
  Package pairs: Absolute, Deltas, Sum.
-/
import Derived.Test.YtoaibabkkphlaaaPNum
namespace Go.Proofs.Ytoaibabkkphlaaa
open Go.RowKit Mem Spans
set_option linter.unusedSimpArgs false
set_option linter.unusedVariables false
set_option maxRecDepth 100000

/-- Is a number within 64 bits? -/
def fits (z : Int) : Bool := decide (-9223372036854775808 ≤ z) && decide (z ≤ 9223372036854775807)
theorem fits_iff {z : Int} : fits z = true ↔ in64 z := by unfold fits in64; simp
theorem fits_not {z : Int} : fits z = false ↔ ¬ in64 z := by
  rw [← fits_iff]; simp
/-- The sums from a on; the differences from a on. -/
def absl : Int → List Int → Option (List Int)
  | _, [] => some []
  | a, d :: r => if fits (a + d) then (absl (a + d) r).map (fun t => (a + d) :: t) else none
def dltl : Int → List Int → Option (List Int)
  | _, [] => some []
  | a, v :: r => if fits (v - a) then (dltl v r).map (fun t => (v - a) :: t) else none
theorem absl_in {a : Int} {l o : List Int} (h : absl a l = some o) : o.length = l.length ∧ ∀ z ∈ o, in64 z := by
  induction l generalizing a o with
  | nil => simp [absl] at h; subst h; simp
  | cons d r ih =>
    simp only [absl] at h
    split at h
    · rename_i hf
      obtain ⟨t, h1, rfl⟩ := Option.map_eq_some_iff.1 h
      have := ih h1
      refine ⟨by simp [this.1], fun z hz => ?_⟩
      rcases List.mem_cons.1 hz with rfl | hz
      · exact fits_iff.1 hf
      · exact this.2 z hz
    · cases h
theorem dltl_in {a : Int} {l o : List Int} (h : dltl a l = some o) : o.length = l.length ∧ ∀ z ∈ o, in64 z := by
  induction l generalizing a o with
  | nil => simp [dltl] at h; subst h; simp
  | cons d r ih =>
    simp only [dltl] at h
    split at h
    · rename_i hf
      obtain ⟨t, h1, rfl⟩ := Option.map_eq_some_iff.1 h
      have := ih h1
      refine ⟨by simp [this.1], fun z hz => ?_⟩
      rcases List.mem_cons.1 hz with rfl | hz
      · exact fits_iff.1 hf
      · exact this.2 z hz
    · cases h
/-- Deltas of Absolute is what it was. -/
theorem dltl_absl {a : Int} {l o : List Int} (h : absl a l = some o) (hl : ∀ z ∈ l, in64 z) : dltl a o = some l := by
  induction l generalizing a o with
  | nil => simp [absl] at h; subst h; rfl
  | cons d r ih =>
    simp only [absl] at h
    split at h
    · obtain ⟨t, h1, rfl⟩ := Option.map_eq_some_iff.1 h
      simp only [dltl]
      rw [show a + d - a = d from by omega, if_pos (fits_iff.2 (hl d (by simp))), ih h1 (fun z hz => hl z (by simp [hz]))]
      rfl
    · cases h
def abe (l : List Int) : Int := match absl 0 l with | some _ => 0 | none => 28
def abv (l : List Int) : List Int := (absl 0 l).getD []
def dle (l : List Int) : Int := match dltl 0 l with | some _ => 0 | none => 28
def dlv (l : List Int) : List Int := (dltl 0 l).getD []
theorem abv_in (l : List Int) : ∀ z ∈ abv l, in64 z := by
  unfold abv
  cases h : absl 0 l with
  | none => simp
  | some o => exact (absl_in h).2
theorem dlv_in (l : List Int) : ∀ z ∈ dlv l, in64 z := by
  unfold dlv
  cases h : dltl 0 l with
  | none => simp
  | some o => exact (dltl_in h).2

/-- The program's test: did a sum wrap round? -/
theorem sum_fit {S d : Int} (hf : fits (S + d) = true) : wrap64 (S + d) = S + d := by
  have := fits_iff.1 hf; unfold in64 at this; unfold wrap64; omega
theorem sum_over {S d : Int} (hS : in64 S) (hd : in64 d) (hf : fits (S + d) = false) : (S < wrap64 (S + d) ∧ ¬ 0 < d) ∨ (¬ S < wrap64 (S + d) ∧ 0 < d) := by
  have := fits_not.1 hf; unfold in64 at this hS hd; unfold wrap64; omega
theorem diff_fit {S d : Int} (hf : fits (d - S) = true) : wrap64 (d - S) = d - S := by
  have := fits_iff.1 hf; unfold in64 at this; unfold wrap64; omega
theorem diff_over {S d : Int} (hS : in64 S) (hd : in64 d) (hf : fits (d - S) = false) : (wrap64 (d - S) < d ∧ ¬ 0 < S) ∨ (¬ wrap64 (d - S) < d ∧ 0 < S) := by
  have := fits_not.1 hf; unfold in64 at this hS hd; unfold wrap64; omega

set_option maxHeartbeats 2000000 in
theorem absolute_any (v : Value) (l : List Int) (w : World) (h : ISrc w v l) (hl : l.length ≤ 1000000) :
    Calls Try.prog 87 #[v] w fun e w' => ∃ u, e = .returned (.tuple #[u, .int .i64 (abe l)]) ∧ NOwn 2 w.heap.size w' u (abv l) ∧ Fr [] w w' := by
  obtain ⟨ao, cap, rfl, hcap, hmax, h64, b, off, ha, hc⟩ := h
  have HC : Hid (∀ j s, l[j]? = some s → w.cell? ⟨b, off + j, none⟩ = some (.int .i64 s)) := hc
  have HA : Hid (0 < l.length → ao = some ⟨b, off, none⟩) := ha
  have H64 : Hid (∀ z ∈ l, in64 z) := h64
  obtain ⟨i0, hi⟩ := info_int64
  have HI : Hid (NInfo 2 i0) := hi
  clear hc ha h64 hi
  go_enter Try.func87, Try.ntmps87
  go_wp2
  go_loopw [4, 5, 11] (fun u s i wr => ∃ (k : Nat) (S : Int) (out : List Int), k ≤ l.length ∧ i = .int .i64 (k : Int) ∧ s = .int .i64 S ∧ in64 S ∧ out.length = k ∧ absl 0 l = (absl S (l.drop k)).map (fun t => out ++ t) ∧ NOwn 2 w.heap.size wr u out ∧ Fr [] w wr) (fun _ _ i _ => l.length - (intOf i).toNat)
  case atStart => exact ⟨0, 0, [], by omega, rfl, rfl, by unfold in64; omega, rfl, by simp, .inl ⟨rfl, rfl⟩, Fr.refl _ _⟩
  case round =>
    obtain ⟨k, S, out, hk, rfl, rfl, hS, hol, hst, hno, hf⟩ := hrel
    have HF : Hid (Fr [] w wr) := hf
    have HS : Hid (in64 S) := hS
    have HOL : Hid (out.length = k) := hol
    have HN : Hid (NOwn 2 w.heap.size wr u4 out) := hno
    have HST : Hid (absl 0 l = (absl S (l.drop k)).map (fun t => out ++ t)) := hst
    clear hf hS hol hst hno
    by_cases hlt : k < l.length
    · obtain rfl := HA.out (by omega)
      obtain ⟨d, hd⟩ := at_lt hlt
      have HD : Hid (in64 d) := H64.out d (List.mem_of_getElem? hd)
      have c0 : wr.cell? ⟨b, off + k, none⟩ = some (.int .i64 d) := HF.out.cell_some (HC.out k d hd) (by simp)
      have HST2 : Hid (absl 0 l = (absl S (d :: l.drop (k + 1))).map (fun t => out ++ t)) := by rw [Hid, ← drop_at hd]; exact HST.out
      have HSZ : Hid (w.heap.size ≤ wr.heap.size) := HF.out.size
      clear hd HST
      by_cases hfit : fits (S + d) = true
      · have HW : Hid (wrap64 (S + d) = S + d) := sum_fit hfit
        have HTI : Hid (in64 (S + d)) := fits_iff.1 hfit
        have HST3 : Hid (absl 0 l = (absl (S + d) (l.drop (k + 1))).map (fun t => (out ++ [S + d]) ++ t)) := by
          rw [Hid, HST2.out, absl, if_pos hfit, Option.map_map]
          congr 1
          funext t
          simp
        have key : (S < S + d ∧ 0 < d) ∨ (¬ S < S + d ∧ ¬ 0 < d) := by omega
        obtain ⟨T, hT⟩ : ∃ T, T = S + d := ⟨_, rfl⟩
        have hw : wrap64 (S + d) = T := by rw [HW.out, hT]
        have HT : Hid (T = S + d) := hT
        rw [← hT] at key
        clear hT hfit HST2 HW
        rcases key with ⟨t1, t2⟩ | ⟨t1, t2⟩
        · skip
          go_wp2_with (at_builtin; refine wpList_append_n _ rfl _ _ 68 rfl Try.underlying68 HI.out.1 HI.out.2.1 HI.out.2.2.1 HI.out.2.2.2 (B := w.heap.size) (s := T) (by have := HSZ.out; simp; omega) rfl rfl (HN.out.kept ((Fr.refl [] _).alloc _)) (lit_n 2 wr [T] rfl HSZ.out (by simp) (by unfold maxLen; simp)) (by have := HOL.out; omega) ?_; intro v3 w3 ho3 hb3; have HO3 : Hid (NOwn 2 w.heap.size w3 v3 (out ++ [T])) := ho3; have HB3 : Hid (Fr [] w w3) := Fr.ofBelow (((HF.out.alloc _).below (Nat.le_refl _) (by simp)).trans hb3); clear ho3 hb3)
          go_roundw
          case rel => exact ⟨k + 1, T, out ++ [T], by omega, by go_num, rfl, by rw [HT.out]; exact HTI.out, by have := HOL.out; simp; omega, by rw [HT.out]; exact HST3.out, HO3.out, HB3.out⟩
          case measure => simp [intOf]; omega
        · skip
          go_wp2_with (at_builtin; refine wpList_append_n _ rfl _ _ 68 rfl Try.underlying68 HI.out.1 HI.out.2.1 HI.out.2.2.1 HI.out.2.2.2 (B := w.heap.size) (s := T) (by have := HSZ.out; simp; omega) rfl rfl (HN.out.kept ((Fr.refl [] _).alloc _)) (lit_n 2 wr [T] rfl HSZ.out (by simp) (by unfold maxLen; simp)) (by have := HOL.out; omega) ?_; intro v3 w3 ho3 hb3; have HO3 : Hid (NOwn 2 w.heap.size w3 v3 (out ++ [T])) := ho3; have HB3 : Hid (Fr [] w w3) := Fr.ofBelow (((HF.out.alloc _).below (Nat.le_refl _) (by simp)).trans hb3); clear ho3 hb3)
          go_roundw
          case rel => exact ⟨k + 1, T, out ++ [T], by omega, by go_num, rfl, by rw [HT.out]; exact HTI.out, by have := HOL.out; simp; omega, by rw [HT.out]; exact HST3.out, HO3.out, HB3.out⟩
          case measure => simp [intOf]; omega
      · have hno : fits (S + d) = false := by simpa using hfit
        have HE : Hid (abe l = 28 ∧ abv l = []) := by
          have : absl 0 l = none := by rw [HST2.out, absl, if_neg hfit]; rfl
          unfold Hid abe abv
          rw [this]
          exact ⟨rfl, rfl⟩
        have key := sum_over HS.out HD.out hno
        obtain ⟨T, hw⟩ : ∃ T, wrap64 (S + d) = T := ⟨_, rfl⟩
        rw [hw] at key
        clear hno hfit HST2
        rcases key with ⟨t1, t2⟩ | ⟨t1, t2⟩
        · go_wp2
          go_ret2
          exact ⟨_, by rw [HE.out.1]; rfl, .inl ⟨HE.out.2, rfl⟩, HF.out⟩
        · go_wp2
          go_ret2
          exact ⟨_, by rw [HE.out.1]; rfl, .inl ⟨HE.out.2, rfl⟩, HF.out⟩
    · have HE : Hid (abe l = 0 ∧ abv l = out) := by
        have : absl 0 l = some out := by rw [HST.out, List.drop_eq_nil_of_le (by omega), absl]; simp
        unfold Hid abe abv
        rw [this]
        exact ⟨rfl, rfl⟩
      go_wp2
      go_ret2
      exact ⟨_, by rw [HE.out.1]; rfl, by rw [HE.out.2]; exact HN.out, HF.out⟩

set_option maxHeartbeats 2000000 in
theorem deltas_any (v : Value) (l : List Int) (w : World) (h : ISrc w v l) (hl : l.length ≤ 1000000) :
    Calls Try.prog 89 #[v] w fun e w' => ∃ u, e = .returned (.tuple #[u, .int .i64 (dle l)]) ∧ NOwn 2 w.heap.size w' u (dlv l) ∧ Fr [] w w' := by
  obtain ⟨ao, cap, rfl, hcap, hmax, h64, b, off, ha, hc⟩ := h
  have HC : Hid (∀ j s, l[j]? = some s → w.cell? ⟨b, off + j, none⟩ = some (.int .i64 s)) := hc
  have HA : Hid (0 < l.length → ao = some ⟨b, off, none⟩) := ha
  have H64 : Hid (∀ z ∈ l, in64 z) := h64
  obtain ⟨i0, hi⟩ := info_int64
  have HI : Hid (NInfo 2 i0) := hi
  clear hc ha h64 hi
  go_enter Try.func89, Try.ntmps89
  go_wp2
  go_loopw [4, 5, 11] (fun u s i wr => ∃ (k : Nat) (S : Int) (out : List Int), k ≤ l.length ∧ i = .int .i64 (k : Int) ∧ s = .int .i64 S ∧ in64 S ∧ out.length = k ∧ dltl 0 l = (dltl S (l.drop k)).map (fun t => out ++ t) ∧ NOwn 2 w.heap.size wr u out ∧ Fr [] w wr) (fun _ _ i _ => l.length - (intOf i).toNat)
  case atStart => exact ⟨0, 0, [], by omega, rfl, rfl, by unfold in64; omega, rfl, by simp, .inl ⟨rfl, rfl⟩, Fr.refl _ _⟩
  case round =>
    obtain ⟨k, S, out, hk, rfl, rfl, hS, hol, hst, hno, hf⟩ := hrel
    have HF : Hid (Fr [] w wr) := hf
    have HS : Hid (in64 S) := hS
    have HOL : Hid (out.length = k) := hol
    have HN : Hid (NOwn 2 w.heap.size wr u4 out) := hno
    have HST : Hid (dltl 0 l = (dltl S (l.drop k)).map (fun t => out ++ t)) := hst
    clear hf hS hol hst hno
    by_cases hlt : k < l.length
    · obtain rfl := HA.out (by omega)
      obtain ⟨d, hd⟩ := at_lt hlt
      have HD : Hid (in64 d) := H64.out d (List.mem_of_getElem? hd)
      have c0 : wr.cell? ⟨b, off + k, none⟩ = some (.int .i64 d) := HF.out.cell_some (HC.out k d hd) (by simp)
      have HST2 : Hid (dltl 0 l = (dltl S (d :: l.drop (k + 1))).map (fun t => out ++ t)) := by rw [Hid, ← drop_at hd]; exact HST.out
      have HSZ : Hid (w.heap.size ≤ wr.heap.size) := HF.out.size
      clear hd HST
      by_cases hfit : fits (d - S) = true
      · have HW : Hid (wrap64 (d - S) = d - S) := diff_fit hfit
        have HTI : Hid (in64 (d - S)) := fits_iff.1 hfit
        have HST3 : Hid (dltl 0 l = (dltl (d) (l.drop (k + 1))).map (fun t => (out ++ [d - S]) ++ t)) := by
          rw [Hid, HST2.out, dltl, if_pos hfit, Option.map_map]
          congr 1
          funext t
          simp
        have key : (d - S < d ∧ 0 < S) ∨ (¬ d - S < d ∧ ¬ 0 < S) := by omega
        obtain ⟨T, hT⟩ : ∃ T, T = d - S := ⟨_, rfl⟩
        have hw : wrap64 (d - S) = T := by rw [HW.out, hT]
        have HT : Hid (T = d - S) := hT
        rw [← hT] at key
        clear hT hfit HST2 HW
        rcases key with ⟨t1, t2⟩ | ⟨t1, t2⟩
        · skip
          go_wp2_with (at_builtin; refine wpList_append_n _ rfl _ _ 68 rfl Try.underlying68 HI.out.1 HI.out.2.1 HI.out.2.2.1 HI.out.2.2.2 (B := w.heap.size) (s := T) (by have := HSZ.out; simp; omega) rfl rfl (HN.out.kept ((Fr.refl [] _).alloc _)) (lit_n 2 wr [T] rfl HSZ.out (by simp) (by unfold maxLen; simp)) (by have := HOL.out; omega) ?_; intro v3 w3 ho3 hb3; have HO3 : Hid (NOwn 2 w.heap.size w3 v3 (out ++ [T])) := ho3; have HB3 : Hid (Fr [] w w3) := Fr.ofBelow (((HF.out.alloc _).below (Nat.le_refl _) (by simp)).trans hb3); clear ho3 hb3)
          go_roundw
          case rel => exact ⟨k + 1, d, out ++ [T], by omega, by go_num, rfl, by exact HD.out, by have := HOL.out; simp; omega, by rw [HT.out]; exact HST3.out, HO3.out, HB3.out⟩
          case measure => simp [intOf]; omega
        · skip
          go_wp2_with (at_builtin; refine wpList_append_n _ rfl _ _ 68 rfl Try.underlying68 HI.out.1 HI.out.2.1 HI.out.2.2.1 HI.out.2.2.2 (B := w.heap.size) (s := T) (by have := HSZ.out; simp; omega) rfl rfl (HN.out.kept ((Fr.refl [] _).alloc _)) (lit_n 2 wr [T] rfl HSZ.out (by simp) (by unfold maxLen; simp)) (by have := HOL.out; omega) ?_; intro v3 w3 ho3 hb3; have HO3 : Hid (NOwn 2 w.heap.size w3 v3 (out ++ [T])) := ho3; have HB3 : Hid (Fr [] w w3) := Fr.ofBelow (((HF.out.alloc _).below (Nat.le_refl _) (by simp)).trans hb3); clear ho3 hb3)
          go_roundw
          case rel => exact ⟨k + 1, d, out ++ [T], by omega, by go_num, rfl, by exact HD.out, by have := HOL.out; simp; omega, by rw [HT.out]; exact HST3.out, HO3.out, HB3.out⟩
          case measure => simp [intOf]; omega
      · have hno : fits (d - S) = false := by simpa using hfit
        have HE : Hid (dle l = 28 ∧ dlv l = []) := by
          have : dltl 0 l = none := by rw [HST2.out, dltl, if_neg hfit]; rfl
          unfold Hid dle dlv
          rw [this]
          exact ⟨rfl, rfl⟩
        have key := diff_over HS.out HD.out hno
        obtain ⟨T, hw⟩ : ∃ T, wrap64 (d - S) = T := ⟨_, rfl⟩
        rw [hw] at key
        clear hno hfit HST2
        rcases key with ⟨t1, t2⟩ | ⟨t1, t2⟩
        · go_wp2
          go_ret2
          exact ⟨_, by rw [HE.out.1]; rfl, .inl ⟨HE.out.2, rfl⟩, HF.out⟩
        · go_wp2
          go_ret2
          exact ⟨_, by rw [HE.out.1]; rfl, .inl ⟨HE.out.2, rfl⟩, HF.out⟩
    · have HE : Hid (dle l = 0 ∧ dlv l = out) := by
        have : dltl 0 l = some out := by rw [HST.out, List.drop_eq_nil_of_le (by omega), dltl]; simp
        unfold Hid dle dlv
        rw [this]
        exact ⟨rfl, rfl⟩
      go_wp2
      go_ret2
      exact ⟨_, by rw [HE.out.1]; rfl, by rw [HE.out.2]; exact HN.out, HF.out⟩

end Go.Proofs.Ytoaibabkkphlaaa
