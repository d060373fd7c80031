/-
  PMem, PNum, PSums, PUnzip, RoundReg, PZip, RefP7, ArgsS, ArgsP, Ref6, Ref6C, Ref6P.
-/
import Derived.Test.YtnfbmdniomelnaaGA
import Derived.Defers
import Derived.Recover
import Derived.Laws.Pointers
import Derived.RegionIn
import Derived.Deep.RegionHeld3
import Derived.Deep.Strs
import Derived.ProofKit
import Derived.Deep.DeepCutAuto
/-
  Package pairs: rows of numbers of whatever type; same and joined, which defer a function that recovers.
-/
namespace Go.Proofs.Ytnfbmdniomelnaa
open Go.RowKit Mem Spans
set_option linter.unusedSimpArgs false
set_option linter.unusedVariables false
set_option maxRecDepth 100000

theorem idle46 (w : World) : CallsD Try.prog 71 #[] .returning w fun e u' w' => e = .returned (.tuple #[]) ∧ u' = .returning ∧ w' = w := by
  refine callsD_of_wpS Try.func71 rfl fun c₀ cs hu => ?_
  apply wpS_region
  simp [wpOpsS, go_sem, recoverD, hu, Try.ntmps71, Exit.thenS, bodyPostS, results, Try.results71]
  cases c₀
  simp_all

set_option maxHeartbeats 400000 in
theorem same64_any (x y : Int) (w : World) : Calls Try.prog 60 #[.int .i64 x, .int .i64 y] w fun e w' => e = .returned (.bool (decide (x = y))) ∧ w' = w := by
  have hmf : ∀ (fn : Fn) (first cap : Array Value) (w : World), (Instr.makeFunc fn first cap).run Try.prog w = .ok (.func fn first cap) w := fun _ _ _ _ => rfl
  go_enter_defers Try.func60, Try.ntmps60
  go_wp2
  refine leaves_cons (f := 71) (args := #[]) (by simp) (by simp [go_sem]) ?_
  refine (idle46 _).mono ?_
  rintro e u' w'' ⟨rfl, rfl, rfl⟩
  by_cases h : x = y <;> simp [h, Leaves, settle, results, Try.results60, go_sem]




end Go.Proofs.Ytnfbmdniomelnaa

/-
  Find, Without.
-/
namespace Go.Proofs.Ytnfbmdniomelnaa
open Go.RowKit Mem Spans
set_option linter.unusedSimpArgs false
set_option linter.unusedVariables false
set_option maxRecDepth 100000

theorem Try.infoPair : (Try.prog.info? 113).map (fun i => (i.zero, i.size, i.bytes)) = some (some (.agg #[.int .i64 0, .int .i64 0]), 2, 16) := by kernel_rfl
theorem info_pair : ∃ i, SInfo 113 i := by
  obtain ⟨i, hi, h⟩ := Option.map_eq_some_iff.1 Try.infoPair
  simp only [Prod.mk.injEq] at h
  exact ⟨i, hi, h.1, h.2.1, h.2.2⟩

/-- The number of the first pair with a place (their length: there is none). -/
def fdx : List Sp → Int → Nat
  | [], _ => 0
  | s :: r, p => if s.1 = p then 0 else fdx r p + 1
theorem fdx_le (l : List Sp) (p : Int) : fdx l p ≤ l.length := by
  induction l with
  | nil => simp [fdx]
  | cons s r ih => simp only [fdx, List.length_cons]; split <;> omega
theorem fdx_at {l : List Sp} {p : Int} (h : fdx l p < l.length) : ∃ s, l[fdx l p]? = some s ∧ s.1 = p := by
  induction l with
  | nil => simp [fdx] at h
  | cons s r ih =>
    simp only [fdx] at h ⊢
    split
    · exact ⟨s, by simp, by assumption⟩
    · rename_i hn
      rw [if_neg hn] at h
      obtain ⟨t, h1, h2⟩ := ih (by simpa using h)
      exact ⟨t, by simpa using h1, h2⟩
theorem fdx_lt {l : List Sp} {p : Int} : fdx l p < l.length ↔ p ∈ l.map (fun s => s.1) := by
  induction l with
  | nil => simp [fdx]
  | cons s r ih =>
    simp only [fdx, List.length_cons, List.map_cons, List.mem_cons]
    by_cases h : s.1 = p
    · simp [h]
    · rw [if_neg h, ← ih]
      constructor
      · intro h1; exact .inr (by omega)
      · rintro (h1 | h1)
        · exact absurd h1.symm h
        · omega
def fnv (l : List Sp) (p : Int) : Int := match l[fdx l p]? with | some s => s.2 | none => 0
def fnb (l : List Sp) (p : Int) : Bool := decide (fdx l p < l.length)


/-- Without's list. -/
def wio (l : List Sp) (z : Int) : List Sp := l.filter fun s => !decide (s.2 = z)

set_option maxHeartbeats 2000000 in
theorem without_any (v : Value) (l : List Sp) (z : Int) (w : World) (h : SSrc w v l) (hl : l.length ≤ 1000000) :
    Calls Try.prog 43 #[v, .int .i64 z] w fun e w' => ∃ u, e = .returned u ∧ SOwn 113 w.heap.size w' u (wio l z) ∧ Fr [] w w' := by
  obtain ⟨ao, cap, rfl, hcap, hmax, _, b, off, ha, hc⟩ := h
  have HC : Hid (∀ j s, l[j]? = some s → w.cell? ⟨b, off + j * 2, none⟩ = some (.int .i64 s.1) ∧ w.cell? ⟨b, off + j * 2 + 1, none⟩ = some (.int .i64 s.2)) := hc
  have HA : Hid (0 < l.length → ao = some ⟨b, off, none⟩) := ha
  obtain ⟨i0, hi⟩ := info_pair
  have HI : Hid (SInfo 113 i0) := hi
  clear hc ha hi
  go_enter Try.func43, Try.ntmps43
  go_wp2
  go_loopw [5, 10] (fun u i wr => ∃ (k : Nat), k ≤ l.length ∧ i = .int .i64 (k : Int) ∧ SOwn 113 w.heap.size wr u (wio (l.take k) z) ∧ Fr [] w wr) (fun _ i _ => l.length - (intOf i).toNat)
  case atStart => exact ⟨0, by omega, rfl, .inl ⟨by simp [wio], rfl⟩, Fr.refl _ _⟩
  case round =>
    obtain ⟨k, hk, rfl, hso, hf⟩ := hrel
    have HF : Hid (Fr [] w wr) := hf
    have HS : Hid (SOwn 113 w.heap.size wr u5 (wio (l.take k) z)) := hso
    clear hf hso
    by_cases hlt : k < l.length
    · obtain rfl := HA.out (by omega)
      obtain ⟨s, hs⟩ := at_lt hlt
      have c0 : wr.cell? ⟨b, off + k * 2, none⟩ = some (.int .i64 s.1) := HF.out.cell_some (HC.out k s hs).1 (by simp)
      have c1 : wr.cell? ⟨b, off + k * 2 + 1, none⟩ = some (.int .i64 s.2) := HF.out.cell_some (HC.out k s hs).2 (by simp)
      have HT : Hid (wio (l.take (k + 1)) z = wio (l.take k) z ++ wio [s] z) := by rw [Hid, take_at hs]; simp [wio]
      have HL : Hid ((wio (l.take k) z).length ≤ 1000000) := by
        have := List.length_filter_le (fun s : Sp => !decide (s.2 = z)) (l.take k)
        rw [List.length_take] at this
        unfold Hid wio; omega
      clear hs
      obtain ⟨o, n⟩ := s
      simp only at c0 c1
      have HF2 : Hid (Fr [] w (wr.alloc (.cells #[.int .i64 o, .int .i64 n] 113))) := HF.out.alloc _
      go_wp2_with fail
      refine (same64_any n z _).mono ?_
      rintro e w2 ⟨rfl, rfl⟩
      by_cases hn : n = z
      · have hd : decide (n = z) = true := decide_eq_true hn
        have HT2 : Hid (wio (l.take (k + 1)) z = wio (l.take k) z) := by rw [Hid, HT.out]; simp [wio, hn]
        have HS2 := HS.out.kept ((Fr.refl [] _).alloc (.cells #[.int .i64 o, .int .i64 n] 113))
        have HS3 : Hid (SOwn 113 w.heap.size (wr.alloc (.cells #[.int .i64 o, .int .i64 n] 113)) u5 (wio (l.take k) z)) := HS2
        clear HS2 hn HT
        go_wp2
        go_roundw
        case rel => exact ⟨k + 1, by omega, by go_num, by rw [HT2.out]; exact HS3.out, HF2.out⟩
        case measure => simp [intOf]; omega
      · have hd : decide (n = z) = false := decide_eq_false hn
        have HT2 : Hid (wio (l.take (k + 1)) z = wio (l.take k) z ++ [(o, n)]) := by rw [Hid, HT.out]; simp [wio, hn]
        have HSZ : Hid (w.heap.size ≤ wr.heap.size) := HF.out.size
        clear HT hn
        go_wp2_with (at_builtin; refine wpList_append_sp _ rfl _ _ 64 rfl Try.underlying64 HI.out.1 HI.out.2.1 HI.out.2.2.1 HI.out.2.2.2 (B := w.heap.size) (s := (o, n)) (by have := HSZ.out; simp; omega) rfl rfl (HS.out.kept (((Fr.refl [] _).alloc _).alloc _)) (lit_sp' 113 (wr.alloc _) [(o, n)] (World.size_alloc _ _) (by have := HSZ.out; omega) (by simp) (by unfold maxLen; simp)) HL.out ?_; intro v3 w3 ho3 hb3; have HO3 : Hid (SOwn 113 w.heap.size w3 v3 (wio (l.take k) z ++ [(o, n)])) := ho3; have HB3 : Hid (Fr [] w w3) := Fr.ofBelow ((((HF.out.alloc _).alloc _).below (Nat.le_refl _) (by simp)).trans hb3); clear ho3 hb3)
        go_roundw
        case rel => exact ⟨k + 1, by omega, by go_num, by rw [HT2.out]; exact HO3.out, HB3.out⟩
        case measure => simp [intOf]; omega
    · have HS2 : Hid (SOwn 113 w.heap.size wr u5 (wio l z)) := by
        have := HS.out
        rw [List.take_of_length_le (by omega)] at this
        exact this
      clear HS
      go_wp2
      go_ret
      exact ⟨_, rfl, HS2.out, HF.out⟩
end Go.Proofs.Ytnfbmdniomelnaa

/-
  Package pairs: Absolute, Deltas, Sum.
-/
namespace Go.Proofs.Ytnfbmdniomelnaa
open Go.RowKit Mem Spans
set_option linter.unusedSimpArgs false
set_option linter.unusedVariables false
set_option maxRecDepth 100000

/-- Is a number within 64 bits? -/
def fits (z : Int) : Bool := decide (-9223372036854775808 ≤ z) && decide (z ≤ 9223372036854775807)
theorem fits_iff {z : Int} : fits z = true ↔ in64 z := by unfold fits in64; simp
theorem fits_not {z : Int} : fits z = false ↔ ¬ in64 z := by
  rw [← fits_iff]; simp
/-- The sums from a on; the differences from a on. -/
def absl : Int → List Int → Option (List Int)
  | _, [] => some []
  | a, d :: r => if fits (a + d) then (absl (a + d) r).map (fun t => (a + d) :: t) else none
def dltl : Int → List Int → Option (List Int)
  | _, [] => some []
  | a, v :: r => if fits (v - a) then (dltl v r).map (fun t => (v - a) :: t) else none
theorem absl_in {a : Int} {l o : List Int} (h : absl a l = some o) : o.length = l.length ∧ ∀ z ∈ o, in64 z := by
  induction l generalizing a o with
  | nil => simp [absl] at h; subst h; simp
  | cons d r ih =>
    simp only [absl] at h
    split at h
    · rename_i hf
      obtain ⟨t, h1, rfl⟩ := Option.map_eq_some_iff.1 h
      have := ih h1
      refine ⟨by simp [this.1], fun z hz => ?_⟩
      rcases List.mem_cons.1 hz with rfl | hz
      · exact fits_iff.1 hf
      · exact this.2 z hz
    · cases h
theorem dltl_in {a : Int} {l o : List Int} (h : dltl a l = some o) : o.length = l.length ∧ ∀ z ∈ o, in64 z := by
  induction l generalizing a o with
  | nil => simp [dltl] at h; subst h; simp
  | cons d r ih =>
    simp only [dltl] at h
    split at h
    · rename_i hf
      obtain ⟨t, h1, rfl⟩ := Option.map_eq_some_iff.1 h
      have := ih h1
      refine ⟨by simp [this.1], fun z hz => ?_⟩
      rcases List.mem_cons.1 hz with rfl | hz
      · exact fits_iff.1 hf
      · exact this.2 z hz
    · cases h
/-- Deltas of Absolute is what it was. -/
theorem dltl_absl {a : Int} {l o : List Int} (h : absl a l = some o) (hl : ∀ z ∈ l, in64 z) : dltl a o = some l := by
  induction l generalizing a o with
  | nil => simp [absl] at h; subst h; rfl
  | cons d r ih =>
    simp only [absl] at h
    split at h
    · obtain ⟨t, h1, rfl⟩ := Option.map_eq_some_iff.1 h
      simp only [dltl]
      rw [show a + d - a = d from by omega, if_pos (fits_iff.2 (hl d (by simp))), ih h1 (fun z hz => hl z (by simp [hz]))]
      rfl
    · cases h
def abe (l : List Int) : Int := match absl 0 l with | some _ => 0 | none => 28
def abv (l : List Int) : List Int := (absl 0 l).getD []
def dle (l : List Int) : Int := match dltl 0 l with | some _ => 0 | none => 28
def dlv (l : List Int) : List Int := (dltl 0 l).getD []
theorem abv_in (l : List Int) : ∀ z ∈ abv l, in64 z := by
  unfold abv
  cases h : absl 0 l with
  | none => simp
  | some o => exact (absl_in h).2
theorem dlv_in (l : List Int) : ∀ z ∈ dlv l, in64 z := by
  unfold dlv
  cases h : dltl 0 l with
  | none => simp
  | some o => exact (dltl_in h).2

/-- The program's test: did a sum wrap round? -/
theorem sum_fit {S d : Int} (hf : fits (S + d) = true) : wrap64 (S + d) = S + d := by
  have := fits_iff.1 hf; unfold in64 at this; unfold wrap64; omega
theorem sum_over {S d : Int} (hS : in64 S) (hd : in64 d) (hf : fits (S + d) = false) : (S < wrap64 (S + d) ∧ ¬ 0 < d) ∨ (¬ S < wrap64 (S + d) ∧ 0 < d) := by
  have := fits_not.1 hf; unfold in64 at this hS hd; unfold wrap64; omega
theorem diff_fit {S d : Int} (hf : fits (d - S) = true) : wrap64 (d - S) = d - S := by
  have := fits_iff.1 hf; unfold in64 at this; unfold wrap64; omega
theorem diff_over {S d : Int} (hS : in64 S) (hd : in64 d) (hf : fits (d - S) = false) : (wrap64 (d - S) < d ∧ ¬ 0 < S) ∨ (¬ wrap64 (d - S) < d ∧ 0 < S) := by
  have := fits_not.1 hf; unfold in64 at this hS hd; unfold wrap64; omega

set_option maxHeartbeats 2000000 in
theorem absolute_any (v : Value) (l : List Int) (w : World) (h : ISrc w v l) (hl : l.length ≤ 1000000) :
    Calls Try.prog 62 #[v] w fun e w' => ∃ u, e = .returned (.tuple #[u, .int .i64 (abe l)]) ∧ NOwn 2 w.heap.size w' u (abv l) ∧ Fr [] w w' := by
  obtain ⟨ao, cap, rfl, hcap, hmax, h64, b, off, ha, hc⟩ := h
  have HC : Hid (∀ j s, l[j]? = some s → w.cell? ⟨b, off + j, none⟩ = some (.int .i64 s)) := hc
  have HA : Hid (0 < l.length → ao = some ⟨b, off, none⟩) := ha
  have H64 : Hid (∀ z ∈ l, in64 z) := h64
  obtain ⟨i0, hi⟩ := info_int64
  have HI : Hid (NInfo 2 i0) := hi
  clear hc ha h64 hi
  go_enter Try.func62, Try.ntmps62
  go_wp2
  go_loopw [4, 5, 11] (fun u s i wr => ∃ (k : Nat) (S : Int) (out : List Int), k ≤ l.length ∧ i = .int .i64 (k : Int) ∧ s = .int .i64 S ∧ in64 S ∧ out.length = k ∧ absl 0 l = (absl S (l.drop k)).map (fun t => out ++ t) ∧ NOwn 2 w.heap.size wr u out ∧ Fr [] w wr) (fun _ _ i _ => l.length - (intOf i).toNat)
  case atStart => exact ⟨0, 0, [], by omega, rfl, rfl, by unfold in64; omega, rfl, by simp, .inl ⟨rfl, rfl⟩, Fr.refl _ _⟩
  case round =>
    obtain ⟨k, S, out, hk, rfl, rfl, hS, hol, hst, hno, hf⟩ := hrel
    have HF : Hid (Fr [] w wr) := hf
    have HS : Hid (in64 S) := hS
    have HOL : Hid (out.length = k) := hol
    have HN : Hid (NOwn 2 w.heap.size wr u4 out) := hno
    have HST : Hid (absl 0 l = (absl S (l.drop k)).map (fun t => out ++ t)) := hst
    clear hf hS hol hst hno
    by_cases hlt : k < l.length
    · obtain rfl := HA.out (by omega)
      obtain ⟨d, hd⟩ := at_lt hlt
      have HD : Hid (in64 d) := H64.out d (List.mem_of_getElem? hd)
      have c0 : wr.cell? ⟨b, off + k, none⟩ = some (.int .i64 d) := HF.out.cell_some (HC.out k d hd) (by simp)
      have HST2 : Hid (absl 0 l = (absl S (d :: l.drop (k + 1))).map (fun t => out ++ t)) := by rw [Hid, ← drop_at hd]; exact HST.out
      have HSZ : Hid (w.heap.size ≤ wr.heap.size) := HF.out.size
      clear hd HST
      by_cases hfit : fits (S + d) = true
      · have HW : Hid (wrap64 (S + d) = S + d) := sum_fit hfit
        have HTI : Hid (in64 (S + d)) := fits_iff.1 hfit
        have HST3 : Hid (absl 0 l = (absl (S + d) (l.drop (k + 1))).map (fun t => (out ++ [S + d]) ++ t)) := by
          rw [Hid, HST2.out, absl, if_pos hfit, Option.map_map]
          congr 1
          funext t
          simp
        have key : (S < S + d ∧ 0 < d) ∨ (¬ S < S + d ∧ ¬ 0 < d) := by omega
        obtain ⟨T, hT⟩ : ∃ T, T = S + d := ⟨_, rfl⟩
        have hw : wrap64 (S + d) = T := by rw [HW.out, hT]
        have HT : Hid (T = S + d) := hT
        rw [← hT] at key
        clear hT hfit HST2 HW
        rcases key with ⟨t1, t2⟩ | ⟨t1, t2⟩
        · skip
          go_wp2_with (at_builtin; refine wpList_append_n _ rfl _ _ 24 rfl Try.underlying24 HI.out.1 HI.out.2.1 HI.out.2.2.1 HI.out.2.2.2 (B := w.heap.size) (s := T) (by have := HSZ.out; simp; omega) rfl rfl (HN.out.kept ((Fr.refl [] _).alloc _)) (lit_n 2 wr [T] rfl HSZ.out (by simp) (by unfold maxLen; simp)) (by have := HOL.out; omega) ?_; intro v3 w3 ho3 hb3; have HO3 : Hid (NOwn 2 w.heap.size w3 v3 (out ++ [T])) := ho3; have HB3 : Hid (Fr [] w w3) := Fr.ofBelow (((HF.out.alloc _).below (Nat.le_refl _) (by simp)).trans hb3); clear ho3 hb3)
          go_roundw
          case rel => exact ⟨k + 1, T, out ++ [T], by omega, by go_num, rfl, by rw [HT.out]; exact HTI.out, by have := HOL.out; simp; omega, by rw [HT.out]; exact HST3.out, HO3.out, HB3.out⟩
          case measure => simp [intOf]; omega
        · skip
          go_wp2_with (at_builtin; refine wpList_append_n _ rfl _ _ 24 rfl Try.underlying24 HI.out.1 HI.out.2.1 HI.out.2.2.1 HI.out.2.2.2 (B := w.heap.size) (s := T) (by have := HSZ.out; simp; omega) rfl rfl (HN.out.kept ((Fr.refl [] _).alloc _)) (lit_n 2 wr [T] rfl HSZ.out (by simp) (by unfold maxLen; simp)) (by have := HOL.out; omega) ?_; intro v3 w3 ho3 hb3; have HO3 : Hid (NOwn 2 w.heap.size w3 v3 (out ++ [T])) := ho3; have HB3 : Hid (Fr [] w w3) := Fr.ofBelow (((HF.out.alloc _).below (Nat.le_refl _) (by simp)).trans hb3); clear ho3 hb3)
          go_roundw
          case rel => exact ⟨k + 1, T, out ++ [T], by omega, by go_num, rfl, by rw [HT.out]; exact HTI.out, by have := HOL.out; simp; omega, by rw [HT.out]; exact HST3.out, HO3.out, HB3.out⟩
          case measure => simp [intOf]; omega
      · have hno : fits (S + d) = false := by simpa using hfit
        have HE : Hid (abe l = 28 ∧ abv l = []) := by
          have : absl 0 l = none := by rw [HST2.out, absl, if_neg hfit]; rfl
          unfold Hid abe abv
          rw [this]
          exact ⟨rfl, rfl⟩
        have key := sum_over HS.out HD.out hno
        obtain ⟨T, hw⟩ : ∃ T, wrap64 (S + d) = T := ⟨_, rfl⟩
        rw [hw] at key
        clear hno hfit HST2
        rcases key with ⟨t1, t2⟩ | ⟨t1, t2⟩
        · go_wp2
          go_ret2
          exact ⟨_, by rw [HE.out.1]; rfl, .inl ⟨HE.out.2, rfl⟩, HF.out⟩
        · go_wp2
          go_ret2
          exact ⟨_, by rw [HE.out.1]; rfl, .inl ⟨HE.out.2, rfl⟩, HF.out⟩
    · have HE : Hid (abe l = 0 ∧ abv l = out) := by
        have : absl 0 l = some out := by rw [HST.out, List.drop_eq_nil_of_le (by omega), absl]; simp
        unfold Hid abe abv
        rw [this]
        exact ⟨rfl, rfl⟩
      go_wp2
      go_ret2
      exact ⟨_, by rw [HE.out.1]; rfl, by rw [HE.out.2]; exact HN.out, HF.out⟩

set_option maxHeartbeats 2000000 in
theorem deltas_any (v : Value) (l : List Int) (w : World) (h : ISrc w v l) (hl : l.length ≤ 1000000) :
    Calls Try.prog 70 #[v] w fun e w' => ∃ u, e = .returned (.tuple #[u, .int .i64 (dle l)]) ∧ NOwn 2 w.heap.size w' u (dlv l) ∧ Fr [] w w' := by
  obtain ⟨ao, cap, rfl, hcap, hmax, h64, b, off, ha, hc⟩ := h
  have HC : Hid (∀ j s, l[j]? = some s → w.cell? ⟨b, off + j, none⟩ = some (.int .i64 s)) := hc
  have HA : Hid (0 < l.length → ao = some ⟨b, off, none⟩) := ha
  have H64 : Hid (∀ z ∈ l, in64 z) := h64
  obtain ⟨i0, hi⟩ := info_int64
  have HI : Hid (NInfo 2 i0) := hi
  clear hc ha h64 hi
  go_enter Try.func70, Try.ntmps70
  go_wp2
  go_loopw [4, 5, 11] (fun u s i wr => ∃ (k : Nat) (S : Int) (out : List Int), k ≤ l.length ∧ i = .int .i64 (k : Int) ∧ s = .int .i64 S ∧ in64 S ∧ out.length = k ∧ dltl 0 l = (dltl S (l.drop k)).map (fun t => out ++ t) ∧ NOwn 2 w.heap.size wr u out ∧ Fr [] w wr) (fun _ _ i _ => l.length - (intOf i).toNat)
  case atStart => exact ⟨0, 0, [], by omega, rfl, rfl, by unfold in64; omega, rfl, by simp, .inl ⟨rfl, rfl⟩, Fr.refl _ _⟩
  case round =>
    obtain ⟨k, S, out, hk, rfl, rfl, hS, hol, hst, hno, hf⟩ := hrel
    have HF : Hid (Fr [] w wr) := hf
    have HS : Hid (in64 S) := hS
    have HOL : Hid (out.length = k) := hol
    have HN : Hid (NOwn 2 w.heap.size wr u4 out) := hno
    have HST : Hid (dltl 0 l = (dltl S (l.drop k)).map (fun t => out ++ t)) := hst
    clear hf hS hol hst hno
    by_cases hlt : k < l.length
    · obtain rfl := HA.out (by omega)
      obtain ⟨d, hd⟩ := at_lt hlt
      have HD : Hid (in64 d) := H64.out d (List.mem_of_getElem? hd)
      have c0 : wr.cell? ⟨b, off + k, none⟩ = some (.int .i64 d) := HF.out.cell_some (HC.out k d hd) (by simp)
      have HST2 : Hid (dltl 0 l = (dltl S (d :: l.drop (k + 1))).map (fun t => out ++ t)) := by rw [Hid, ← drop_at hd]; exact HST.out
      have HSZ : Hid (w.heap.size ≤ wr.heap.size) := HF.out.size
      clear hd HST
      by_cases hfit : fits (d - S) = true
      · have HW : Hid (wrap64 (d - S) = d - S) := diff_fit hfit
        have HTI : Hid (in64 (d - S)) := fits_iff.1 hfit
        have HST3 : Hid (dltl 0 l = (dltl (d) (l.drop (k + 1))).map (fun t => (out ++ [d - S]) ++ t)) := by
          rw [Hid, HST2.out, dltl, if_pos hfit, Option.map_map]
          congr 1
          funext t
          simp
        have key : (d - S < d ∧ 0 < S) ∨ (¬ d - S < d ∧ ¬ 0 < S) := by omega
        obtain ⟨T, hT⟩ : ∃ T, T = d - S := ⟨_, rfl⟩
        have hw : wrap64 (d - S) = T := by rw [HW.out, hT]
        have HT : Hid (T = d - S) := hT
        rw [← hT] at key
        clear hT hfit HST2 HW
        rcases key with ⟨t1, t2⟩ | ⟨t1, t2⟩
        · skip
          go_wp2_with (at_builtin; refine wpList_append_n _ rfl _ _ 24 rfl Try.underlying24 HI.out.1 HI.out.2.1 HI.out.2.2.1 HI.out.2.2.2 (B := w.heap.size) (s := T) (by have := HSZ.out; simp; omega) rfl rfl (HN.out.kept ((Fr.refl [] _).alloc _)) (lit_n 2 wr [T] rfl HSZ.out (by simp) (by unfold maxLen; simp)) (by have := HOL.out; omega) ?_; intro v3 w3 ho3 hb3; have HO3 : Hid (NOwn 2 w.heap.size w3 v3 (out ++ [T])) := ho3; have HB3 : Hid (Fr [] w w3) := Fr.ofBelow (((HF.out.alloc _).below (Nat.le_refl _) (by simp)).trans hb3); clear ho3 hb3)
          go_roundw
          case rel => exact ⟨k + 1, d, out ++ [T], by omega, by go_num, rfl, by exact HD.out, by have := HOL.out; simp; omega, by rw [HT.out]; exact HST3.out, HO3.out, HB3.out⟩
          case measure => simp [intOf]; omega
        · skip
          go_wp2_with (at_builtin; refine wpList_append_n _ rfl _ _ 24 rfl Try.underlying24 HI.out.1 HI.out.2.1 HI.out.2.2.1 HI.out.2.2.2 (B := w.heap.size) (s := T) (by have := HSZ.out; simp; omega) rfl rfl (HN.out.kept ((Fr.refl [] _).alloc _)) (lit_n 2 wr [T] rfl HSZ.out (by simp) (by unfold maxLen; simp)) (by have := HOL.out; omega) ?_; intro v3 w3 ho3 hb3; have HO3 : Hid (NOwn 2 w.heap.size w3 v3 (out ++ [T])) := ho3; have HB3 : Hid (Fr [] w w3) := Fr.ofBelow (((HF.out.alloc _).below (Nat.le_refl _) (by simp)).trans hb3); clear ho3 hb3)
          go_roundw
          case rel => exact ⟨k + 1, d, out ++ [T], by omega, by go_num, rfl, by exact HD.out, by have := HOL.out; simp; omega, by rw [HT.out]; exact HST3.out, HO3.out, HB3.out⟩
          case measure => simp [intOf]; omega
      · have hno : fits (d - S) = false := by simpa using hfit
        have HE : Hid (dle l = 28 ∧ dlv l = []) := by
          have : dltl 0 l = none := by rw [HST2.out, dltl, if_neg hfit]; rfl
          unfold Hid dle dlv
          rw [this]
          exact ⟨rfl, rfl⟩
        have key := diff_over HS.out HD.out hno
        obtain ⟨T, hw⟩ : ∃ T, wrap64 (d - S) = T := ⟨_, rfl⟩
        rw [hw] at key
        clear hno hfit HST2
        rcases key with ⟨t1, t2⟩ | ⟨t1, t2⟩
        · go_wp2
          go_ret2
          exact ⟨_, by rw [HE.out.1]; rfl, .inl ⟨HE.out.2, rfl⟩, HF.out⟩
        · go_wp2
          go_ret2
          exact ⟨_, by rw [HE.out.1]; rfl, .inl ⟨HE.out.2, rfl⟩, HF.out⟩
    · have HE : Hid (dle l = 0 ∧ dlv l = out) := by
        have : dltl 0 l = some out := by rw [HST.out, List.drop_eq_nil_of_le (by omega), dltl]; simp
        unfold Hid dle dlv
        rw [this]
        exact ⟨rfl, rfl⟩
      go_wp2
      go_ret2
      exact ⟨_, by rw [HE.out.1]; rfl, by rw [HE.out.2]; exact HN.out, HF.out⟩

end Go.Proofs.Ytnfbmdniomelnaa

/-
  Package pairs: Unzip.
-/
namespace Go.Proofs.Ytnfbmdniomelnaa
open Go.RowKit Mem Spans
set_option linter.unusedSimpArgs false
set_option linter.unusedVariables false
set_option maxRecDepth 100000

def fsts (l : List Sp) : List Int := l.map fun s => s.1
def snds (l : List Sp) : List Int := l.map fun s => s.2
/-- Unzip's values. -/
def uzv (l : List Sp) : List Int := if frm (fsts l) = 0 then snds l else []
theorem fsts_length (l : List Sp) : (fsts l).length = l.length := by simp [fsts]
theorem snds_length (l : List Sp) : (snds l).length = l.length := by simp [snds]

/-- A row of numbers that lies in block g, or none at all. -/
def NAt (e : TypeId) (w : World) (v : Value) (g : Nat) (zs : List Int) : Prop :=
  (zs = [] ∧ v = .slice none 0 0) ∨ (0 < zs.length ∧ Row w e 1 v g zs.length (inCells zs))
theorem NAt.kept {e : TypeId} {w w' : World} {v : Value} {g : Nat} {zs : List Int} {S : List Nat} (h : NAt e w v g zs) (f : Fr S w w') (hn : zs ≠ [] → g ∉ S) : NAt e w' v g zs := by
  rcases h with h | ⟨h1, h2⟩
  · exact .inl h
  · exact .inr ⟨h1, h2.kept f (hn (by intro h; rw [h] at h1; simp at h1))⟩
theorem NAt.lt {e : TypeId} {w : World} {v : Value} {g : Nat} {zs : List Int} (h : NAt e w v g zs) (hn : zs ≠ []) : g < w.heap.size := by
  rcases h with ⟨h, _⟩ | ⟨h1, h2⟩
  · exact absurd h hn
  · exact h2.lt
theorem NAt.own {e : TypeId} {B : Nat} {w : World} {v : Value} {g : Nat} {zs : List Int} (h : NAt e w v g zs) (hB : zs ≠ [] → B ≤ g) : NOwn e B w v zs := by
  rcases h with h | ⟨h1, h2⟩
  · exact .inl h
  · exact .inr ⟨g, hB (by intro h; rw [h] at h1; simp at h1), h1, h2⟩
/-- The blocks that an append to such a row may turn. -/
def tch (zs : List Int) (g : Nat) : List Nat := match zs with | [] => [] | _ :: _ => [g]
theorem tch_nil {zs : List Int} {g : Nat} (h : zs = []) : tch zs g = [] := by rw [h]; rfl
theorem tch_mem {zs : List Int} {g x : Nat} (h : x ∈ tch zs g) : zs ≠ [] ∧ x = g := by
  cases zs with
  | nil => simp [tch] at h
  | cons a r => exact ⟨by simp, by simpa [tch] using h⟩

section
variable (w : World)
theorem wpList_append_at {ops : Array Oper} {rest : List Oper} {o : Oper} {a : Act} {Q : Exit → Act → World → Prop} (hgd : o.guard = none) (sx x : Operand) (t : TypeId)
    (ho : o.op = .call { callee := .builtin .append, args := #[sx, x], argTypes := #[t, t] })
    {e : TypeId} {i0 : TypeInfo} (ht : Try.prog.underlying t = some (.slice e)) (hi : NInfo e i0)
    {v : Value} {g gn : Nat} {l : List Int} {s : Int} (hs : a.eval sx = v) (hx : a.eval x = .slice (some ⟨gn, 0, none⟩) 1 1) (hn : w.cell? ⟨gn, 0, none⟩ = some (.int .i64 s)) (h1 : NAt e w v g l) (hl : l.length ≤ 1000000)
    (h : ∀ v' g' w', NAt e w' v' g' (l ++ [s]) → Hid ((l ≠ [] ∧ g' = g) ∨ g' = w.heap.size) → Hid (Fr (tch l g) w w') → wpList Try.prog ops Q rest (a.put o.dst v') w') : wpList Try.prog ops Q (o :: rest) a w := by
  have hnew : ∀ (j : Nat) (u : Value), (inCells [s])[j]? = some u → w.cell? ((⟨gn, 0, none⟩ : Addr).add j) = some u := by
    intro j u hj
    have hj0 : j = 0 := by have := (List.getElem?_eq_some_iff.1 hj).1; simp [inCells] at this; omega
    subst hj0
    have e : (⟨gn, 0, none⟩ : Addr).add 0 = ⟨gn, 0, none⟩ := by unfold Addr.add; split <;> simp_all
    rw [e, hn]
    simpa [inCells] using hj
  have hc : inCells (l ++ [s]) = inCells l ++ inCells [s] := by simp [inCells]
  rcases h1 with ⟨rfl, rfl⟩ | ⟨h0, hrow⟩
  · refine wpList_append_new w hgd sx x t ho e i0 _ 1 8 ht hi.1 hi.2.1 hi.2.2.1 hi.2.2.2 rfl hs ⟨gn, 0, none⟩ 1 1 (inCells [s]) hx rfl hnew (by omega) (by unfold maxLen; omega) (by omega) ?_
    intro v' w' hr hf
    exact h v' _ w' (.inr ⟨by simp, hr⟩) (.inr rfl) hf
  · refine wpList_append_row w hgd sx x t ho e i0 _ 1 8 ht hi.1 hi.2.1 hi.2.2.1 hi.2.2.2 rfl v g l.length (inCells l) hs hrow ⟨gn, 0, none⟩ 1 1 (inCells [s]) hx rfl hnew (by simp [inCells, Value.oneCell']) (by unfold maxLen; omega) (by omega) ?_
    intro v' g' w' hr hg hf
    have hne : l ≠ [] := by intro h; rw [h] at h0; simp at h0
    refine h v' g' w' (.inr ⟨by simp, ?_⟩) ?_ ?_
    · rw [hc, List.length_append]; exact hr
    · rcases hg.out with h2 | h2
      · exact .inl ⟨hne, h2⟩
      · exact .inr h2
    · cases l with
      | nil => exact absurd rfl hne
      | cons y r => exact hf
end

set_option maxHeartbeats 2000000 in
theorem unzip_any (v : Value) (l : List Sp) (w : World) (h : SSrc w v l) (hl : l.length ≤ 1000000) :
    Calls Try.prog 69 #[v] w fun e w' => ∃ u x, e = .returned (.tuple #[u, x, .int .i64 (frm (fsts l))]) ∧ SOwn 63 w.heap.size w' u (frl (fsts l)) ∧ NOwn 2 w.heap.size w' x (uzv l) ∧ Fr [] w w' := by
  obtain ⟨ao, cap, rfl, hcap, hmax, h64, b, off, ha, hc⟩ := h
  have HC : Hid (∀ j s, l[j]? = some s → w.cell? ⟨b, off + j * 2, none⟩ = some (.int .i64 s.1) ∧ w.cell? ⟨b, off + j * 2 + 1, none⟩ = some (.int .i64 s.2)) := hc
  have HA : Hid (0 < l.length → ao = some ⟨b, off, none⟩) := ha
  have H64 : Hid (∀ s ∈ l, in64 s.1 ∧ in64 s.2) := h64
  obtain ⟨i0, hi⟩ := info_int64
  have HI : Hid (NInfo 2 i0) := hi
  obtain ⟨i1, hi1⟩ := ninfo_int
  have HI1 : Hid (NInfo 3 i1) := hi1
  clear hc ha h64 hi hi1
  go_enter Try.func69, Try.ntmps69
  go_wp2
  go_loopw [5, 6, 13] (fun p q i wr => ∃ (k g1 g2 : Nat), k ≤ l.length ∧ i = .int .i64 (k : Int) ∧ NAt 3 wr p g1 (fsts (l.take k)) ∧ NAt 2 wr q g2 (snds (l.take k)) ∧ (0 < k → g1 ≠ g2 ∧ w.heap.size ≤ g1 ∧ w.heap.size ≤ g2) ∧ Fr [] w wr) (fun _ _ i _ => l.length - (intOf i).toNat)
  case atStart => exact ⟨0, 0, 0, by omega, rfl, .inl ⟨by simp [fsts], rfl⟩, .inl ⟨by simp [snds], rfl⟩, by omega, Fr.refl _ _⟩
  case round =>
    obtain ⟨k, g1, g2, hk, rfl, hp, hq, hg, hf⟩ := hrel
    have HF : Hid (Fr [] w wr) := hf
    have HP : Hid (NAt 3 wr u5 g1 (fsts (l.take k))) := hp
    have HQ : Hid (NAt 2 wr u6 g2 (snds (l.take k))) := hq
    have HG : Hid (0 < k → g1 ≠ g2 ∧ w.heap.size ≤ g1 ∧ w.heap.size ≤ g2) := hg
    clear hf hp hq hg
    by_cases hlt : k < l.length
    · obtain rfl := HA.out (by omega)
      obtain ⟨s, hs⟩ := at_lt hlt
      have c0 : wr.cell? ⟨b, off + k * 2, none⟩ = some (.int .i64 s.1) := HF.out.cell_some (HC.out k s hs).1 (by simp)
      have c1 : wr.cell? ⟨b, off + k * 2 + 1, none⟩ = some (.int .i64 s.2) := HF.out.cell_some (HC.out k s hs).2 (by simp)
      have HTP : Hid (fsts (l.take (k + 1)) = fsts (l.take k) ++ [s.1]) := by rw [Hid, take_at hs]; simp [fsts]
      have HTQ : Hid (snds (l.take (k + 1)) = snds (l.take k) ++ [s.2]) := by rw [Hid, take_at hs]; simp [snds]
      have HLP : Hid ((fsts (l.take k)).length = k ∧ (snds (l.take k)).length = k) := by
        rw [Hid, fsts_length, snds_length, List.length_take]; omega
      clear hs
      obtain ⟨o, n⟩ := s
      simp only at c0 c1
      have HNE : Hid ((fsts (l.take k) ≠ [] → 0 < k) ∧ (snds (l.take k) ≠ [] → 0 < k)) := by
        refine ⟨fun h => ?_, fun h => ?_⟩
        · have := List.length_pos_iff.2 h; have := HLP.out; omega
        · have := List.length_pos_iff.2 h; have := HLP.out; omega
      have HLT1 : Hid (fsts (l.take k) ≠ [] → g1 < wr.heap.size) := fun h => HP.out.lt h
      have HLT2 : Hid (0 < k → g2 < wr.heap.size) := fun h => HQ.out.lt (fun h2 => by have h3 := HLP.out.2; rw [h2] at h3; simp at h3; omega)
      have HSZ : Hid (w.heap.size ≤ wr.heap.size) := HF.out.size
      generalize hPP : fsts (l.take k) = PP at *
      generalize hQQ : snds (l.take k) = QQ at *
      have HD1 : Hid ((wr.alloc (.cells #[.int .i64 o, .int .i64 n] 113)).cell? ⟨wr.heap.size, 1, none⟩ = some (.int .i64 n)) := by rw [Hid, World.cell?_alloc_at _ _ _ _ rfl]; rfl
      have HXX : Hid (∀ (ww : World) (x : Int) (t : TypeId) (gg : Nat), ww.heap.size = gg → (ww.alloc (.cells #[.int .i64 x] t)).cell? ⟨gg, 0, none⟩ = some (.int .i64 x)) := by
        intro ww x t gg h
        subst h
        rw [World.cell?_alloc_at _ _ _ _ rfl]; rfl
      go_wp2_with (at_builtin; first
        | (refine wpList_append_at _ rfl _ _ 71 rfl Try.underlying71 HI1.out (g := g1) (gn := wr.heap.size + 1) (l := PP) (s := o) rfl rfl (HXX.out _ _ _ _ (World.size_alloc _ _)) (HP.out.kept (((Fr.refl [] _).alloc _).alloc _) (by simp)) (by have := HLP.out; omega) ?_
           intro v3 g3 w3 ho3 hg3 hf3
           have HO3 : Hid (NAt 3 w3 v3 g3 (PP ++ [o])) := ho3
           have HA3 : Hid (Fr [] wr ((wr.alloc (.cells #[.int .i64 o, .int .i64 n] 113)).alloc (.cells #[.int .i64 o] 3))) := ((Fr.refl [] _).alloc _).alloc _
           have HG3 : Hid (((PP ≠ [] ∧ g3 = g1) ∨ g3 = wr.heap.size + 2) ∧ w3.heap.size ≥ wr.heap.size + 2) := ⟨by have := hg3.out; simpa using this, by have := hf3.out.size; simpa using this⟩
           have c5 : w3.cell? ⟨wr.heap.size, 1, none⟩ = some (.int .i64 n) := hf3.out.cell_some ((((Fr.refl [] _).alloc _).cell_some HD1.out (by simp))) (fun h => by have h1 := tch_mem h; have h2 := HLT1.out h1.1; simp at h1; omega)
           have HQ3 : Hid (NAt 2 w3 u6 g2 QQ) := (HQ.out.kept HA3.out (by simp)).kept hf3.out (fun h hm => by have h1 := tch_mem hm; exact (HG.out (HNE.out.2 h)).1 h1.2.symm)
           have HF3 : Hid (Fr [] w w3) := (HF.out.trans HA3.out (by simp)).trans hf3.out (fun x hx => .inr (by have h1 := tch_mem hx; rw [h1.2]; exact (HG.out (HNE.out.1 h1.1)).2.1))
           clear ho3 hg3 hf3)
        | (refine wpList_append_at _ rfl _ _ 24 rfl Try.underlying24 HI.out (g := g2) (gn := w3.heap.size) (l := QQ) (s := n) rfl rfl (HXX.out _ _ _ _ rfl) (HQ3.out.kept ((Fr.refl [] _).alloc _) (by simp)) (by have := HLP.out; omega) ?_
           intro v4 g4 w4 ho4 hg4 hf4))
      have HO4 : Hid (NAt 2 w4 v4 g4 (QQ ++ [n])) := ho4
      have HG4 : Hid ((QQ ≠ [] ∧ g4 = g2) ∨ g4 = w3.heap.size + 1) := by
        have := hg4.out
        rw [World.size_alloc] at this
        exact this
      have HO5 : Hid (NAt 3 w4 v3 g3 (PP ++ [o])) := (HO3.out.kept ((Fr.refl [] _).alloc _) (by simp)).kept hf4.out (fun _ hm => by
        have h1 := tch_mem hm
        have h2 := HNE.out.2 h1.1
        have h3 := HG.out h2
        have h4 := HLT2.out h2
        rcases HG3.out.1 with h5 | h5 <;> omega)
      have HF4 : Hid (Fr [] w w4) := (HF3.out.alloc _).trans hf4.out (fun x hx => .inr (by have h1 := tch_mem hx; rw [h1.2]; exact (HG.out (HNE.out.2 h1.1)).2.2))
      clear ho4 hg4 hf4
      go_roundw
      case rel =>
        refine ⟨k + 1, g3, g4, by omega, by go_num, by rw [HTP.out]; exact HO5.out, by rw [HTQ.out]; exact HO4.out, fun _ => ?_, HF4.out⟩
        have hs3 := HG3.out.2
        have hsz := HSZ.out
        have hlt3 : g3 < w3.heap.size := HO3.out.lt (by simp)
        refine ⟨?_, ?_, ?_⟩
        · rcases HG4.out with ⟨h1, h2⟩ | h2
          · have h3 := HNE.out.2 h1
            have h4 := HLT2.out h3
            have h5 := (HG.out h3).1
            rcases HG3.out.1 with h6 | h6 <;> omega
          · omega
        · rcases HG3.out.1 with h6 | h6
          · rw [h6.2]; exact (HG.out (HNE.out.1 h6.1)).2.1
          · omega
        · rcases HG4.out with ⟨h1, h2⟩ | h2
          · rw [h2]; exact (HG.out (HNE.out.2 h1)).2.2
          · omega
      case measure => simp [intOf]; omega
    · have hkl : k = l.length := by omega
      have HNE : Hid ((fsts l ≠ [] → 0 < k) ∧ (snds l ≠ [] → 0 < k)) := by
        refine ⟨fun h => ?_, fun h => ?_⟩
        · have := List.length_pos_iff.2 h; rw [fsts_length] at this; omega
        · have := List.length_pos_iff.2 h; rw [snds_length] at this; omega
      have HP2 : Hid (NOwn 3 w.heap.size wr u5 (fsts l)) := by
        have := HP.out
        rw [List.take_of_length_le (by omega)] at this
        exact this.own (fun h => (HG.out (HNE.out.1 h)).2.1)
      have HQ2 : Hid (NOwn 2 w.heap.size wr u6 (snds l)) := by
        have := HQ.out
        rw [List.take_of_length_le (by omega)] at this
        exact this.own (fun h => (HG.out (HNE.out.2 h)).2.2)
      clear HP HQ
      go_wp2_with fail
      refine (from_any _ (fsts l) wr (HP2.out.src (fun z hz => by obtain ⟨s, hs, rfl⟩ := List.mem_map.1 hz; exact (H64.out s hs).1))).mono ?_
      rintro e w2 ⟨u, rfl, hu, hf2⟩
      have HU : Hid (SOwn 63 w.heap.size w2 u (frl (fsts l))) := hu.mono HF.out.size
      have HQ3 : Hid (NOwn 2 w.heap.size w2 u6 (snds l)) := HQ2.out.kept hf2
      have HF2 : Hid (Fr [] w w2) := HF.out.trans hf2 (by simp)
      clear hu hf2 HQ2 HP2
      by_cases h0 : frm (fsts l) = 0
      · have HV : Hid (uzv l = snds l ∧ frm (fsts l) = 0) := by unfold Hid uzv; rw [if_pos h0]; exact ⟨rfl, h0⟩
        rw [h0]
        go_wp2
        go_ret3
        exact ⟨_, _, by rw [HV.out.2]; rfl, HU.out, by rw [HV.out.1]; exact HQ3.out, HF2.out⟩
      · have HV : Hid (uzv l = [] ∧ frl (fsts l) = []) := by unfold Hid uzv frl; rw [if_neg h0, if_neg h0]; exact ⟨rfl, rfl⟩
        go_wp2
        go_ret3
        exact ⟨_, _, rfl, .inl ⟨HV.out.2, rfl⟩, .inl ⟨HV.out.1, rfl⟩, HF2.out⟩
end Go.Proofs.Ytnfbmdniomelnaa

/-
  A region that draws its order, within a round of a range over a function: it is walked as outside of the round.
-/
namespace Go.Proofs.Ytnfbmdniomelnaa
open Go.RowKit Go.Shelf Mem Spans
set_option linter.unusedSimpArgs false
set_option linter.unusedVariables false
set_option maxRecDepth 100000

section
variable {n : Nat} {P : Program} {ops : Array Oper} {Q : Exit → Act → World → Prop} {md : Region.Mode}
theorem uponIn_round (l : Nat) (o : Oper) (a : Act) (K : Act → World → Prop) (r : Result Next) (h : o.uponIn Fence.wide n P a K Q r) : o.uponIn (Fence.wide.inRound l) n P a K Q r := h
theorem wpOpIn_round (l : Nat) {i : Nat} {K : Act → World → Prop} {a : Act} {w : World} (hnd : ∀ o, ops[i]? = some o → ∀ c, o.op ≠ .defer c) (h : wpOpIn Fence.wide n P ops Q i K a w) : wpOpIn (Fence.wide.inRound l) n P ops Q i K a w := by
  unfold wpOpIn at *
  cases ho : ops[i]? with
  | none => simpa [ho] using h
  | some o =>
    simp only [ho] at h ⊢
    split
    · rename_i hw
      simp only [hw, if_true] at h
      refine ⟨fun f hf => h.1 f hf, ?_⟩
      have h2 := h.2
      rw [Oper.semAt_eq _ _ _ (hnd o ho)] at h2 ⊢
      exact uponIn_round l o a K _ h2
    · rename_i hw
      simp only [hw] at h
      exact h
theorem wpAnyIn_round (l : Nat) (hnd : ∀ (i : Nat) (o : Oper), ops[i]? = some o → ∀ c, o.op ≠ .defer c) : ∀ (fuel : Nat) (listed : Array Bool) (a : Act) (w : World), wpAnyIn Fence.wide n P md ops Q fuel listed a w → wpAnyIn (Fence.wide.inRound l) n P md ops Q fuel listed a w := by
  intro fuel
  induction fuel with
  | zero => intro listed a w h; exact h
  | succ fuel ih =>
    intro listed a w h
    exact ⟨h.1, fun i hi => wpOpIn_mono (fun a' w' h' => ih _ a' w' h') (wpOpIn_round l (hnd i) (h.2 i hi))⟩
/-- Is no operation a defer statement? -/
def noDefer (ops : Array Oper) : Bool := ops.toList.all fun o => match o.op with | .defer _ => false | _ => true
theorem noDefer_spec (h : noDefer ops = true) : ∀ (i : Nat) (o : Oper), ops[i]? = some o → ∀ c, o.op ≠ .defer c := by
  intro i o ho c hc
  unfold noDefer at h
  rw [List.all_eq_true] at h
  have h1 : ops.toList[i]? = some o := by simpa using ho
  have := h o (List.mem_of_getElem? h1)
  rw [hc] at this
  simp at this
theorem region_round {id l : Nat} {a : Act} {w : World} (hm : P.follows .mixedOrders = true) (hnd : noDefer ops = true)
    (h : wpAnyIn Fence.wide n P .any ops Q ops.size (Array.replicate ops.size false) a w.drew) : (Code.region id ops true).wpIn (Fence.wide.inRound l) n P Q a w :=
  wpIn_region_any hm (wpAnyIn_round l (noDefer_spec hnd) _ _ _ _ h)
end
section
variable {n : Nat} {ops : Array Oper} {o : Oper} {a : Act} {w : World} {K : Act → World → Prop} {Q : Exit → Act → World → Prop} {E : Prop}
/-- append of a pair to a row of the call's own, as one step of such a region. -/
theorem stepIn_append_sp (hgd : o.guard = none) (sx x : Operand) (t : TypeId)
    (ho : o.op = .call { callee := .builtin .append, args := #[sx, x], argTypes := #[t, t] })
    {e : TypeId} {i0 : TypeInfo} (ht : Try.prog.underlying t = some (.slice e)) (hi : Try.prog.info? e = some i0) (hz : i0.zero = some (.agg #[.int .i64 0, .int .i64 0])) (hsz : i0.size = 2) (hb : i0.bytes = 16)
    {B : Nat} {v u : Value} {l : List Sp} {s : Sp} (hs : a.eval sx = v) (hx : a.eval x = u) (hB : B ≤ w.heap.size) (h1 : w.ownsRow B e 2 v l.length (spCells l)) (h2 : SOwn e B w u [s]) (hl : l.length ≤ 1000000)
    (h : ∀ v' w', w'.ownsRow B e 2 v' (l.length + 1) (spCells (l ++ [s])) → w.grownBy w' v.ownBlock → K (a.put o.dst v') w') :
    if Region.wanted o (yielded ops a.tmps) = true then Oper.wpIn Fence.wide n Try.prog o a w K Q else E := by
  have hw : Region.wanted o (yielded ops a.tmps) = true := by simp [Region.wanted, hgd]
  rw [if_pos hw]
  refine ⟨fun _ _ => trivial, ?_⟩
  rw [show o.semAt Fence.wide.round a.eval = execOp a.eval o from rfl]
  rcases h2 with ⟨h0, _⟩ | ⟨g, hg, hy, hrow⟩
  · simp at h0
  · have hr := hrow
    obtain ⟨c, rfl⟩ := hrow.val
    obtain ⟨v', w', e1, e2, e3, e4⟩ := run_append_own w B t o.type e i0 _ 2 16 ht hi hz hsz hb rfl (by decide) v l.length (spCells l) h1 ⟨g, 0, none⟩ 1 c (spCells [s]) rfl
      (fun j x hj => by
        have hjl : j < (spCells [s]).length := (List.getElem?_eq_some_iff.1 hj).1
        rw [spCells_length] at hjl
        have e : (⟨g, 0, none⟩ : Addr).add j = ⟨g, j, none⟩ := by unfold Addr.add; split <;> simp_all
        rw [e, hr.cell j (by simpa using hjl), hj])
      (fun x hx => by
        simp [spCells] at hx
        rcases hx with rfl | rfl <;> rfl) (by unfold maxLen; omega) (by omega) hB
    unfold execOp
    simp only [ho, resolve, invoke, builtin, Sem.run_bind, Sem.run_pure, Result.andThen_ok, List.map_toArray, List.map_cons, List.map_nil, hs, hx, List.length_singleton, e1]
    rw [← spCells_append] at e2
    exact h v' w' e2 e3
end
end Go.Proofs.Ytnfbmdniomelnaa

/-
  Package pairs: Zip.
-/
namespace Go.Proofs.Ytnfbmdniomelnaa
open Go.RowKit Go.Shelf Mem Spans
set_option linter.unusedSimpArgs false
set_option linter.unusedVariables false
set_option maxRecDepth 100000
attribute [local go_sem] Oper.semAt_some

/-- What came, with its values. -/
def zpp (vs : List Int) (pre : List (Int × Int)) : List Sp := pre.map fun x => (x.2, vs.getD x.1.toNat 0)
theorem zpp_snoc (vs : List Int) (pre : List (Int × Int)) (x : Int × Int) : zpp vs (pre ++ [x]) = zpp vs pre ++ [(x.2, vs.getD x.1.toNat 0)] := by simp [zpp]
theorem zpp_length (vs : List Int) (pre : List (Int × Int)) : (zpp vs pre).length = pre.length := by simp [zpp]
theorem zpp_prs (vs ps : List Int) (h : ps.length = vs.length) : zpp vs (prs 0 ps) = ps.zip vs := by
  apply List.ext_getElem?
  intro k
  rw [zpp, List.getElem?_map, prs_at, Nat.zero_add]
  by_cases hk : k < ps.length
  · have hk2 : k < vs.length := by omega
    rw [List.getElem?_eq_getElem hk, (List.getElem?_zip_eq_some (z := (ps[k], vs[k]))).2 ⟨List.getElem?_eq_getElem hk, List.getElem?_eq_getElem hk2⟩]
    simp [List.getD_eq_getElem?_getD, List.getElem?_eq_getElem hk2]
  · rw [List.getElem?_eq_none (by omega)]
    rw [List.getElem?_eq_none (by simp; omega)]
    rfl
/-- Zip's answers. -/
def zpe (l : List Sp) (vs : List Int) : Int := if chk l = 0 then (if vs.length = (pls l).length then 0 else 10) else chk l
def zpl (l : List Sp) (vs : List Int) : List Sp := if zpe l vs = 0 then (pls l).zip vs else []
theorem ctn_pls (l : List Sp) (h : chk l = 0) : ctn l = ((pls l).length : Int) := by
  unfold ctn pls
  rw [if_pos h, if_pos h]
  have := ok_cnt (chk_zero.1 h).2
  omega
theorem boxed_own {β : Type} (B : Nat) (t : TypeId) (v : Value) : Own (fun (_ : β) W => Boxed W B t v) := by
  intro s W W' row hs hg hr
  refine hs.kept hg (fun e => ?_)
  obtain ⟨o, ho, hc⟩ := hr B e.symm
  rw [show W.heap[B]? = _ from hs] at ho
  cases ho
  simp [Obj.isCells] at hc
def raw {N : Nat} (pre : List (NPair N)) : List (Int × Int) := pre.map fun x => x.1
theorem raw_snoc {N : Nat} (pre : List (NPair N)) (x : NPair N) : raw (pre ++ [x]) = raw pre ++ [x.1] := List.map_append
theorem ISrc.below {n0 : Nat} {w w' : World} {v : Value} {zs : List Int} (h : ISrc w v zs) (hb : Below n0 w w') (hn : w.heap.size ≤ n0) : ISrc w' v zs := by
  obtain ⟨ao, cap, h1, h2, h3, h4, b, off, h5, h6⟩ := h
  refine ⟨ao, cap, h1, h2, h3, h4, b, off, h5, fun j x hj => ?_⟩
  have c0 := h6 j x hj
  have b0 : b < n0 := by have := World.block_lt_of_cell? w _ c0; simp at this; omega
  exact (hb.cell (p := ⟨b, off + j, none⟩) b0).trans c0

set_option maxHeartbeats 4000000 in
theorem zip_any (v u : Value) (l : List Sp) (vs : List Int) (w : World) (h : SSrc w v l) (h2 : ISrc w u vs) :
    Calls Try.prog 67 #[v, u] w fun e w' => ∃ x, e = .returned (.tuple #[x, .int .i64 (zpe l vs)]) ∧ SOwn 113 w.heap.size w' x (zpl l vs) ∧ Fr [] w w' := by
  have HSR : Hid (SSrc w v l) := h
  have HIR : Hid (ISrc w u vs) := h2
  obtain ⟨ao, cap, rfl, hcap, hmax, _⟩ := h
  obtain ⟨bo, bcap, rfl, hbcap, hbmax, _⟩ := h2
  obtain ⟨i0, hi⟩ := info_pair
  have HI : Hid (SInfo 113 i0) := hi
  clear hi
  have HPL : Hid ((tot l).length ≤ 4096) := by rw [Hid, tot, prs_length]; exact pls_le l
  refine (callsIn_wide (n := 3)).1 ?_
  refine callsIn_of_wp_marks Try.func67 rfl trivial ?_ rfl
  simp only [Try.ntmps67, List.size_toArray, List.length_cons, List.length_nil, Nat.reduceAdd, Nat.reduceSub, Array.replicate_succ, Array.replicate_zero, List.push_toArray, List.append_toArray, List.nil_append, List.cons_append]
  have bV := Boxed.new w 24 (.slice bo vs.length bcap)
  have F0 : Fr [] w (w.alloc (.cells #[.slice bo vs.length bcap] 24)) := (Fr.refl _ _).alloc _
  gi_wp2_with fail
  refine ⟨trivial, (callsIn_wide.2 (check_any _ l _ (HSR.out.kept F0))).mono ?_⟩
  rintro e w1 ⟨rfl, hf1⟩
  have HF1 : Hid (Fr [] w w1) := F0.trans hf1 (by simp)
  have HBV : Hid (Boxed w1 w.heap.size 24 (.slice bo vs.length bcap)) := bV.kept (Fr.grownBy hf1) (by simp)
  clear hf1 F0 bV
  by_cases hk0 : chk l = 0
  · have HSR1 : Hid (∀ wx : World, Fr [] w wx → SSrc wx (.slice ao l.length cap) l) := fun wx hf => HSR.out.kept hf
    have hcb := HBV.out.cell
    by_cases hle : vs.length = (pls l).length
    · have HCT : Hid (∀ wx, Fr [] w wx → Calls Try.prog 66 #[.slice ao l.length cap] wx fun e w' => e = .returned (.int .i64 (vs.length : Int)) ∧ Fr [] wx w') := by
        intro wx hf
        rw [hle, ← ctn_pls l hk0]
        exact count_any _ l wx (HSR1.out wx hf)
      have HT : Hid (zpe l vs = 0 ∧ zpl l vs = zpp vs (tot l)) := by
        have e : zpe l vs = 0 := by unfold zpe; rw [if_pos hk0, if_pos hle]
        unfold Hid zpl
        rw [if_pos e, tot, zpp_prs vs _ hle.symm]
        exact ⟨e, rfl⟩
      have HLN : Hid ((tot l).length = vs.length) := by rw [Hid, tot, prs_length, hle]
      clear hle
      gi_wp2_with fail
      refine wpIn_wide.2 ?_
      go_region_held3 (fun w' => w'.cell? ⟨w.heap.size, 0, none⟩ = some (.slice bo vs.length bcap)) (go_keep) (first | (go_at_call 66; refine (HCT.out _ (HF1.out.drew)).mono ?_; rintro e w2 ⟨rfl, hf2⟩; have k0 := hf2.cell_some (p := ⟨w.heap.size, 0, none⟩) (v := .slice bo vs.length bcap) hcb (by simp)))
      have HF2 : Hid (Fr [] w w2) := HF1.out.drew.trans hf2 (by simp)
      have HBV2 : Hid (Boxed w2 w.heap.size 24 (.slice bo vs.length bcap)) := Boxed.kept (W := w1.drew) HBV.out (Fr.grownBy hf2) (by simp)
      clear hf2 k0 hcb HBV HF1
      gi_wp2_with fail
      refine ⟨trivial, (all_in _ _ _ _ _).mono ?_⟩
      rintro e w3 ⟨rfl, rfl⟩
      gi_wp2_with fail
      have bO := Boxed.new w2 64 (.slice none 0 0)
      have bN := Boxed.new (w2.alloc (.cells #[.slice none 0 0] 64)) 23 (.slice ao l.length cap)
      rw [World.size_alloc] at bN
      have hz1' := HF2.out.size
      have hvb := HBV2.out.lt
      have hB0 : Below w.heap.size w ((w2.alloc (.cells #[.slice none 0 0] 64)).alloc (.cells #[.slice ao l.length cap] 23)) := ((HF2.out.below (Nat.le_refl _) (by simp)).alloc (by omega) _).alloc (by simp; omega) _
      refine wpIn_rangeFunc_ownG rfl (by decide) (gf := 79) (lb := #[.pointer (some ⟨w2.heap.size + 1, 0, none⟩)]) rfl trivial (enters_of Try.func79 (by kernel_rfl) rfl)
        (all_stopsB (3 - 1) (by decide) (w2.heap.size + 1) _ l w _ HSR.out hB0 (by simp) bN.cell) belowK_t (belowK_b (by simp; omega)) (Below.refl _ _) (fun _ => rfl)
        (fun pre W => ((∃ v, Boxed W w2.heap.size 64 v ∧ W.ownsRow w.heap.size 113 2 v (zpp vs (raw pre)).length (spCells (zpp vs (raw pre))) ∧ (v = .slice none 0 0 ↔ zpp vs (raw pre) = [])) ∧ Below w.heap.size w W) ∧ Boxed W w.heap.size 24 (.slice bo vs.length bcap))
        (fun _ _ _ => False)
        (OwnFrom.and (OwnFrom.and (Own.from (holdsRow_own w.heap.size w2.heap.size 64 113 2 (fun pre => (zpp vs (raw pre)).length) (fun pre => spCells (zpp vs (raw pre))) (fun pre v => v = .slice none 0 0 ↔ zpp vs (raw pre) = [])) _) (ownFrom_below (Nat.le_refl _) (by simp; omega))) (Own.from (boxed_own _ _ _) _))
        (fun _ _ _ _ _ hs _ _ => hs)
        ⟨⟨⟨_, bO.alloc _, World.ownsRow_nil _ _ _ _, by simp [zpp, raw]⟩, hB0⟩, (HBV2.out.alloc _).alloc _⟩
        (fun x => { tmps := #[.slice ao l.length cap, .slice bo vs.length bcap, undef, .pointer (some ⟨w.heap.size, 0, none⟩), .slice none 0 0, .int .i64 0, .int .i64 0, .pointer (some ⟨w2.heap.size, 0, none⟩), .int .i64 x.1.1, .int .i64 x.1.2, .slice ao l.length cap, .int .i64 0, .int .i64 0, .bool false, undef, .slice bo vs.length bcap, .int .i64 (vs.length : Int), .slice ao l.length cap, .int .i64 (vs.length : Int), .bool false, .slice ao l.length cap, .func (.func 79) #[] #[.pointer (some ⟨w2.heap.size + 1, 0, none⟩)], .int .i64 x.1.1, .int .i64 x.1.2, undef, undef, undef, undef, undef, undef, undef, undef, undef, undef], defers := [] }) ?assign ?body ?done ?stop
      case assign =>
        intro lp x W K hK
        gi_wp2
        exact hK
      case body =>
        rintro lp pre x W ⟨⟨⟨v, hv, hrow, hnil⟩, hB⟩, hbv⟩ hlt
        obtain ⟨k, hk, hx⟩ := x.2
        obtain ⟨xp, hxp⟩ : ∃ xp, x.1.2 = xp := ⟨_, rfl⟩
        rw [hx, hxp]
        rw [HLN.out] at hk
        obtain ⟨z, hz⟩ := at_lt hk
        have HZ : Hid (zpp vs (raw (pre ++ [x])) = zpp vs (raw pre) ++ [(xp, z)]) := by
          rw [Hid, raw_snoc, zpp_snoc, hx, hxp]
          simp [List.getD_eq_getElem?_getD, hz]
        clear hx hxp
        obtain ⟨_, _, hv', _, _, _, b, off, ha, hc⟩ := HIR.out.below hB (Nat.le_refl _)
        have ha0 := ha (by omega)
        simp only [Value.slice.injEq] at hv'
        obtain ⟨rfl, _⟩ := hv'
        subst ha0
        have hcz := hc k z hz
        have HPL2 : Hid ((zpp vs (raw pre)).length ≤ 1000000) := by
          have h1 : (raw pre).length = pre.length := List.length_map ..
          rw [Hid, zpp_length, h1]; have := HPL.out; omega
        have HB : Hid (Below w.heap.size w W) := hB
        have hcv := hbv.cell
        have hc0 := hv.cell
        have HV : Hid (Boxed W w2.heap.size 64 v) := hv
        have HBX : Hid (Boxed W w.heap.size 24 (.slice (some ⟨b, off, none⟩) vs.length bcap)) := hbv
        have HROW : Hid (W.ownsRow w.heap.size 113 2 v (zpp vs (raw pre)).length (spCells (zpp vs (raw pre)))) := hrow
        have hmx : Try.prog.follows .mixedOrders = true := by kernel_rfl
        have hcA : (W.alloc (.cells #[.int .i64 xp, .int .i64 z] 113)).cell? ⟨w2.heap.size, 0, none⟩ = some v := (hv.alloc _).cell
        have hkI : (k : Int) < (vs.length : Int) := by omega
        clear hc ha hz hB hv hbv hrow hnil hlt
        gi_wp2_with fail
        refine region_round hmx (by kernel_rfl) ?_
        refine wpAnyIn_take (i := 1) (v := .int .i64 xp) rfl rfl (by kernel_rfl) (by kernel_rfl) (by kernel_rfl) (fun _ _ _ h => h) ⟨Or.inl ⟨by rfl, ?_⟩, fun _ => rfl⟩ ?_
        · intro w; go_simp
        refine wpAnyIn_take (i := 3) (v := .int .i64 (k : Int)) rfl rfl (by kernel_rfl) (by kernel_rfl) (by kernel_rfl) (fun _ _ _ h => h) ⟨Or.inl ⟨by rfl, ?_⟩, fun _ => rfl⟩ ?_
        · intro w; go_simp
        refine wpAnyIn_ready (rs := [0, 2]) (by kernel_rfl) (by simp) ?_
        refine AllReadyIn.cons rfl (fun K hK => ?_) (AllReadyIn.cons rfl (fun K hK => ?_) AllReadyIn.nil)
        · (go_simp; refine hK _ _ ?_; clear hK K)
          (refine wpAnyIn_ready (rs := [2]) (by kernel_rfl) (by simp) ?_; refine AllReadyIn.cons rfl (fun K hK => ?_) AllReadyIn.nil; go_simp; refine hK _ _ ?_; clear hK K)
          refine wpAnyIn_take (i := 4) (v := .pointer (some ⟨b, off + k, none⟩)) rfl rfl (by kernel_rfl) (by kernel_rfl) (by kernel_rfl) (fun _ _ _ h => h) ⟨Or.inl ⟨by rfl, ?_⟩, fun _ => rfl⟩ ?_
          · intro w; go_simp
          (refine wpAnyIn_ready (rs := [5]) (by kernel_rfl) (by simp) ?_; refine AllReadyIn.cons rfl (fun K hK => ?_) AllReadyIn.nil; go_simp; refine hK _ _ ?_; clear hK K)
          refine wpAnyIn_take (i := 6) (v := .agg #[.int .i64 xp, .int .i64 z]) rfl rfl (by kernel_rfl) (by kernel_rfl) (by kernel_rfl) (fun _ _ _ h => h) ⟨Or.inl ⟨by rfl, ?_⟩, fun _ => rfl⟩ ?_
          · intro w; go_simp
          (refine wpAnyIn_ready (rs := [7]) (by kernel_rfl) (by simp) ?_; refine AllReadyIn.cons rfl (fun K hK => ?_) AllReadyIn.nil; go_simp; refine hK _ _ ?_; clear hK K)
          refine wpAnyIn_ready (rs := [8]) (by kernel_rfl) (by simp) ?_
          refine AllReadyIn.cons rfl (fun K hK => ?_) AllReadyIn.nil
          refine stepIn_append_sp rfl _ _ 64 rfl Try.underlying64 HI.out.1 HI.out.2.1 HI.out.2.2.1 HI.out.2.2.2 (B := w.heap.size) (v := v) (l := zpp vs (raw pre)) (s := (xp, z)) rfl rfl (by have := HB.out.size; simp; omega) (HROW.out.alloc _) (lit_sp 113 W [(xp, z)] HB.out.size (by simp) (by unfold maxLen; simp)) HPL2.out ?_
          intro v' w3 hown hgrow0
          have hgrow : (W.alloc (.cells #[.int .i64 xp, .int .i64 z] 113)).grownBy w3 v.ownBlock := ⟨hgrow0.os, hgrow0.tape, hgrow0.output, hgrow0.size, hgrow0.block⟩
          clear hgrow0
          refine hK _ _ ?_
          clear hK K
          obtain ⟨hv1, hv2, hr2, hk2, hb2⟩ := HV.out.appended (tmp := .cells #[.int .i64 xp, .int .i64 z] 113) (by decide) HROW.out HB.out.size (by have := HF2.out.size; omega) hown hgrow
          have HBX3 : Hid (Boxed w3 w.heap.size 24 (.slice (some ⟨b, off, none⟩) vs.length bcap)) := (HBX.out.alloc _).kept hgrow (HBX.out.not_row (by decide) HROW.out)
          obtain ⟨g', cap', rfl⟩ := ownsRow_succ hown
          have hc1 := hv1.cell
          have hf1 := hv1.frozen
          have HNE : Hid (w.heap.size ≠ w2.heap.size) := by have := HBV2.out.lt; rw [Hid]; omega
          have HO : Hid (KeepsOthers W (w3.setCell ⟨w2.heap.size, 0, none⟩ _) ∧ Below w.heap.size W (w3.setCell ⟨w2.heap.size, 0, none⟩ _) ∧ Boxed (w3.setCell ⟨w2.heap.size, 0, none⟩ _) w2.heap.size 64 _ ∧ World.ownsRow (w3.setCell ⟨w2.heap.size, 0, none⟩ _) w.heap.size 113 2 _ _ _) := ⟨hk2, hb2, hv2, hr2⟩
          clear hown hgrow hv1 hv2 hr2 hk2 hb2
          (refine wpAnyIn_ready (rs := [9]) (by kernel_rfl) (by simp) ?_; refine AllReadyIn.cons rfl (fun K hK => ?_) AllReadyIn.nil; go_simp; refine hK _ _ ?_; clear hK K)
          refine wpAnyIn_done (by kernel_rfl) ?_ _
          gi_wp2
          refine ⟨HO.out.1.from _, HO.out.2.1, ⟨⟨_, HO.out.2.2.1, by rw [HZ.out, List.length_append]; exact HO.out.2.2.2, by rw [HZ.out]; simp⟩, HB.out.trans HO.out.2.1⟩, HBX3.out.kept (grownBy_setCell' _ _ _) (fun e => HNE.out (Option.some.inj e))⟩
        · (go_simp; refine hK _ _ ?_; clear hK K)
          refine wpAnyIn_take (i := 4) (v := .pointer (some ⟨b, off + k, none⟩)) rfl rfl (by kernel_rfl) (by kernel_rfl) (by kernel_rfl) (fun _ _ _ h => h) ⟨Or.inl ⟨by rfl, ?_⟩, fun _ => rfl⟩ ?_
          · intro w; go_simp
          refine wpAnyIn_ready (rs := [0, 5]) (by kernel_rfl) (by simp) ?_
          refine AllReadyIn.cons rfl (fun K hK => ?_) (AllReadyIn.cons rfl (fun K hK => ?_) AllReadyIn.nil)
          · (go_simp; refine hK _ _ ?_; clear hK K)
            (refine wpAnyIn_ready (rs := [5]) (by kernel_rfl) (by simp) ?_; refine AllReadyIn.cons rfl (fun K hK => ?_) AllReadyIn.nil; go_simp; refine hK _ _ ?_; clear hK K)
            refine wpAnyIn_take (i := 6) (v := .agg #[.int .i64 xp, .int .i64 z]) rfl rfl (by kernel_rfl) (by kernel_rfl) (by kernel_rfl) (fun _ _ _ h => h) ⟨Or.inl ⟨by rfl, ?_⟩, fun _ => rfl⟩ ?_
            · intro w; go_simp
            (refine wpAnyIn_ready (rs := [7]) (by kernel_rfl) (by simp) ?_; refine AllReadyIn.cons rfl (fun K hK => ?_) AllReadyIn.nil; go_simp; refine hK _ _ ?_; clear hK K)
            refine wpAnyIn_ready (rs := [8]) (by kernel_rfl) (by simp) ?_
            refine AllReadyIn.cons rfl (fun K hK => ?_) AllReadyIn.nil
            refine stepIn_append_sp rfl _ _ 64 rfl Try.underlying64 HI.out.1 HI.out.2.1 HI.out.2.2.1 HI.out.2.2.2 (B := w.heap.size) (v := v) (l := zpp vs (raw pre)) (s := (xp, z)) rfl rfl (by have := HB.out.size; simp; omega) (HROW.out.alloc _) (lit_sp 113 W [(xp, z)] HB.out.size (by simp) (by unfold maxLen; simp)) HPL2.out ?_
            intro v' w3 hown hgrow0
            have hgrow : (W.alloc (.cells #[.int .i64 xp, .int .i64 z] 113)).grownBy w3 v.ownBlock := ⟨hgrow0.os, hgrow0.tape, hgrow0.output, hgrow0.size, hgrow0.block⟩
            clear hgrow0
            refine hK _ _ ?_
            clear hK K
            obtain ⟨hv1, hv2, hr2, hk2, hb2⟩ := HV.out.appended (tmp := .cells #[.int .i64 xp, .int .i64 z] 113) (by decide) HROW.out HB.out.size (by have := HF2.out.size; omega) hown hgrow
            have HBX3 : Hid (Boxed w3 w.heap.size 24 (.slice (some ⟨b, off, none⟩) vs.length bcap)) := (HBX.out.alloc _).kept hgrow (HBX.out.not_row (by decide) HROW.out)
            obtain ⟨g', cap', rfl⟩ := ownsRow_succ hown
            have hc1 := hv1.cell
            have hf1 := hv1.frozen
            have HNE : Hid (w.heap.size ≠ w2.heap.size) := by have := HBV2.out.lt; rw [Hid]; omega
            have HO : Hid (KeepsOthers W (w3.setCell ⟨w2.heap.size, 0, none⟩ _) ∧ Below w.heap.size W (w3.setCell ⟨w2.heap.size, 0, none⟩ _) ∧ Boxed (w3.setCell ⟨w2.heap.size, 0, none⟩ _) w2.heap.size 64 _ ∧ World.ownsRow (w3.setCell ⟨w2.heap.size, 0, none⟩ _) w.heap.size 113 2 _ _ _) := ⟨hk2, hb2, hv2, hr2⟩
            clear hown hgrow hv1 hv2 hr2 hk2 hb2
            (refine wpAnyIn_ready (rs := [9]) (by kernel_rfl) (by simp) ?_; refine AllReadyIn.cons rfl (fun K hK => ?_) AllReadyIn.nil; go_simp; refine hK _ _ ?_; clear hK K)
            refine wpAnyIn_done (by kernel_rfl) ?_ _
            gi_wp2
            refine ⟨HO.out.1.from _, HO.out.2.1, ⟨⟨_, HO.out.2.2.1, by rw [HZ.out, List.length_append]; exact HO.out.2.2.2, by rw [HZ.out]; simp⟩, HB.out.trans HO.out.2.1⟩, HBX3.out.kept (grownBy_setCell' _ _ _) (fun e => HNE.out (Option.some.inj e))⟩
          · (go_simp; refine hK _ _ ?_; clear hK K)
            refine wpAnyIn_take (i := 6) (v := .agg #[.int .i64 xp, .int .i64 z]) rfl rfl (by kernel_rfl) (by kernel_rfl) (by kernel_rfl) (fun _ _ _ h => h) ⟨Or.inl ⟨by rfl, ?_⟩, fun _ => rfl⟩ ?_
            · intro w; go_simp
            refine wpAnyIn_ready (rs := [0, 7]) (by kernel_rfl) (by simp) ?_
            refine AllReadyIn.cons rfl (fun K hK => ?_) (AllReadyIn.cons rfl (fun K hK => ?_) AllReadyIn.nil)
            · (go_simp; refine hK _ _ ?_; clear hK K)
              (refine wpAnyIn_ready (rs := [7]) (by kernel_rfl) (by simp) ?_; refine AllReadyIn.cons rfl (fun K hK => ?_) AllReadyIn.nil; go_simp; refine hK _ _ ?_; clear hK K)
              refine wpAnyIn_ready (rs := [8]) (by kernel_rfl) (by simp) ?_
              refine AllReadyIn.cons rfl (fun K hK => ?_) AllReadyIn.nil
              refine stepIn_append_sp rfl _ _ 64 rfl Try.underlying64 HI.out.1 HI.out.2.1 HI.out.2.2.1 HI.out.2.2.2 (B := w.heap.size) (v := v) (l := zpp vs (raw pre)) (s := (xp, z)) rfl rfl (by have := HB.out.size; simp; omega) (HROW.out.alloc _) (lit_sp 113 W [(xp, z)] HB.out.size (by simp) (by unfold maxLen; simp)) HPL2.out ?_
              intro v' w3 hown hgrow0
              have hgrow : (W.alloc (.cells #[.int .i64 xp, .int .i64 z] 113)).grownBy w3 v.ownBlock := ⟨hgrow0.os, hgrow0.tape, hgrow0.output, hgrow0.size, hgrow0.block⟩
              clear hgrow0
              refine hK _ _ ?_
              clear hK K
              obtain ⟨hv1, hv2, hr2, hk2, hb2⟩ := HV.out.appended (tmp := .cells #[.int .i64 xp, .int .i64 z] 113) (by decide) HROW.out HB.out.size (by have := HF2.out.size; omega) hown hgrow
              have HBX3 : Hid (Boxed w3 w.heap.size 24 (.slice (some ⟨b, off, none⟩) vs.length bcap)) := (HBX.out.alloc _).kept hgrow (HBX.out.not_row (by decide) HROW.out)
              obtain ⟨g', cap', rfl⟩ := ownsRow_succ hown
              have hc1 := hv1.cell
              have hf1 := hv1.frozen
              have HNE : Hid (w.heap.size ≠ w2.heap.size) := by have := HBV2.out.lt; rw [Hid]; omega
              have HO : Hid (KeepsOthers W (w3.setCell ⟨w2.heap.size, 0, none⟩ _) ∧ Below w.heap.size W (w3.setCell ⟨w2.heap.size, 0, none⟩ _) ∧ Boxed (w3.setCell ⟨w2.heap.size, 0, none⟩ _) w2.heap.size 64 _ ∧ World.ownsRow (w3.setCell ⟨w2.heap.size, 0, none⟩ _) w.heap.size 113 2 _ _ _) := ⟨hk2, hb2, hv2, hr2⟩
              clear hown hgrow hv1 hv2 hr2 hk2 hb2
              (refine wpAnyIn_ready (rs := [9]) (by kernel_rfl) (by simp) ?_; refine AllReadyIn.cons rfl (fun K hK => ?_) AllReadyIn.nil; go_simp; refine hK _ _ ?_; clear hK K)
              refine wpAnyIn_done (by kernel_rfl) ?_ _
              gi_wp2
              refine ⟨HO.out.1.from _, HO.out.2.1, ⟨⟨_, HO.out.2.2.1, by rw [HZ.out, List.length_append]; exact HO.out.2.2.2, by rw [HZ.out]; simp⟩, HB.out.trans HO.out.2.1⟩, HBX3.out.kept (grownBy_setCell' _ _ _) (fun e => HNE.out (Option.some.inj e))⟩
            · (go_simp; refine hK _ _ ?_; clear hK K)
              (refine wpAnyIn_ready (rs := [0]) (by kernel_rfl) (by simp) ?_; refine AllReadyIn.cons rfl (fun K hK => ?_) AllReadyIn.nil; go_simp; refine hK _ _ ?_; clear hK K)
              refine wpAnyIn_ready (rs := [8]) (by kernel_rfl) (by simp) ?_
              refine AllReadyIn.cons rfl (fun K hK => ?_) AllReadyIn.nil
              refine stepIn_append_sp rfl _ _ 64 rfl Try.underlying64 HI.out.1 HI.out.2.1 HI.out.2.2.1 HI.out.2.2.2 (B := w.heap.size) (v := v) (l := zpp vs (raw pre)) (s := (xp, z)) rfl rfl (by have := HB.out.size; simp; omega) (HROW.out.alloc _) (lit_sp 113 W [(xp, z)] HB.out.size (by simp) (by unfold maxLen; simp)) HPL2.out ?_
              intro v' w3 hown hgrow0
              have hgrow : (W.alloc (.cells #[.int .i64 xp, .int .i64 z] 113)).grownBy w3 v.ownBlock := ⟨hgrow0.os, hgrow0.tape, hgrow0.output, hgrow0.size, hgrow0.block⟩
              clear hgrow0
              refine hK _ _ ?_
              clear hK K
              obtain ⟨hv1, hv2, hr2, hk2, hb2⟩ := HV.out.appended (tmp := .cells #[.int .i64 xp, .int .i64 z] 113) (by decide) HROW.out HB.out.size (by have := HF2.out.size; omega) hown hgrow
              have HBX3 : Hid (Boxed w3 w.heap.size 24 (.slice (some ⟨b, off, none⟩) vs.length bcap)) := (HBX.out.alloc _).kept hgrow (HBX.out.not_row (by decide) HROW.out)
              obtain ⟨g', cap', rfl⟩ := ownsRow_succ hown
              have hc1 := hv1.cell
              have hf1 := hv1.frozen
              have HNE : Hid (w.heap.size ≠ w2.heap.size) := by have := HBV2.out.lt; rw [Hid]; omega
              have HO : Hid (KeepsOthers W (w3.setCell ⟨w2.heap.size, 0, none⟩ _) ∧ Below w.heap.size W (w3.setCell ⟨w2.heap.size, 0, none⟩ _) ∧ Boxed (w3.setCell ⟨w2.heap.size, 0, none⟩ _) w2.heap.size 64 _ ∧ World.ownsRow (w3.setCell ⟨w2.heap.size, 0, none⟩ _) w.heap.size 113 2 _ _ _) := ⟨hk2, hb2, hv2, hr2⟩
              clear hown hgrow hv1 hv2 hr2 hk2 hb2
              (refine wpAnyIn_ready (rs := [9]) (by kernel_rfl) (by simp) ?_; refine AllReadyIn.cons rfl (fun K hK => ?_) AllReadyIn.nil; go_simp; refine hK _ _ ?_; clear hK K)
              refine wpAnyIn_done (by kernel_rfl) ?_ _
              gi_wp2
              refine ⟨HO.out.1.from _, HO.out.2.1, ⟨⟨_, HO.out.2.2.1, by rw [HZ.out, List.length_append]; exact HO.out.2.2.2, by rw [HZ.out]; simp⟩, HB.out.trans HO.out.2.1⟩, HBX3.out.kept (grownBy_setCell' _ _ _) (fun e => HNE.out (Option.some.inj e))⟩
      case done =>
        rintro D ys W hD hys ⟨⟨⟨v, hv, hrow, hnil⟩, hB⟩, _⟩ hK
        have hc := hv.cell
        gi_wp2
        refine ⟨by simp, .inl ⟨_, _, rfl, run_takeDeferred hK, ?_⟩⟩
        have e : zpp vs (raw ys) = zpl l vs := by rw [HT.out.2]; exact congrArg (zpp vs) hys
        rw [e] at hrow hnil
        have hbb : Below w.heap.size w (W.putObj D (.deferred none)) := hB.trans (belowK_b (w := w) (Nat.le_refl _) W D _ _ (by simp at hD; omega) hK rfl rfl)
        exact ⟨_, results_tmp2 rfl _ _ _, v, by rw [HT.out.1]; rfl, SOwn.of_owns (ownsRow_putObj hrow _ hK rfl) hnil, Fr.ofBelow hbb⟩
      case stop =>
        rintro D c pre W _ _ h _
        exact h.elim
    · have hne : ¬ (vs.length : Int) = ((pls l).length : Int) := by omega
      have HCT : Hid (∀ wx, Fr [] w wx → Calls Try.prog 66 #[.slice ao l.length cap] wx fun e w' => e = .returned (.int .i64 ((pls l).length : Int)) ∧ Fr [] wx w') := by
        intro wx hf
        rw [← ctn_pls l hk0]
        exact count_any _ l wx (HSR1.out wx hf)
      have HT : Hid (zpe l vs = 10 ∧ zpl l vs = []) := by
        have e : zpe l vs = 10 := by unfold zpe; rw [if_pos hk0, if_neg hle]
        unfold Hid zpl
        rw [e]
        exact ⟨rfl, rfl⟩
      clear hle
      gi_wp2_with fail
      refine wpIn_wide.2 ?_
      go_region_held3 (fun w' => w'.cell? ⟨w.heap.size, 0, none⟩ = some (.slice bo vs.length bcap)) (go_keep) (first | (go_at_call 66; refine (HCT.out _ (HF1.out.drew)).mono ?_; rintro e w2 ⟨rfl, hf2⟩; have k0 := hf2.cell_some (p := ⟨w.heap.size, 0, none⟩) (v := .slice bo vs.length bcap) hcb (by simp)))
      have HF2 : Hid (Fr [] w w2) := HF1.out.drew.trans hf2 (by simp)
      clear hf2 k0 hcb HBV HF1
      gi_wp2
      exact ⟨_, results_tmp2 rfl _ _ _, _, by rw [HT.out.1]; rfl, .inl ⟨HT.out.2, rfl⟩, HF2.out⟩
  · have HT : Hid (zpe l vs = chk l ∧ zpl l vs = []) := by unfold Hid zpl zpe; rw [if_neg hk0, if_neg hk0]; exact ⟨rfl, rfl⟩
    gi_wp2
    exact ⟨_, results_tmp2 rfl _ _ _, _, by rw [HT.out.1]; rfl, .inl ⟨HT.out.2, rfl⟩, HF1.out⟩
end Go.Proofs.Ytnfbmdniomelnaa

/-
  The document's Fits, Absolute, Deltas.
-/
namespace Go.Proofs.Ytnfbmdniomelnaa
open Go.RowKit Mem Spans
set_option linter.unusedSimpArgs false
set_option linter.unusedVariables false
set_option maxRecDepth 100000

theorem wr_id {z : Int} (h1 : -9223372036854775808 ≤ z) (h2 : z ≤ 9223372036854775807) : wrap64 z = z := by unfold wrap64; omega
set_option maxHeartbeats 400000 in
theorem lfits_any (x y : Int) (w : World) (hx : in64 x) (hy : in64 y) :
    Calls Try.prog 63 #[.int .i64 x, .int .i64 y] w fun e w' => e = .returned (.bool (fits (x + y))) ∧ w = w' := by
  go_enter Try.func63, Try.ntmps63
  by_cases h0 : 0 ≤ y
  · have HE : Hid (decide (x ≤ 9223372036854775807 - y) = fits (x + y)) := by
      unfold in64 at hx hy
      unfold Hid fits
      rw [decide_eq_true (p := -9223372036854775808 ≤ x + y) (by omega), Bool.true_and, decide_eq_decide]
      omega
    have hw : wrap64 (9223372036854775807 - y) = 9223372036854775807 - y := by unfold in64 at hy; exact wr_id (by omega) (by omega)
    clear hx hy
    go_wp2
    go_ret
    exact ⟨by rw [← HE.out]; rfl, rfl⟩
  · have HE : Hid (decide (-9223372036854775808 - y ≤ x) = fits (x + y)) := by
      unfold in64 at hx hy
      unfold Hid fits
      rw [decide_eq_true (p := x + y ≤ 9223372036854775807) (by omega), Bool.and_true, decide_eq_decide]
      omega
    have hw : wrap64 (-9223372036854775808 - y) = -9223372036854775808 - y := by unfold in64 at hy; exact wr_id (by omega) (by omega)
    clear hx hy
    go_wp2
    go_ret
    exact ⟨by rw [← HE.out]; rfl, rfl⟩

/-- Does it refuse? -/
def abo (l : List Int) : Int := match absl 0 l with | some _ => 0 | none => 1
def dlo (l : List Int) : Int := match dltl 0 l with | some _ => 0 | none => 1

set_option maxHeartbeats 2000000 in
theorem labsolute_any (v : Value) (l : List Int) (w : World) (h : ISrc w v l) (hl : l.length ≤ 1000000) :
    Calls Try.prog 50 #[v] w fun e w' => ∃ u, e = .returned (.tuple #[u, .int .i64 (abo l)]) ∧ NOwn 2 w.heap.size w' u (abv l) ∧ Fr [] w w' := by
  obtain ⟨ao, cap, rfl, hcap, hmax, h64, b, off, ha, hc⟩ := h
  have HC : Hid (∀ j s, l[j]? = some s → w.cell? ⟨b, off + j, none⟩ = some (.int .i64 s)) := hc
  have HA : Hid (0 < l.length → ao = some ⟨b, off, none⟩) := ha
  have H64 : Hid (∀ z ∈ l, in64 z) := h64
  obtain ⟨i0, hi⟩ := info_int64
  have HI : Hid (NInfo 2 i0) := hi
  clear hc ha h64 hi
  go_enter Try.func50, Try.ntmps50
  go_wp2
  go_loopw [4, 5, 6] (fun u s i wr => ∃ (k : Nat) (S : Int) (out : List Int), k ≤ l.length ∧ i = .int .i64 (k : Int) ∧ s = .int .i64 S ∧ in64 S ∧ out.length = k ∧ absl 0 l = (absl S (l.drop k)).map (fun t => out ++ t) ∧ NOwn 2 w.heap.size wr u out ∧ Fr [] w wr) (fun _ _ i _ => l.length - (intOf i).toNat)
  case atStart => exact ⟨0, 0, [], by omega, rfl, rfl, by unfold in64; omega, rfl, by simp, .inl ⟨rfl, rfl⟩, Fr.refl _ _⟩
  case round =>
    obtain ⟨k, S, out, hk, rfl, rfl, hS, hol, hst, hno, hf⟩ := hrel
    have HF : Hid (Fr [] w wr) := hf
    have HS : Hid (in64 S) := hS
    have HOL : Hid (out.length = k) := hol
    have HN : Hid (NOwn 2 w.heap.size wr u4 out) := hno
    have HST : Hid (absl 0 l = (absl S (l.drop k)).map (fun t => out ++ t)) := hst
    clear hf hS hol hst hno
    by_cases hlt : k < l.length
    · obtain rfl := HA.out (by omega)
      obtain ⟨d, hd⟩ := at_lt hlt
      have HD : Hid (in64 d) := H64.out d (List.mem_of_getElem? hd)
      have c0 : wr.cell? ⟨b, off + k, none⟩ = some (.int .i64 d) := HF.out.cell_some (HC.out k d hd) (by simp)
      have HST2 : Hid (absl 0 l = (absl S (d :: l.drop (k + 1))).map (fun t => out ++ t)) := by rw [Hid, ← drop_at hd]; exact HST.out
      have HSZ : Hid (w.heap.size ≤ wr.heap.size) := HF.out.size
      clear hd HST
      go_wp2_with fail
      refine (lfits_any S d wr HS.out HD.out).mono ?_
      rintro e w2 ⟨rfl, rfl⟩
      by_cases hfit : fits (S + d) = true
      · have HTI : Hid (in64 (S + d)) := fits_iff.1 hfit
        have HST3 : Hid (absl 0 l = (absl (S + d) (l.drop (k + 1))).map (fun t => (out ++ [S + d]) ++ t)) := by
          rw [Hid, HST2.out, absl, if_pos hfit, Option.map_map]
          congr 1
          funext t
          simp
        obtain ⟨T, hT⟩ : ∃ T, T = S + d := ⟨_, rfl⟩
        have hw : wrap64 (S + d) = T := by rw [sum_fit hfit, hT]
        have HT : Hid (T = S + d) := hT
        clear hT HST2
        rw [hfit]
        clear hfit
        go_wp2_with (at_builtin; refine wpList_append_n _ rfl _ _ 24 rfl Try.underlying24 HI.out.1 HI.out.2.1 HI.out.2.2.1 HI.out.2.2.2 (B := w.heap.size) (s := T) (by have := HSZ.out; simp; omega) rfl rfl (HN.out.kept ((Fr.refl [] _).alloc _)) (lit_n 2 wr [T] rfl HSZ.out (by simp) (by unfold maxLen; simp)) (by have := HOL.out; omega) ?_; intro v3 w3 ho3 hb3; have HO3 : Hid (NOwn 2 w.heap.size w3 v3 (out ++ [T])) := ho3; have HB3 : Hid (Fr [] w w3) := Fr.ofBelow (((HF.out.alloc _).below (Nat.le_refl _) (by simp)).trans hb3); clear ho3 hb3)
        go_roundw
        case rel => exact ⟨k + 1, T, out ++ [T], by omega, by go_num, rfl, by rw [HT.out]; exact HTI.out, by have := HOL.out; simp; omega, by rw [HT.out]; exact HST3.out, HO3.out, HB3.out⟩
        case measure => simp [intOf]; omega
      · have hno : fits (S + d) = false := by simpa using hfit
        have HE : Hid (abo l = 1 ∧ abv l = []) := by
          have : absl 0 l = none := by rw [HST2.out, absl, if_neg hfit]; rfl
          unfold Hid abo abv
          rw [this]
          exact ⟨rfl, rfl⟩
        rw [hno]
        clear hno hfit HST2
        go_wp2
        go_ret2
        exact ⟨_, by rw [HE.out.1]; rfl, .inl ⟨HE.out.2, rfl⟩, HF.out⟩
    · have HE : Hid (abo l = 0 ∧ abv l = out) := by
        have : absl 0 l = some out := by rw [HST.out, List.drop_eq_nil_of_le (by omega), absl]; simp
        unfold Hid abo abv
        rw [this]
        exact ⟨rfl, rfl⟩
      go_wp2
      go_ret2
      exact ⟨_, by rw [HE.out.1]; rfl, by rw [HE.out.2]; exact HN.out, HF.out⟩

theorem lo_fit {S d : Int} (hS : in64 S) (hd : in64 d) (h0 : 0 ≤ S) : (d < -9223372036854775808 + S ↔ fits (d - S) = false) ∧ wrap64 (-9223372036854775808 + S) = -9223372036854775808 + S := by
  rw [fits_not]; unfold in64 at *; exact ⟨by omega, wr_id (by omega) (by omega)⟩
theorem hi_fit {S d : Int} (hS : in64 S) (hd : in64 d) (h0 : S < 0) : (9223372036854775807 + S < d ↔ fits (d - S) = false) ∧ wrap64 (9223372036854775807 + S) = 9223372036854775807 + S := by
  rw [fits_not]; unfold in64 at *; exact ⟨by omega, wr_id (by omega) (by omega)⟩


end Go.Proofs.Ytnfbmdniomelnaa

/-
  Slices of numbers and of spans that came in.
-/
namespace Go.Proofs.Ytnfbmdniomelnaa
open Go.RowKit Mem Spans
open Go.ChangeShapes Go.WideShapes Go.ChangeAt
set_option linter.unusedSimpArgs false
set_option linter.unusedVariables false
set_option maxRecDepth 100000

/-- What the walk is told of a slice of integers that came in: it is nil; or it leads to a row of 'cap' cells, the numbers 'zs' (the first 'len' are its elements, the rest its spare room), each fitting its kind. -/
def IsRow (k : IntKind) (w : World) (a : Option Addr) (len cap : Nat) (zs : List Int) : Prop :=
  (a = none ∧ len = 0 ∧ cap = 0 ∧ zs = []) ∨
  ∃ x, a = some x ∧ len ≤ cap ∧ cap ≤ maxLen ∧ zs.length = cap ∧ (∀ i, i < zs.length → w.cell? (x.add i) = some (.int k (zs.getD i 0))) ∧ ∀ n ∈ zs, (Lit.int k n).wf = true

theorem IsRow.isrc {w : World} {a : Option Addr} {len cap : Nat} {zs : List Int} (h : IsRow .i64 w a len cap zs) : ∃ l : List Int, l.length = len ∧ ISrc w (.slice a len cap) l := by
  rcases h with ⟨rfl, rfl, rfl, rfl⟩ | ⟨x, rfl, hl, hm, hz, hc, hw⟩
  · exact ⟨[], rfl, ISrc.nil w⟩
  · have hlen : (zs.take len).length = len := by simp; omega
    refine ⟨zs.take len, hlen, some x, cap, by rw [hlen], by omega, hm, ?_, ?_⟩
    · intro z hz'
      have := hw z (List.mem_of_mem_take hz')
      simp [Lit.wf, IntKind.min, IntKind.max, IntKind.bits, IntKind.signed] at this
      unfold in64
      omega
    · by_cases h0 : 0 < len
      · obtain ⟨b, off, spot⟩ := x
        have hc0 := hc 0 (by omega)
        have hspot : spot = none := by simpa [Addr.add] using World.cell?_spot hc0
        subst hspot
        refine ⟨b, off, fun _ => rfl, fun j y hj => ?_⟩
        have e1 : (⟨b, off, none⟩ : Addr).add j = ⟨b, off + j, none⟩ := by unfold Addr.add; split <;> simp_all
        rw [List.getElem?_take] at hj
        split at hj
        · have hjl := (List.getElem?_eq_some_iff.1 hj).1
          rw [← e1, hc j hjl, List.getD_eq_getElem?_getD, hj]
          rfl
        · cases hj
      · refine ⟨0, 0, fun h => by omega, fun j y hj => ?_⟩
        have : len = 0 := by omega
        subst this
        simp at hj

/-- A slice of spans that came in. -/
def IsSpans (w : World) (a : Option Addr) (len cap : Nat) (l : List Sp) : Prop := l.length = len ∧ SSrc w (.slice a len cap) l

theorem Try.cells63 : Try.prog.cellsOf 63 = 2 := by kernel_rfl
theorem Try.cells3 : Try.prog.cellsOf 3 = 1 := by kernel_rfl

theorem spans_of {H : Type} {enc : TypeId × Value → H} {W : World} {base : Nat} {a : Option Addr} {len cap : Nat} {d : DataW H} {p : List MemPlace}
    (h : DataW.Trod enc Try.prog W base (fun _ => true) true 23 (.slice a len cap) d p) : ∃ l, IsSpans W a len cap l := by
  obtain ⟨fuel, hf⟩ := h
  rcases Go.Deep.open_slice Try.underlying23 hf with ⟨hcs, _⟩ | ⟨x, l, c, m, n, D, Pl, hcs, _, hl, hm, hmm, _, hx⟩
  · simp [Value.cells] at hcs
    obtain ⟨rfl, rfl, rfl⟩ := hcs
    exact ⟨[], rfl, SSrc.nil W⟩
  · simp [Value.cells] at hcs
    obtain ⟨rfl, rfl, rfl⟩ := hcs
    have hlm : len ≤ m := by rw [hmm]; split <;> omega
    have each : ∀ i, i < len → ∃ y : Sp, (W.cell? (x.add (i * 2)) = some (.int .i64 y.1) ∧ W.cell? (x.add (i * 2 + 1)) = some (.int .i64 y.2)) ∧ in64 y.1 ∧ in64 y.2 := by
      intro i hi
      obtain ⟨cs, hc, ht⟩ := hx i (by omega)
      rw [Try.cells63] at hc
      obtain ⟨_, hlen, hcell⟩ := World.cells?_some hc
      obtain ⟨y0, y1, k, _, _, t0, t1⟩ := trod_struct2 Try.underlying63 ht
      match cs, hlen with
      | [c0, c1], _ =>
        simp only [Try.cells3, List.drop_zero, List.drop_succ_cons, List.take_succ_cons, List.take_zero] at t0 t1
        obtain ⟨n0, e0, _, w0⟩ := DataW.trod_int Try.underlying3 t0
        obtain ⟨n1, e1, _, w1⟩ := DataW.trod_int Try.underlying3 t1
        simp at e0 e1
        subst e0 e1
        simp [Lit.wf, IntKind.min, IntKind.max, IntKind.bits, IntKind.signed] at w0 w1
        have h0 := hcell 0 (by omega)
        have h1 := hcell 1 (by omega)
        rw [Go.Deep.add_add] at h0 h1
        exact ⟨(n0, n1), ⟨by simpa using h0, by simpa using h1⟩, ⟨by omega, by omega⟩, ⟨by omega, by omega⟩⟩
    have : Inhabited Sp := ⟨(0, 0)⟩
    obtain ⟨z, hz⟩ := Go.Deep.choose_lt each
    refine ⟨(List.range len).map z, by simp, some x, cap, by simp, by simp; omega, by omega, ?_, ?_⟩
    · intro s hs
      obtain ⟨j, hj, rfl⟩ := List.mem_map.1 hs
      exact (hz j (by simpa using hj)).2
    · by_cases h0 : 0 < len
      · obtain ⟨b, off, spot⟩ := x
        have hc0 := (hz 0 h0).1.1
        have hspot : spot = none := by simpa [Addr.add] using World.cell?_spot hc0
        subst hspot
        have e1 : ∀ j, (⟨b, off, none⟩ : Addr).add j = ⟨b, off + j, none⟩ := by intro j; unfold Addr.add; split <;> simp_all
        refine ⟨b, off, fun _ => rfl, fun j s hj => ?_⟩
        rw [List.getElem?_map] at hj
        obtain ⟨j', hj', rfl⟩ := Option.map_eq_some_iff.1 hj
        have hjl : j < len := by have := (List.getElem?_eq_some_iff.1 hj').1; simpa using this
        have : j' = j := by
          rw [List.getElem?_range hjl] at hj'
          simpa using hj'.symm
        subst this
        have := (hz j' hjl).1
        rw [e1, e1] at this
        rw [Nat.add_assoc]
        exact this
      · refine ⟨0, 0, fun h => by simp at h; omega, fun j y hj => ?_⟩
        have : len = 0 := by omega
        subst this
        simp at hj
theorem SOwn.val {e : TypeId} {B : Nat} {w : World} {v : Value} {l : List Sp} (h : SOwn e B w v l) : ∃ ao cap, v = .slice ao l.length cap := by
  rcases h with ⟨rfl, rfl⟩ | ⟨g, _, _, hr⟩
  · exact ⟨none, 0, rfl⟩
  · obtain ⟨c, h⟩ := hr.val; exact ⟨_, c, h⟩
theorem IOwn.val {B : Nat} {w : World} {v : Value} {zs : List Int} (h : IOwn B w v zs) : ∃ ao cap, v = .slice ao zs.length cap := by
  rcases h with ⟨rfl, rfl⟩ | ⟨g, _, _, hr⟩
  · exact ⟨none, 0, rfl⟩
  · obtain ⟨c, h⟩ := hr.val; exact ⟨_, c, h⟩
theorem rn_le_length (prev : Option Int) (l : List Int) : rn prev l ≤ l.length := by
  induction l generalizing prev with
  | nil => simp [rn]
  | cons x r ih =>
    have := ih (some x)
    simp only [rn, List.length_cons]
    split <;> omega
end Go.Proofs.Ytnfbmdniomelnaa

/-
  Slices of pairs that came in.
-/
namespace Go.Proofs.Ytnfbmdniomelnaa
open Go.RowKit Mem Spans
open Go.ChangeShapes Go.WideShapes Go.ChangeAt
set_option linter.unusedSimpArgs false
set_option linter.unusedVariables false
set_option maxRecDepth 100000

/-- A slice of pairs that came in. -/

theorem Try.cells113 : Try.prog.cellsOf 113 = 2 := by kernel_rfl
theorem Try.cells2 : Try.prog.cellsOf 2 = 1 := by kernel_rfl

theorem pairs_of {H : Type} {enc : TypeId × Value → H} {W : World} {base : Nat} {a : Option Addr} {len cap : Nat} {d : DataW H} {p : List MemPlace}
    (h : DataW.Trod enc Try.prog W base (fun _ => true) true 64 (.slice a len cap) d p) : ∃ l, IsSpans W a len cap l := by
  obtain ⟨fuel, hf⟩ := h
  rcases Go.Deep.open_slice Try.underlying64 hf with ⟨hcs, _⟩ | ⟨x, l, c, m, n, D, Pl, hcs, _, hl, hm, hmm, _, hx⟩
  · simp [Value.cells] at hcs
    obtain ⟨rfl, rfl, rfl⟩ := hcs
    exact ⟨[], rfl, SSrc.nil W⟩
  · simp [Value.cells] at hcs
    obtain ⟨rfl, rfl, rfl⟩ := hcs
    have hlm : len ≤ m := by rw [hmm]; split <;> omega
    have each : ∀ i, i < len → ∃ y : Sp, (W.cell? (x.add (i * 2)) = some (.int .i64 y.1) ∧ W.cell? (x.add (i * 2 + 1)) = some (.int .i64 y.2)) ∧ in64 y.1 ∧ in64 y.2 := by
      intro i hi
      obtain ⟨cs, hc, ht⟩ := hx i (by omega)
      rw [Try.cells113] at hc
      obtain ⟨_, hlen, hcell⟩ := World.cells?_some hc
      obtain ⟨y0, y1, k, _, _, t0, t1⟩ := trod_struct2 Try.underlying113 ht
      match cs, hlen with
      | [c0, c1], _ =>
        simp only [Try.cells3, Try.cells2, List.drop_zero, List.drop_succ_cons, List.take_succ_cons, List.take_zero] at t0 t1
        obtain ⟨n0, e0, _, w0⟩ := DataW.trod_int Try.underlying3 t0
        obtain ⟨n1, e1, _, w1⟩ := DataW.trod_int Try.underlying2 t1
        simp at e0 e1
        subst e0 e1
        simp [Lit.wf, IntKind.min, IntKind.max, IntKind.bits, IntKind.signed] at w0 w1
        have h0 := hcell 0 (by omega)
        have h1 := hcell 1 (by omega)
        rw [Go.Deep.add_add] at h0 h1
        exact ⟨(n0, n1), ⟨by simpa using h0, by simpa using h1⟩, ⟨by omega, by omega⟩, ⟨by omega, by omega⟩⟩
    have : Inhabited Sp := ⟨(0, 0)⟩
    obtain ⟨z, hz⟩ := Go.Deep.choose_lt each
    refine ⟨(List.range len).map z, by simp, some x, cap, by simp, by simp; omega, by omega, ?_, ?_⟩
    · intro s hs
      obtain ⟨j, hj, rfl⟩ := List.mem_map.1 hs
      exact (hz j (by simpa using hj)).2
    · by_cases h0 : 0 < len
      · obtain ⟨b, off, spot⟩ := x
        have hc0 := (hz 0 h0).1.1
        have hspot : spot = none := by simpa [Addr.add] using World.cell?_spot hc0
        subst hspot
        have e1 : ∀ j, (⟨b, off, none⟩ : Addr).add j = ⟨b, off + j, none⟩ := by intro j; unfold Addr.add; split <;> simp_all
        refine ⟨b, off, fun _ => rfl, fun j s hj => ?_⟩
        rw [List.getElem?_map] at hj
        obtain ⟨j', hj', rfl⟩ := Option.map_eq_some_iff.1 hj
        have hjl : j < len := by have := (List.getElem?_eq_some_iff.1 hj').1; simpa using this
        have : j' = j := by
          rw [List.getElem?_range hjl] at hj'
          simpa using hj'.symm
        subst this
        have := (hz j' hjl).1
        rw [e1, e1] at this
        rw [Nat.add_assoc]
        exact this
      · refine ⟨0, 0, fun h => by simp at h; omega, fun j y hj => ?_⟩
        have : len = 0 := by omega
        subst this
        simp at hj
end Go.Proofs.Ytnfbmdniomelnaa

/-
  The document's Same, Rising, Runs.
-/
namespace Go.Proofs.Ytnfbmdniomelnaa
open Go.RowKit Mem Spans
open Classical
set_option linter.unusedSimpArgs false
set_option linter.unusedVariables false
set_option maxRecDepth 100000

theorem Mem.Fr.drewN {S : List Nat} {a b : World} (h : Fr S a b) (n : Nat) : Fr S a (b.drewN n) := ⟨h.os, h.tape, h.output, h.size, h.block⟩

end Go.Proofs.Ytnfbmdniomelnaa

/-
  The document's Check.
-/
namespace Go.Proofs.Ytnfbmdniomelnaa
open Go.RowKit Mem Spans
open Classical
set_option linter.unusedSimpArgs false
set_option linter.unusedVariables false
set_option maxRecDepth 100000

theorem dec4096 {n : Int} {c : Bool} (h : c = decide (n ≤ 4096)) : Value.bool (decide (4096 < n)) = Value.bool (!c) := by
  rw [h]
  congr 1
  by_cases hn : n ≤ 4096
  · rw [decide_eq_true hn, decide_eq_false (by omega)]; rfl
  · rw [decide_eq_false hn, decide_eq_true (by omega)]; rfl

set_option maxHeartbeats 8000000 in
theorem lcheck_any (v : Value) (l : List Sp) (w : World) (h : SSrc w v l) :
    Calls Try.prog 49 #[v] w fun e w' => e = .returned (.int .i64 (chk l)) ∧ Fr [] w w' := by
  obtain ⟨ao, cap, rfl, hcap, hmax, h64, b, off, ha, hc⟩ := h
  have HC : Hid (∀ j s, l[j]? = some s → w.cell? ⟨b, off + j * 2, none⟩ = some (.int .i64 s.1) ∧ w.cell? ⟨b, off + j * 2 + 1, none⟩ = some (.int .i64 s.2)) := hc
  have HA : Hid (0 < l.length → ao = some ⟨b, off, none⟩) := ha
  have H64 : Hid (∀ s ∈ l, in64 s.1 ∧ in64 s.2) := h64
  clear hc ha h64
  go_enter Try.func49, Try.ntmps49
  by_cases hlen : 1024 < l.length
  · have HE : Hid (chk l = 12) := by rw [Hid, chk_def]; rw [if_pos hlen]
    go_wp2
    go_ret
    exact ⟨by rw [HE.out]; rfl, Fr.refl _ _⟩
  · have HK : Hid (chk l = if ok true 0 0 l then 0 else 20) := by rw [Hid, chk_def]; rw [if_neg hlen]
    go_wp2
    go_loopw [3, 4, 5] (fun q p i wr => ∃ (k : Nat) (P B : Int), k ≤ l.length ∧ i = .int .i64 (k : Int) ∧ p = .int .i64 P ∧ q = .int .i64 B ∧ (ok true 0 0 l ↔ ok ((k : Int) == 0) P B (l.drop k)) ∧ 0 ≤ P ∧ P ≤ 4096 ∧ -1048576 ≤ B ∧ B ≤ 1048577 ∧ (k = 0 → B = 0) ∧ Fr [] w wr) (fun _ _ i _ => l.length - (intOf i).toNat)
    case atStart => exact ⟨0, 0, 0, by omega, rfl, rfl, rfl, by simp, by omega, by omega, by omega, by omega, fun _ => rfl, Fr.refl _ _⟩
    case round =>
      obtain ⟨k, P, B, hk, rfl, rfl, rfl, hok, hP0, hP1, hB0, hB1, hBk, hf⟩ := hrel
      have HBK : Hid (k = 0 → B = 0) := hBk
      have HF : Hid (Fr [] w wr) := hf
      have HO : Hid (ok true 0 0 l ↔ ok ((k : Int) == 0) P B (l.drop k)) := hok
      clear hf hok hBk
      by_cases hlt : k < l.length
      · obtain rfl := HA.out (by omega)
        obtain ⟨s, hs⟩ := at_lt hlt
        have HM := H64.out s (List.mem_of_getElem? hs)
        have c0 : wr.cell? ⟨b, off + k * 2, none⟩ = some (.int .i64 s.1) := HF.out.cell_some (HC.out k s hs).1 (by simp)
        have c1 : wr.cell? ⟨b, off + k * 2 + 1, none⟩ = some (.int .i64 s.2) := HF.out.cell_some (HC.out k s hs).2 (by simp)
        have HD : Hid (ok true 0 0 l ↔ ok ((k : Int) == 0) P B (s :: l.drop (k + 1))) := by rw [Hid, ← drop_at hs]; exact HO.out
        clear hs HO
        obtain ⟨o, n⟩ := s
        simp only at c0 c1
        obtain ⟨⟨ho1, ho2⟩, ⟨hn1, hn2⟩⟩ := HM
        simp only at ho1 ho2 hn1 hn2
        have HNB : Hid (¬ bnd ((k : Int) == 0) (o, n) → chk l = 20) := fun hb => by rw [HK.out, if_neg (by rw [HD.out]; exact fun h => hb h.1)]
        have HF2 : Hid (Fr [] w (wr.alloc (.cells #[.int .i64 o, .int .i64 n] 102))) := HF.out.alloc _
        have f0 : (wr.alloc (.cells #[.int .i64 o, .int .i64 n] 102)).cell? ⟨wr.heap.size, 0, none⟩ = some (.int .i64 o) := by rw [World.cell?_alloc_at _ _ _ _ rfl]; rfl
        have f1 : (wr.alloc (.cells #[.int .i64 o, .int .i64 n] 102)).cell? ⟨wr.heap.size, 1, none⟩ = some (.int .i64 n) := by rw [World.cell?_alloc_at _ _ _ _ rfl]; rfl
        go_upto_region 8 with fail
        generalize hW : wr.alloc (.cells #[.int .i64 o, .int .i64 n] 102) = wk at *
        go_cut [56] from 21 to 56 (fun c wx => c = .bool (!(decide (bnd ((k : Int) == 0) (o, n)))) ∧ wx = wk)
        case first =>
          by_cases h0 : k = 0
          · have HB0 : Hid (decide (bnd ((k : Int) == 0) (o, n)) = decide (-1048576 ≤ o ∧ o ≤ 1048576 ∧ 0 ≤ n ∧ n ≤ 4096)) := by rw [Hid, h0]; exact decide_eq_decide.2 Iff.rfl
            have HB1 : Hid True := trivial
            have e0 : ((k : Int) == 0) = true := by simp; omega
            have e1 : decide ((0 : Int) < (k : Int)) = false := decide_eq_false (by omega)
            have e2 : decide (0 < k) = false := decide_eq_false (by omega)
            have e3 : ¬ 0 < k := by omega
            clear HD HNB
            clear h0
            by_cases t1 : o < -1048576
            · have d0 : decide (o < -1048576) = true := decide_eq_true t1
              have HV : Hid (decide (bnd ((k : Int) == 0) (o, n)) = false) := by
                rw [Hid, HB0.out]; simp; omega
              clear HB0 HB1
              go_wp2
              go_meet
              exact ⟨by rw [HV.out]; rfl, rfl⟩
            · have d0 : decide (o < -1048576) = false := decide_eq_false t1
              by_cases t2 : 2097152 < o
              · have d1 : decide (2097152 < o) = true := decide_eq_true t2
                have HV : Hid (decide (bnd ((k : Int) == 0) (o, n)) = false) := by
                  rw [Hid, HB0.out]; simp; omega
                clear HB0 HB1
                go_wp2
                go_meet
                exact ⟨by rw [HV.out]; rfl, rfl⟩
              · have d1 : decide (2097152 < o) = false := decide_eq_false t2
                by_cases t3 : 1048576 < o
                · have d2 : decide (1048576 < o) = true := decide_eq_true t3
                  have HV : Hid (decide (bnd ((k : Int) == 0) (o, n)) = false) := by
                    rw [Hid, HB0.out]; simp; omega
                  clear HB0 HB1
                  go_wp2
                  go_meet
                  exact ⟨by rw [HV.out]; rfl, rfl⟩
                · have d2 : decide (1048576 < o) = false := decide_eq_false t3
                  by_cases t4 : n < 0
                  · have d3 : decide (n < 0) = true := decide_eq_true t4
                    have HV : Hid (decide (bnd ((k : Int) == 0) (o, n)) = false) := by
                      rw [Hid, HB0.out]; simp; omega
                    clear HB0 HB1
                    go_wp2
                    go_meet
                    exact ⟨by rw [HV.out]; rfl, rfl⟩
                  · have d3 : decide (n < 0) = false := decide_eq_false t4
                    have HV : Hid (decide (bnd ((k : Int) == 0) (o, n)) = decide (n ≤ 4096)) := by
                      rw [Hid, HB0.out]; exact decide_eq_decide.2 ⟨fun h => h.2.2.2, fun h => ⟨by omega, by omega, by omega, h⟩⟩
                    clear HB0 HB1
                    go_wp2
                    go_meet
                    exact ⟨dec4096 HV.out, rfl⟩
          · have hkf : ((k : Int) == 0) = false := by simp; omega
            have HB1 : Hid (decide (bnd ((k : Int) == 0) (o, n)) = decide (0 ≤ o ∧ o ≤ 2097152 ∧ 0 ≤ n ∧ n ≤ 4096)) := by rw [Hid, hkf]; exact decide_eq_decide.2 Iff.rfl
            have HB0 : Hid True := trivial
            have e1 : decide ((0 : Int) < (k : Int)) = true := decide_eq_true (by omega)
            have e2 : decide (0 < k) = true := decide_eq_true (by omega)
            have e3 : 0 < k := by omega
            clear HD HNB
            by_cases t1 : o < -1048576
            · have d0 : decide (o < -1048576) = true := decide_eq_true t1
              have HV : Hid (decide (bnd ((k : Int) == 0) (o, n)) = false) := by
                rw [Hid, HB1.out]; simp; omega
              clear HB0 HB1
              go_wp2
              go_meet
              exact ⟨by rw [HV.out]; rfl, rfl⟩
            · have d0 : decide (o < -1048576) = false := decide_eq_false t1
              by_cases t2 : 2097152 < o
              · have d1 : decide (2097152 < o) = true := decide_eq_true t2
                have HV : Hid (decide (bnd ((k : Int) == 0) (o, n)) = false) := by
                  rw [Hid, HB1.out]; simp; omega
                clear HB0 HB1
                go_wp2
                go_meet
                exact ⟨by rw [HV.out]; rfl, rfl⟩
              · have d1 : decide (2097152 < o) = false := decide_eq_false t2
                by_cases t3 : o < 0
                · have d2 : decide (o < 0) = true := decide_eq_true t3
                  have HV : Hid (decide (bnd ((k : Int) == 0) (o, n)) = false) := by
                    rw [Hid, HB1.out]; simp; omega
                  clear HB0 HB1
                  go_wp2
                  go_meet
                  exact ⟨by rw [HV.out]; rfl, rfl⟩
                · have d2 : decide (o < 0) = false := decide_eq_false t3
                  by_cases t4 : n < 0
                  · have d3 : decide (n < 0) = true := decide_eq_true t4
                    have HV : Hid (decide (bnd ((k : Int) == 0) (o, n)) = false) := by
                      rw [Hid, HB1.out]; simp; omega
                    clear HB0 HB1
                    go_wp2
                    go_meet
                    exact ⟨by rw [HV.out]; rfl, rfl⟩
                  · have d3 : decide (n < 0) = false := decide_eq_false t4
                    have HV : Hid (decide (bnd ((k : Int) == 0) (o, n)) = decide (n ≤ 4096)) := by
                      rw [Hid, HB1.out]; exact decide_eq_decide.2 ⟨fun h => h.2.2.2, fun h => ⟨by omega, by omega, by omega, h⟩⟩
                    clear HB0 HB1
                    go_wp2
                    go_meet
                    exact ⟨dec4096 HV.out, rfl⟩
        case rest =>
          obtain ⟨hc, hwx⟩ := hcut
          have hwx' := hwx.symm
          clear hwx
          subst hwx'
          by_cases hb : bnd ((k : Int) == 0) (o, n)
          · rw [show (!(decide (bnd ((k : Int) == 0) (o, n)))) = false from by rw [decide_eq_true hb]; rfl] at hc
            subst hc
            have hS : -1048576 ≤ o ∧ o ≤ 2097152 ∧ 0 ≤ n ∧ n ≤ 4096 := by
              obtain ⟨b1, b2, b3, b4⟩ := hb
              simp only at b1 b2 b3 b4
              refine ⟨?_, ?_, b3, b4⟩
              · unfold lo at b1; split at b1 <;> omega
              · unfold hi at b2; split at b2 <;> omega
            have HBN : Hid (bnd ((k : Int) == 0) (o, n)) := hb
            have HLOW : Hid (-1048576 ≤ B + o) := by
              by_cases h0 : k = 0
              · have := HBK.out h0; rw [Hid]; omega
              · have e : ((k : Int) == 0) = false := by simp; omega
                have h1 := hb.1
                rw [e] at h1
                have h2 : 0 ≤ o := by simpa [lo] using h1
                rw [Hid]; omega
            obtain ⟨hS1, hS2, hS3, hS4⟩ := hS
            have hlow := HLOW.out
            clear hb HNB
            by_cases t2 : B + o ≤ 1048576
            · obtain ⟨M, rfl⟩ : ∃ M : Nat, n = (M : Int) := ⟨n.toNat, by omega⟩
              have tl1 : decide (B + o < -1048576) = false := decide_eq_false (by omega)
              have tl2 : decide (1048576 < B + o) = false := decide_eq_false (by omega)
              go_wp2
              go_loopw [3, 4, 7] (fun q p i wx => ∃ (m : Nat), m ≤ M ∧ i = .int .i64 (m : Int) ∧ p = .int .i64 (P + (m : Int)) ∧ q = .int .i64 (B + o + (m : Int)) ∧ (m = 0 ∨ B + o + (m : Int) - 1 ≤ 1048576) ∧ wx = wk) (fun _ _ i _ => M - (intOf i).toNat)
              case atStart => exact ⟨0, by omega, rfl, by simp, by simp, .inl rfl, rfl⟩
              case round =>
                obtain ⟨m, hm, rfl, rfl, rfl, hmb, rfl⟩ := hrel
                have HMB : Hid (m = 0 ∨ B + o + (m : Int) - 1 ≤ 1048576) := hmb
                clear hmb
                by_cases hmlt : m < M
                · by_cases t3 : 1048576 < B + o + (m : Int)
                  · have HE : Hid (chk l = 20) := by
                      rw [Hid, HK.out, if_neg]
                      rw [HD.out]
                      intro h
                      have := h.2.2.2.1
                      simp only at this
                      omega
                    clear HD
                    go_wp2
                    go_ret
                    exact ⟨by rw [HE.out]; rfl, HF2.out⟩
                  · go_wp2
                    go_roundw
                    case rel => exact ⟨m + 1, by omega, by go_num, by rw [show P + ((m + 1 : Nat) : Int) = P + (m : Int) + 1 from by omega], by rw [show B + o + ((m + 1 : Nat) : Int) = B + o + (m : Int) + 1 from by omega], .inr (by omega), by trivial⟩
                    case measure => simp [intOf]; omega
                · obtain rfl : m = M := by omega
                  have hb3 : B + o + (m : Int) - 1 ≤ 1048576 := by
                    rcases HMB.out with h | h
                    · omega
                    · exact h
                  by_cases t4 : P + (m : Int) ≤ 4096
                  · go_wp2
                    go_roundw
                    case rel =>
                      refine ⟨k + 1, P + (m : Int), B + o + (m : Int), by omega, by go_num, rfl, rfl, ?_, by omega, by omega, by omega, by omega, by omega, HF2.out⟩
                      have e : (((k + 1 : Nat) : Int) == 0) = false := by simp; omega
                      rw [HD.out, e]
                      exact ⟨fun h => h.2.2.2.2, fun h => ⟨HBN.out, t4, t2, hb3, h⟩⟩
                    case measure => simp [intOf]; omega
                  · have HE : Hid (chk l = 20) := by
                      rw [Hid, HK.out, if_neg]
                      rw [HD.out]
                      exact fun h => t4 h.2.1
                    clear HD
                    go_wp2
                    go_ret
                    exact ⟨by rw [HE.out]; rfl, HF2.out⟩
            · have tl1 : decide (B + o < -1048576) = false := decide_eq_false (by omega)
              have tl2 : decide (1048576 < B + o) = true := decide_eq_true (by omega)
              have HE : Hid (chk l = 20) := by
                rw [Hid, HK.out, if_neg]
                rw [HD.out]
                exact fun h => t2 h.2.2.1
              clear HD
              go_wp2
              all_goals go_ret
              all_goals exact ⟨by rw [HE.out]; rfl, HF2.out⟩
          · rw [show (!(decide (bnd ((k : Int) == 0) (o, n)))) = true from by rw [decide_eq_false hb]; rfl] at hc
            subst hc
            have HE : Hid (chk l = 20) := HNB.out hb
            clear HNB HD hb
            go_wp2
            go_ret
            exact ⟨by rw [HE.out]; rfl, HF2.out⟩
      · have hkl : k = l.length := by omega
        have hyes : ok true 0 0 l := by
          rw [HO.out, List.drop_eq_nil_of_le (by omega)]
          trivial
        have HE : Hid (chk l = 0) := by rw [Hid, HK.out, if_pos hyes]
        clear hyes
        go_wp2
        go_ret
        exact ⟨by rw [HE.out]; rfl, HF.out⟩
end Go.Proofs.Ytnfbmdniomelnaa

/-
  The document's Places, Merge.
-/
namespace Go.Proofs.Ytnfbmdniomelnaa
open Go.RowKit Mem Spans
set_option linter.unusedSimpArgs false
set_option linter.unusedVariables false
set_option maxRecDepth 100000

theorem one_own {B : Nat} (w : World) (x : Int) (h : B ≤ w.heap.size) : IOwn B (w.alloc (.cells #[.int .i64 x] 3)) (.slice (some ⟨w.heap.size, 0, none⟩) 1 1) [x] :=
  .inr ⟨w.heap.size, h, by simp, Row.made (xs := inCells [x]) (by rw [heap_alloc_new]; rfl) (by unfold maxLen; decide) rfl⟩

set_option maxHeartbeats 4000000 in
theorem lplaces_any (v : Value) (l : List Sp) (w : World) (h : SSrc w v l) (hk0 : chk l = 0) :
    Calls Try.prog 39 #[v] w fun e w' => ∃ u, e = .returned u ∧ IOwn w.heap.size w' u (pls l) ∧ Fr [] w w' := by
  obtain ⟨ao, cap, rfl, hcap, hmax, h64, b, off, ha, hc⟩ := h
  have HC : Hid (∀ j s, l[j]? = some s → w.cell? ⟨b, off + j * 2, none⟩ = some (.int .i64 s.1) ∧ w.cell? ⟨b, off + j * 2 + 1, none⟩ = some (.int .i64 s.2)) := hc
  have HA : Hid (0 < l.length → ao = some ⟨b, off, none⟩) := ha
  have HPL : Hid (pls l = plc 0 l) := by unfold Hid pls; rw [if_pos hk0]
  have HLE : Hid ((plc 0 l).length ≤ 4096) := by rw [Hid, ← HPL.out]; exact pls_le l
  have hlen := (chk_zero.1 hk0).1
  have HO : Hid (ok true 0 0 l) := (chk_zero.1 hk0).2
  clear hc ha h64 hk0
  go_enter Try.func39, Try.ntmps39
  go_wp2
  go_loopw [3, 4, 5] (fun u p i wr => ∃ (k : Nat) (A : Int), k ≤ l.length ∧ i = .int .i64 (k : Int) ∧ p = .int .i64 A ∧ A = bhd 0 (l.take k) ∧ (k = 0 → A = 0) ∧ -1048576 ≤ A ∧ A ≤ 1048577 ∧ IOwn w.heap.size wr u (plc 0 (l.take k)) ∧ Fr [] w wr) (fun _ _ i _ => l.length - (intOf i).toNat)
  case atStart => exact ⟨0, 0, by omega, rfl, rfl, by simp [bhd], fun _ => rfl, by omega, by omega, .inl ⟨by simp [plc], rfl⟩, Fr.refl _ _⟩
  case round =>
    obtain ⟨k, A, hk, rfl, rfl, hA, hA0, hA1, hA2, hio, hf⟩ := hrel
    have HAA : Hid (A = bhd 0 (l.take k) ∧ (k = 0 → A = 0)) := ⟨hA, hA0⟩
    have HI : Hid (IOwn w.heap.size wr u3 (plc 0 (l.take k))) := hio
    have HF : Hid (Fr [] w wr) := hf
    clear hA hA0 hio hf
    by_cases hlt : k < l.length
    · obtain rfl := HA.out (by omega)
      obtain ⟨s, hs⟩ := at_lt hlt
      have c0 : wr.cell? ⟨b, off + k * 2, none⟩ = some (.int .i64 s.1) := HF.out.cell_some (HC.out k s hs).1 (by simp)
      have hat := ok_at HO.out k s hs
      have hod : ok (decide (k = 0)) (cnt (l.take k)) (bhd 0 (l.take k)) (s :: l.drop (k + 1)) := by rw [← drop_at hs]; exact ok_drop HO.out k
      obtain ⟨_, _, ho1, ho2, _⟩ := hod
      rw [← HAA.out.1] at ho1 ho2
      have HTK : Hid (plc 0 (l.take (k + 1)) = plc 0 (l.take k) ++ run (A + s.1) s.2.toNat ∧ bhd 0 (l.take (k + 1)) = A + s.1 + s.2) := by
        rw [Hid, take_at hs, plc_append, bhd_append, ← HAA.out.1]
        simp [plc, bhd]
      have HLow : Hid (-1048576 ≤ A + s.1) := by
        by_cases h0 : k = 0
        · have := HAA.out.2 h0; rw [Hid]; omega
        · have := hat.2.2.2.2 (by omega); rw [Hid]; omega
      have HPB : Hid ((plc 0 (l.take (k + 1))).length ≤ 4096) := by
        have h1 : plc 0 (l.take (k + 1)) <+: plc 0 l := by
          conv => rhs; rw [← List.take_append_drop (k + 1) l]
          rw [plc_append]
          exact List.prefix_append _ _
        have := h1.length_le
        have := HLE.out
        rw [Hid]; omega
      have hlow := HLow.out
      obtain ⟨hat1, hat2, hat3, hat4, _⟩ := hat
      have HCK : Hid (∀ wx, Fr [] w wx → wx.cell? ⟨b, off + k * 2 + 1, none⟩ = some (.int .i64 s.2)) := fun wx hx => hx.cell_some (HC.out k s hs).2 (by simp)
      clear HLow hs
      obtain ⟨o, q⟩ := s
      simp only at c0 hat1 hat2 hat3 hat4 ho1 ho2 hlow
      obtain ⟨M, rfl⟩ : ∃ M : Nat, q = (M : Int) := ⟨q.toNat, by omega⟩
      have HTK2 : Hid (plc 0 (l.take (k + 1)) = plc 0 (l.take k) ++ run (A + o) M ∧ bhd 0 (l.take (k + 1)) = A + o + (M : Int)) := by
        have := HTK.out
        simp only [Int.toNat_natCast] at this
        exact this
      clear HTK
      go_wp2
      go_loopw [3, 4, 6] (fun u p i wx => ∃ (m : Nat), m ≤ M ∧ i = .int .i64 (m : Int) ∧ p = .int .i64 (A + o + (m : Int)) ∧ IOwn w.heap.size wx u (plc 0 (l.take k) ++ run (A + o) m) ∧ Fr [] w wx) (fun _ _ i _ => M - (intOf i).toNat)
      case atStart => exact ⟨0, by omega, rfl, by simp, by simpa [run] using HI.out, HF.out⟩
      case round =>
        obtain ⟨m, hm, rfl, rfl, hio, hf⟩ := hrel
        have HI2 : Hid (IOwn w.heap.size wr u3 (plc 0 (l.take k) ++ run (A + o) m)) := hio
        have HF2 : Hid (Fr [] w wr) := hf
        have c1 := HCK.out wr hf
        clear hio hf
        by_cases hmlt : m < M
        · have HL2 : Hid ((plc 0 (l.take k) ++ run (A + o) m).length + [A + o + (m : Int)].length ≤ 1000000) := by
            have := HPB.out
            rw [HTK2.out.1] at this
            simp only [List.length_append, run_length, List.length_singleton] at this ⊢
            rw [Hid]; omega
          have HSN : Hid (plc 0 (l.take k) ++ run (A + o) (m + 1) = plc 0 (l.take k) ++ run (A + o) m ++ [A + o + (m : Int)]) := by rw [Hid, run_snoc, ← List.append_assoc]
          go_wp2_with (at_builtin; refine wpList_append_ints _ rfl _ _ rfl (B := w.heap.size) (by have := HF2.out.size; simp; omega) rfl rfl (HI2.out.kept ((Fr.refl [] _).alloc _)) (one_own wr (A + o + (m : Int)) HF2.out.size) HL2.out ?_; intro v3 w3 ho3 hb3; have HO3 : Hid (IOwn w.heap.size w3 v3 (plc 0 (l.take k) ++ run (A + o) m ++ [A + o + (m : Int)])) := ho3; have HB3 : Hid (Fr [] w w3) := Fr.ofBelow (((HF2.out.alloc _).below (Nat.le_refl _) (by simp)).trans hb3); clear ho3 hb3)
          go_roundw
          case rel => exact ⟨m + 1, by omega, by go_num, by rw [show A + o + ((m + 1 : Nat) : Int) = A + o + (m : Int) + 1 from by omega], by rw [HSN.out]; exact HO3.out, HB3.out⟩
          case measure => simp [intOf]; omega
        · obtain rfl : m = M := by omega
          go_wp2
          go_roundw
          case rel => exact ⟨k + 1, A + o + (m : Int), by omega, by go_num, rfl, HTK2.out.2.symm, by omega, by omega, by omega, by rw [HTK2.out.1]; exact HI2.out, HF2.out⟩
          case measure => simp [intOf]; omega
    · have HI3 : Hid (IOwn w.heap.size wr u3 (pls l)) := by
        have := HI.out
        rw [List.take_of_length_le (by omega)] at this
        rw [Hid, HPL.out]
        exact this
      clear HI
      go_wp2
      go_ret
      exact ⟨_, rfl, HI3.out, HF.out⟩

end Go.Proofs.Ytnfbmdniomelnaa
