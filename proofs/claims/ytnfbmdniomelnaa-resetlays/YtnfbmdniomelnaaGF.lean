/-
  Resets, RFallen, RAgainst, ROf, RInts, RSame.
-/
import Derived.Test.YtnfbmdniomelnaaGD
/-
  Whether a counter began anew, reckoned: the lowest place at which one has less than another one; the verdict.
-/
namespace Go.Proofs.Ytnfbmdniomelnaa
open Go.RowKit Mem Spans
set_option linter.unusedSimpArgs false
set_option linter.unusedVariables false

/-- How many there are at a place: 0 where it isn't. -/
def vat : List Sp → Int → Int
  | [], _ => 0
  | s :: t, p => if s.1 = p then s.2 else vat t p
/-- Their places rise. -/
def rsg (l : List Sp) : Prop := l.Pairwise fun s t => s.1 < t.1
/-- The first one that is above what the other one has there. -/
def fal (a b : List Sp) : Option Sp := a.find? fun s => decide (vat b s.1 < s.2)
def fap (o : Option Sp) : Int := match o with | some s => s.1 | none => 0

theorem vat_no {b : List Sp} {p : Int} (h : ∀ s ∈ b, s.1 ≠ p) : vat b p = 0 := by
  induction b with
  | nil => rfl
  | cons x t ih => rw [vat, if_neg (h x (by simp))]; exact ih (fun s hs => h s (by simp [hs]))
theorem vat_drop {b : List Sp} {p : Int} : ∀ (k : Nat), (∀ s ∈ b.take k, s.1 < p) → vat b p = vat (b.drop k) p := by
  induction b with
  | nil => intro k _; simp
  | cons x t ih =>
    intro k h
    rcases k with _ | k
    · rfl
    · have h1 := h x (by simp)
      rw [vat, if_neg (by omega), List.drop_succ_cons]
      exact ih k (fun s hs => h s (by simp [hs]))
theorem rsg_drop {b : List Sp} {t : Nat} {s : Sp} (h : rsg b) (hs : b[t]? = some s) : ∀ r ∈ b.drop (t + 1), s.1 < r.1 := by
  unfold rsg at h
  rw [← List.take_append_drop t b, drop_at hs, List.pairwise_append] at h
  exact (List.pairwise_cons.1 h.2.1).1
/-- What is there, told by the first one that isn't below it. -/
theorem vat_hit {b : List Sp} {p : Int} {t : Nat} {s : Sp} (h : ∀ r ∈ b.take t, r.1 < p) (hs : b[t]? = some s) (he : s.1 = p) : vat b p = s.2 := by
  rw [vat_drop t h, drop_at hs, vat, if_pos he]
theorem vat_miss {b : List Sp} {p : Int} {t : Nat} {s : Sp} (hb : rsg b) (h : ∀ r ∈ b.take t, r.1 < p) (hs : b[t]? = some s) (he : p < s.1) : vat b p = 0 := by
  rw [vat_drop t h, drop_at hs, vat, if_neg (by omega)]
  refine vat_no fun r hr => ?_
  have := rsg_drop hb hs r hr
  omega
theorem vat_end {b : List Sp} {p : Int} {t : Nat} (h : ∀ r ∈ b.take t, r.1 < p) (ht : b.length ≤ t) : vat b p = 0 := by
  rw [vat_drop t h, List.drop_eq_nil_of_le ht]; rfl
theorem take_below {b : List Sp} {p : Int} {t : Nat} {s : Sp} (h : ∀ r ∈ b.take t, r.1 < p) (hs : b[t]? = some s) (he : s.1 < p) : ∀ r ∈ b.take (t + 1), r.1 < p := by
  rw [take_at hs]
  intro r hr
  rcases List.mem_append.1 hr with hr | hr
  · exact h r hr
  · rw [List.mem_singleton.1 hr]; exact he
theorem fal_at {a b : List Sp} {k : Nat} {s : Sp} (hs : a[k]? = some s) : fal (a.drop k) b = if vat b s.1 < s.2 then some s else fal (a.drop (k + 1)) b := by
  unfold fal
  rw [drop_at hs, List.find?_cons]
  by_cases h : vat b s.1 < s.2
  · rw [if_pos h, decide_eq_true h]
  · rw [if_neg h, decide_eq_false h]
theorem fal_end {a b : List Sp} {k : Nat} (h : a.length ≤ k) : fal (a.drop k) b = none := by rw [List.drop_eq_nil_of_le h]; rfl
theorem fal_in {a b : List Sp} {s : Sp} (h : fal a b = some s) : s ∈ a ∧ vat b s.1 < s.2 := by
  unfold fal at h
  exact ⟨List.mem_of_find?_eq_some h, by simpa using List.find?_some h⟩
theorem fal_none {a b : List Sp} : fal a b = none ↔ ∀ s ∈ a, s.2 ≤ vat b s.1 := by
  unfold fal
  rw [List.find?_eq_none]
  constructor
  · intro h s hs
    have := h s hs
    simp only [decide_eq_true_eq] at this
    omega
  · intro h s hs
    have := h s hs
    simp only [decide_eq_true_eq]
    omega

/-- What of a histogram may tell. -/
structure Ct where
  s : Int
  z : Int
  c : Int
  k : Int
  p : List Sp
  n : List Sp
def vnm (a b : Ct) : Int := if b.s ≠ a.s then 1 else if b.z ≠ a.z then 2 else if b.c < a.c then 3 else if b.k < a.k then 4 else 0
def vrd (a b : Ct) : Int × Int :=
  if vnm a b = 0 then (match fal a.p b.p with | some x => (5, x.1) | none => (match fal a.n b.n with | some x => (6, x.1) | none => (0, 0))) else (vnm a b, 0)
def czero : Ct := ⟨0, 0, 0, 0, [], []⟩
def ctI (h : Hs) : Ct := if che h = 0 then ⟨h.s, h.z, h.c, h.zc, sdp h, sdn h⟩ else czero
def ctF (h : Fs) : Ct := if fce h = 0 then ⟨h.s, h.z, h.c, h.zc, fdp h, fdn h⟩ else czero
/-- Ints' and Floats' errors and verdicts. -/
def rie (a b : Hs) : Int := if che a = 0 then che b else che a
def riv (a b : Hs) : Int × Int := if rie a b = 0 then vrd (ctI a) (ctI b) else (0, 0)
def rfe (a b : Fs) : Int := if fce a = 0 then fce b else fce a
def rfv (a b : Fs) : Int × Int := if rfe a b = 0 then vrd (ctF a) (ctF b) else (0, 0)
/-- Does b go on from a? -/
def gon (a b : Hs) : Bool := decide (rie a b = 0 ∧ (riv a b).1 = 0)
end Go.Proofs.Ytnfbmdniomelnaa

/-
  Package reset: fallen.
-/
namespace Go.Proofs.Ytnfbmdniomelnaa
open Go.RowKit Mem Spans
set_option linter.unusedSimpArgs false
set_option linter.unusedVariables false
set_option maxRecDepth 100000

set_option maxHeartbeats 2000000 in
theorem fallen_any (v u : Value) (a b : List Sp) (w : World) (h : SSrc w v a) (h2 : SSrc w u b) (ha : rsg a) (hb : rsg b) :
    Calls Try.prog 48 #[v, u] w fun e w' => e = .returned (.tuple #[.int .i64 (fap (fal a b)), .bool (fal a b).isSome]) ∧ Fr [] w w' := by
  obtain ⟨ao, cap, rfl, hcap, hmax, _, g, off, hga, hc⟩ := h
  obtain ⟨bo, bcap, rfl, hbcap, hbmax, _, q, qoff, hqa, hd⟩ := h2
  have HC : Hid (∀ j s, a[j]? = some s → w.cell? ⟨g, off + j * 2, none⟩ = some (.int .i64 s.1) ∧ w.cell? ⟨g, off + j * 2 + 1, none⟩ = some (.int .i64 s.2)) := hc
  have HD : Hid (∀ j s, b[j]? = some s → w.cell? ⟨q, qoff + j * 2, none⟩ = some (.int .i64 s.1) ∧ w.cell? ⟨q, qoff + j * 2 + 1, none⟩ = some (.int .i64 s.2)) := hd
  have HA : Hid (0 < a.length → ao = some ⟨g, off, none⟩) := hga
  have HB : Hid (0 < b.length → bo = some ⟨q, qoff, none⟩) := hqa
  have HRA : Hid (rsg a) := ha
  have HRB : Hid (rsg b) := hb
  have hml : a.length ≤ 9223372036854775807 := by unfold maxLen at hmax; omega
  have hmb : b.length ≤ 9223372036854775807 := by unfold maxLen at hbmax; omega
  clear hc hd hga hqa ha hb
  go_enter Try.func48, Try.ntmps48
  go_wp2
  go_loopw [6, 12] (fun c i wr => ∃ (k t : Nat), k ≤ a.length ∧ t ≤ b.length ∧ i = .int .i64 (k : Int) ∧ c = .int .i64 (t : Int) ∧ (∀ r ∈ b.take t, ∀ s ∈ a.drop k, r.1 < s.1) ∧ fal a b = fal (a.drop k) b ∧ Fr [] w wr) (fun _ i _ => a.length - (intOf i).toNat)
  case atStart => exact ⟨0, 0, by omega, by omega, rfl, rfl, by simp, rfl, Fr.refl _ _⟩
  case round =>
    obtain ⟨k, t, hk, ht, rfl, rfl, hbl, hfa, hf⟩ := hrel
    have HF : Hid (Fr [] w wr) := hf
    have HBL : Hid (∀ r ∈ b.take t, ∀ s ∈ a.drop k, r.1 < s.1) := hbl
    have HFA : Hid (fal a b = fal (a.drop k) b) := hfa
    clear hf hbl hfa
    by_cases hlt : k < a.length
    · obtain rfl := HA.out (by omega)
      obtain ⟨s, hs⟩ := at_lt hlt
      have c0 : wr.cell? ⟨g, off + k * 2, none⟩ = some (.int .i64 s.1) := HF.out.cell_some (HC.out k s hs).1 (by simp)
      have c1 : wr.cell? ⟨g, off + k * 2 + 1, none⟩ = some (.int .i64 s.2) := HF.out.cell_some (HC.out k s hs).2 (by simp)
      have HS : Hid (a[k]? = some s) := hs
      have HB0 : Hid (∀ r ∈ b.take t, r.1 < s.1) := fun r hr => HBL.out r hr s (by rw [drop_at hs]; simp)
      clear hs
      obtain ⟨o, n⟩ := s
      simp only at c0 c1
      have HF2 : Hid (Fr [] w (wr.alloc (.cells #[.int .i64 o, .int .i64 n] 113))) := HF.out.alloc _
      go_wp2_with fail
      have HG : Hid (Fr [] w (wr.alloc (.cells #[.int .i64 o, .int .i64 n] 113)) ∧ (wr.alloc (.cells #[.int .i64 o, .int .i64 n] 113)).cell? ⟨wr.heap.size, 0, none⟩ = some (.int .i64 o) ∧ (wr.alloc (.cells #[.int .i64 o, .int .i64 n] 113)).cell? ⟨wr.heap.size, 1, none⟩ = some (.int .i64 n)) := ⟨HF2.out, cell_at (heap_alloc_new _ _) 0, cell_at (heap_alloc_new _ _) 1⟩
      clear HF2 c0 c1
      generalize (wr.alloc (.cells _ _)) = wA at HG ⊢
      generalize wr.heap.size = G at HG ⊢
      go_loopw [6] (fun c wx => ∃ (m : Nat), m ≤ b.length ∧ c = .int .i64 (m : Int) ∧ (∀ r ∈ b.take m, r.1 < o) ∧ Fr [] wA wx) (fun c _ => b.length - (intOf c).toNat)
      case atStart => exact ⟨t, ht, rfl, HB0.out, Fr.refl _ _⟩
      case round =>
        obtain ⟨m, hm, rfl, hb0, hfm⟩ := hrel
        have HBM : Hid (∀ r ∈ b.take m, r.1 < o) := hb0
        have HFM : Hid (Fr [] wA wr) := hfm
        have p0 : wr.cell? ⟨G, 0, none⟩ = some (.int .i64 o) := hfm.cell_some HG.out.2.1 (by simp)
        have p1 : wr.cell? ⟨G, 1, none⟩ = some (.int .i64 n) := hfm.cell_some HG.out.2.2 (by simp)
        clear hb0 hfm
        by_cases hmlt : m < b.length
        · obtain rfl := HB.out (by omega)
          obtain ⟨r, hr⟩ := at_lt hmlt
          have d0 : wr.cell? ⟨q, qoff + m * 2, none⟩ = some (.int .i64 r.1) := HFM.out.cell_some (HG.out.1.cell_some (HD.out m r hr).1 (by simp)) (by simp)
          have d1 : wr.cell? ⟨q, qoff + m * 2 + 1, none⟩ = some (.int .i64 r.2) := HFM.out.cell_some (HG.out.1.cell_some (HD.out m r hr).2 (by simp)) (by simp)
          have HR : Hid (b[m]? = some r) := hr
          clear hr
          obtain ⟨x, y⟩ := r
          simp only at d0 d1
          by_cases hxo : x < o
          · have HB2 : Hid (∀ r ∈ b.take (m + 1), r.1 < o) := take_below HBM.out HR.out hxo
            go_wp2_with fail
            go_quiet (fail)
            go_wp2
            go_roundw
            case rel => exact ⟨m + 1, by omega, by go_num, HB2.out, HFM.out.trans (fr_drewN _ _) (by simp)⟩
            case measure => simp [intOf]; omega
          · have HDD : Hid (∀ i, Fr [] w (wr.drewN i)) := fun i => (HG.out.1.trans HFM.out (by simp)).trans (fr_drewN _ i) (by simp)
            have HNX : Hid (∀ r ∈ b.take m, ∀ s ∈ a.drop (k + 1), r.1 < s.1) := fun r hr s hs => Int.lt_trans (HBM.out r hr) (rsg_drop HRA.out HS.out s hs)
            by_cases hxe : x = o
            · subst hxe
              have HV : Hid (vat b x = y) := vat_hit HBM.out HR.out rfl
              by_cases hf : y < n
              · have HE : Hid (fal a b = some (x, n)) := by rw [Hid, HFA.out, fal_at HS.out, if_pos (by simp only [HV.out]; exact hf)]
                go_wp2_with fail
                go_quiet (fail)
                go_wp2_with fail
                go_quiet (fail)
                go_wp2
                go_ret2
                exact ⟨by rw [HE.out]; rfl, HDD.out _⟩
              · have HE : Hid (fal a b = fal (a.drop (k + 1)) b) := by rw [Hid, HFA.out, fal_at HS.out, if_neg (by simp only [HV.out]; exact hf)]
                go_wp2_with fail
                go_quiet (fail)
                go_wp2_with fail
                go_quiet (fail)
                go_wp2
                go_roundw
                case rel => exact ⟨k + 1, m, by omega, hm, by go_num, rfl, HNX.out, HE.out, HDD.out _⟩
                case measure => simp [intOf]; omega
            · have HV : Hid (vat b o = 0) := vat_miss HRB.out HBM.out HR.out (by simp only; omega)
              by_cases hf : (0 : Int) < n
              · have HE : Hid (fal a b = some (o, n)) := by rw [Hid, HFA.out, fal_at HS.out, if_pos (by simp only [HV.out]; exact hf)]
                go_wp2_with fail
                go_quiet (fail)
                go_wp2_with fail
                go_quiet (fail)
                go_wp2
                go_ret2
                exact ⟨by rw [HE.out]; rfl, HDD.out _⟩
              · have HE : Hid (fal a b = fal (a.drop (k + 1)) b) := by rw [Hid, HFA.out, fal_at HS.out, if_neg (by simp only [HV.out]; exact hf)]
                go_wp2_with fail
                go_quiet (fail)
                go_wp2_with fail
                go_quiet (fail)
                go_wp2
                go_roundw
                case rel => exact ⟨k + 1, m, by omega, hm, by go_num, rfl, HNX.out, HE.out, HDD.out _⟩
                case measure => simp [intOf]; omega
        · have HDD : Hid (∀ i, Fr [] w (wr.drewN i)) := fun i => (HG.out.1.trans HFM.out (by simp)).trans (fr_drewN _ i) (by simp)
          have HNX : Hid (∀ r ∈ b.take m, ∀ s ∈ a.drop (k + 1), r.1 < s.1) := fun r hr s hs => Int.lt_trans (HBM.out r hr) (rsg_drop HRA.out HS.out s hs)
          have HV : Hid (vat b o = 0) := vat_end HBM.out (by omega)
          by_cases hf : (0 : Int) < n
          · have HE : Hid (fal a b = some (o, n)) := by rw [Hid, HFA.out, fal_at HS.out, if_pos (by simp only [HV.out]; exact hf)]
            go_wp2_with fail
            go_quiet (fail)
            go_wp2_with fail
            go_quiet (fail)
            go_wp2
            go_ret2
            exact ⟨by rw [HE.out]; rfl, HDD.out _⟩
          · have HE : Hid (fal a b = fal (a.drop (k + 1)) b) := by rw [Hid, HFA.out, fal_at HS.out, if_neg (by simp only [HV.out]; exact hf)]
            go_wp2_with fail
            go_quiet (fail)
            go_wp2_with fail
            go_quiet (fail)
            go_wp2
            go_roundw
            case rel => exact ⟨k + 1, m, by omega, hm, by go_num, rfl, HNX.out, HE.out, HDD.out _⟩
            case measure => simp [intOf]; omega
    · have HE : Hid (fal a b = none) := by rw [Hid, HFA.out, fal_end (by omega)]
      go_wp2
      go_ret2
      exact ⟨by rw [HE.out]; rfl, HF.out⟩

set_option maxHeartbeats 2000000 in
theorem fallenU_any (v u : Value) (a b : List Sp) (w : World) (h : PSrc w v a) (h2 : PSrc w u b) (ha : rsg a) (hb : rsg b) :
    Calls Try.prog 54 #[v, u] w fun e w' => e = .returned (.tuple #[.int .i64 (fap (fal a b)), .bool (fal a b).isSome]) ∧ Fr [] w w' := by
  obtain ⟨ao, cap, rfl, hcap, hmax, _, g, off, hga, hc⟩ := h
  obtain ⟨bo, bcap, rfl, hbcap, hbmax, _, q, qoff, hqa, hd⟩ := h2
  have HC : Hid (∀ j s, a[j]? = some s → w.cell? ⟨g, off + j * 2, none⟩ = some (.int .i64 s.1) ∧ w.cell? ⟨g, off + j * 2 + 1, none⟩ = some (.int .u64 s.2)) := hc
  have HD : Hid (∀ j s, b[j]? = some s → w.cell? ⟨q, qoff + j * 2, none⟩ = some (.int .i64 s.1) ∧ w.cell? ⟨q, qoff + j * 2 + 1, none⟩ = some (.int .u64 s.2)) := hd
  have HA : Hid (0 < a.length → ao = some ⟨g, off, none⟩) := hga
  have HB : Hid (0 < b.length → bo = some ⟨q, qoff, none⟩) := hqa
  have HRA : Hid (rsg a) := ha
  have HRB : Hid (rsg b) := hb
  have hml : a.length ≤ 9223372036854775807 := by unfold maxLen at hmax; omega
  have hmb : b.length ≤ 9223372036854775807 := by unfold maxLen at hbmax; omega
  clear hc hd hga hqa ha hb
  go_enter Try.func54, Try.ntmps54
  go_wp2
  go_loopw [6, 12] (fun c i wr => ∃ (k t : Nat), k ≤ a.length ∧ t ≤ b.length ∧ i = .int .i64 (k : Int) ∧ c = .int .i64 (t : Int) ∧ (∀ r ∈ b.take t, ∀ s ∈ a.drop k, r.1 < s.1) ∧ fal a b = fal (a.drop k) b ∧ Fr [] w wr) (fun _ i _ => a.length - (intOf i).toNat)
  case atStart => exact ⟨0, 0, by omega, by omega, rfl, rfl, by simp, rfl, Fr.refl _ _⟩
  case round =>
    obtain ⟨k, t, hk, ht, rfl, rfl, hbl, hfa, hf⟩ := hrel
    have HF : Hid (Fr [] w wr) := hf
    have HBL : Hid (∀ r ∈ b.take t, ∀ s ∈ a.drop k, r.1 < s.1) := hbl
    have HFA : Hid (fal a b = fal (a.drop k) b) := hfa
    clear hf hbl hfa
    by_cases hlt : k < a.length
    · obtain rfl := HA.out (by omega)
      obtain ⟨s, hs⟩ := at_lt hlt
      have c0 : wr.cell? ⟨g, off + k * 2, none⟩ = some (.int .i64 s.1) := HF.out.cell_some (HC.out k s hs).1 (by simp)
      have c1 : wr.cell? ⟨g, off + k * 2 + 1, none⟩ = some (.int .u64 s.2) := HF.out.cell_some (HC.out k s hs).2 (by simp)
      have HS : Hid (a[k]? = some s) := hs
      have HB0 : Hid (∀ r ∈ b.take t, r.1 < s.1) := fun r hr => HBL.out r hr s (by rw [drop_at hs]; simp)
      clear hs
      obtain ⟨o, n⟩ := s
      simp only at c0 c1
      have HF2 : Hid (Fr [] w (wr.alloc (.cells #[.int .i64 o, .int .u64 n] 122))) := HF.out.alloc _
      go_wp2_with fail
      have HG : Hid (Fr [] w (wr.alloc (.cells #[.int .i64 o, .int .u64 n] 122)) ∧ (wr.alloc (.cells #[.int .i64 o, .int .u64 n] 122)).cell? ⟨wr.heap.size, 0, none⟩ = some (.int .i64 o) ∧ (wr.alloc (.cells #[.int .i64 o, .int .u64 n] 122)).cell? ⟨wr.heap.size, 1, none⟩ = some (.int .u64 n)) := ⟨HF2.out, cell_at (heap_alloc_new _ _) 0, cell_at (heap_alloc_new _ _) 1⟩
      clear HF2 c0 c1
      generalize (wr.alloc (.cells _ _)) = wA at HG ⊢
      generalize wr.heap.size = G at HG ⊢
      go_loopw [6] (fun c wx => ∃ (m : Nat), m ≤ b.length ∧ c = .int .i64 (m : Int) ∧ (∀ r ∈ b.take m, r.1 < o) ∧ Fr [] wA wx) (fun c _ => b.length - (intOf c).toNat)
      case atStart => exact ⟨t, ht, rfl, HB0.out, Fr.refl _ _⟩
      case round =>
        obtain ⟨m, hm, rfl, hb0, hfm⟩ := hrel
        have HBM : Hid (∀ r ∈ b.take m, r.1 < o) := hb0
        have HFM : Hid (Fr [] wA wr) := hfm
        have p0 : wr.cell? ⟨G, 0, none⟩ = some (.int .i64 o) := hfm.cell_some HG.out.2.1 (by simp)
        have p1 : wr.cell? ⟨G, 1, none⟩ = some (.int .u64 n) := hfm.cell_some HG.out.2.2 (by simp)
        clear hb0 hfm
        by_cases hmlt : m < b.length
        · obtain rfl := HB.out (by omega)
          obtain ⟨r, hr⟩ := at_lt hmlt
          have d0 : wr.cell? ⟨q, qoff + m * 2, none⟩ = some (.int .i64 r.1) := HFM.out.cell_some (HG.out.1.cell_some (HD.out m r hr).1 (by simp)) (by simp)
          have d1 : wr.cell? ⟨q, qoff + m * 2 + 1, none⟩ = some (.int .u64 r.2) := HFM.out.cell_some (HG.out.1.cell_some (HD.out m r hr).2 (by simp)) (by simp)
          have HR : Hid (b[m]? = some r) := hr
          clear hr
          obtain ⟨x, y⟩ := r
          simp only at d0 d1
          by_cases hxo : x < o
          · have HB2 : Hid (∀ r ∈ b.take (m + 1), r.1 < o) := take_below HBM.out HR.out hxo
            go_wp2_with fail
            go_quiet (fail)
            go_wp2
            go_roundw
            case rel => exact ⟨m + 1, by omega, by go_num, HB2.out, HFM.out.trans (fr_drewN _ _) (by simp)⟩
            case measure => simp [intOf]; omega
          · have HDD : Hid (∀ i, Fr [] w (wr.drewN i)) := fun i => (HG.out.1.trans HFM.out (by simp)).trans (fr_drewN _ i) (by simp)
            have HNX : Hid (∀ r ∈ b.take m, ∀ s ∈ a.drop (k + 1), r.1 < s.1) := fun r hr s hs => Int.lt_trans (HBM.out r hr) (rsg_drop HRA.out HS.out s hs)
            by_cases hxe : x = o
            · subst hxe
              have HV : Hid (vat b x = y) := vat_hit HBM.out HR.out rfl
              by_cases hf : y < n
              · have HE : Hid (fal a b = some (x, n)) := by rw [Hid, HFA.out, fal_at HS.out, if_pos (by simp only [HV.out]; exact hf)]
                go_wp2_with fail
                go_quiet (fail)
                go_wp2_with fail
                go_quiet (fail)
                go_wp2
                go_ret2
                exact ⟨by rw [HE.out]; rfl, HDD.out _⟩
              · have HE : Hid (fal a b = fal (a.drop (k + 1)) b) := by rw [Hid, HFA.out, fal_at HS.out, if_neg (by simp only [HV.out]; exact hf)]
                go_wp2_with fail
                go_quiet (fail)
                go_wp2_with fail
                go_quiet (fail)
                go_wp2
                go_roundw
                case rel => exact ⟨k + 1, m, by omega, hm, by go_num, rfl, HNX.out, HE.out, HDD.out _⟩
                case measure => simp [intOf]; omega
            · have HV : Hid (vat b o = 0) := vat_miss HRB.out HBM.out HR.out (by simp only; omega)
              by_cases hf : (0 : Int) < n
              · have HE : Hid (fal a b = some (o, n)) := by rw [Hid, HFA.out, fal_at HS.out, if_pos (by simp only [HV.out]; exact hf)]
                go_wp2_with fail
                go_quiet (fail)
                go_wp2_with fail
                go_quiet (fail)
                go_wp2
                go_ret2
                exact ⟨by rw [HE.out]; rfl, HDD.out _⟩
              · have HE : Hid (fal a b = fal (a.drop (k + 1)) b) := by rw [Hid, HFA.out, fal_at HS.out, if_neg (by simp only [HV.out]; exact hf)]
                go_wp2_with fail
                go_quiet (fail)
                go_wp2_with fail
                go_quiet (fail)
                go_wp2
                go_roundw
                case rel => exact ⟨k + 1, m, by omega, hm, by go_num, rfl, HNX.out, HE.out, HDD.out _⟩
                case measure => simp [intOf]; omega
        · have HDD : Hid (∀ i, Fr [] w (wr.drewN i)) := fun i => (HG.out.1.trans HFM.out (by simp)).trans (fr_drewN _ i) (by simp)
          have HNX : Hid (∀ r ∈ b.take m, ∀ s ∈ a.drop (k + 1), r.1 < s.1) := fun r hr s hs => Int.lt_trans (HBM.out r hr) (rsg_drop HRA.out HS.out s hs)
          have HV : Hid (vat b o = 0) := vat_end HBM.out (by omega)
          by_cases hf : (0 : Int) < n
          · have HE : Hid (fal a b = some (o, n)) := by rw [Hid, HFA.out, fal_at HS.out, if_pos (by simp only [HV.out]; exact hf)]
            go_wp2_with fail
            go_quiet (fail)
            go_wp2_with fail
            go_quiet (fail)
            go_wp2
            go_ret2
            exact ⟨by rw [HE.out]; rfl, HDD.out _⟩
          · have HE : Hid (fal a b = fal (a.drop (k + 1)) b) := by rw [Hid, HFA.out, fal_at HS.out, if_neg (by simp only [HV.out]; exact hf)]
            go_wp2_with fail
            go_quiet (fail)
            go_wp2_with fail
            go_quiet (fail)
            go_wp2
            go_roundw
            case rel => exact ⟨k + 1, m, by omega, hm, by go_num, rfl, HNX.out, HE.out, HDD.out _⟩
            case measure => simp [intOf]; omega
    · have HE : Hid (fal a b = none) := by rw [Hid, HFA.out, fal_end (by omega)]
      go_wp2
      go_ret2
      exact ⟨by rw [HE.out]; rfl, HF.out⟩
end Go.Proofs.Ytnfbmdniomelnaa

/-
  Package reset: against.
-/
namespace Go.Proofs.Ytnfbmdniomelnaa
open Go.RowKit Mem Spans
set_option linter.unusedSimpArgs false
set_option linter.unusedVariables false
set_option maxRecDepth 100000

/-- A counter as a value. -/
def CSrc (w : World) (v : Value) (c : Ct) : Prop :=
  ∃ vp vn, v = .agg #[.int .i64 c.s, .int .u64 c.z, .int .u64 c.c, .int .u64 c.k, vp, vn] ∧ SSrc w vp c.p ∧ SSrc w vn c.n ∧ rsg c.p ∧ rsg c.n
def DSrc (w : World) (v : Value) (c : Ct) : Prop :=
  ∃ vp vn, v = .agg #[.int .i64 c.s, .int .u64 c.z, .int .u64 c.c, .int .u64 c.k, vp, vn] ∧ PSrc w vp c.p ∧ PSrc w vn c.n ∧ rsg c.p ∧ rsg c.n
theorem CSrc.kept {w w' : World} {v : Value} {c : Ct} (h : CSrc w v c) (f : Fr [] w w') : CSrc w' v c := by
  obtain ⟨a, b, h1, h2, h3, h4⟩ := h
  exact ⟨a, b, h1, h2.kept f, h3.kept f, h4⟩
theorem DSrc.kept {w w' : World} {v : Value} {c : Ct} (h : DSrc w v c) (f : Fr [] w w') : DSrc w' v c := by
  obtain ⟨a, b, h1, h2, h3, h4⟩ := h
  exact ⟨a, b, h1, h2.kept f, h3.kept f, h4⟩
/-- A block of such a counter. -/
def SixC (w : World) (b : Nat) (cs : Array Value) : Prop := w.heap[b]? = some (.cells cs 66 (0, 0))
def SixD (w : World) (b : Nat) (cs : Array Value) : Prop := w.heap[b]? = some (.cells cs 80 (0, 0))
/-- The result's block. -/
def Two (g : Nat) (w : World) (cs : Array Value) : Prop := w.heap[g + 1 + 1]? = some (.cells cs 30 (0, 0))
theorem Try.sizeOf30 : (Try.prog.info? 30).map (·.size) = some 2 := by kernel_rfl
theorem verdict_res {fn : Func} {p : Tmp} (h : fn.results = #[.cell p 30]) (tmps : Array Value) (w : World) (g : Nat) (a0 a1 : Value)
    (hp : tmps.getD p undef = .pointer (some ⟨g, 0, none⟩)) (hg : w.heap[g]? = some (.cells #[a0, a1] 30 (0, 0))) : (results fn tmps).run Try.prog w = .ok (.agg #[a0, a1]) w :=
  results_cell_row h tmps w g 30 #[a0, a1] (0, 0) _ hp hg Try.underlying30 rfl Try.sizeOf30
theorem two_set {w : World} {g : Nat} {a0 a1 : Value} (h : Two g w #[a0, a1]) (u0 u1 : Value) : ((w.setCell ⟨g + 1 + 1, 0, none⟩ u0).setCell ⟨g + 1 + 1, 1, none⟩ u1).heap[g + 1 + 1]? = some (.cells #[u0, u1] 30 (0, 0)) := by
  unfold Two at h
  simp [World.setCell, Array.getElem?_modify, h]
theorem two_fr {w w1 : World} (h : Fr [] w w1) (u0 u1 : Value) : Fr [] w ((w1.setCell ⟨w.heap.size + 1 + 1, 0, none⟩ u0).setCell ⟨w.heap.size + 1 + 1, 1, none⟩ u1) :=
  (h.setCell _ _ (.inr (by simp; omega))).setCell _ _ (.inr (by simp; omega))
theorem three_at (w : World) (A B Z : Array Value) : Hid (SixC (((w.alloc (.cells A 66)).alloc (.cells B 66)).alloc (.cells Z 30)) w.heap.size A ∧
    SixC (((w.alloc (.cells A 66)).alloc (.cells B 66)).alloc (.cells Z 30)) (w.heap.size + 1) B ∧
    Two w.heap.size (((w.alloc (.cells A 66)).alloc (.cells B 66)).alloc (.cells Z 30)) Z ∧
    Fr [] w (((w.alloc (.cells A 66)).alloc (.cells B 66)).alloc (.cells Z 30))) := by
  refine ⟨?_, ?_, ?_, (((Fr.refl [] w).alloc _).alloc _).alloc _⟩
  · exact (((Fr.refl [] (w.alloc _)).alloc _).alloc _).heap (heap_alloc_new w _) (by simp)
  · have := heap_alloc_new (w.alloc (.cells A 66)) (.cells B 66)
    rw [World.size_alloc] at this
    exact ((Fr.refl [] _).alloc _).heap this (by simp)
  · have := heap_alloc_new ((w.alloc (.cells A 66)).alloc (.cells B 66)) (.cells Z 30)
    rw [World.size_alloc, World.size_alloc] at this
    exact this

set_option maxHeartbeats 2000000 in
theorem against_any (u v : Value) (a b : Ct) (w : World) (h : CSrc w u a) (h2 : CSrc w v b) :
    Calls Try.prog 27 #[u, v] w fun e w' => e = .returned (.agg #[.int .i64 (vrd a b).1, .int .i64 (vrd a b).2]) ∧ Fr [] w w' := by
  obtain ⟨ap, an, rfl, hap, han, hrp, hrn⟩ := h
  obtain ⟨bp, bn, rfl, hbp, hbn, hsp, hsn⟩ := h2
  have HSR : Hid (SSrc w ap a.p ∧ SSrc w an a.n ∧ SSrc w bp b.p ∧ SSrc w bn b.n ∧ rsg a.p ∧ rsg a.n ∧ rsg b.p ∧ rsg b.n) := ⟨hap, han, hbp, hbn, hrp, hrn, hsp, hsn⟩
  obtain ⟨apo, apc, rfl, _⟩ := hap
  obtain ⟨ano, anc, rfl, _⟩ := han
  obtain ⟨bpo, bpc, rfl, _⟩ := hbp
  obtain ⟨bno, bnc, rfl, _⟩ := hbn
  obtain ⟨s, z, c, k, p, n⟩ := a
  obtain ⟨t, y, d, e, q, m⟩ := b
  simp only at HSR ⊢
  clear hrp hrn hsp hsn
  go_enter Try.func27, Try.ntmps27
  obtain ⟨A0, hA0⟩ : ∃ A0 : Array Value, A0 = #[.int .i64 s, .int .u64 z, .int .u64 c, .int .u64 k, .slice apo p.length apc, .slice ano n.length anc] := ⟨_, rfl⟩
  obtain ⟨B0, hB0⟩ : ∃ B0 : Array Value, B0 = #[.int .i64 t, .int .u64 y, .int .u64 d, .int .u64 e, .slice bpo q.length bpc, .slice bno m.length bnc] := ⟨_, rfl⟩
  have HA := three_at w A0 B0 #[.int .i64 0, .int .i64 0]
  subst hA0
  subst hB0
  go_upto_region 1 with fail
  generalize ((w.alloc (.cells _ _)).alloc (.cells _ _)).alloc (.cells _ _) = wA at HA ⊢
  have HFA : Hid (Fr [] w wA) := HA.out.2.2.2
  have HVA : Hid (Two w.heap.size wA #[.int .i64 0, .int .i64 0]) := HA.out.2.2.1
  have a0 := cell_at HA.out.1 0
  have a1 := cell_at HA.out.1 1
  have a2 := cell_at HA.out.1 2
  have a3 := cell_at HA.out.1 3
  have a4 := cell_at HA.out.1 4
  have a5 := cell_at HA.out.1 5
  have b0 := cell_at HA.out.2.1 0
  have b1 := cell_at HA.out.2.1 1
  have b2 := cell_at HA.out.2.1 2
  have b3 := cell_at HA.out.2.1 3
  have b4 := cell_at HA.out.2.1 4
  have b5 := cell_at HA.out.2.1 5
  have r0 := cell_at HA.out.2.2.1 0
  have r1 := cell_at HA.out.2.2.1 1
  have f0 : wA.frozen? ⟨w.heap.size + 1 + 1, 0, none⟩ = false := frozen_at HA.out.2.2.1 0
  have f1 : wA.frozen? ⟨w.heap.size + 1 + 1, 1, none⟩ = false := frozen_at HA.out.2.2.1 1
  simp at a0 a1 a2 a3 a4 a5 b0 b1 b2 b3 b4 b5 r0 r1
  clear HA
  by_cases h1 : t ≠ s
  · have HE : Hid (vrd ⟨s, z, c, k, p, n⟩ ⟨t, y, d, e, q, m⟩ = (1, 0)) := by unfold Hid vrd vnm; simp [h1]
    go_wp2
    refine bodyPost_ret (verdict_res rfl _ _ (w.heap.size + 1 + 1) _ _ rfl (two_set HVA.out _ _)) rfl ?_
    exact ⟨by rw [HE.out], two_fr HFA.out _ _⟩
  by_cases h2 : y ≠ z
  · have HE : Hid (vrd ⟨s, z, c, k, p, n⟩ ⟨t, y, d, e, q, m⟩ = (2, 0)) := by unfold Hid vrd vnm; simp [h1, h2]
    go_wp2
    refine bodyPost_ret (verdict_res rfl _ _ (w.heap.size + 1 + 1) _ _ rfl (two_set HVA.out _ _)) rfl ?_
    exact ⟨by rw [HE.out], two_fr HFA.out _ _⟩
  by_cases h3 : d < c
  · have HE : Hid (vrd ⟨s, z, c, k, p, n⟩ ⟨t, y, d, e, q, m⟩ = (3, 0)) := by unfold Hid vrd vnm; simp [h1, h2, h3]
    go_wp2
    refine bodyPost_ret (verdict_res rfl _ _ (w.heap.size + 1 + 1) _ _ rfl (two_set HVA.out _ _)) rfl ?_
    exact ⟨by rw [HE.out], two_fr HFA.out _ _⟩
  by_cases h4 : e < k
  · have HE : Hid (vrd ⟨s, z, c, k, p, n⟩ ⟨t, y, d, e, q, m⟩ = (4, 0)) := by unfold Hid vrd vnm; simp [h1, h2, h3, h4]
    go_wp2
    refine bodyPost_ret (verdict_res rfl _ _ (w.heap.size + 1 + 1) _ _ rfl (two_set HVA.out _ _)) rfl ?_
    exact ⟨by rw [HE.out], two_fr HFA.out _ _⟩
  have HE0 : Hid (vrd ⟨s, z, c, k, p, n⟩ ⟨t, y, d, e, q, m⟩ = (match fal p q with | some x => (5, x.1) | none => (match fal n m with | some x => (6, x.1) | none => (0, 0)))) := by unfold Hid vrd; exact if_pos (by unfold vnm; simp [h1, h2, h3, h4])
  go_wp2_with fail
  refine (fallen_any _ _ p q _ (HSR.out.1.kept HFA.out) (HSR.out.2.2.1.kept HFA.out) HSR.out.2.2.2.2.1 HSR.out.2.2.2.2.2.2.1).mono ?_
  rintro e1 w1 ⟨rfl, hf1⟩
  have HF1 : Hid (Fr [] w w1) := HFA.out.trans hf1 (by simp)
  have HV1 : Hid (Two w.heap.size w1 #[.int .i64 0, .int .i64 0]) := hf1.heap HVA.out (by simp)
  have A4 := hf1.cell_some a4 (by simp)
  have A5 := hf1.cell_some a5 (by simp)
  have B4 := hf1.cell_some b4 (by simp)
  have B5 := hf1.cell_some b5 (by simp)
  have R0 := cell_at HV1.out 0
  have R1 := cell_at HV1.out 1
  have F0 : w1.frozen? ⟨w.heap.size + 1 + 1, 0, none⟩ = false := frozen_at HV1.out 0
  have F1 : w1.frozen? ⟨w.heap.size + 1 + 1, 1, none⟩ = false := frozen_at HV1.out 1
  simp at R0 R1
  clear hf1 a0 a1 a2 a3 a4 a5 b0 b1 b2 b3 b4 b5 r0 r1 f0 f1
  cases hfp : fal p q with
  | some x =>
    have HE : Hid (vrd ⟨s, z, c, k, p, n⟩ ⟨t, y, d, e, q, m⟩ = (5, x.1)) := by rw [Hid, HE0.out, hfp]
    go_wp2
    refine bodyPost_ret (verdict_res rfl _ _ (w.heap.size + 1 + 1) _ _ rfl (two_set HV1.out _ _)) rfl ?_
    exact ⟨by rw [HE.out]; rfl, two_fr HF1.out _ _⟩
  | none =>
    have HE1 : Hid (vrd ⟨s, z, c, k, p, n⟩ ⟨t, y, d, e, q, m⟩ = (match fal n m with | some x => (6, x.1) | none => (0, 0))) := by rw [Hid, HE0.out, hfp]
    clear R0 R1 F0 F1 HE0
    go_wp2_with fail
    refine (fallen_any _ _ n m _ (HSR.out.2.1.kept HF1.out) (HSR.out.2.2.2.1.kept HF1.out) HSR.out.2.2.2.2.2.1 HSR.out.2.2.2.2.2.2.2).mono ?_
    rintro e2 w2 ⟨rfl, hf2⟩
    have HF2 : Hid (Fr [] w w2) := HF1.out.trans hf2 (by simp)
    have HV2 : Hid (Two w.heap.size w2 #[.int .i64 0, .int .i64 0]) := hf2.heap HV1.out (by simp)
    have R0 := cell_at HV2.out 0
    have R1 := cell_at HV2.out 1
    have F0 : w2.frozen? ⟨w.heap.size + 1 + 1, 0, none⟩ = false := frozen_at HV2.out 0
    have F1 : w2.frozen? ⟨w.heap.size + 1 + 1, 1, none⟩ = false := frozen_at HV2.out 1
    simp at R0 R1
    clear hf2 A4 A5 B4 B5
    cases hfn : fal n m with
    | some x =>
      have HE : Hid (vrd ⟨s, z, c, k, p, n⟩ ⟨t, y, d, e, q, m⟩ = (6, x.1)) := by rw [Hid, HE1.out, hfn]
      go_wp2
      refine bodyPost_ret (verdict_res rfl _ _ (w.heap.size + 1 + 1) _ _ rfl (two_set HV2.out _ _)) rfl ?_
      exact ⟨by rw [HE.out]; rfl, two_fr HF2.out _ _⟩
    | none =>
      have HE : Hid (vrd ⟨s, z, c, k, p, n⟩ ⟨t, y, d, e, q, m⟩ = (0, 0)) := by rw [Hid, HE1.out, hfn]
      go_wp2
      refine bodyPost_ret (verdict_res rfl _ _ (w.heap.size + 1 + 1) _ _ rfl (two_set HV2.out _ _)) rfl ?_
      exact ⟨by rw [HE.out], two_fr HF2.out _ _⟩

theorem threeU_at (w : World) (A B Z : Array Value) : Hid (SixD (((w.alloc (.cells A 80)).alloc (.cells B 80)).alloc (.cells Z 30)) w.heap.size A ∧
    SixD (((w.alloc (.cells A 80)).alloc (.cells B 80)).alloc (.cells Z 30)) (w.heap.size + 1) B ∧
    Two w.heap.size (((w.alloc (.cells A 80)).alloc (.cells B 80)).alloc (.cells Z 30)) Z ∧
    Fr [] w (((w.alloc (.cells A 80)).alloc (.cells B 80)).alloc (.cells Z 30))) := by
  refine ⟨?_, ?_, ?_, (((Fr.refl [] w).alloc _).alloc _).alloc _⟩
  · exact (((Fr.refl [] (w.alloc _)).alloc _).alloc _).heap (heap_alloc_new w _) (by simp)
  · have := heap_alloc_new (w.alloc (.cells A 80)) (.cells B 80)
    rw [World.size_alloc] at this
    exact ((Fr.refl [] _).alloc _).heap this (by simp)
  · have := heap_alloc_new ((w.alloc (.cells A 80)).alloc (.cells B 80)) (.cells Z 30)
    rw [World.size_alloc, World.size_alloc] at this
    exact this

set_option maxHeartbeats 2000000 in
theorem againstU_any (u v : Value) (a b : Ct) (w : World) (h : DSrc w u a) (h2 : DSrc w v b) :
    Calls Try.prog 36 #[u, v] w fun e w' => e = .returned (.agg #[.int .i64 (vrd a b).1, .int .i64 (vrd a b).2]) ∧ Fr [] w w' := by
  obtain ⟨ap, an, rfl, hap, han, hrp, hrn⟩ := h
  obtain ⟨bp, bn, rfl, hbp, hbn, hsp, hsn⟩ := h2
  have HSR : Hid (PSrc w ap a.p ∧ PSrc w an a.n ∧ PSrc w bp b.p ∧ PSrc w bn b.n ∧ rsg a.p ∧ rsg a.n ∧ rsg b.p ∧ rsg b.n) := ⟨hap, han, hbp, hbn, hrp, hrn, hsp, hsn⟩
  obtain ⟨apo, apc, rfl, _⟩ := hap
  obtain ⟨ano, anc, rfl, _⟩ := han
  obtain ⟨bpo, bpc, rfl, _⟩ := hbp
  obtain ⟨bno, bnc, rfl, _⟩ := hbn
  obtain ⟨s, z, c, k, p, n⟩ := a
  obtain ⟨t, y, d, e, q, m⟩ := b
  simp only at HSR ⊢
  clear hrp hrn hsp hsn
  go_enter Try.func36, Try.ntmps36
  obtain ⟨A0, hA0⟩ : ∃ A0 : Array Value, A0 = #[.int .i64 s, .int .u64 z, .int .u64 c, .int .u64 k, .slice apo p.length apc, .slice ano n.length anc] := ⟨_, rfl⟩
  obtain ⟨B0, hB0⟩ : ∃ B0 : Array Value, B0 = #[.int .i64 t, .int .u64 y, .int .u64 d, .int .u64 e, .slice bpo q.length bpc, .slice bno m.length bnc] := ⟨_, rfl⟩
  have HA := threeU_at w A0 B0 #[.int .i64 0, .int .i64 0]
  subst hA0
  subst hB0
  go_upto_region 1 with fail
  generalize ((w.alloc (.cells _ _)).alloc (.cells _ _)).alloc (.cells _ _) = wA at HA ⊢
  have HFA : Hid (Fr [] w wA) := HA.out.2.2.2
  have HVA : Hid (Two w.heap.size wA #[.int .i64 0, .int .i64 0]) := HA.out.2.2.1
  have a0 := cell_at HA.out.1 0
  have a1 := cell_at HA.out.1 1
  have a2 := cell_at HA.out.1 2
  have a3 := cell_at HA.out.1 3
  have a4 := cell_at HA.out.1 4
  have a5 := cell_at HA.out.1 5
  have b0 := cell_at HA.out.2.1 0
  have b1 := cell_at HA.out.2.1 1
  have b2 := cell_at HA.out.2.1 2
  have b3 := cell_at HA.out.2.1 3
  have b4 := cell_at HA.out.2.1 4
  have b5 := cell_at HA.out.2.1 5
  have r0 := cell_at HA.out.2.2.1 0
  have r1 := cell_at HA.out.2.2.1 1
  have f0 : wA.frozen? ⟨w.heap.size + 1 + 1, 0, none⟩ = false := frozen_at HA.out.2.2.1 0
  have f1 : wA.frozen? ⟨w.heap.size + 1 + 1, 1, none⟩ = false := frozen_at HA.out.2.2.1 1
  simp at a0 a1 a2 a3 a4 a5 b0 b1 b2 b3 b4 b5 r0 r1
  clear HA
  by_cases h1 : t ≠ s
  · have HE : Hid (vrd ⟨s, z, c, k, p, n⟩ ⟨t, y, d, e, q, m⟩ = (1, 0)) := by unfold Hid vrd vnm; simp [h1]
    go_wp2
    refine bodyPost_ret (verdict_res rfl _ _ (w.heap.size + 1 + 1) _ _ rfl (two_set HVA.out _ _)) rfl ?_
    exact ⟨by rw [HE.out], two_fr HFA.out _ _⟩
  by_cases h2 : y ≠ z
  · have HE : Hid (vrd ⟨s, z, c, k, p, n⟩ ⟨t, y, d, e, q, m⟩ = (2, 0)) := by unfold Hid vrd vnm; simp [h1, h2]
    go_wp2
    refine bodyPost_ret (verdict_res rfl _ _ (w.heap.size + 1 + 1) _ _ rfl (two_set HVA.out _ _)) rfl ?_
    exact ⟨by rw [HE.out], two_fr HFA.out _ _⟩
  by_cases h3 : d < c
  · have HE : Hid (vrd ⟨s, z, c, k, p, n⟩ ⟨t, y, d, e, q, m⟩ = (3, 0)) := by unfold Hid vrd vnm; simp [h1, h2, h3]
    go_wp2
    refine bodyPost_ret (verdict_res rfl _ _ (w.heap.size + 1 + 1) _ _ rfl (two_set HVA.out _ _)) rfl ?_
    exact ⟨by rw [HE.out], two_fr HFA.out _ _⟩
  by_cases h4 : e < k
  · have HE : Hid (vrd ⟨s, z, c, k, p, n⟩ ⟨t, y, d, e, q, m⟩ = (4, 0)) := by unfold Hid vrd vnm; simp [h1, h2, h3, h4]
    go_wp2
    refine bodyPost_ret (verdict_res rfl _ _ (w.heap.size + 1 + 1) _ _ rfl (two_set HVA.out _ _)) rfl ?_
    exact ⟨by rw [HE.out], two_fr HFA.out _ _⟩
  have HE0 : Hid (vrd ⟨s, z, c, k, p, n⟩ ⟨t, y, d, e, q, m⟩ = (match fal p q with | some x => (5, x.1) | none => (match fal n m with | some x => (6, x.1) | none => (0, 0)))) := by unfold Hid vrd; exact if_pos (by unfold vnm; simp [h1, h2, h3, h4])
  go_wp2_with fail
  refine (fallenU_any _ _ p q _ (HSR.out.1.kept HFA.out) (HSR.out.2.2.1.kept HFA.out) HSR.out.2.2.2.2.1 HSR.out.2.2.2.2.2.2.1).mono ?_
  rintro e1 w1 ⟨rfl, hf1⟩
  have HF1 : Hid (Fr [] w w1) := HFA.out.trans hf1 (by simp)
  have HV1 : Hid (Two w.heap.size w1 #[.int .i64 0, .int .i64 0]) := hf1.heap HVA.out (by simp)
  have A4 := hf1.cell_some a4 (by simp)
  have A5 := hf1.cell_some a5 (by simp)
  have B4 := hf1.cell_some b4 (by simp)
  have B5 := hf1.cell_some b5 (by simp)
  have R0 := cell_at HV1.out 0
  have R1 := cell_at HV1.out 1
  have F0 : w1.frozen? ⟨w.heap.size + 1 + 1, 0, none⟩ = false := frozen_at HV1.out 0
  have F1 : w1.frozen? ⟨w.heap.size + 1 + 1, 1, none⟩ = false := frozen_at HV1.out 1
  simp at R0 R1
  clear hf1 a0 a1 a2 a3 a4 a5 b0 b1 b2 b3 b4 b5 r0 r1 f0 f1
  cases hfp : fal p q with
  | some x =>
    have HE : Hid (vrd ⟨s, z, c, k, p, n⟩ ⟨t, y, d, e, q, m⟩ = (5, x.1)) := by rw [Hid, HE0.out, hfp]
    go_wp2
    refine bodyPost_ret (verdict_res rfl _ _ (w.heap.size + 1 + 1) _ _ rfl (two_set HV1.out _ _)) rfl ?_
    exact ⟨by rw [HE.out]; rfl, two_fr HF1.out _ _⟩
  | none =>
    have HE1 : Hid (vrd ⟨s, z, c, k, p, n⟩ ⟨t, y, d, e, q, m⟩ = (match fal n m with | some x => (6, x.1) | none => (0, 0))) := by rw [Hid, HE0.out, hfp]
    clear R0 R1 F0 F1 HE0
    go_wp2_with fail
    refine (fallenU_any _ _ n m _ (HSR.out.2.1.kept HF1.out) (HSR.out.2.2.2.1.kept HF1.out) HSR.out.2.2.2.2.2.1 HSR.out.2.2.2.2.2.2.2).mono ?_
    rintro e2 w2 ⟨rfl, hf2⟩
    have HF2 : Hid (Fr [] w w2) := HF1.out.trans hf2 (by simp)
    have HV2 : Hid (Two w.heap.size w2 #[.int .i64 0, .int .i64 0]) := hf2.heap HV1.out (by simp)
    have R0 := cell_at HV2.out 0
    have R1 := cell_at HV2.out 1
    have F0 : w2.frozen? ⟨w.heap.size + 1 + 1, 0, none⟩ = false := frozen_at HV2.out 0
    have F1 : w2.frozen? ⟨w.heap.size + 1 + 1, 1, none⟩ = false := frozen_at HV2.out 1
    simp at R0 R1
    clear hf2 A4 A5 B4 B5
    cases hfn : fal n m with
    | some x =>
      have HE : Hid (vrd ⟨s, z, c, k, p, n⟩ ⟨t, y, d, e, q, m⟩ = (6, x.1)) := by rw [Hid, HE1.out, hfn]
      go_wp2
      refine bodyPost_ret (verdict_res rfl _ _ (w.heap.size + 1 + 1) _ _ rfl (two_set HV2.out _ _)) rfl ?_
      exact ⟨by rw [HE.out]; rfl, two_fr HF2.out _ _⟩
    | none =>
      have HE : Hid (vrd ⟨s, z, c, k, p, n⟩ ⟨t, y, d, e, q, m⟩ = (0, 0)) := by rw [Hid, HE1.out, hfn]
      go_wp2
      refine bodyPost_ret (verdict_res rfl _ _ (w.heap.size + 1 + 1) _ _ rfl (two_set HV2.out _ _)) rfl ?_
      exact ⟨by rw [HE.out], two_fr HF2.out _ _⟩
end Go.Proofs.Ytnfbmdniomelnaa

/-
  Package reset: ofWhole, ofFloats.
-/
namespace Go.Proofs.Ytnfbmdniomelnaa
open Go.RowKit Mem Spans
set_option linter.unusedSimpArgs false
set_option linter.unusedVariables false
set_option maxRecDepth 100000

theorem rsg_fsts {l : List Sp} : rsg l ↔ (fsts l).Pairwise (· < ·) := by unfold rsg fsts; rw [List.pairwise_map]
theorem pls_rsp (l : List Sp) : (pls l).Pairwise (· < ·) := by
  unfold pls
  split
  · rename_i h; exact rises_pair (ok_rising (chk_zero.1 h).2)
  · exact List.Pairwise.nil
theorem sdl_rsg (l : List Sp) (d : List Int) : rsg (sdl l d) := by
  by_cases h : sde l d = 0
  · rw [rsg_fsts, (sdl_zip h).2.1]; exact pls_rsp l
  · unfold sdl; rw [if_neg h]; exact List.Pairwise.nil
theorem fsl_rsg (l : List Sp) (d : List Int) : rsg (fsl l d) := by
  by_cases h : fsd l d = 0
  · rw [rsg_fsts, (fsl_zip h).2.1]; exact pls_rsp l
  · unfold fsl; rw [if_neg h]; exact List.Pairwise.nil
theorem sdp_rsg (h : Hs) : rsg (sdp h) := by unfold sdp; split; exact sdl_rsg _ _; exact List.Pairwise.nil
theorem sdn_rsg (h : Hs) : rsg (sdn h) := by unfold sdn; split; exact sdl_rsg _ _; exact List.Pairwise.nil
theorem fdp_rsg (h : Fs) : rsg (fdp h) := by unfold fdp; split; exact fsl_rsg _ _; exact List.Pairwise.nil
theorem fdn_rsg (h : Fs) : rsg (fdn h) := by unfold fdn; split; exact fsl_rsg _ _; exact List.Pairwise.nil
theorem czero_src (w : World) : CSrc w (.agg #[.int .i64 0, .int .u64 0, .int .u64 0, .int .u64 0, .slice none 0 0, .slice none 0 0]) czero := ⟨_, _, rfl, SSrc.nil w, SSrc.nil w, List.Pairwise.nil, List.Pairwise.nil⟩
theorem dzero_src (w : World) : DSrc w (.agg #[.int .i64 0, .int .u64 0, .int .u64 0, .int .u64 0, .slice none 0 0, .slice none 0 0]) czero := ⟨_, _, rfl, PSrc.nil w, PSrc.nil w, List.Pairwise.nil, List.Pairwise.nil⟩

theorem Try.sizeOf66 : (Try.prog.info? 66).map (·.size) = some 6 := by kernel_rfl
theorem cnt_res {fn : Func} {p u : Tmp} (h : fn.results = #[.cell p 66, .tmp u]) (tmps : Array Value) (w : World) (g : Nat) (a0 a1 a2 a3 a4 a5 : Value)
    (hp : tmps.getD p undef = .pointer (some ⟨g, 0, none⟩)) (hg : SixC w g #[a0, a1, a2, a3, a4, a5]) : (results fn tmps).run Try.prog w = .ok (.tuple #[.agg #[a0, a1, a2, a3, a4, a5], tmps.getD u undef]) w := by
  rw [results_cell_tmp h tmps, hp]
  have := run_loadVar_row (P := Try.prog) w g 66 66 #[a0, a1, a2, a3, a4, a5] (0, 0) _ hg Try.underlying66 rfl Try.sizeOf66
  simp [asAddr, this]
/-- Six cells, written. -/
def set6 (w : World) (g : Nat) (u0 u1 u2 u3 u4 u5 : Value) : World := (((((w.setCell ⟨g, 0, none⟩ u0).setCell ⟨g, 1, none⟩ u1).setCell ⟨g, 2, none⟩ u2).setCell ⟨g, 3, none⟩ u3).setCell ⟨g, 4, none⟩ u4).setCell ⟨g, 5, none⟩ u5
theorem set6_fr {S : List Nat} {a b : World} {g : Nat} (h : Fr S a b) (hg : g ∈ S ∨ a.heap.size ≤ g) (u0 u1 u2 u3 u4 u5 : Value) : Fr S a (set6 b g u0 u1 u2 u3 u4 u5) :=
  (((((h.setCell _ _ hg).setCell _ _ hg).setCell _ _ hg).setCell _ _ hg).setCell _ _ hg).setCell _ _ hg
theorem set6_c {w : World} {g : Nat} {a0 a1 a2 a3 a4 a5 : Value} (h : SixC w g #[a0, a1, a2, a3, a4, a5]) (u0 u1 u2 u3 u4 u5 : Value) : SixC (set6 w g u0 u1 u2 u3 u4 u5) g #[u0, u1, u2, u3, u4, u5] := by
  unfold SixC at h ⊢
  simp [set6, World.setCell, Array.getElem?_modify, h]
theorem SixC.kept {w w' : World} {b : Nat} {cs : Array Value} {S : List Nat} (h : SixC w b cs) (f : Fr S w w') (hb : b ∉ S) : SixC w' b cs := f.heap h hb
theorem SixC.cell {w : World} {b : Nat} {cs : Array Value} (h : SixC w b cs) (i : Nat) {v : Value} (hv : cs[i]? = some v) : w.cell? ⟨b, i, none⟩ = some v := by rw [cell_at h]; exact hv
theorem SixC.frozen {w : World} {b : Nat} {cs : Array Value} (h : SixC w b cs) (i : Nat) : w.frozen? ⟨b, i, none⟩ = false := frozen_at h i
theorem sixC_top (w : World) (o : Obj) (cs : Array Value) : SixC ((w.alloc o).alloc (.cells cs 66)) (w.heap.size + 1) cs := by
  have := heap_alloc_new (w.alloc o) (.cells cs 66)
  rwa [World.size_alloc] at this

set_option maxHeartbeats 4000000 in
theorem ofWhole_any (v : Value) (h : Hs) (w : World) (hh : HSrc w v h) :
    Calls Try.prog 26 #[v] w fun e w' => ∃ u, e = .returned (.tuple #[u, .int .i64 (che h)]) ∧ CSrc w' u (ctI h) ∧ Fr [] w w' := by
  have HH : Hid (∀ wx, Fr [] w wx → HSrc wx v h) := fun wx hx => hh.kept hx
  obtain ⟨po, pc, no, nc, qo, qc, ro, rc, rfl, hin, hsr, _⟩ := hh.opens
  clear hh hin hsr
  go_enter Try.func26, Try.ntmps26
  obtain ⟨cs, hcs⟩ : ∃ cs : Array Value, cs = #[.int .i64 h.s, .int .u64 h.z, .int .u64 h.zc, .int .u64 h.c, .int .u64 h.sm, .slice po h.P.length pc, .slice no h.N.length nc, .slice qo h.pd.length qc, .slice ro h.nd.length rc] := ⟨_, rfl⟩
  have HA : Hid (∀ z, Nine ((w.alloc (.cells cs 26)).alloc (.cells z 66)) w.heap.size cs ∧ SixC ((w.alloc (.cells cs 26)).alloc (.cells z 66)) (w.heap.size + 1) z ∧ Fr [] w ((w.alloc (.cells cs 26)).alloc (.cells z 66))) := fun z => ⟨nine_mid _ _ _, sixC_top _ _ _, ((Fr.refl [] w).alloc _).alloc _⟩
  subst hcs
  go_wp2_with fail
  obtain ⟨hA3, hA6, hAF⟩ := HA.out #[.int .i64 0, .int .u64 0, .int .u64 0, .int .u64 0, .slice none 0 0, .slice none 0 0]
  clear HA
  generalize (w.alloc (.cells _ _)).alloc (.cells _ _) = wA at hA3 hA6 hAF ⊢
  refine (hpairs_any _ h 0 wA (HH.out _ hAF)).mono ?_
  rintro e w1 ⟨x, rfl, hx, hf1⟩
  have HF1 : Hid (Fr [] w w1) := hAF.trans hf1 (by simp)
  have H3 : Hid (Nine w1 w.heap.size _) := hA3.kept hf1 (by simp)
  have H6 : Hid (SixC w1 (w.heap.size + 1) _) := hA6.kept hf1 (by simp)
  have HSZ : Hid (w.heap.size + 1 < wA.heap.size) := lt_of_heap hA6
  have HS1 : Hid (wA.heap.size ≤ w1.heap.size) := hf1.size
  have HX : Hid (SOwn 113 wA.heap.size w1 x (sdp h)) := hx
  have HPZ : pre h 0 = che h := by unfold pre; rw [if_pos (.inl rfl)]
  rw [HPZ]
  clear hf1 hA3 hA6 hAF hx HPZ
  obtain ⟨xo, xc, rfl⟩ := HX.out.val
  have d0 := H6.out.cell 0 rfl
  have d1 := H6.out.cell 1 rfl
  have d2 := H6.out.cell 2 rfl
  have d3 := H6.out.cell 3 rfl
  have d4 := H6.out.cell 4 rfl
  have d5 := H6.out.cell 5 rfl
  have f0 := H6.out.frozen 0
  have f1 := H6.out.frozen 1
  have f2 := H6.out.frozen 2
  have f3 := H6.out.frozen 3
  have f4 := H6.out.frozen 4
  have f5 := H6.out.frozen 5
  by_cases h0 : che h = 0
  case neg =>
    have HE : Hid (ctI h = czero) := by unfold Hid ctI; rw [if_neg h0]
    go_wp2
    refine bodyPost_ret (cnt_res rfl _ _ (w.heap.size + 1) _ _ _ _ _ _ rfl (set6_c H6.out (.int .i64 0) (.int .u64 0) (.int .u64 0) (.int .u64 0) (.slice none 0 0) (.slice none 0 0))) rfl ?_
    exact ⟨_, rfl, by rw [HE.out]; exact czero_src _, set6_fr HF1.out (.inr (by simp)) (.int .i64 0) (.int .u64 0) (.int .u64 0) (.int .u64 0) (.slice none 0 0) (.slice none 0 0)⟩
  have HC : Hid (ctI h = ⟨h.s, h.z, h.c, h.zc, sdp h, sdn h⟩) := by unfold Hid ctI; rw [if_pos h0]
  rw [h0]
  have c0 := H3.out.cell 0 rfl
  have c1 := H3.out.cell 1 rfl
  have c2 := H3.out.cell 2 rfl
  have c3 := H3.out.cell 3 rfl
  have c4 := H3.out.cell 4 rfl
  have c5 := H3.out.cell 5 rfl
  have c6 := H3.out.cell 6 rfl
  have c7 := H3.out.cell 7 rfl
  have c8 := H3.out.cell 8 rfl
  go_wp2_with fail
  refine (hpairs_any _ h 1 w1 (HH.out _ HF1.out)).mono ?_
  rintro e w2 ⟨y, rfl, hy, hf2⟩
  have HF2 : Hid (Fr [] w w2) := HF1.out.trans hf2 (by simp)
  have H32 : Hid (Nine w2 w.heap.size _) := H3.out.kept hf2 (by simp)
  have H62 : Hid (SixC w2 (w.heap.size + 1) _) := H6.out.kept hf2 (by simp)
  have HX2 : Hid (SOwn 113 wA.heap.size w2 _ (sdp h)) := HX.out.kept hf2
  have HY2 : Hid (SOwn 113 wA.heap.size w2 y (sdn h)) := hy.mono HS1.out
  have HPZ : pre h 1 = 0 := by unfold pre; rw [if_pos (.inr rfl)]; exact h0
  rw [HPZ]
  clear hf2 hy HPZ c0 c1 c2 c3 c4 c5 c6 c7 c8 d0 d1 d2 d3 d4 d5 f0 f1 f2 f3 f4 f5 HX H3 H6 HF1
  obtain ⟨yo, yc, rfl⟩ := HY2.out.val
  have d0 := H62.out.cell 0 rfl
  have d1 := H62.out.cell 1 rfl
  have d2 := H62.out.cell 2 rfl
  have d3 := H62.out.cell 3 rfl
  have d4 := H62.out.cell 4 rfl
  have d5 := H62.out.cell 5 rfl
  have f0 := H62.out.frozen 0
  have f1 := H62.out.frozen 1
  have f2 := H62.out.frozen 2
  have f3 := H62.out.frozen 3
  have f4 := H62.out.frozen 4
  have f5 := H62.out.frozen 5
  have c0 := H32.out.cell 0 rfl
  have c1 := H32.out.cell 1 rfl
  have c2 := H32.out.cell 2 rfl
  have c3 := H32.out.cell 3 rfl
  go_wp2
  refine bodyPost_ret (cnt_res rfl _ _ (w.heap.size + 1) _ _ _ _ _ _ rfl (set6_c H62.out (.int .i64 h.s) (.int .u64 h.z) (.int .u64 h.c) (.int .u64 h.zc) (.slice xo (sdp h).length xc) (.slice yo (sdn h).length yc))) rfl ?_
  have hfr := set6_fr (g := w.heap.size + 1) HF2.out (.inr (by simp)) (.int .i64 h.s) (.int .u64 h.z) (.int .u64 h.c) (.int .u64 h.zc) (.slice xo (sdp h).length xc) (.slice yo (sdn h).length yc)
  have hs6 := set6_fr (S := [w.heap.size + 1]) (g := w.heap.size + 1) (Fr.refl _ w2) (.inl (by simp)) (.int .i64 h.s) (.int .u64 h.z) (.int .u64 h.c) (.int .u64 h.zc) (.slice xo (sdp h).length xc) (.slice yo (sdn h).length yc)
  have hb : ∀ y ∈ [w.heap.size + 1], y < wA.heap.size := by have := HSZ.out; simp; omega
  have r1 := (HX2.out.keptS hs6 hb).src (sdp_in h)
  have r2 := (HY2.out.keptS hs6 hb).src (sdn_in h)
  exact ⟨_, by rw [h0]; rfl, by rw [HC.out]; exact ⟨_, _, rfl, r1, r2, sdp_rsg h, sdn_rsg h⟩, hfr⟩

theorem POwn.keptS {e : TypeId} {B : Nat} {w w' : World} {v : Value} {l : List Sp} {S : List Nat} (h : POwn e B w v l) (f : Fr S w w') (hs : ∀ y ∈ S, y < B) : POwn e B w' v l := by
  rcases h with h | ⟨g, h1, h2, h3⟩
  · exact .inl h
  · exact .inr ⟨g, h1, h2, h3.kept f (fun hm => by have := hs g hm; omega)⟩
theorem Try.sizeOf80 : (Try.prog.info? 80).map (·.size) = some 6 := by kernel_rfl
theorem dnt_res {fn : Func} {p u : Tmp} (h : fn.results = #[.cell p 80, .tmp u]) (tmps : Array Value) (w : World) (g : Nat) (a0 a1 a2 a3 a4 a5 : Value)
    (hp : tmps.getD p undef = .pointer (some ⟨g, 0, none⟩)) (hg : SixD w g #[a0, a1, a2, a3, a4, a5]) : (results fn tmps).run Try.prog w = .ok (.tuple #[.agg #[a0, a1, a2, a3, a4, a5], tmps.getD u undef]) w := by
  rw [results_cell_tmp h tmps, hp]
  have := run_loadVar_row (P := Try.prog) w g 80 80 #[a0, a1, a2, a3, a4, a5] (0, 0) _ hg Try.underlying80 rfl Try.sizeOf80
  simp [asAddr, this]
theorem set6_d {w : World} {g : Nat} {a0 a1 a2 a3 a4 a5 : Value} (h : SixD w g #[a0, a1, a2, a3, a4, a5]) (u0 u1 u2 u3 u4 u5 : Value) : SixD (set6 w g u0 u1 u2 u3 u4 u5) g #[u0, u1, u2, u3, u4, u5] := by
  unfold SixD at h ⊢
  simp [set6, World.setCell, Array.getElem?_modify, h]
theorem SixD.kept {w w' : World} {b : Nat} {cs : Array Value} {S : List Nat} (h : SixD w b cs) (f : Fr S w w') (hb : b ∉ S) : SixD w' b cs := f.heap h hb
theorem SixD.cell {w : World} {b : Nat} {cs : Array Value} (h : SixD w b cs) (i : Nat) {v : Value} (hv : cs[i]? = some v) : w.cell? ⟨b, i, none⟩ = some v := by rw [cell_at h]; exact hv
theorem SixD.frozen {w : World} {b : Nat} {cs : Array Value} (h : SixD w b cs) (i : Nat) : w.frozen? ⟨b, i, none⟩ = false := frozen_at h i
theorem sixD_top (w : World) (o : Obj) (cs : Array Value) : SixD ((w.alloc o).alloc (.cells cs 80)) (w.heap.size + 1) cs := by
  have := heap_alloc_new (w.alloc o) (.cells cs 80)
  rwa [World.size_alloc] at this

set_option maxHeartbeats 4000000 in
theorem ofFloats_any (v : Value) (h : Fs) (w : World) (hh : FSrc w v h) :
    Calls Try.prog 35 #[v] w fun e w' => ∃ u, e = .returned (.tuple #[u, .int .i64 (fce h)]) ∧ DSrc w' u (ctF h) ∧ Fr [] w w' := by
  have HH : Hid (∀ wx, Fr [] w wx → FSrc wx v h) := fun wx hx => hh.kept hx
  obtain ⟨po, pc, no, nc, qo, qc, ro, rc, rfl, hin, hsr, _⟩ := hh.opens
  have HFI : Hid (fin9 h) := hh.fin
  clear hh hin hsr
  go_enter Try.func35, Try.ntmps35
  obtain ⟨cs, hcs⟩ : ∃ cs : Array Value, cs = #[.int .i64 h.s, .int .u64 h.z, .int .u64 h.zc, .int .u64 h.c, .int .u64 h.sm, .slice po h.P.length pc, .slice no h.N.length nc, .slice qo h.pd.length qc, .slice ro h.nd.length rc] := ⟨_, rfl⟩
  have HA : Hid (∀ z, NineF ((w.alloc (.cells cs 44)).alloc (.cells z 80)) w.heap.size cs ∧ SixD ((w.alloc (.cells cs 44)).alloc (.cells z 80)) (w.heap.size + 1) z ∧ Fr [] w ((w.alloc (.cells cs 44)).alloc (.cells z 80))) := fun z => ⟨nineF_mid _ _ _, sixD_top _ _ _, ((Fr.refl [] w).alloc _).alloc _⟩
  subst hcs
  go_wp2_with fail
  obtain ⟨hA3, hA6, hAF⟩ := HA.out #[.int .i64 0, .int .u64 0, .int .u64 0, .int .u64 0, .slice none 0 0, .slice none 0 0]
  clear HA
  generalize (w.alloc (.cells _ _)).alloc (.cells _ _) = wA at hA3 hA6 hAF ⊢
  refine (fpairs_any _ h 0 wA (HH.out _ hAF)).mono ?_
  rintro e w1 ⟨x, rfl, hx, hf1⟩
  have HF1 : Hid (Fr [] w w1) := hAF.trans hf1 (by simp)
  have H3 : Hid (NineF w1 w.heap.size _) := hA3.kept hf1 (by simp)
  have H6 : Hid (SixD w1 (w.heap.size + 1) _) := hA6.kept hf1 (by simp)
  have HSZ : Hid (w.heap.size + 1 < wA.heap.size) := lt_of_heap hA6
  have HS1 : Hid (wA.heap.size ≤ w1.heap.size) := hf1.size
  have HX : Hid (POwn 122 wA.heap.size w1 x (fdp h)) := hx
  have HPZ : fpre h 0 = fce h := by unfold fpre; rw [if_pos (.inl rfl)]
  rw [HPZ]
  clear hf1 hA3 hA6 hAF hx HPZ
  obtain ⟨xo, xc, rfl⟩ := HX.out.val
  have d0 := H6.out.cell 0 rfl
  have d1 := H6.out.cell 1 rfl
  have d2 := H6.out.cell 2 rfl
  have d3 := H6.out.cell 3 rfl
  have d4 := H6.out.cell 4 rfl
  have d5 := H6.out.cell 5 rfl
  have f0 := H6.out.frozen 0
  have f1 := H6.out.frozen 1
  have f2 := H6.out.frozen 2
  have f3 := H6.out.frozen 3
  have f4 := H6.out.frozen 4
  have f5 := H6.out.frozen 5
  by_cases h0 : fce h = 0
  case neg =>
    have HE : Hid (ctF h = czero) := by unfold Hid ctF; rw [if_neg h0]
    go_wp2
    refine bodyPost_ret (dnt_res rfl _ _ (w.heap.size + 1) _ _ _ _ _ _ rfl (set6_d H6.out (.int .i64 0) (.int .u64 0) (.int .u64 0) (.int .u64 0) (.slice none 0 0) (.slice none 0 0))) rfl ?_
    exact ⟨_, rfl, by rw [HE.out]; exact dzero_src _, set6_fr HF1.out (.inr (by simp)) (.int .i64 0) (.int .u64 0) (.int .u64 0) (.int .u64 0) (.slice none 0 0) (.slice none 0 0)⟩
  have HC : Hid (ctF h = ⟨h.s, h.z, h.c, h.zc, fdp h, fdn h⟩) := by unfold Hid ctF; rw [if_pos h0]
  rw [h0]
  have c0 := H3.out.cell 0 rfl
  have c1 := H3.out.cell 1 rfl
  have c2 := H3.out.cell 2 rfl
  have c3 := H3.out.cell 3 rfl
  have c4 := H3.out.cell 4 rfl
  have c5 := H3.out.cell 5 rfl
  have c6 := H3.out.cell 6 rfl
  have c7 := H3.out.cell 7 rfl
  have c8 := H3.out.cell 8 rfl
  go_wp2_with fail
  refine (fpairs_any _ h 1 w1 (HH.out _ HF1.out)).mono ?_
  rintro e w2 ⟨y, rfl, hy, hf2⟩
  have HF2 : Hid (Fr [] w w2) := HF1.out.trans hf2 (by simp)
  have H32 : Hid (NineF w2 w.heap.size _) := H3.out.kept hf2 (by simp)
  have H62 : Hid (SixD w2 (w.heap.size + 1) _) := H6.out.kept hf2 (by simp)
  have HX2 : Hid (POwn 122 wA.heap.size w2 _ (fdp h)) := HX.out.kept hf2
  have HY2 : Hid (POwn 122 wA.heap.size w2 y (fdn h)) := hy.mono HS1.out
  have HPZ : fpre h 1 = 0 := by unfold fpre; rw [if_pos (.inr rfl)]; exact h0
  rw [HPZ]
  clear hf2 hy HPZ c0 c1 c2 c3 c4 c5 c6 c7 c8 d0 d1 d2 d3 d4 d5 f0 f1 f2 f3 f4 f5 HX H3 H6 HF1
  obtain ⟨yo, yc, rfl⟩ := HY2.out.val
  have d0 := H62.out.cell 0 rfl
  have d1 := H62.out.cell 1 rfl
  have d2 := H62.out.cell 2 rfl
  have d3 := H62.out.cell 3 rfl
  have d4 := H62.out.cell 4 rfl
  have d5 := H62.out.cell 5 rfl
  have f0 := H62.out.frozen 0
  have f1 := H62.out.frozen 1
  have f2 := H62.out.frozen 2
  have f3 := H62.out.frozen 3
  have f4 := H62.out.frozen 4
  have f5 := H62.out.frozen 5
  have c0 := H32.out.cell 0 rfl
  have c1 := H32.out.cell 1 rfl
  have c2 := H32.out.cell 2 rfl
  have c3 := H32.out.cell 3 rfl
  go_wp2
  refine bodyPost_ret (dnt_res rfl _ _ (w.heap.size + 1) _ _ _ _ _ _ rfl (set6_d H62.out (.int .i64 h.s) (.int .u64 h.z) (.int .u64 h.c) (.int .u64 h.zc) (.slice xo (fdp h).length xc) (.slice yo (fdn h).length yc))) rfl ?_
  have hfr := set6_fr (g := w.heap.size + 1) HF2.out (.inr (by simp)) (.int .i64 h.s) (.int .u64 h.z) (.int .u64 h.c) (.int .u64 h.zc) (.slice xo (fdp h).length xc) (.slice yo (fdn h).length yc)
  have hs6 := set6_fr (S := [w.heap.size + 1]) (g := w.heap.size + 1) (Fr.refl _ w2) (.inl (by simp)) (.int .i64 h.s) (.int .u64 h.z) (.int .u64 h.c) (.int .u64 h.zc) (.slice xo (fdp h).length xc) (.slice yo (fdn h).length yc)
  have hb : ∀ y ∈ [w.heap.size + 1], y < wA.heap.size := by have := HSZ.out; simp; omega
  have r1 := (HX2.out.keptS hs6 hb).src (fdp_in h HFI.out)
  have r2 := (HY2.out.keptS hs6 hb).src (fdn_in h HFI.out)
  exact ⟨_, by rw [h0]; rfl, by rw [HC.out]; exact ⟨_, _, rfl, r1, r2, fdp_rsg h, fdn_rsg h⟩, hfr⟩
end Go.Proofs.Ytnfbmdniomelnaa

/-
  Package reset: Ints.
-/
namespace Go.Proofs.Ytnfbmdniomelnaa
open Go.RowKit Mem Spans
set_option linter.unusedSimpArgs false
set_option linter.unusedVariables false
set_option maxRecDepth 100000

theorem CSrc.opens {w : World} {v : Value} {c : Ct} (h : CSrc w v c) : ∃ po pc no nc, v = .agg #[.int .i64 c.s, .int .u64 c.z, .int .u64 c.c, .int .u64 c.k, .slice po c.p.length pc, .slice no c.n.length nc] := by
  obtain ⟨vp, vn, rfl, ⟨po, pc, rfl, _⟩, ⟨no, nc, rfl, _⟩, _⟩ := h
  exact ⟨po, pc, no, nc, rfl⟩
theorem DSrc.opens {w : World} {v : Value} {c : Ct} (h : DSrc w v c) : ∃ po pc no nc, v = .agg #[.int .i64 c.s, .int .u64 c.z, .int .u64 c.c, .int .u64 c.k, .slice po c.p.length pc, .slice no c.n.length nc] := by
  obtain ⟨vp, vn, rfl, ⟨po, pc, rfl, _⟩, ⟨no, nc, rfl, _⟩, _⟩ := h
  exact ⟨po, pc, no, nc, rfl⟩

theorem threeH_at (w : World) (A B Z : Array Value) : Hid (Nine (((w.alloc (.cells A 26)).alloc (.cells B 26)).alloc (.cells Z 30)) w.heap.size A ∧
    Nine (((w.alloc (.cells A 26)).alloc (.cells B 26)).alloc (.cells Z 30)) (w.heap.size + 1) B ∧
    Two w.heap.size (((w.alloc (.cells A 26)).alloc (.cells B 26)).alloc (.cells Z 30)) Z ∧
    Fr [] w (((w.alloc (.cells A 26)).alloc (.cells B 26)).alloc (.cells Z 30))) := by
  refine ⟨?_, ?_, ?_, (((Fr.refl [] w).alloc _).alloc _).alloc _⟩
  · exact (((Fr.refl [] (w.alloc _)).alloc _).alloc _).heap (heap_alloc_new w _) (by simp)
  · have := heap_alloc_new (w.alloc (.cells A 26)) (.cells B 26)
    rw [World.size_alloc] at this
    exact ((Fr.refl [] _).alloc _).heap this (by simp)
  · have := heap_alloc_new ((w.alloc (.cells A 26)).alloc (.cells B 26)) (.cells Z 30)
    rw [World.size_alloc, World.size_alloc] at this
    exact this
theorem verdict_res2 {fn : Func} {p u : Tmp} (h : fn.results = #[.cell p 30, .tmp u]) (tmps : Array Value) (w : World) (g : Nat) (a0 a1 : Value)
    (hp : tmps.getD p undef = .pointer (some ⟨g, 0, none⟩)) (hg : w.heap[g]? = some (.cells #[a0, a1] 30 (0, 0))) : (results fn tmps).run Try.prog w = .ok (.tuple #[.agg #[a0, a1], tmps.getD u undef]) w := by
  rw [results_cell_tmp h tmps, hp]
  have := run_loadVar_row (P := Try.prog) w g 30 30 #[a0, a1] (0, 0) _ hg Try.underlying30 rfl Try.sizeOf30
  simp [asAddr, this]

set_option maxHeartbeats 4000000 in
theorem ints_any (u v : Value) (a b : Hs) (w : World) (ha : HSrc w u a) (hb : HSrc w v b) :
    Calls Try.prog 11 #[u, v] w fun e w' => e = .returned (.tuple #[.agg #[.int .i64 (riv a b).1, .int .i64 (riv a b).2], .int .i64 (rie a b)]) ∧ Fr [] w w' := by
  have HH : Hid (∀ wx, Fr [] w wx → HSrc wx u a ∧ HSrc wx v b) := fun wx hx => ⟨ha.kept hx, hb.kept hx⟩
  obtain ⟨po, pc, no, nc, qo, qc, ro, rc, rfl, _⟩ := ha.opens
  obtain ⟨so, sc, mo, mc, xo, xc, yo, yc, rfl, _⟩ := hb.opens
  clear ha hb
  go_enter Try.func11, Try.ntmps11
  obtain ⟨A0, hA0⟩ : ∃ A0 : Array Value, A0 = #[.int .i64 a.s, .int .u64 a.z, .int .u64 a.zc, .int .u64 a.c, .int .u64 a.sm, .slice po a.P.length pc, .slice no a.N.length nc, .slice qo a.pd.length qc, .slice ro a.nd.length rc] := ⟨_, rfl⟩
  obtain ⟨B0, hB0⟩ : ∃ B0 : Array Value, B0 = #[.int .i64 b.s, .int .u64 b.z, .int .u64 b.zc, .int .u64 b.c, .int .u64 b.sm, .slice so b.P.length sc, .slice mo b.N.length mc, .slice xo b.pd.length xc, .slice yo b.nd.length yc] := ⟨_, rfl⟩
  have HA := threeH_at w A0 B0 #[.int .i64 0, .int .i64 0]
  subst hA0
  subst hB0
  go_wp2_with fail
  generalize ((w.alloc (.cells _ _)).alloc (.cells _ _)).alloc (.cells _ _) = wA at HA ⊢
  refine (ofWhole_any _ a wA (HH.out _ HA.out.2.2.2).1).mono ?_
  rintro e1 w1 ⟨u1, rfl, hu1, hf1⟩
  have HF1 : Hid (Fr [] w w1) := HA.out.2.2.2.trans hf1 (by simp)
  have HU1 : Hid (CSrc w1 u1 (ctI a)) := hu1
  have HB1 : Hid (Nine w1 (w.heap.size + 1) _) := HA.out.2.1.kept hf1 (by simp)
  have HV1 : Hid (Two w.heap.size w1 #[.int .i64 0, .int .i64 0]) := hf1.heap HA.out.2.2.1 (by simp)
  have HL1 : Hid (w.heap.size + 1 + 1 < w1.heap.size) := lt_of_heap HV1.out
  obtain ⟨po1, pc1, no1, nc1, rfl⟩ := hu1.opens
  clear hf1 hu1 HA
  obtain ⟨C0, hC0⟩ : ∃ C0 : Array Value, C0 = #[.int .i64 (ctI a).s, .int .u64 (ctI a).z, .int .u64 (ctI a).c, .int .u64 (ctI a).k, .slice po1 (ctI a).p.length pc1, .slice no1 (ctI a).n.length nc1] := ⟨_, rfl⟩
  have HX : Hid (SixC (w1.alloc (.cells C0 66)) w1.heap.size C0 ∧ Fr [] w1 (w1.alloc (.cells C0 66))) := ⟨heap_alloc_new _ _, (Fr.refl [] w1).alloc _⟩
  subst hC0
  have HBX : Hid (∀ wx, Fr [] w1 wx → Two w.heap.size wx #[.int .i64 0, .int .i64 0]) := fun wx hx => hx.heap HV1.out (by simp)
  by_cases h0 : che a = 0
  case neg =>
    have HE : Hid (rie a b = che a ∧ riv a b = (0, 0)) := by unfold Hid riv rie; rw [if_neg h0, if_neg h0]; exact ⟨rfl, rfl⟩
    go_upto_region 3 with fail
    generalize w1.alloc (.cells _ _) = wX at HX ⊢
    have HVX := HBX.out wX HX.out.2
    have R0 := cell_at HVX 0
    have R1 := cell_at HVX 1
    have F0 : wX.frozen? ⟨w.heap.size + 1 + 1, 0, none⟩ = false := frozen_at HVX 0
    have F1 : wX.frozen? ⟨w.heap.size + 1 + 1, 1, none⟩ = false := frozen_at HVX 1
    simp at R0 R1
    go_wp2
    refine bodyPost_ret (verdict_res2 rfl _ _ (w.heap.size + 1 + 1) _ _ rfl (two_set HVX _ _)) rfl ?_
    exact ⟨by rw [HE.out.1, HE.out.2]; rfl, two_fr (HF1.out.trans HX.out.2 (by simp)) _ _⟩
  go_upto_region 4 with fail
  generalize w1.alloc (.cells _ _) = wX at HX ⊢
  have HFX : Hid (Fr [] w wX) := HF1.out.trans HX.out.2 (by simp)
  have HLX : Hid (w1.heap.size < wX.heap.size) := lt_of_heap HX.out.1
  have HVX : Hid (Two w.heap.size wX #[.int .i64 0, .int .i64 0]) := HBX.out wX HX.out.2
  have HUX : Hid (CSrc wX _ (ctI a)) := HU1.out.kept HX.out.2
  have HB2 : Hid (Nine wX (w.heap.size + 1) _) := HB1.out.kept HX.out.2 (by simp)
  have c0 := HB2.out.cell 0 rfl
  have c1 := HB2.out.cell 1 rfl
  have c2 := HB2.out.cell 2 rfl
  have c3 := HB2.out.cell 3 rfl
  have c4 := HB2.out.cell 4 rfl
  have c5 := HB2.out.cell 5 rfl
  have c6 := HB2.out.cell 6 rfl
  have c7 := HB2.out.cell 7 rfl
  have c8 := HB2.out.cell 8 rfl
  clear HU1 HB1 HV1 HBX HF1
  go_wp2_with fail
  refine (ofWhole_any _ b wX (HH.out _ HFX.out).2).mono ?_
  rintro e2 w2 ⟨u2, rfl, hu2, hf2⟩
  have HF2 : Hid (Fr [] w w2) := HFX.out.trans hf2 (by simp)
  have HU2 : Hid (CSrc w2 u2 (ctI b)) := hu2
  have HUA : Hid (CSrc w2 _ (ctI a)) := HUX.out.kept hf2
  have HX2 : Hid (SixC w2 w1.heap.size _) := HX.out.1.kept hf2 (by simp)
  have HV2 : Hid (Two w.heap.size w2 #[.int .i64 0, .int .i64 0]) := hf2.heap HVX.out (by simp)
  obtain ⟨po2, pc2, no2, nc2, rfl⟩ := hu2.opens
  clear hf2 hu2 HX c0 c1 c2 c3 c4 c5 c6 c7 c8 HUX HVX HB2
  obtain ⟨D0, hD0⟩ : ∃ D0 : Array Value, D0 = #[.int .i64 (ctI b).s, .int .u64 (ctI b).z, .int .u64 (ctI b).c, .int .u64 (ctI b).k, .slice po2 (ctI b).p.length pc2, .slice no2 (ctI b).n.length nc2] := ⟨_, rfl⟩
  have HY : Hid (SixC (w2.alloc (.cells D0 66)) w2.heap.size D0 ∧ Fr [] w2 (w2.alloc (.cells D0 66))) := ⟨heap_alloc_new _ _, (Fr.refl [] w2).alloc _⟩
  subst hD0
  have HBY : Hid (∀ wx, Fr [] w2 wx → Two w.heap.size wx #[.int .i64 0, .int .i64 0]) := fun wx hx => hx.heap HV2.out (by simp)
  by_cases h1 : che b = 0
  case neg =>
    have HE : Hid (rie a b = che b ∧ riv a b = (0, 0)) := by unfold Hid riv rie; rw [if_pos h0, if_neg h1]; exact ⟨rfl, rfl⟩
    go_upto_region 6 with fail
    generalize w2.alloc (.cells _ _) = wX at HY ⊢
    have HVX := HBY.out wX HY.out.2
    have R0 := cell_at HVX 0
    have R1 := cell_at HVX 1
    have F0 : wX.frozen? ⟨w.heap.size + 1 + 1, 0, none⟩ = false := frozen_at HVX 0
    have F1 : wX.frozen? ⟨w.heap.size + 1 + 1, 1, none⟩ = false := frozen_at HVX 1
    simp at R0 R1
    go_wp2
    refine bodyPost_ret (verdict_res2 rfl _ _ (w.heap.size + 1 + 1) _ _ rfl (two_set HVX _ _)) rfl ?_
    exact ⟨by rw [HE.out.1, HE.out.2]; rfl, two_fr (HF2.out.trans HY.out.2 (by simp)) _ _⟩
  have HE : Hid (rie a b = 0 ∧ riv a b = vrd (ctI a) (ctI b)) := by unfold Hid riv rie; rw [if_pos h0, if_pos h1]; exact ⟨h1, rfl⟩
  go_upto_region 7 with fail
  generalize w2.alloc (.cells _ _) = wX at HY ⊢
  have HFY : Hid (Fr [] w wX) := HF2.out.trans HY.out.2 (by simp)
  have HVX : Hid (Two w.heap.size wX #[.int .i64 0, .int .i64 0]) := HBY.out wX HY.out.2
  have HXX : Hid (SixC wX w1.heap.size _) := HX2.out.kept HY.out.2 (by simp)
  have HUA3 : Hid (CSrc wX _ (ctI a)) := HUA.out.kept HY.out.2
  have HUB3 : Hid (CSrc wX _ (ctI b)) := HU2.out.kept HY.out.2
  have c0 := HXX.out.cell 0 rfl
  have c1 := HXX.out.cell 1 rfl
  have c2 := HXX.out.cell 2 rfl
  have c3 := HXX.out.cell 3 rfl
  have c4 := HXX.out.cell 4 rfl
  have c5 := HXX.out.cell 5 rfl
  have d0 := HY.out.1.cell 0 rfl
  have d1 := HY.out.1.cell 1 rfl
  have d2 := HY.out.1.cell 2 rfl
  have d3 := HY.out.1.cell 3 rfl
  have d4 := HY.out.1.cell 4 rfl
  have d5 := HY.out.1.cell 5 rfl
  go_wp2_with fail
  refine (against_any _ _ (ctI a) (ctI b) wX HUA3.out HUB3.out).mono ?_
  rintro e3 w3 ⟨rfl, hf3⟩
  have HF3 : Hid (Fr [] w w3) := HFY.out.trans hf3 (by simp)
  have HV3 : Hid (Two w.heap.size w3 #[.int .i64 0, .int .i64 0]) := hf3.heap HVX.out (by simp)
  have R0 := cell_at HV3.out 0
  have R1 := cell_at HV3.out 1
  have F0 : w3.frozen? ⟨w.heap.size + 1 + 1, 0, none⟩ = false := frozen_at HV3.out 0
  have F1 : w3.frozen? ⟨w.heap.size + 1 + 1, 1, none⟩ = false := frozen_at HV3.out 1
  simp at R0 R1
  clear c0 c1 c2 c3 c4 c5 d0 d1 d2 d3 d4 d5 hf3
  go_wp2
  refine bodyPost_ret (verdict_res2 rfl _ _ (w.heap.size + 1 + 1) _ _ rfl (two_set HV3.out _ _)) rfl ?_
  exact ⟨by rw [HE.out.1, HE.out.2]; rfl, two_fr HF3.out _ _⟩

theorem threeF_at (w : World) (A B Z : Array Value) : Hid (NineF (((w.alloc (.cells A 44)).alloc (.cells B 44)).alloc (.cells Z 30)) w.heap.size A ∧
    NineF (((w.alloc (.cells A 44)).alloc (.cells B 44)).alloc (.cells Z 30)) (w.heap.size + 1) B ∧
    Two w.heap.size (((w.alloc (.cells A 44)).alloc (.cells B 44)).alloc (.cells Z 30)) Z ∧
    Fr [] w (((w.alloc (.cells A 44)).alloc (.cells B 44)).alloc (.cells Z 30))) := by
  refine ⟨?_, ?_, ?_, (((Fr.refl [] w).alloc _).alloc _).alloc _⟩
  · exact (((Fr.refl [] (w.alloc _)).alloc _).alloc _).heap (heap_alloc_new w _) (by simp)
  · have := heap_alloc_new (w.alloc (.cells A 44)) (.cells B 44)
    rw [World.size_alloc] at this
    exact ((Fr.refl [] _).alloc _).heap this (by simp)
  · have := heap_alloc_new ((w.alloc (.cells A 44)).alloc (.cells B 44)) (.cells Z 30)
    rw [World.size_alloc, World.size_alloc] at this
    exact this

set_option maxHeartbeats 4000000 in
theorem rfloats_any (u v : Value) (a b : Fs) (w : World) (ha : FSrc w u a) (hb : FSrc w v b) :
    Calls Try.prog 17 #[u, v] w fun e w' => e = .returned (.tuple #[.agg #[.int .i64 (rfv a b).1, .int .i64 (rfv a b).2], .int .i64 (rfe a b)]) ∧ Fr [] w w' := by
  have HH : Hid (∀ wx, Fr [] w wx → FSrc wx u a ∧ FSrc wx v b) := fun wx hx => ⟨ha.kept hx, hb.kept hx⟩
  obtain ⟨po, pc, no, nc, qo, qc, ro, rc, rfl, _⟩ := ha.opens
  obtain ⟨so, sc, mo, mc, xo, xc, yo, yc, rfl, _⟩ := hb.opens
  clear ha hb
  go_enter Try.func17, Try.ntmps17
  obtain ⟨A0, hA0⟩ : ∃ A0 : Array Value, A0 = #[.int .i64 a.s, .int .u64 a.z, .int .u64 a.zc, .int .u64 a.c, .int .u64 a.sm, .slice po a.P.length pc, .slice no a.N.length nc, .slice qo a.pd.length qc, .slice ro a.nd.length rc] := ⟨_, rfl⟩
  obtain ⟨B0, hB0⟩ : ∃ B0 : Array Value, B0 = #[.int .i64 b.s, .int .u64 b.z, .int .u64 b.zc, .int .u64 b.c, .int .u64 b.sm, .slice so b.P.length sc, .slice mo b.N.length mc, .slice xo b.pd.length xc, .slice yo b.nd.length yc] := ⟨_, rfl⟩
  have HA := threeF_at w A0 B0 #[.int .i64 0, .int .i64 0]
  subst hA0
  subst hB0
  go_wp2_with fail
  generalize ((w.alloc (.cells _ _)).alloc (.cells _ _)).alloc (.cells _ _) = wA at HA ⊢
  refine (ofFloats_any _ a wA (HH.out _ HA.out.2.2.2).1).mono ?_
  rintro e1 w1 ⟨u1, rfl, hu1, hf1⟩
  have HF1 : Hid (Fr [] w w1) := HA.out.2.2.2.trans hf1 (by simp)
  have HU1 : Hid (DSrc w1 u1 (ctF a)) := hu1
  have HB1 : Hid (NineF w1 (w.heap.size + 1) _) := HA.out.2.1.kept hf1 (by simp)
  have HV1 : Hid (Two w.heap.size w1 #[.int .i64 0, .int .i64 0]) := hf1.heap HA.out.2.2.1 (by simp)
  have HL1 : Hid (w.heap.size + 1 + 1 < w1.heap.size) := lt_of_heap HV1.out
  obtain ⟨po1, pc1, no1, nc1, rfl⟩ := hu1.opens
  clear hf1 hu1 HA
  obtain ⟨C0, hC0⟩ : ∃ C0 : Array Value, C0 = #[.int .i64 (ctF a).s, .int .u64 (ctF a).z, .int .u64 (ctF a).c, .int .u64 (ctF a).k, .slice po1 (ctF a).p.length pc1, .slice no1 (ctF a).n.length nc1] := ⟨_, rfl⟩
  have HX : Hid (SixD (w1.alloc (.cells C0 80)) w1.heap.size C0 ∧ Fr [] w1 (w1.alloc (.cells C0 80))) := ⟨heap_alloc_new _ _, (Fr.refl [] w1).alloc _⟩
  subst hC0
  have HBX : Hid (∀ wx, Fr [] w1 wx → Two w.heap.size wx #[.int .i64 0, .int .i64 0]) := fun wx hx => hx.heap HV1.out (by simp)
  by_cases h0 : fce a = 0
  case neg =>
    have HE : Hid (rfe a b = fce a ∧ rfv a b = (0, 0)) := by unfold Hid rfv rfe; rw [if_neg h0, if_neg h0]; exact ⟨rfl, rfl⟩
    go_upto_region 3 with fail
    generalize w1.alloc (.cells _ _) = wX at HX ⊢
    have HVX := HBX.out wX HX.out.2
    have R0 := cell_at HVX 0
    have R1 := cell_at HVX 1
    have F0 : wX.frozen? ⟨w.heap.size + 1 + 1, 0, none⟩ = false := frozen_at HVX 0
    have F1 : wX.frozen? ⟨w.heap.size + 1 + 1, 1, none⟩ = false := frozen_at HVX 1
    simp at R0 R1
    go_wp2
    refine bodyPost_ret (verdict_res2 rfl _ _ (w.heap.size + 1 + 1) _ _ rfl (two_set HVX _ _)) rfl ?_
    exact ⟨by rw [HE.out.1, HE.out.2]; rfl, two_fr (HF1.out.trans HX.out.2 (by simp)) _ _⟩
  go_upto_region 4 with fail
  generalize w1.alloc (.cells _ _) = wX at HX ⊢
  have HFX : Hid (Fr [] w wX) := HF1.out.trans HX.out.2 (by simp)
  have HLX : Hid (w1.heap.size < wX.heap.size) := lt_of_heap HX.out.1
  have HVX : Hid (Two w.heap.size wX #[.int .i64 0, .int .i64 0]) := HBX.out wX HX.out.2
  have HUX : Hid (DSrc wX _ (ctF a)) := HU1.out.kept HX.out.2
  have HB2 : Hid (NineF wX (w.heap.size + 1) _) := HB1.out.kept HX.out.2 (by simp)
  have c0 := HB2.out.cell 0 rfl
  have c1 := HB2.out.cell 1 rfl
  have c2 := HB2.out.cell 2 rfl
  have c3 := HB2.out.cell 3 rfl
  have c4 := HB2.out.cell 4 rfl
  have c5 := HB2.out.cell 5 rfl
  have c6 := HB2.out.cell 6 rfl
  have c7 := HB2.out.cell 7 rfl
  have c8 := HB2.out.cell 8 rfl
  clear HU1 HB1 HV1 HBX HF1
  go_wp2_with fail
  refine (ofFloats_any _ b wX (HH.out _ HFX.out).2).mono ?_
  rintro e2 w2 ⟨u2, rfl, hu2, hf2⟩
  have HF2 : Hid (Fr [] w w2) := HFX.out.trans hf2 (by simp)
  have HU2 : Hid (DSrc w2 u2 (ctF b)) := hu2
  have HUA : Hid (DSrc w2 _ (ctF a)) := HUX.out.kept hf2
  have HX2 : Hid (SixD w2 w1.heap.size _) := HX.out.1.kept hf2 (by simp)
  have HV2 : Hid (Two w.heap.size w2 #[.int .i64 0, .int .i64 0]) := hf2.heap HVX.out (by simp)
  obtain ⟨po2, pc2, no2, nc2, rfl⟩ := hu2.opens
  clear hf2 hu2 HX c0 c1 c2 c3 c4 c5 c6 c7 c8 HUX HVX HB2
  obtain ⟨D0, hD0⟩ : ∃ D0 : Array Value, D0 = #[.int .i64 (ctF b).s, .int .u64 (ctF b).z, .int .u64 (ctF b).c, .int .u64 (ctF b).k, .slice po2 (ctF b).p.length pc2, .slice no2 (ctF b).n.length nc2] := ⟨_, rfl⟩
  have HY : Hid (SixD (w2.alloc (.cells D0 80)) w2.heap.size D0 ∧ Fr [] w2 (w2.alloc (.cells D0 80))) := ⟨heap_alloc_new _ _, (Fr.refl [] w2).alloc _⟩
  subst hD0
  have HBY : Hid (∀ wx, Fr [] w2 wx → Two w.heap.size wx #[.int .i64 0, .int .i64 0]) := fun wx hx => hx.heap HV2.out (by simp)
  by_cases h1 : fce b = 0
  case neg =>
    have HE : Hid (rfe a b = fce b ∧ rfv a b = (0, 0)) := by unfold Hid rfv rfe; rw [if_pos h0, if_neg h1]; exact ⟨rfl, rfl⟩
    go_upto_region 6 with fail
    generalize w2.alloc (.cells _ _) = wX at HY ⊢
    have HVX := HBY.out wX HY.out.2
    have R0 := cell_at HVX 0
    have R1 := cell_at HVX 1
    have F0 : wX.frozen? ⟨w.heap.size + 1 + 1, 0, none⟩ = false := frozen_at HVX 0
    have F1 : wX.frozen? ⟨w.heap.size + 1 + 1, 1, none⟩ = false := frozen_at HVX 1
    simp at R0 R1
    go_wp2
    refine bodyPost_ret (verdict_res2 rfl _ _ (w.heap.size + 1 + 1) _ _ rfl (two_set HVX _ _)) rfl ?_
    exact ⟨by rw [HE.out.1, HE.out.2]; rfl, two_fr (HF2.out.trans HY.out.2 (by simp)) _ _⟩
  have HE : Hid (rfe a b = 0 ∧ rfv a b = vrd (ctF a) (ctF b)) := by unfold Hid rfv rfe; rw [if_pos h0, if_pos h1]; exact ⟨h1, rfl⟩
  go_upto_region 7 with fail
  generalize w2.alloc (.cells _ _) = wX at HY ⊢
  have HFY : Hid (Fr [] w wX) := HF2.out.trans HY.out.2 (by simp)
  have HVX : Hid (Two w.heap.size wX #[.int .i64 0, .int .i64 0]) := HBY.out wX HY.out.2
  have HXX : Hid (SixD wX w1.heap.size _) := HX2.out.kept HY.out.2 (by simp)
  have HUA3 : Hid (DSrc wX _ (ctF a)) := HUA.out.kept HY.out.2
  have HUB3 : Hid (DSrc wX _ (ctF b)) := HU2.out.kept HY.out.2
  have c0 := HXX.out.cell 0 rfl
  have c1 := HXX.out.cell 1 rfl
  have c2 := HXX.out.cell 2 rfl
  have c3 := HXX.out.cell 3 rfl
  have c4 := HXX.out.cell 4 rfl
  have c5 := HXX.out.cell 5 rfl
  have d0 := HY.out.1.cell 0 rfl
  have d1 := HY.out.1.cell 1 rfl
  have d2 := HY.out.1.cell 2 rfl
  have d3 := HY.out.1.cell 3 rfl
  have d4 := HY.out.1.cell 4 rfl
  have d5 := HY.out.1.cell 5 rfl
  go_wp2_with fail
  refine (againstU_any _ _ (ctF a) (ctF b) wX HUA3.out HUB3.out).mono ?_
  rintro e3 w3 ⟨rfl, hf3⟩
  have HF3 : Hid (Fr [] w w3) := HFY.out.trans hf3 (by simp)
  have HV3 : Hid (Two w.heap.size w3 #[.int .i64 0, .int .i64 0]) := hf3.heap HVX.out (by simp)
  have R0 := cell_at HV3.out 0
  have R1 := cell_at HV3.out 1
  have F0 : w3.frozen? ⟨w.heap.size + 1 + 1, 0, none⟩ = false := frozen_at HV3.out 0
  have F1 : w3.frozen? ⟨w.heap.size + 1 + 1, 1, none⟩ = false := frozen_at HV3.out 1
  simp at R0 R1
  clear c0 c1 c2 c3 c4 c5 d0 d1 d2 d3 d4 d5 hf3
  go_wp2
  refine bodyPost_ret (verdict_res2 rfl _ _ (w.heap.size + 1 + 1) _ _ rfl (two_set HV3.out _ _)) rfl ?_
  exact ⟨by rw [HE.out.1, HE.out.2]; rfl, two_fr HF3.out _ _⟩
end Go.Proofs.Ytnfbmdniomelnaa

/-
  Package reset: Same, Name.
-/
namespace Go.Proofs.Ytnfbmdniomelnaa
open Go.RowKit Mem Spans
set_option linter.unusedSimpArgs false
set_option linter.unusedVariables false
set_option maxRecDepth 100000

theorem twoH_at (w : World) (A B : Array Value) : Hid (Nine ((w.alloc (.cells A 26)).alloc (.cells B 26)) w.heap.size A ∧
    Nine ((w.alloc (.cells A 26)).alloc (.cells B 26)) (w.heap.size + 1) B ∧ Fr [] w ((w.alloc (.cells A 26)).alloc (.cells B 26))) :=
  ⟨nine_mid _ _ _, nine_top _ _ _, ((Fr.refl [] w).alloc _).alloc _⟩

set_option maxHeartbeats 2000000 in
theorem goesOn_any (u v : Value) (a b : Hs) (w : World) (ha : HSrc w u a) (hb : HSrc w v b) :
    Calls Try.prog 32 #[u, v] w fun e w' => e = .returned (.bool (gon a b)) ∧ Fr [] w w' := by
  have HH : Hid (∀ wx, Fr [] w wx → HSrc wx u a ∧ HSrc wx v b) := fun wx hx => ⟨ha.kept hx, hb.kept hx⟩
  obtain ⟨po, pc, no, nc, qo, qc, ro, rc, rfl, _⟩ := ha.opens
  obtain ⟨so, sc, mo, mc, xo, xc, yo, yc, rfl, _⟩ := hb.opens
  clear ha hb
  go_enter Try.func32, Try.ntmps32
  obtain ⟨A0, hA0⟩ : ∃ A0 : Array Value, A0 = #[.int .i64 a.s, .int .u64 a.z, .int .u64 a.zc, .int .u64 a.c, .int .u64 a.sm, .slice po a.P.length pc, .slice no a.N.length nc, .slice qo a.pd.length qc, .slice ro a.nd.length rc] := ⟨_, rfl⟩
  obtain ⟨B0, hB0⟩ : ∃ B0 : Array Value, B0 = #[.int .i64 b.s, .int .u64 b.z, .int .u64 b.zc, .int .u64 b.c, .int .u64 b.sm, .slice so b.P.length sc, .slice mo b.N.length mc, .slice xo b.pd.length xc, .slice yo b.nd.length yc] := ⟨_, rfl⟩
  have HA := twoH_at w A0 B0
  subst hA0
  subst hB0
  go_wp2_with fail
  generalize (w.alloc (.cells _ _)).alloc (.cells _ _) = wA at HA ⊢
  refine (ints_any _ _ a b wA (HH.out _ HA.out.2.2).1 (HH.out _ HA.out.2.2).2).mono ?_
  rintro e1 w1 ⟨rfl, hf1⟩
  have HF1 : Hid (Fr [] w w1) := HA.out.2.2.trans hf1 (by simp)
  clear hf1 HA
  have HX : Hid ((w1.alloc (.cells #[.int .i64 (riv a b).1, .int .i64 (riv a b).2] 30)).heap[w1.heap.size]? = some (.cells #[.int .i64 (riv a b).1, .int .i64 (riv a b).2] 30 (0, 0)) ∧ Fr [] w (w1.alloc (.cells #[.int .i64 (riv a b).1, .int .i64 (riv a b).2] 30))) := ⟨heap_alloc_new _ _, HF1.out.alloc _⟩
  have HG : Hid (gon a b = (decide (rie a b = 0) && decide ((riv a b).1 = 0))) := by unfold Hid gon; exact Bool.decide_and ..
  go_upto_region 2 with fail
  generalize (riv a b).1 = y at HX HG ⊢
  generalize (riv a b).2 = z at HX ⊢
  generalize rie a b = x at HG ⊢
  generalize w1.alloc (.cells _ _) = wX at HX ⊢
  have c0 := cell_at HX.out.1 0
  simp at c0
  by_cases h0 : x = 0
  · by_cases h1 : y = 0
    · have HE : Hid (gon a b = true) := by rw [Hid, HG.out, decide_eq_true h0, decide_eq_true h1]; rfl
      subst h0 h1
      go_wp2
      go_ret
      exact ⟨by rw [HE.out]; rfl, HX.out.2⟩
    · have HE : Hid (gon a b = false) := by rw [Hid, HG.out, decide_eq_false h1, Bool.and_false]
      subst h0
      have d1 : (y == 0) = false := by simpa using h1
      go_wp2
      go_ret
      exact ⟨by rw [HE.out]; rfl, HX.out.2⟩
  · have HE : Hid (gon a b = false) := by rw [Hid, HG.out, decide_eq_false h0, Bool.false_and]
    have d0 : (x == 0) = false := by simpa using h0
    go_wp2
    go_ret
    exact ⟨by rw [HE.out]; rfl, HX.out.2⟩

set_option maxHeartbeats 2000000 in
theorem sameR_any (u v : Value) (a b : Hs) (w : World) (ha : HSrc w u a) (hb : HSrc w v b) :
    Calls Try.prog 14 #[u, v] w fun e w' => e = .returned (.bool (gon a b && gon b a)) ∧ Fr [] w w' := by
  have HH : Hid (∀ wx, Fr [] w wx → HSrc wx u a ∧ HSrc wx v b) := fun wx hx => ⟨ha.kept hx, hb.kept hx⟩
  obtain ⟨po, pc, no, nc, qo, qc, ro, rc, rfl, _⟩ := ha.opens
  obtain ⟨so, sc, mo, mc, xo, xc, yo, yc, rfl, _⟩ := hb.opens
  clear ha hb
  go_enter Try.func14, Try.ntmps14
  obtain ⟨A0, hA0⟩ : ∃ A0 : Array Value, A0 = #[.int .i64 a.s, .int .u64 a.z, .int .u64 a.zc, .int .u64 a.c, .int .u64 a.sm, .slice po a.P.length pc, .slice no a.N.length nc, .slice qo a.pd.length qc, .slice ro a.nd.length rc] := ⟨_, rfl⟩
  obtain ⟨B0, hB0⟩ : ∃ B0 : Array Value, B0 = #[.int .i64 b.s, .int .u64 b.z, .int .u64 b.zc, .int .u64 b.c, .int .u64 b.sm, .slice so b.P.length sc, .slice mo b.N.length mc, .slice xo b.pd.length xc, .slice yo b.nd.length yc] := ⟨_, rfl⟩
  have HA := twoH_at w A0 B0
  subst hA0
  subst hB0
  go_wp2_with fail
  generalize (w.alloc (.cells _ _)).alloc (.cells _ _) = wA at HA ⊢
  refine (goesOn_any _ _ a b wA (HH.out _ HA.out.2.2).1 (HH.out _ HA.out.2.2).2).mono ?_
  rintro e1 w1 ⟨rfl, hf1⟩
  have HF1 : Hid (Fr [] w w1) := HA.out.2.2.trans hf1 (by simp)
  have HN : Hid (Nine w1 w.heap.size _ ∧ Nine w1 (w.heap.size + 1) _) := ⟨HA.out.1.kept hf1 (by simp), HA.out.2.1.kept hf1 (by simp)⟩
  clear hf1 HA
  cases hg : gon a b with
  | false =>
    go_wp2
    go_ret
    exact ⟨by rw [hg]; rfl, HF1.out⟩
  | true =>
    have c0 := HN.out.1.cell 0 rfl
    have d0 := HN.out.2.cell 0 rfl
    have c1 := HN.out.1.cell 1 rfl
    have d1 := HN.out.2.cell 1 rfl
    have c2 := HN.out.1.cell 2 rfl
    have d2 := HN.out.2.cell 2 rfl
    have c3 := HN.out.1.cell 3 rfl
    have d3 := HN.out.2.cell 3 rfl
    have c4 := HN.out.1.cell 4 rfl
    have d4 := HN.out.2.cell 4 rfl
    have c5 := HN.out.1.cell 5 rfl
    have d5 := HN.out.2.cell 5 rfl
    have c6 := HN.out.1.cell 6 rfl
    have d6 := HN.out.2.cell 6 rfl
    have c7 := HN.out.1.cell 7 rfl
    have d7 := HN.out.2.cell 7 rfl
    have c8 := HN.out.1.cell 8 rfl
    have d8 := HN.out.2.cell 8 rfl
    go_wp2_with fail
    refine (goesOn_any _ _ b a w1 (HH.out _ HF1.out).2 (HH.out _ HF1.out).1).mono ?_
    rintro e2 w2 ⟨rfl, hf2⟩
    have HF2 : Hid (Fr [] w w2) := HF1.out.trans hf2 (by simp)
    clear hf2
    go_wp2
    go_ret
    exact ⟨by rw [hg]; rfl, HF2.out⟩

/-- A reason's name. -/
def nam (y : Int) : ByteArray :=
  if y = 0 then ⟨#[110, 111, 110, 101]⟩ else if y = 1 then ⟨#[115, 99, 104, 101, 109, 97]⟩ else if y = 2 then ⟨#[116, 104, 114, 101, 115, 104, 111, 108, 100]⟩ else if y = 3 then ⟨#[99, 111, 117, 110, 116]⟩ else if y = 4 then ⟨#[122, 101, 114, 111, 32, 99, 111, 117, 110, 116]⟩ else if y = 5 then ⟨#[112, 111, 115, 105, 116, 105, 118, 101]⟩ else if y = 6 then ⟨#[110, 101, 103, 97, 116, 105, 118, 101]⟩ else ⟨#[]⟩
set_option maxHeartbeats 2000000 in
theorem name_any (y : Int) (w : World) :
    Calls Try.prog 24 #[.int .i64 y] w fun e w' => e = .returned (.string (nam y)) ∧ w = w' := by
  go_enter Try.func24, Try.ntmps24
  by_cases h0 : y = 0
  · subst h0
    go_wp2
    go_ret
    exact ⟨rfl, rfl⟩
  have d0 : (y == 0) = false := by simpa using h0
  by_cases h1 : y = 1
  · subst h1
    go_wp2
    go_ret
    exact ⟨rfl, rfl⟩
  have d1 : (y == 1) = false := by simpa using h1
  by_cases h2 : y = 2
  · subst h2
    go_wp2
    go_ret
    exact ⟨rfl, rfl⟩
  have d2 : (y == 2) = false := by simpa using h2
  by_cases h3 : y = 3
  · subst h3
    go_wp2
    go_ret
    exact ⟨rfl, rfl⟩
  have d3 : (y == 3) = false := by simpa using h3
  by_cases h4 : y = 4
  · subst h4
    go_wp2
    go_ret
    exact ⟨rfl, rfl⟩
  have d4 : (y == 4) = false := by simpa using h4
  by_cases h5 : y = 5
  · subst h5
    go_wp2
    go_ret
    exact ⟨rfl, rfl⟩
  have d5 : (y == 5) = false := by simpa using h5
  by_cases h6 : y = 6
  · subst h6
    go_wp2
    go_ret
    exact ⟨rfl, rfl⟩
  have d6 : (y == 6) = false := by simpa using h6
  have HE : Hid (nam y = ⟨#[]⟩) := by unfold Hid nam; rw [if_neg h0, if_neg h1, if_neg h2, if_neg h3, if_neg h4, if_neg h5, if_neg h6]
  go_wp2
  go_ret
  exact ⟨by rw [HE.out]; rfl, rfl⟩
end Go.Proofs.Ytnfbmdniomelnaa
