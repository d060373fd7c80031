/-
  The walk of tidepolelaw03.VarintPuts: it returns true, whatever it is given, and writes nothing that was there.
-/
import Derived.Test.YtimopgapnnkbnaaAwake
namespace Go.Proofs.Ytimopgapnnkbnaa
open Go.RowKit Mem Bits Sevens
set_option linter.unusedSimpArgs false
set_option linter.unusedVariables false

/-- A slice of numbers without a sign that came in. -/
theorem IsRow.nats {w : World} {a : Option Addr} {len cap : Nat} {zs : List Int} (h : IsRow .u64 w a len cap zs) :
    ∃ (b off : Nat) (z : Nat → Nat), (0 < len → a = some ⟨b, off, none⟩) ∧ (∀ j, j < len → w.cell? ⟨b, off + j, none⟩ = some (.int .u64 (z j : Int))) ∧ (∀ j, z j < 18446744073709551616) := by
  rcases h with ⟨rfl, rfl, rfl, rfl⟩ | ⟨x, rfl, hl, hm, hz, hc, hw⟩
  · exact ⟨0, 0, fun _ => 0, fun h => by omega, fun j h => by omega, fun j => by simp⟩
  · have hbd : ∀ j, 0 ≤ zs.getD j 0 ∧ zs.getD j 0 < 18446744073709551616 := by
      intro j
      rw [List.getD_eq_getElem?_getD]
      by_cases hj : j < zs.length
      · rw [List.getElem?_eq_getElem hj]
        have := hw _ (List.getElem_mem hj)
        simp [Lit.wf, IntKind.min, IntKind.max, IntKind.bits, IntKind.signed] at this
        simp
        omega
      · rw [List.getElem?_eq_none (by omega)]; simp
    have hbz : ∀ j, (zs.getD j 0).toNat < 18446744073709551616 := fun j => by have := hbd j; omega
    by_cases h0 : 0 < len
    · obtain ⟨b, off, spot⟩ := x
      have hc0 := hc 0 (by omega)
      have hspot : spot = none := by simpa [Addr.add] using World.cell?_spot hc0
      subst hspot
      refine ⟨b, off, fun j => (zs.getD j 0).toNat, fun _ => rfl, fun j hj => ?_, hbz⟩
      have e1 : (⟨b, off, none⟩ : Addr).add j = ⟨b, off + j, none⟩ := by unfold Addr.add; split <;> simp_all
      rw [← e1, hc j (by omega), Int.toNat_of_nonneg (hbd j).1]
    · exact ⟨0, 0, fun j => (zs.getD j 0).toNat, fun h => by omega, fun j h => by omega, hbz⟩

/-- int64(v). -/
def sg (v : Nat) : Int := IntKind.i64.wrap (v : Int)
theorem sg_in (v : Nat) : -9223372036854775808 ≤ sg v ∧ sg v ≤ 9223372036854775807 := by unfold sg; rw [IntKind.wrap_i64]; omega
/-- What one number has put: itself, and itself with a sign. -/
def item (v : Nat) : List Bool := vbits v ++ vbits (zig (sg v))
def putAll (A : Nat) (z : Nat → Nat) : Nat → List Bool
  | 0 => List.replicate A true
  | k + 1 => putAll A z k ++ item (z k)
theorem item_length (v : Nat) : (item v).length = 8 * ((vb v).length + (vb (zig (sg v))).length) := by
  unfold item; rw [List.length_append, vbits_length, vbits_length]; omega
theorem item_le {v : Nat} (hv : v < 18446744073709551616) : (item v).length ≤ 160 := by
  have h1 := vb_ten hv
  have h2 := vb_ten (zig_lt (sg_in v).1 (sg_in v).2)
  rw [item_length]; omega
theorem putAll_le (A : Nat) (z : Nat → Nat) (hz : ∀ j, z j < 18446744073709551616) (k : Nat) : (putAll A z k).length ≤ A + 160 * k := by
  induction k with
  | zero => simp [putAll]
  | succ k ih => have := item_le (hz k); simp only [putAll, List.length_append]; omega
theorem putAll_split (A : Nat) (z : Nat → Nat) (k m : Nat) (h : k < m) : ∃ r, putAll A z m = putAll A z k ++ item (z k) ++ r := by
  have : ∀ d, ∃ r, putAll A z (k + 1 + d) = putAll A z k ++ item (z k) ++ r := by
    intro d
    induction d with
    | zero => exact ⟨[], by simp [putAll]⟩
    | succ d ih => obtain ⟨r, hr⟩ := ih; exact ⟨r ++ item (z (k + 1 + d)), by rw [← Nat.add_assoc]; simp only [putAll]; rw [show putAll A z (k + 1 + d) = _ from hr]; simp⟩
  have := this (m - (k + 1))
  rwa [show k + 1 + (m - (k + 1)) = m from by omega] at this

/-- A number that stands among bits is read. -/
theorem read_at (a c : List Bool) (v lim : Nat) (hv : v < 18446744073709551616) (hl : a.length + 8 * (vb v).length ≤ lim) :
    parse (restBytes (a ++ vbits v ++ c) a.length lim) 0 0 = (v, 0, (vb v).length) := by
  unfold vbits
  rw [restBytes_bits8 (vb v) a c lim (vb_lt v) hl, parse_vb v _ 0 0 (by simpa using hv) (by omega)]
  simp
theorem read_both (A : Nat) (z : Nat → Nat) (hz : ∀ j, z j < 18446744073709551616) (k m : Nat) (h : k < m) :
    parse (restBytes (putAll A z m) (putAll A z k).length (putAll A z m).length) 0 0 = (z k, 0, (vb (z k)).length) ∧
    parse (restBytes (putAll A z m) ((putAll A z k).length + 8 * (vb (z k)).length) (putAll A z m).length) 0 0 = (zig (sg (z k)), 0, (vb (zig (sg (z k)))).length) := by
  obtain ⟨r, hr⟩ := putAll_split A z k m h
  have e1 : putAll A z m = putAll A z k ++ vbits (z k) ++ (vbits (zig (sg (z k))) ++ r) := by rw [hr]; simp [item]
  have e2 : putAll A z m = (putAll A z k ++ vbits (z k)) ++ vbits (zig (sg (z k))) ++ r := by rw [hr]; simp [item]
  have e3 : (putAll A z k).length + 8 * (vb (z k)).length = (putAll A z k ++ vbits (z k)).length := by rw [List.length_append, vbits_length]
  have hl : (putAll A z m).length = (putAll A z k).length + (8 * (vb (z k)).length + (8 * (vb (zig (sg (z k)))).length + r.length)) := by
    rw [e1]; simp only [List.length_append, vbits_length]; omega
  constructor
  · rw [hl, e1]
    exact read_at _ _ _ _ (hz k) (by omega)
  · rw [hl, e3, e2]
    exact read_at _ _ _ _ (zig_lt (sg_in _).1 (sg_in _).2) (by rw [List.length_append, vbits_length]; omega)

theorem replicate_snoc (k : Nat) : List.replicate k true ++ [true] = List.replicate (k + 1) true := List.replicate_succ'.symm

set_option maxRecDepth 100000 in
set_option maxHeartbeats 2000000 in
theorem puts_walk (a0 : Option Addr) (len0 cap0 : Nat) (z0 : List Int) (a1 : Int) (w : World) (w0 : IsRow .u64 w a0 len0 cap0 z0) (w1 : (Lit.int .i64 a1).wf = true) :
    Calls Try.prog 3 #[.slice a0 len0 cap0, .int .i64 a1] w fun e w' => e = .returned (.bool true) ∧ Below w.heap.size w w' := by
  obtain ⟨b, off, z, ha, hcell, hz⟩ := w0.nats
  clear w0 w1
  by_cases hbad : 30 < len0 ∨ a1 < 0 ∨ 20 < a1
  · have hout : (decide (30 < (len0 : Int)) = true) ∨ (decide (30 < (len0 : Int)) = false ∧ decide (a1 < 0) = true) ∨ (decide (30 < (len0 : Int)) = false ∧ decide (a1 < 0) = false ∧ decide (20 < a1) = true) := by
      by_cases h1 : 30 < len0
      · exact .inl (decide_eq_true (by omega))
      · by_cases h2 : a1 < 0
        · exact .inr (.inl ⟨decide_eq_false (by omega), decide_eq_true h2⟩)
        · exact .inr (.inr ⟨decide_eq_false (by omega), decide_eq_false h2, decide_eq_true (by omega)⟩)
    have HB : Hid (30 < len0 ∨ a1 < 0 ∨ 20 < a1) := hbad
    clear hbad ha hcell hz
    go_enter Try.func3, Try.ntmps3
    go_wp2_with fail
    refine (newWriter_ok _ [] 0 w (Src.nil w) (by decide) (by decide)).mono ?_
    rintro e wa ⟨p, g, rfl, hw1, hp, hg, hf1⟩
    clear hw1
    rcases hout with h1 | ⟨h1, h2⟩ | ⟨h1, h2, h3⟩
    · go_wp2_with fail
      refine (awake_any wa).mono ?_
      rintro e w' ⟨rfl, hf⟩
      go_wp2_with fail
      go_ret
      exact ⟨rfl, (hf1.trans hf (by simp)).below (Nat.le_refl _) (by simp)⟩
    · go_wp2_with fail
      refine (awake_any wa).mono ?_
      rintro e w' ⟨rfl, hf⟩
      go_wp2_with fail
      go_ret
      exact ⟨rfl, (hf1.trans hf (by simp)).below (Nat.le_refl _) (by simp)⟩
    · go_wp2_with fail
      refine (awake_any wa).mono ?_
      rintro e w' ⟨rfl, hf⟩
      go_wp2_with fail
      go_ret
      exact ⟨rfl, (hf1.trans hf (by simp)).below (Nat.le_refl _) (by simp)⟩
  obtain ⟨A, rfl⟩ := Int.eq_ofNat_of_zero_le (show 0 ≤ a1 by omega)
  have hA : A ≤ 20 := by omega
  have hl0 : len0 ≤ 30 := by omega
  clear hbad
  have HZ : Hid (∀ j, z j < 18446744073709551616) := hz
  have HCELL : Hid (∀ j, j < len0 → w.cell? ⟨b, off + j, none⟩ = some (.int .u64 (z j : Int))) := hcell
  have HA0 : Hid (0 < len0 → a0 = some ⟨b, off, none⟩) := ha
  clear hz hcell ha
  have d1 : decide (30 < (len0 : Int)) = false := decide_eq_false (by omega)
  have d2 : decide ((A : Int) < 0) = false := decide_eq_false (by omega)
  have d3 : decide (20 < (A : Int)) = false := decide_eq_false (by omega)
  go_enter Try.func3, Try.ntmps3
  go_wp2_with fail
  refine (newWriter_ok _ [] 0 w (Src.nil w) (by decide) (by decide)).mono ?_
  rintro e wa ⟨p, g, rfl, hw1, hp, hg, hf1⟩
  go_wp2_with fail
  go_loopw [51] (fun c wr => ∃ k gk : Nat, k ≤ A ∧ c = .int .i64 k ∧ Wr wr p gk (List.replicate k true) ∧ w.heap.size ≤ gk ∧ Fr [] w wr) (fun c _ => A - (intOf c).toNat)
  case atStart => exact ⟨0, g, by omega, rfl, hw1, hg, hf1⟩
  case round =>
    obtain ⟨k, gk, hk, rfl, hwk, hgk, hfr⟩ := hrel
    by_cases hlt : k < A
    · have dk : decide ((k : Int) < (A : Int)) = true := decide_eq_true (by omega)
      go_wp2_with fail
      refine (bit_any wr p gk _ true hwk (by simp; omega)).mono ?_
      rintro e w2 ⟨rfl, g2, hw2, hg2, hf2⟩
      rw [replicate_snoc] at hw2
      have hf3 : Fr [] w w2 := hfr.trans hf2 (by intro x hx; simp at hx; omega)
      have hg3 : w.heap.size ≤ g2 := by have := hfr.size; omega
      clear hwk hfr hf2 hg2
      go_wp2_with fail
      go_roundw
      case rel => exact ⟨k + 1, g2, by omega, by go_num, hw2, hg3, hf3⟩
      case measure => simp [intOf]; omega
    · have hkA : k = A := by omega
      subst hkA
      clear hw1 hf1
      go_wp2_with fail
      go_loopw [7, 9, 59] (fun n _ c wr => ∃ j gj : Nat, j ≤ len0 ∧ c = .int .i64 j ∧ n = .int .i64 ((putAll k z j).length : Int) ∧ Wr wr p gj (putAll k z j) ∧ w.heap.size ≤ gj ∧ Fr [] w wr) (fun _ _ c _ => len0 - (intOf c).toNat)
      case atStart => exact ⟨0, gk, by omega, rfl, by simp [putAll], hwk, hgk, hfr⟩
      case round =>
        clear hwk hgk hfr
        obtain ⟨j, gj, hj, rfl, rfl, hwj, hgj, hfr⟩ := hrel
        have hpl := putAll_le k z HZ.out j
        by_cases hlt2 : j < len0
        · have hae := HA0.out (by omega)
          subst hae
          have hc := hfr.cell_some (HCELL.out j hlt2) (by simp)
          have hv := HZ.out j
          have dj : decide ((j : Int) < (len0 : Int)) = true := decide_eq_true (by omega)
          have HPJ : Hid (putAll k z (j + 1) = putAll k z j ++ (vbits (z j) ++ vbits (zig (sg (z j))))) := rfl
          have HSG : Hid (IntKind.i64.wrap ((z j : Nat) : Int) = sg (z j)) := rfl
          generalize z j = v at hc hv HPJ HSG
          have hsg := sg_in v
          have hvb := vb_ten hv
          have hzb := vb_ten (zig_lt hsg.1 hsg.2)
          have hwr : IntKind.i64.wrap (v : Int) = sg v := rfl
          go_wp2_with fail
          refine (putU_any wr p gj _ v hwj (by omega) hv).mono ?_
          rintro e w2 ⟨rfl, g2, hw2, hg2, hf2⟩
          have hf3 : Fr [] w w2 := hfr.trans hf2 (by intro x hx; simp at hx; omega)
          have hg3 : w.heap.size ≤ g2 := by have := hfr.size; omega
          have hvl := vbits_length v
          clear hwj hfr hf2 hg2 hgj hc
          go_wp2_with fail
          refine (putS_any w2 p g2 _ (sg v) hw2 (by rw [List.length_append, hvl]; omega) hsg.1 hsg.2).mono ?_
          rintro e w3 ⟨rfl, g4, hw4, hg4, hf4⟩
          have hf5 : Fr [] w w3 := hf3.trans hf4 (by intro x hx; simp at hx; omega)
          have hg5 : w.heap.size ≤ g4 := by have := hf3.size; omega
          have HPL : Hid ((putAll k z (j + 1)).length = (putAll k z j).length + 8 * ((vb v).length + (vb (zig (sg v))).length)) := by
            show _ = _
            rw [HPJ.out]; simp only [List.length_append, vbits_length]; omega
          rw [List.append_assoc, ← HPJ.out] at hw4
          clear hw2 hf3 hf4 hg3 hg4 HPJ
          go_wp2_with fail
          refine (vlen_any v w3 hv).mono ?_
          rintro e w4 ⟨rfl, rfl⟩
          go_wp2_with fail
          refine (rbytes_any v w3 hv).mono ?_
          rintro e w4 ⟨rfl, hf6⟩
          have hs := str_size (vb v)
          have hw6 := hw4.kept hf6 (by simp) (by simp)
          have hf7 : Fr [] w w4 := hf5.trans hf6 (by simp)
          clear hw4 hf5 hf6
          have dn : (((vb v).length : Int) != ((str (vb v)).size : Int)) = false := by rw [hs]; simp
          clear hs
          go_wp2_with fail
          refine (vlen_any v w4 hv).mono ?_
          rintro e w5 ⟨rfl, rfl⟩
          go_wp2_with fail
          refine (rzig_any (sg v) w4 hsg.1 hsg.2).mono ?_
          rintro e w5 ⟨rfl, rfl⟩
          go_wp2_with fail
          refine (vlen_any (zig (sg v)) w4 (zig_lt hsg.1 hsg.2)).mono ?_
          rintro e w5 ⟨rfl, rfl⟩
          go_wp2_with fail
          go_roundw
          case rel => exact ⟨j + 1, g4, by omega, by go_num, by rw [HPL.out]; go_num, hw6, hg5, hf7⟩
          case measure => simp [intOf]; omega
        · have hjl : j = len0 := by omega
          subst hjl
          have dj : decide ((j : Int) < (j : Int)) = false := decide_eq_false (by omega)
          have HRB : Hid (∀ i, i < j → parse (restBytes (putAll k z j) (putAll k z i).length (putAll k z j).length) 0 0 = (z i, 0, (vb (z i)).length) ∧
            parse (restBytes (putAll k z j) ((putAll k z i).length + 8 * (vb (z i)).length) (putAll k z j).length) 0 0 = (zig (sg (z i)), 0, (vb (zig (sg (z i)))).length)) := fun i hi => read_both k z HZ.out i j hi
          have HK : Hid (k ≤ (putAll k z j).length) := by
            show _ ≤ _
            have : ∀ m, k ≤ (putAll k z m).length := by
              intro m
              induction m with
              | zero => simp [putAll]
              | succ m ih => simp only [putAll, List.length_append]; omega
            exact this j
          obtain ⟨L, hL⟩ : ∃ L, L = putAll k z j := ⟨_, rfl⟩
          have HLE : Hid ((putAll k z j).length = L.length) := by show _ = _; rw [hL]
          rw [← hL] at hwj hpl HRB HK ⊢
          clear hL
          go_wp2_with fail
          refine (len_any wr p gj L hwj).mono ?_
          rintro e w2 ⟨rfl, rfl⟩
          go_wp2_with fail
          refine (bytes_any wr p gj L hwj (by omega)).mono ?_
          rintro e w2 ⟨g2, rfl, hg2, hz2, hf2⟩
          have hw2 := hwj.kept hf2 (by simp) (by simp)
          go_wp2_with fail
          refine (len_any w2 p gj L hw2).mono ?_
          rintro e w3 ⟨rfl, rfl⟩
          have hsrc : Src w2 (.slice (some ⟨g2, 0, none⟩) (nbs L.length) (nbs L.length)) (pack L) := Wr.src (Row.made hg2 (by unfold maxLen nbs; omega) (by simp))
          go_wp2_with fail
          refine (newReader_ok _ (pack L) L.length w2 hsrc (by simp) (by omega)).mono ?_
          rintro e w3 ⟨q, h, rfl, hr3, hq, hh, hf3⟩
          rw [unpack_pack] at hr3
          have hf03 : Fr [] w w3 := (hfr.trans hf2 (by simp)).trans hf3 (by simp)
          have hq0 : w.heap.size ≤ q := by have := hf2.size; have := hfr.size; omega
          clear hwj hfr hg2 hf2 hw2 hsrc hf3 hgj hz2 hq hh
          go_wp2_with fail
          go_loopw [106] (fun c wr => ∃ i : Nat, i ≤ k ∧ c = .int .i64 i ∧ Rd wr q h L i L.length false ∧ Fr [] w wr) (fun c _ => k - (intOf c).toNat)
          case atStart => exact ⟨0, by omega, rfl, hr3, hf03⟩
          case round =>
            clear hr3 hf03
            obtain ⟨i, hi, rfl, hri, hfi⟩ := hrel
            by_cases hlt3 : i < k
            · have di : decide ((i : Int) < (k : Int)) = true := decide_eq_true (by omega)
              have hkL := HK.out
              go_wp2_with fail
              refine (rbit_ok wr q h L i L.length false hri (by omega) (by omega)).mono ?_
              rintro e w4 ⟨rfl, hr4, hf4⟩
              have hf5 : Fr [] w w4 := hfi.trans hf4 (by simp; omega)
              clear hri hfi hf4
              go_wp2_with fail
              go_roundw
              case rel => exact ⟨i + 1, by omega, by go_num, hr4, hf5⟩
              case measure => simp [intOf]; omega
            · have hik : i = k := by omega
              subst hik
              have di : decide ((i : Int) < (i : Int)) = false := decide_eq_false (by omega)
              go_wp2_with fail
              go_loopw [13, 14, 15, 16, 17, 113] (fun _ _ _ _ _ c wr => ∃ m : Nat, m ≤ j ∧ c = .int .i64 m ∧ Rd wr q h L (putAll i z m).length L.length false ∧ Fr [] w wr) (fun _ _ _ _ _ c _ => j - (intOf c).toNat)
              case atStart => exact ⟨0, by omega, rfl, by simpa [putAll] using hri, hfi⟩
              case round =>
                clear hri hfi
                obtain ⟨m, hm, rfl, hrm, hfm⟩ := hrel
                by_cases hlt4 : m < j
                · have hae := HA0.out (by omega)
                  subst hae
                  have hc := hfm.cell_some (HCELL.out m hlt4) (by simp)
                  have hv := HZ.out m
                  have dm : decide ((m : Int) < (j : Int)) = true := decide_eq_true (by omega)
                  obtain ⟨hp1, hp2⟩ := HRB.out m hlt4
                  have HP1 : Hid (parse (restBytes L (putAll i z m).length L.length) 0 0 = (z m, 0, (vb (z m)).length)) := hp1
                  have HP2 : Hid (parse (restBytes L ((putAll i z m).length + 8 * (vb (z m)).length) L.length) 0 0 = (zig (sg (z m)), 0, (vb (zig (sg (z m)))).length)) := hp2
                  have HPL : Hid ((putAll i z (m + 1)).length = (putAll i z m).length + 8 * (vb (z m)).length + 8 * (vb (zig (sg (z m)))).length) := by
                    show _ = _
                    simp only [putAll, List.length_append, item_length]; omega
                  clear hp1 hp2
                  generalize z m = v at hc hv HP1 HP2 HPL
                  have hsg := sg_in v
                  have hwr : IntKind.i64.wrap (v : Int) = sg v := rfl
                  have HZZ : Hid (zag (zig (sg v)) = sg v) := zag_zig _
                  go_wp2_with fail
                  refine (getU_any wr q h L _ L.length false v 0 _ hrm (by omega) HP1.out).mono ?_
                  rintro e w4 ⟨rfl, hr4, hf4⟩
                  have hf5 : Fr [] w w4 := hfm.trans hf4 (by simp; omega)
                  clear hrm hfm hf4 hc
                  go_wp2_with fail
                  refine (getS_any w4 q h L _ L.length false (zig (sg v)) 0 _ hr4 (by omega) HP2.out).mono ?_
                  rintro e w6 ⟨rfl, hr6, hf6⟩
                  have hf7 : Fr [] w w6 := hf5.trans hf6 (by simp; omega)
                  rw [HZZ.out]
                  clear hr4 hf5 hf6
                  go_wp2_with fail
                  go_roundw
                  case rel => exact ⟨m + 1, by omega, by go_num, by rw [HPL.out]; exact hr6, hf7⟩
                  case measure => simp [intOf]; omega
                · have hmj : m = j := by omega
                  subst hmj
                  have dm : decide ((m : Int) < (m : Int)) = false := decide_eq_false (by omega)
                  rw [HLE.out] at hrm
                  go_wp2_with (first
                    | (go_at_call 20; refine (left_any _ q h L L.length L.length false (by exact hrm) (by omega)).mono ?_; rintro e w4 ⟨rfl, hf4⟩)
                    | (go_at_call 7; refine (awake_any _).mono ?_; rintro e w9 ⟨rfl, hf9⟩))
                  go_ret
                  exact ⟨rfl, ((hfm.trans hf4 (by simp)).trans hf9 (by simp)).below (Nat.le_refl _) (by simp)⟩
end Go.Proofs.Ytimopgapnnkbnaa
