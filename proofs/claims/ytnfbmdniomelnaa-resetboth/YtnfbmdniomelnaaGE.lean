/-
  FNum, FEqual, FFloat, FSpread, FOver, FParts, FBack, FFrom, Wholes.
-/
import Derived.Test.YtnfbmdniomelnaaGD
import Derived.Deep.RegionHeld3
import Derived.Laws.Externs
import Derived.Test.YtnfbmdniomelnaaGC
import Derived.Deep.DeepCutAuto
/-
  Package fhist: numbers, Equal.
-/
namespace Go.Proofs.Ytnfbmdniomelnaa
open Go.RowKit Mem Spans
set_option linter.unusedSimpArgs false
set_option linter.unusedVariables false
set_option maxRecDepth 100000

theorem set5_row {w : World} {g : Nat} {t : TypeId} {a0 a1 a2 a3 a4 : Value} (h : w.heap[g]? = some (.cells #[a0, a1, a2, a3, a4] t (0, 0))) (u0 u1 u2 u3 u4 : Value) :
    (((((w.setCell ⟨g, 0, none⟩ u0).setCell ⟨g, 1, none⟩ u1).setCell ⟨g, 2, none⟩ u2).setCell ⟨g, 3, none⟩ u3).setCell ⟨g, 4, none⟩ u4).heap[g]? = some (.cells #[u0, u1, u2, u3, u4] t (0, 0)) := by
  simp [World.setCell, Array.getElem?_modify, h]

/-- A schema as a number without a sign. -/
def usg (s : Int) : Int := s % 18446744073709551616
theorem usg_inj {a b : Int} (ha : in64 a) (hb : in64 b) : usg a = usg b ↔ a = b := by
  unfold in64 at ha hb
  unfold usg
  omega
def nmb (h : Fs) : Array Value := #[.int .u64 (usg h.s), .int .u64 h.z, .int .u64 h.zc, .int .u64 h.c, .int .u64 h.sm]

end Go.Proofs.Ytnfbmdniomelnaa

/-
  Package fhist: Equal.
-/
namespace Go.Proofs.Ytnfbmdniomelnaa
open Go.RowKit Mem Spans
set_option linter.unusedSimpArgs false
set_option linter.unusedVariables false
set_option maxRecDepth 100000

/-- Are two histograms' five numbers the same? -/
def eqr (a b c d e a' b' c' d' e' : Int) : Bool := decide (a = a' ∧ b = b' ∧ c = c' ∧ d = d' ∧ e = e')

end Go.Proofs.Ytnfbmdniomelnaa

/-
  Package fhist: Float, Whole.
-/
namespace Go.Proofs.Ytnfbmdniomelnaa
open Go.RowKit Mem Spans Floats
set_option linter.unusedSimpArgs false
set_option linter.unusedVariables false
set_option maxRecDepth 100000

theorem run_bits (v : Nat) (w : World) : (callFunc 61 #[.float .f64 v]).run Try.prog w = .ok (.value (.int .u64 (v : Int))) w := by
  rw [run_callFunc_extern Try.func61 (by kernel_rfl) (by kernel_rfl) (by kernel_rfl) (e := Extern.MathFloatBits.float64bits) (by kernel_rfl)]
  rfl

set_option maxHeartbeats 400000 in
theorem float_any (n : Nat) (w : World) (h : n < 18446744073709551616) :
    Calls Try.prog 44 #[.int .u64 (n : Int)] w fun e w' => e = .returned (.int .u64 (flt n : Int)) ∧ w = w' := by
  have hb := run_bits
  have hc : ∀ w, (convert 22 116 (.int .u64 (n : Int))).run Try.prog w = .ok (.float .f64 (flt n)) w := by
    intro w
    rw [run_convert_int_float w 22 116 .u64 .f64 n (by rw [Try.underlying22]; rfl) Try.underlying116, nearest_flt h]
  go_enter Try.func44, Try.ntmps44
  go_wp2_with (simp only [hc])
  go_ret
  exact ⟨rfl, rfl⟩

/-- Whole's answers. -/
def whv (v : Nat) : Nat := (whl v).getD 0
def whb (v : Nat) : Bool := (whl v).isSome
theorem whl_pos {v : Nat} (h : v < 4895412794951729152) (e : flt (trn v) = v) : whl v = some (trn v) := by unfold whl; rw [if_pos h, if_pos e]
theorem whl_neg {v : Nat} (h : ¬ (v < 4895412794951729152 ∧ flt (trn v) = v)) : whl v = none := by
  unfold whl
  split
  · rename_i h1
    rw [if_neg (fun e => h ⟨h1, e⟩)]
  · rfl

end Go.Proofs.Ytnfbmdniomelnaa

/-
  Package fhist: spread.
-/
namespace Go.Proofs.Ytnfbmdniomelnaa
open Go.RowKit Go.Shelf Mem Spans
set_option linter.unusedSimpArgs false
set_option linter.unusedVariables false
set_option maxRecDepth 100000
attribute [local go_sem] Oper.semAt_some

theorem PSrc.below {n0 : Nat} {w w' : World} {v : Value} {l : List Sp} (h : PSrc w v l) (hb : Below n0 w w') (hn : w.heap.size ≤ n0) : PSrc w' v l := by
  obtain ⟨ao, cap, h1, h2, h3, h4, b, off, h5, h6⟩ := h
  refine ⟨ao, cap, h1, h2, h3, h4, b, off, h5, fun j x hj => ?_⟩
  obtain ⟨c0, c1⟩ := h6 j x hj
  have b0 : b < n0 := by have := World.block_lt_of_cell? w _ c0; simp at this; omega
  exact ⟨(hb.cell (p := ⟨b, off + j * 2, none⟩) b0).trans c0, (hb.cell (p := ⟨b, off + j * 2 + 1, none⟩) b0).trans c1⟩
theorem spsU_in_from {o : List Sp} (ho : ∀ s ∈ o, in64 s.1 ∧ inu s.2) (ps : List Int) (st : Nat × List Int) (h : ∀ z ∈ st.2, inu z) : ∀ z ∈ (ps.foldl (spt o) st).2, inu z := by
  induction ps generalizing st with
  | nil => exact h
  | cons p r ih =>
    rw [List.foldl_cons]
    refine ih _ ?_
    by_cases k : ∃ s, o[st.1]? = some s ∧ s.1 = p
    · obtain ⟨s, h1, h2⟩ := k
      rw [spt_hit h1 h2]
      intro z hz
      rcases List.mem_append.1 hz with h3 | h3
      · exact h z h3
      · rw [List.mem_singleton.1 h3]; exact (ho s (List.mem_of_getElem? h1)).2
    · rw [spt_miss (fun s h1 h2 => k ⟨s, h1, h2⟩)]
      intro z hz
      rcases List.mem_append.1 hz with h3 | h3
      · exact h z h3
      · rw [List.mem_singleton.1 h3]; unfold inu; omega
theorem spsU_in {o : List Sp} (ho : ∀ s ∈ o, in64 s.1 ∧ inu s.2) (ps : List Int) : ∀ z ∈ (sps o ps).2, inu z := spsU_in_from ho ps _ (by simp)
theorem cell_one_uat (w : World) (g : Nat) (x : Int) (t : TypeId) (hg : w.heap.size = g) : ∀ j u, [Value.int .u64 x][j]? = some u → (w.alloc (.cells #[.int .u64 x] t)).cell? ((⟨g, 0, none⟩ : Addr).add j) = some u := by
  subst hg
  intro j u hj
  have e : (⟨w.heap.size, 0, none⟩ : Addr).add j = ⟨w.heap.size, j, none⟩ := by unfold Addr.add; split <;> simp_all
  rw [e, World.cell?_alloc_at _ _ _ _ rfl]
  simpa using hj

/-- The boxes of the counts, of what came in and of the number, the counts' row. -/
def USPI (B : Nat) (w : World) (ov : Value) (A : Nat) (ls : List Int) (W : World) : Prop :=
  (((∃ v, Boxed W (B + 1) 42 v ∧ W.ownsRow B 22 1 v ls.length (unCells ls) ∧ (v = .slice none 0 0 ↔ ls = [])) ∧ Below B w W) ∧ Boxed W B 78 ov) ∧ Boxed W (B + 1 + 1) 3 (.int .i64 (A : Nat))
theorem uspi_at {B : Nat} {w : World} {ov : Value} {A : Nat} {ls : List Int} {W : World} (h : USPI B w ov A ls W) :
    KeepsOthers W (W.setCell ⟨B + 1 + 1, 0, none⟩ (.int .i64 ((A : Int) + 1))) ∧ Below B W (W.setCell ⟨B + 1 + 1, 0, none⟩ (.int .i64 ((A : Int) + 1))) ∧ USPI B w ov (A + 1) ls (W.setCell ⟨B + 1 + 1, 0, none⟩ (.int .i64 ((A : Int) + 1))) := by
  obtain ⟨⟨⟨⟨v, hv, hr, hn⟩, hb⟩, hp⟩, ha⟩ := h
  have hbl : Below B W (W.setCell ⟨B + 1 + 1, 0, none⟩ (.int .i64 ((A : Int) + 1))) := (Below.refl B W).setCell (p := ⟨B + 1 + 1, 0, none⟩) (by simp only; omega) _
  refine ⟨KeepsOthers.setCell _ _ _, hbl, ⟨⟨⟨v, hv.other (by omega) _, hr.kept (grownBy_setCell' _ _ _) (.inr (ha.not_row (by decide) hr).symm), hn⟩, hb.trans hbl⟩, hp.other (by omega) _⟩, ?_⟩
  rw [show (((A + 1 : Nat)) : Int) = (A : Int) + 1 from by omega]
  exact ha.set _
theorem uspi_app {B : Nat} {w : World} {ov v v' : Value} {A : Nat} {ls : List Int} {s : Int} {W w3 : World} {tmp : Obj} (h : USPI B w ov A ls W) (hv : Boxed W (B + 1) 42 v)
    (hown : w3.ownsRow B 22 1 v' (ls.length + 1) (unCells (ls ++ [s]))) (hgrow : (W.alloc tmp).grownBy w3 v.ownBlock) :
    Boxed w3 (B + 1) 42 v ∧ KeepsOthers W (w3.setCell ⟨B + 1, 0, none⟩ v') ∧ Below B W (w3.setCell ⟨B + 1, 0, none⟩ v') ∧ USPI B w ov A (ls ++ [s]) (w3.setCell ⟨B + 1, 0, none⟩ v') := by
  obtain ⟨⟨⟨⟨v0, hv', hr, hn⟩, hb⟩, hp⟩, ha⟩ := h
  have e : v0 = v := by
    have h1 := hv'.cell
    rw [hv.cell] at h1
    exact (Option.some.inj h1).symm
  subst e
  obtain ⟨hv1, hv2, hr2, hk2, hb2⟩ := hv.appended (by decide) hr (by have := hv.lt; omega) (by omega) hown hgrow
  refine ⟨hv1, hk2, hb2, ⟨⟨⟨_, hv2, by rw [List.length_append]; exact hr2, ?_⟩, hb.trans hb2⟩, ((hp.alloc _).kept hgrow (hp.not_row (by decide) hr)).other (by omega) _⟩, ((ha.alloc _).kept hgrow (ha.not_row (by decide) hr)).other (by omega) _⟩
  obtain ⟨g', cap', rfl⟩ := ownsRow_succ hown
  simp

theorem UOwn.put {e : TypeId} {B D : Nat} {w : World} {v : Value} {zs : List Int} {x : Option (List Deferred)} (h : UOwn e B w v zs) (hK : w.heap[D]? = some (Obj.deferred x)) : UOwn e B (w.putObj D (.deferred none)) v zs := by
  have hn : v = .slice none 0 0 ↔ zs = [] := by
    rcases h with ⟨rfl, rfl⟩ | ⟨g, _, h0, hr⟩
    · simp
    · obtain ⟨c, rfl⟩ := hr.val
      constructor
      · intro h; simp at h
      · intro h; subst h; simp at h0
  exact UOwn.of_owns (ownsRow_putObj h.owns _ hK rfl) hn
end Go.Proofs.Ytnfbmdniomelnaa

/-
  Package fhist: Over.
-/
namespace Go.Proofs.Ytnfbmdniomelnaa
open Go.RowKit Mem Spans
set_option linter.unusedSimpArgs false
set_option linter.unusedVariables false
set_option maxRecDepth 100000

/-- Over's error; what it tells. -/
def fove (h : Fs) (p n : List Sp) : Int :=
  if fce h = 0 then (if chk p = 0 then (if chk n = 0 then (if spb (fdp h) p = true then (if spb (fdn h) n = true then 0 else 23) else 23) else chk n) else chk p) else fce h
def fovs (h : Fs) (p n : List Sp) : Fs := ⟨h.s, h.z, h.zc, h.c, h.sm, p, n, (sps (fdp h) (pls p)).2, (sps (fdn h) (pls n)).2⟩
def fovh (h : Fs) (p n : List Sp) : Fs := if fove h p n = 0 then fovs h p n else fzero
theorem fzero_src (w : World) : FSrc w (.agg #[.int .i64 0, .int .u64 0, .int .u64 0, .int .u64 0, .int .u64 0, .slice none 0 0, .slice none 0 0, .slice none 0 0, .slice none 0 0]) fzero := (fzero_own 0 w).src (by unfold fin9 fzero; simp)
/-- A histogram that lies apart from all blocks below B. -/
def FKeep (B : Nat) (w : World) (v : Value) (h : Fs) : Prop := ∀ (S : List Nat) (w' : World), Fr S w w' → (∀ y ∈ S, y < B) → FSrc w' v h
theorem FKeep.src {B : Nat} {w : World} {v : Value} {h : Fs} (k : FKeep B w v h) : FSrc w v h := k [] w (Fr.refl _ _) (by simp)
theorem fzero_keep (B : Nat) (w : World) : FKeep B w (.agg #[.int .i64 0, .int .u64 0, .int .u64 0, .int .u64 0, .int .u64 0, .slice none 0 0, .slice none 0 0, .slice none 0 0, .slice none 0 0]) fzero := fun _ w' _ _ => fzero_src w'
end Go.Proofs.Ytnfbmdniomelnaa

/-
  Package fhist: floats, wholes, differences.
-/
namespace Go.Proofs.Ytnfbmdniomelnaa
open Go.RowKit Mem Spans Floats
set_option linter.unusedSimpArgs false
set_option linter.unusedVariables false
set_option maxRecDepth 100000

/-- The float of a number; the number of a float, and whether it has one. -/
def flI (z : Int) : Int := (flt z.toNat : Nat)
def wvI (z : Int) : Int := (whv z.toNat : Nat)
def wbI (z : Int) : Bool := whb z.toNat
theorem flI_in {z : Int} (h : inu z) : inu (flI z) := by
  unfold inu at h
  have := flt_lt (n := z.toNat) (by omega)
  unfold inu flI; omega
theorem wvI_in (z : Int) : inu (wvI z) := by
  unfold wvI whv whl
  split
  · rename_i h
    split
    · have := trn_lt h; unfold inu; simp; omega
    · unfold inu; simp
  · unfold inu; simp
theorem floatI_any (z : Int) (w : World) (h : inu z) :
    Calls Try.prog 44 #[.int .u64 z] w fun e w' => e = .returned (.int .u64 (flI z)) ∧ w = w' := by
  unfold inu at h
  obtain ⟨n, rfl⟩ := Int.eq_ofNat_of_zero_le h.1
  have := float_any n w (by omega)
  simpa [flI] using this

/-- floats' list. -/
def fla (d : List Int) : List Int := (abv d).map flI

set_option maxHeartbeats 2000000 in
theorem floats_any (v : Value) (d : List Int) (w : World) (h : ISrc w v d) (hl : d.length ≤ 1000000) (hn : ∀ z ∈ abv d, 0 ≤ z) :
    Calls Try.prog 46 #[v] w fun e w' => ∃ u, e = .returned u ∧ UOwn 22 w.heap.size w' u (fla d) ∧ Fr [] w w' := by
  have HIS : Hid (ISrc w v d) := h
  have HNN : Hid (∀ z ∈ abv d, 0 ≤ z) := hn
  have HLV : Hid ((abv d).length ≤ 1000000) := by
    rcases abe_cases d with h0 | h0
    · rw [Hid, abv_length h0]; exact hl
    · unfold abe at h0
      unfold Hid abv
      cases hh : absl 0 d with
      | none => simp
      | some o => rw [hh] at h0; cases h0
  obtain ⟨ao, cap, rfl, _⟩ := h
  obtain ⟨i0, hi⟩ := info_uint64
  have HI : Hid (UInfo 22 i0) := hi
  clear hi hn
  go_enter Try.func46, Try.ntmps46
  go_wp2_with fail
  refine (absolute_any _ d _ HIS.out hl).mono ?_
  rintro e w1 ⟨u, rfl, hu, hf1⟩
  have HU : Hid (∀ wx, Fr [] w1 wx → ISrc wx u (abv d)) := fun wx hx => (hu.src (abv_in d)).kept hx
  have HF1 : Hid (Fr [] w w1) := hf1
  have HFL : Hid (fla d = (abv d).map flI) := rfl
  have H64 : Hid (∀ z ∈ abv d, in64 z) := abv_in d
  clear hu hf1
  generalize abv d = A at *
  obtain ⟨bo, bcap, rfl, hbc, hbm, _, b, off, ha, hc⟩ := HU.out w1 (Fr.refl _ _)
  have HC : Hid (∀ j s, A[j]? = some s → w1.cell? ⟨b, off + j, none⟩ = some (.int .i64 s)) := hc
  have HA : Hid (0 < A.length → bo = some ⟨b, off, none⟩) := ha
  have hml : A.length ≤ 9223372036854775807 := by unfold maxLen at hbm; omega
  clear ha hc HU
  go_wp2
  go_loopw [5, 15] (fun u i wr => ∃ (k : Nat), k ≤ A.length ∧ i = .int .i64 (k : Int) ∧ UOwn 22 w1.heap.size wr u ((A.take k).map flI) ∧ Fr [] w1 wr) (fun _ i _ => A.length - (intOf i).toNat)
  case atStart => exact ⟨0, by omega, rfl, .inl ⟨by simp, rfl⟩, Fr.refl _ _⟩
  case round =>
    obtain ⟨k, hk, rfl, hso, hf⟩ := hrel
    have HF : Hid (Fr [] w1 wr) := hf
    have HS : Hid (UOwn 22 w1.heap.size wr u5 ((A.take k).map flI)) := hso
    have HSZ : Hid (w1.heap.size ≤ wr.heap.size) := HF.out.size
    clear hf hso
    by_cases hlt : k < A.length
    · obtain rfl := HA.out (by omega)
      obtain ⟨s, hs⟩ := at_lt hlt
      have c0 : wr.cell? ⟨b, off + k, none⟩ = some (.int .i64 s) := HF.out.cell_some (HC.out k s hs) (by simp)
      have hm := List.mem_of_getElem? hs
      have hin := H64.out s hm
      have hpos := HNN.out s hm
      have HT : Hid ((A.take (k + 1)).map flI = (A.take k).map flI ++ [flI s]) := by rw [Hid, take_at hs]; simp
      have HL : Hid (((A.take k).map flI).length ≤ 1000000) := by rw [Hid, List.length_map, List.length_take]; have := HLV.out; omega
      have HIU : Hid (inu s) := by unfold in64 at hin; unfold Hid inu; omega
      have hw : IntKind.u64.wrap s = s := by rw [IntKind.wrap_u64]; have := HIU.out; unfold inu at this; omega
      clear hs hm hin hpos
      go_wp2_with fail
      refine (floatI_any s _ HIU.out).mono ?_
      rintro e w2 ⟨rfl, rfl⟩
      generalize flI s = F at *
      go_wp2_with (at_builtin; refine wpList_append_u _ rfl _ _ 42 rfl Try.underlying42 HI.out.1 HI.out.2.1 HI.out.2.2.1 HI.out.2.2.2 (B := w1.heap.size) (s := F) (by have := HSZ.out; simp; omega) rfl rfl (HS.out.kept ((Fr.refl [] _).alloc _)) (lit_u 22 wr [F] rfl HSZ.out (by simp) (by unfold maxLen; simp)) HL.out ?_; intro v3 w3 ho3 hb3; have HO3 : Hid (UOwn 22 w1.heap.size w3 v3 (((A.take k).map flI) ++ [F])) := ho3; have HB3 : Hid (Fr [] w1 w3) := Fr.ofBelow (((HF.out.alloc _).below (Nat.le_refl _) (by simp)).trans hb3); clear ho3 hb3)
      go_roundw
      case rel => exact ⟨k + 1, by omega, by go_num, by rw [HT.out]; exact HO3.out, HB3.out⟩
      case measure => simp [intOf]; omega
    · have HS2 : Hid (UOwn 22 w.heap.size wr u5 (A.map flI)) := by
        have := HS.out
        rw [List.take_of_length_le (by omega)] at this
        exact this.mono HF1.out.size
      have HF2 : Hid (Fr [] w wr) := HF1.out.trans HF.out (by simp)
      clear HS
      go_wp2
      go_ret
      exact ⟨_, rfl, by rw [HFL.out]; exact HS2.out, HF2.out⟩

/-- wholes' answers. -/
def wab (l : List Int) : Bool := l.all wbI
def wal (l : List Int) : List Int := if wab l = true then l.map wvI else []


/-- differences' answers. -/
def dfb (l : List Int) : Bool := l.all fun z => decide (z ≤ 9223372036854775807)
def dfe (l : List Int) : Int := if dfb l = true then dle l else 28
def dfl (l : List Int) : List Int := if dfb l = true then dlv l else []

end Go.Proofs.Ytnfbmdniomelnaa

/-
  Package fhist: Back.
-/
namespace Go.Proofs.Ytnfbmdniomelnaa
open Go.RowKit Mem Spans Floats
set_option linter.unusedSimpArgs false
set_option linter.unusedVariables false
set_option maxRecDepth 100000

/-- Back's histogram; its error; what it tells. -/
def bks (h : Fs) : Hs := ⟨h.s, h.z, wvI h.zc, wvI h.c, h.sm, h.P, h.N, dfl (wal h.pd), dfl (wal h.nd)⟩
def bkb (h : Fs) : Bool := wab [h.zc, h.c] && wab h.pd && wab h.nd
def bke (h : Fs) : Int :=
  if fce h = 0 then (if bkb h = true then (if dfe (wal h.pd) = 0 then (if dfe (wal h.nd) = 0 then che (bks h) else dfe (wal h.nd)) else dfe (wal h.pd)) else 10) else fce h
def bkh (h : Fs) : Hs := if bke h = 0 then bks h else hzero
theorem bke_form {h : Fs} (k : fce h = 0) (k2 : bkb h = false) : bke h = 10 ∧ bkh h = hzero := by
  have e : bke h = 10 := by unfold bke; rw [if_pos k, if_neg (by rw [k2]; decide)]
  unfold bkh; rw [if_neg (by rw [e]; decide)]; exact ⟨e, rfl⟩
theorem ownsRow_other {w w' : World} {B n size : Nat} {e t : TypeId} {v : Value} {xs : List Value} {G : Nat} {cs : Array Value} (h : w.ownsRow B e size v n xs) (f : Fr [G] w w') (hg : w.heap[G]? = some (.cells cs t (0, 0))) (hne : t ≠ e) : w'.ownsRow B e size v n xs := by
  refine ⟨h.1, ?_⟩
  rcases h.2 with h | ⟨g, cap, cur, h1, h2, h3, h4⟩
  · exact .inl h
  · refine .inr ⟨g, cap, cur, h1, h2, f.heap h3 (fun hm => ?_), h4⟩
    have : g = G := by simpa using hm
    subst this
    rw [hg] at h3
    have := Option.some.inj h3
    simp only [Obj.cells.injEq] at this
    exact hne this.2.1
theorem wal_le (l : List Int) : (wal l).length ≤ l.length := by unfold wal; split <;> simp
theorem Nine.set7 {w : World} {g : Nat} {a0 a1 a2 a3 a4 a5 a6 a7 a8 : Value} (h : Nine w g #[a0, a1, a2, a3, a4, a5, a6, a7, a8]) (x : Value) : Nine (w.setCell ⟨g, 7, none⟩ x) g #[a0, a1, a2, a3, a4, a5, a6, x, a8] := by
  unfold Nine at h ⊢
  simp [World.setCell, Array.getElem?_modify, h]
theorem Nine.set8 {w : World} {g : Nat} {a0 a1 a2 a3 a4 a5 a6 a7 a8 : Value} (h : Nine w g #[a0, a1, a2, a3, a4, a5, a6, a7, a8]) (x : Value) : Nine (w.setCell ⟨g, 8, none⟩ x) g #[a0, a1, a2, a3, a4, a5, a6, a7, x] := by
  unfold Nine at h ⊢
  simp [World.setCell, Array.getElem?_modify, h]

end Go.Proofs.Ytnfbmdniomelnaa

/-
  Package fhist: From.
-/
namespace Go.Proofs.Ytnfbmdniomelnaa
open Go.RowKit Mem Spans Floats
set_option linter.unusedSimpArgs false
set_option linter.unusedVariables false
set_option maxRecDepth 100000

/-- From's histogram. -/
def frs (h : Hs) : Fs := ⟨h.s, h.z, flI h.zc, flI h.c, h.sm, h.P, h.N, fla h.pd, fla h.nd⟩
def frh (h : Hs) : Fs := if che h = 0 then frs h else fzero

theorem fla_in (d : List Int) (h : ∀ z ∈ abv d, 0 ≤ z) : ∀ x ∈ fla d, inu x := by
  intro x hx
  obtain ⟨y, hy, rfl⟩ := List.mem_map.1 hx
  have h1 := h y hy
  have h2 := abv_in d y hy
  exact flI_in (by unfold in64 at h2; unfold inu; omega)

set_option maxHeartbeats 8000000 in
theorem ffrom_any (v : Value) (h : Hs) (w : World) (hh : HSrc w v h) :
    Calls Try.prog 23 #[v] w fun e w' => ∃ u, e = .returned (.tuple #[u, .int .i64 (che h)]) ∧ FKeep w.heap.size w' u (frh h) ∧ Fr [] w w' := by
  have HH : Hid (∀ wx, Fr [] w wx → HSrc wx v h) := fun wx hx => hh.kept hx
  obtain ⟨po, pc, no, nc, qo, qc, ro, rc, rfl, hin, hsr, _⟩ := hh.opens
  have HIN : Hid (in64 h.s ∧ inu h.z ∧ inu h.zc ∧ inu h.c ∧ inu h.sm) := hin
  have HSR : Hid (SSrc w (.slice po h.P.length pc) h.P ∧ SSrc w (.slice no h.N.length nc) h.N ∧ ISrc w (.slice qo h.pd.length qc) h.pd ∧ ISrc w (.slice ro h.nd.length rc) h.nd) := hsr
  clear hh hin hsr
  obtain ⟨s, z, zc, c, sm, P, N, pd, nd⟩ := h
  simp only at HIN HSR ⊢
  go_enter Try.func23, Try.ntmps23
  obtain ⟨cs, hcs⟩ : ∃ cs : Array Value, cs = #[.int .i64 s, .int .u64 z, .int .u64 zc, .int .u64 c, .int .u64 sm, .slice po P.length pc, .slice no N.length nc, .slice qo pd.length qc, .slice ro nd.length rc] := ⟨_, rfl⟩
  have HA : Hid (∀ z, Nine ((w.alloc (.cells cs 26)).alloc (.cells z 44)) w.heap.size cs ∧ NineF ((w.alloc (.cells cs 26)).alloc (.cells z 44)) (w.heap.size + 1) z ∧ Fr [] w ((w.alloc (.cells cs 26)).alloc (.cells z 44))) := fun z => ⟨nine_mid _ _ _, nineF_top _ _ _, ((Fr.refl [] w).alloc _).alloc _⟩
  subst hcs
  go_wp2_with fail
  obtain ⟨hA3, hA6, hAF⟩ := HA.out #[.int .i64 0, .int .u64 0, .int .u64 0, .int .u64 0, .int .u64 0, .slice none 0 0, .slice none 0 0, .slice none 0 0, .slice none 0 0]
  clear HA
  generalize (w.alloc (.cells _ _)).alloc (.cells _ _) = wA at hA3 hA6 hAF ⊢
  have HSZ : Hid (w.heap.size + 1 < wA.heap.size) := hA6.lt
  refine (hcheck_any _ ⟨s, z, zc, c, sm, P, N, pd, nd⟩ wA (HH.out _ hAF)).mono ?_
  rintro e w1 ⟨rfl, hf1⟩
  have HF1 : Hid (Fr [] w w1) := hAF.trans hf1 (by simp)
  have HS1 : Hid (wA.heap.size ≤ w1.heap.size) := hf1.size
  have H3 : Hid (Nine w1 w.heap.size #[.int .i64 s, .int .u64 z, .int .u64 zc, .int .u64 c, .int .u64 sm, .slice po P.length pc, .slice no N.length nc, .slice qo pd.length qc, .slice ro nd.length rc]) := hA3.kept hf1 (by simp)
  have H6 : Hid (NineF w1 (w.heap.size + 1) #[.int .i64 0, .int .u64 0, .int .u64 0, .int .u64 0, .int .u64 0, .slice none 0 0, .slice none 0 0, .slice none 0 0, .slice none 0 0]) := hA6.kept hf1 (by simp)
  clear hf1 hA3 hA6 hAF
  by_cases h0 : che ⟨s, z, zc, c, sm, P, N, pd, nd⟩ = 0
  case neg =>
    have HE : Hid (frh ⟨s, z, zc, c, sm, P, N, pd, nd⟩ = fzero) := by
      unfold Hid frh; rw [if_neg h0]
    have d0 := H6.out.cell 0 rfl
    have d1 := H6.out.cell 1 rfl
    have d2 := H6.out.cell 2 rfl
    have d3 := H6.out.cell 3 rfl
    have d4 := H6.out.cell 4 rfl
    have d5 := H6.out.cell 5 rfl
    have d6 := H6.out.cell 6 rfl
    have d7 := H6.out.cell 7 rfl
    have d8 := H6.out.cell 8 rfl
    have f0 := H6.out.frozen 0
    have f1 := H6.out.frozen 1
    have f2 := H6.out.frozen 2
    have f3 := H6.out.frozen 3
    have f4 := H6.out.frozen 4
    have f5 := H6.out.frozen 5
    have f6 := H6.out.frozen 6
    have f7 := H6.out.frozen 7
    have f8 := H6.out.frozen 8
    go_wp2
    refine bodyPost_ret (fhist_res rfl _ _ (w.heap.size + 1) _ _ _ _ _ _ _ _ _ rfl (set9_nineF H6.out (.int .i64 0) (.int .u64 0) (.int .u64 0) (.int .u64 0) (.int .u64 0) (.slice none 0 0) (.slice none 0 0) (.slice none 0 0) (.slice none 0 0))) rfl ?_
    exact ⟨_, rfl, by rw [HE.out]; exact fzero_keep _ _, set9_fr HF1.out (.inr (by simp)) (.int .i64 0) (.int .u64 0) (.int .u64 0) (.int .u64 0) (.int .u64 0) (.slice none 0 0) (.slice none 0 0) (.slice none 0 0) (.slice none 0 0)⟩
  have HC : Hid (frh ⟨s, z, zc, c, sm, P, N, pd, nd⟩ = frs ⟨s, z, zc, c, sm, P, N, pd, nd⟩) := by unfold Hid frh; rw [if_pos h0]
  have HLN : Hid (pd.length ≤ 1000000 ∧ nd.length ≤ 1000000 ∧ P.length ≤ 1000000 ∧ N.length ≤ 1000000 ∧ (∀ z ∈ abv pd, 0 ≤ z) ∧ (∀ z ∈ abv nd, 0 ≤ z)) := by
    have h1 := (che_zero.1 h0).2
    have h2 := sde_zero.1 h1.1
    have h3 := sde_zero.1 h1.2.1
    have h4 := pls_le P
    have h5 := pls_le N
    simp only at h2 h3
    have h6 := chk_len h2.1
    have h7 := chk_len h3.1
    exact ⟨by omega, by omega, h6, h7, nng_iff.1 h2.2.2.2, nng_iff.1 h3.2.2.2⟩
  have HE0 : Hid (che ⟨s, z, zc, c, sm, P, N, pd, nd⟩ = 0) := h0
  rw [h0]
  clear h0
  have HX1 : Hid (∀ wx, Calls Try.prog 44 #[.int .u64 zc] wx fun e w' => e = .returned (.int .u64 (flI zc)) ∧ wx = w') := fun wx => floatI_any zc wx HIN.out.2.2.1
  have HX2 : Hid (∀ wx, Calls Try.prog 44 #[.int .u64 c] wx fun e w' => e = .returned (.int .u64 (flI c)) ∧ wx = w') := fun wx => floatI_any c wx HIN.out.2.2.2.1
  have HX3 : Hid (∀ wx, Fr [] w1 wx → Calls Try.prog 45 #[.slice po P.length pc] wx fun e w' => ∃ ao cap, e = .returned (.slice ao P.length cap) ∧ w'.ownsRow w1.heap.size 63 2 (.slice ao P.length cap) P.length (spCells P) ∧ Fr [] w1 w') := by
    intro wx hx
    refine (clone_any _ P wx (HSR.out.1.kept (HF1.out.trans hx (by simp))) HLN.out.2.2.1).mono ?_
    rintro e w' ⟨ao, cap, rfl, ho, hf⟩
    exact ⟨ao, cap, rfl, ownsRow_mono ho hx.size, hx.trans hf (by simp)⟩
  have HX4 : Hid (∀ wx, Fr [] w1 wx → Calls Try.prog 46 #[.slice qo pd.length qc] wx fun e w' => ∃ ao cap, e = .returned (.slice ao (fla pd).length cap) ∧ UOwn 22 w1.heap.size w' (.slice ao (fla pd).length cap) (fla pd) ∧ Fr [] w1 w' ∧ Fr [] wx w') := by
    intro wx hx
    refine (floats_any _ pd wx (HSR.out.2.2.1.kept (HF1.out.trans hx (by simp))) HLN.out.1 HLN.out.2.2.2.2.1).mono ?_
    rintro e w' ⟨u, rfl, ho, hf⟩
    obtain ⟨ao, cap, rfl⟩ := ho.val
    exact ⟨ao, cap, rfl, ho.mono hx.size, hx.trans hf (by simp), hf⟩
  have HX5 : Hid (∀ wx, Fr [] w1 wx → Calls Try.prog 45 #[.slice no N.length nc] wx fun e w' => ∃ ao cap, e = .returned (.slice ao N.length cap) ∧ w'.ownsRow w1.heap.size 63 2 (.slice ao N.length cap) N.length (spCells N) ∧ Fr [] w1 w' ∧ Fr [] wx w') := by
    intro wx hx
    refine (clone_any _ N wx (HSR.out.2.1.kept (HF1.out.trans hx (by simp))) HLN.out.2.2.2.1).mono ?_
    rintro e w' ⟨ao, cap, rfl, ho, hf⟩
    exact ⟨ao, cap, rfl, ownsRow_mono ho hx.size, hx.trans hf (by simp), hf⟩
  have HX6 : Hid (∀ wx, Fr [] w1 wx → Calls Try.prog 46 #[.slice ro nd.length rc] wx fun e w' => ∃ ao cap, e = .returned (.slice ao (fla nd).length cap) ∧ UOwn 22 w1.heap.size w' (.slice ao (fla nd).length cap) (fla nd) ∧ Fr [] w1 w' ∧ Fr [] wx w') := by
    intro wx hx
    refine (floats_any _ nd wx (HSR.out.2.2.2.kept (HF1.out.trans hx (by simp))) HLN.out.2.1 HLN.out.2.2.2.2.2).mono ?_
    rintro e w' ⟨u, rfl, ho, hf⟩
    obtain ⟨ao, cap, rfl⟩ := ho.val
    exact ⟨ao, cap, rfl, ho.mono hx.size, hx.trans hf (by simp), hf⟩
  have L0 : ∀ wx, Fr [] w1 wx → wx.cell? ⟨w.heap.size, 0, none⟩ = some (.int .i64 s) := fun wx hx => hx.cell_some (H3.out.cell 0 rfl) List.not_mem_nil
  have L1 : ∀ wx, Fr [] w1 wx → wx.cell? ⟨w.heap.size, 1, none⟩ = some (.int .u64 z) := fun wx hx => hx.cell_some (H3.out.cell 1 rfl) List.not_mem_nil
  have L2 : ∀ wx, Fr [] w1 wx → wx.cell? ⟨w.heap.size, 2, none⟩ = some (.int .u64 zc) := fun wx hx => hx.cell_some (H3.out.cell 2 rfl) List.not_mem_nil
  have L3 : ∀ wx, Fr [] w1 wx → wx.cell? ⟨w.heap.size, 3, none⟩ = some (.int .u64 c) := fun wx hx => hx.cell_some (H3.out.cell 3 rfl) List.not_mem_nil
  have L4 : ∀ wx, Fr [] w1 wx → wx.cell? ⟨w.heap.size, 4, none⟩ = some (.int .u64 sm) := fun wx hx => hx.cell_some (H3.out.cell 4 rfl) List.not_mem_nil
  have L5 : ∀ wx, Fr [] w1 wx → wx.cell? ⟨w.heap.size, 5, none⟩ = some (.slice po P.length pc) := fun wx hx => hx.cell_some (H3.out.cell 5 rfl) List.not_mem_nil
  have L6 : ∀ wx, Fr [] w1 wx → wx.cell? ⟨w.heap.size, 6, none⟩ = some (.slice no N.length nc) := fun wx hx => hx.cell_some (H3.out.cell 6 rfl) List.not_mem_nil
  have L7 : ∀ wx, Fr [] w1 wx → wx.cell? ⟨w.heap.size, 7, none⟩ = some (.slice qo pd.length qc) := fun wx hx => hx.cell_some (H3.out.cell 7 rfl) List.not_mem_nil
  have L8 : ∀ wx, Fr [] w1 wx → wx.cell? ⟨w.heap.size, 8, none⟩ = some (.slice ro nd.length rc) := fun wx hx => hx.cell_some (H3.out.cell 8 rfl) List.not_mem_nil
  have F0 : Fr [] w1 w1.drew := (Fr.refl _ _).drew
  go_upto_region 4 with fail
  go_region_held3 (fun w' => w'.cell? ⟨w.heap.size, 0, none⟩ = some (.int .i64 s) ∧ w'.cell? ⟨w.heap.size, 1, none⟩ = some (.int .u64 z) ∧ w'.cell? ⟨w.heap.size, 2, none⟩ = some (.int .u64 zc) ∧ w'.cell? ⟨w.heap.size, 3, none⟩ = some (.int .u64 c) ∧ w'.cell? ⟨w.heap.size, 4, none⟩ = some (.int .u64 sm) ∧ w'.cell? ⟨w.heap.size, 5, none⟩ = some (.slice po P.length pc) ∧ w'.cell? ⟨w.heap.size, 6, none⟩ = some (.slice no N.length nc) ∧ w'.cell? ⟨w.heap.size, 7, none⟩ = some (.slice qo pd.length qc) ∧ w'.cell? ⟨w.heap.size, 8, none⟩ = some (.slice ro nd.length rc)) (go_keep) (first
    | (go_at_call 44; first
      | (with_reducible refine (HX1.out _).mono ?_; rintro e wz ⟨rfl, rfl⟩)
      | (with_reducible refine (HX2.out _).mono ?_; rintro e wz ⟨rfl, rfl⟩))
    | (go_at_call 45; first
      | (with_reducible refine (HX3.out _ F0).mono ?_; rintro e wa ⟨aa, ac, rfl, hoa, hfa⟩)
      | (with_reducible refine (HX5.out _ hfb).mono ?_; rintro e wc ⟨ca, cc, rfl, hoc, hfc, hfbc⟩))
    | (go_at_call 46; first
      | (with_reducible refine (HX4.out _ hfa).mono ?_; rintro e wb ⟨ba, bc, rfl, hob, hfb, hfab⟩)
      | (with_reducible refine (HX6.out _ hfc).mono ?_; rintro e wd ⟨da, dc, rfl, hod, hfd, hfcd⟩; have h6 := H6.out.kept hfd (by simp); have d0 := h6.cell 0 rfl; have d1 := h6.cell 1 rfl; have d2 := h6.cell 2 rfl; have d3 := h6.cell 3 rfl; have d4 := h6.cell 4 rfl; have d5 := h6.cell 5 rfl; have d6 := h6.cell 6 rfl; have d7 := h6.cell 7 rfl; have d8 := h6.cell 8 rfl; have f0 := h6.frozen 0; have f1 := h6.frozen 1; have f2 := h6.frozen 2; have f3 := h6.frozen 3; have f4 := h6.frozen 4; have f5 := h6.frozen 5; have f6 := h6.frozen 6; have f7 := h6.frozen 7; have f8 := h6.frozen 8)))
  have H6b : Hid (NineF wd (w.heap.size + 1) _) := h6
  have HOA : Hid (wd.ownsRow w1.heap.size 63 2 (.slice aa P.length ac) P.length (spCells P)) := ownsRow_keptS (ownsRow_keptS (ownsRow_keptS hoa hfab (by simp)) hfbc (by simp)) hfcd (by simp)
  have HOC : Hid (wd.ownsRow w1.heap.size 63 2 (.slice ca N.length cc) N.length (spCells N)) := ownsRow_keptS hoc hfcd (by simp)
  have HOB : Hid (UOwn 22 w1.heap.size wd (.slice ba (fla pd).length bc) (fla pd)) := (hob.kept hfbc).kept hfcd
  have HOD : Hid (UOwn 22 w1.heap.size wd (.slice da (fla nd).length dc) (fla nd)) := hod
  have HFD : Hid (Fr [] w wd) := HF1.out.trans hfd (by simp)
  clear h6 hoa hob hoc hod hfa hfb hfc hfd hfab hfbc hfcd
  go_wp2
  have hs9 := set9_fr (S := [w.heap.size + 1]) (g := w.heap.size + 1) (Fr.refl _ wd) (.inl (by simp)) (.int .i64 s) (.int .u64 z) (.int .u64 (flI zc)) (.int .u64 (flI c)) (.int .u64 sm) (.slice aa P.length ac) (.slice ca N.length cc) (.slice ba (fla pd).length bc) (.slice da (fla nd).length dc)
  have hb : ∀ y ∈ [w.heap.size + 1], y < w1.heap.size := by have := HSZ.out; have := HS1.out; simp; omega
  have k1 := ownsRow_keptS HOA.out hs9 hb
  have k2 := ownsRow_keptS HOC.out hs9 hb
  have k3 := HOB.out.keptS hs9 hb
  have k4 := HOD.out.keptS hs9 hb
  have hp64 : ∀ s ∈ P, in64 s.1 ∧ in64 s.2 := by obtain ⟨_, _, _, _, _, h64, _⟩ := HSR.out.1; exact h64
  have hn64 : ∀ s ∈ N, in64 s.1 ∧ in64 s.2 := by obtain ⟨_, _, _, _, _, h64, _⟩ := HSR.out.2.1; exact h64
  refine bodyPost_ret (fhist_res rfl _ _ (w.heap.size + 1) _ _ _ _ _ _ _ _ _ rfl (set9_nineF H6b.out _ _ _ _ _ _ _ _ _)) rfl ?_
  refine ⟨_, by rw [HE0.out]; rfl, ?_, set9_fr HFD.out (.inr (by simp)) _ _ _ _ _ _ _ _ _⟩
  rw [HC.out]
  intro S w2 hS hbS
  have hb3 : ∀ y ∈ S, y < w1.heap.size := fun y hy => by have := hbS y hy; have := HSZ.out; have := HS1.out; omega
  obtain ⟨_, _, _, k5⟩ := ssrc_of_owns (ownsRow_keptS k1 hS hb3) hp64
  obtain ⟨_, _, _, k6⟩ := ssrc_of_owns (ownsRow_keptS k2 hS hb3) hn64
  exact ⟨_, _, _, _, rfl, HIN.out.1, ⟨HIN.out.2.1, flI_in HIN.out.2.2.1, flI_in HIN.out.2.2.2.1, HIN.out.2.2.2.2⟩, k5, k6, (k3.keptS hS hb3).src (fla_in pd HLN.out.2.2.2.2.1), (k4.keptS hS hb3).src (fla_in nd HLN.out.2.2.2.2.2)⟩
end Go.Proofs.Ytnfbmdniomelnaa

/-
  Which float is a whole number, by its digits.
-/
namespace Go.Proofs.Ytnfbmdniomelnaa.Floats
set_option linter.unusedSimpArgs false
set_option linter.unusedVariables false

/-- A float's exponent and digits. -/
def exq (v : Nat) : Nat := v / 4503599627370496
def mnt (v : Nat) : Nat := v % 4503599627370496 + 4503599627370496
theorem v_eq (v : Nat) (h : 1 ≤ exq v) : v = (exq v - 1) * 4503599627370496 + mnt v := by unfold exq mnt at *; omega
theorem mnt_b (v : Nat) : 4503599627370496 ≤ mnt v ∧ mnt v < 9007199254740992 := by unfold mnt; omega
theorem whl_none {v : Nat} (h : ¬ (v < 4895412794951729152 ∧ flt (trn v) = v)) : whl v = none := by
  unfold whl
  split
  · rename_i h1; rw [if_neg (fun e => h ⟨h1, e⟩)]
  · rfl
theorem whl_some {v : Nat} (h : v < 4895412794951729152) (e : flt (trn v) = v) : whl v = some (trn v) := by unfold whl; rw [if_pos h, if_pos e]
theorem whl_zero : whl 0 = some 0 := by decide +kernel
theorem whl_out {v : Nat} (h0 : v ≠ 0) (h : exq v < 1023 ∨ 1086 < exq v) : whl v = none := by
  refine whl_none (fun ⟨h1, h2⟩ => ?_)
  have he : exq v < 1023 := by unfold exq at h ⊢; omega
  have ht : trn v = 0 := by
    unfold trn
    by_cases hv : v < 4503599627370496
    · rw [if_pos hv]
    · rw [if_neg hv]
      have hq : v / 4503599627370496 = exq v := rfl
      rw [hq, if_pos (by omega)]
      refine Nat.div_eq_of_lt ?_
      have : (2 : Nat) ^ 53 ≤ 2 ^ (1075 - exq v) := pow_ge (by omega)
      omega
  rw [ht] at h2
  exact h0 (by rw [← h2]; rfl)
theorem trn_low {v : Nat} (h1 : 1023 ≤ exq v) (h2 : exq v ≤ 1075) : trn v = mnt v / 2 ^ (1075 - exq v) := by
  unfold trn
  have hv : ¬ v < 4503599627370496 := by unfold exq at h1; omega
  rw [if_neg hv]
  have hq : v / 4503599627370496 = exq v := rfl
  rw [hq, if_pos h2, Nat.add_comm]; rfl
theorem trn_high {v : Nat} (h2 : 1075 < exq v) : trn v = mnt v * 2 ^ (exq v - 1075) := by
  unfold trn
  have hv : ¬ v < 4503599627370496 := by unfold exq at h2; omega
  rw [if_neg hv]
  have hq : v / 4503599627370496 = exq v := rfl
  rw [hq, if_neg (by omega), Nat.add_comm]; rfl
theorem whl_low {v : Nat} (h1 : 1023 ≤ exq v) (h2 : exq v ≤ 1075) : whl v = if mnt v % 2 ^ (1075 - exq v) = 0 then some (mnt v / 2 ^ (1075 - exq v)) else none := by
  have hb := mnt_b v
  have hv := v_eq v (by omega)
  obtain ⟨d, hd⟩ : ∃ d, d = 1075 - exq v := ⟨_, rfl⟩
  have ht := trn_low h1 h2
  rw [← hd] at ht ⊢
  obtain ⟨P, hP⟩ : ∃ P, P = 2 ^ d := ⟨_, rfl⟩
  have hPp : 0 < P := by rw [hP]; exact Nat.two_pow_pos _
  have hdm := Nat.div_add_mod (mnt v) P
  have hml := Nat.mod_lt (mnt v) hPp
  have e1 : P * 2 ^ (52 - d) = 4503599627370496 := by rw [hP, ← Nat.pow_add]; rw [show d + (52 - d) = 52 by omega]
  have hlo : 2 ^ (52 - d) ≤ mnt v / P := (Nat.le_div_iff_mul_le hPp).2 (by rw [Nat.mul_comm, e1]; exact hb.1)
  have hhi : mnt v / P < 2 ^ (52 - d + 1) := (Nat.div_lt_iff_lt_mul hPp).2 (by rw [Nat.pow_succ, Nat.mul_right_comm, Nat.mul_comm _ P, e1]; omega)
  have hl := log2_eq hlo hhi
  have hn0 : mnt v / P ≠ 0 := by have := Nat.two_pow_pos (52 - d); omega
  have hf : flt (mnt v / P) = (1022 + (52 - d)) * 4503599627370496 + mnt v / P * P := by
    unfold flt kpt
    rw [if_neg hn0, hl, if_pos (by omega), show 52 - (52 - d) = d by omega, ← hP]
  rw [← hP] at ht ⊢
  have hlt : v < 4895412794951729152 := by unfold exq at *; omega
  have hcm := Nat.mul_comm P (mnt v / P)
  by_cases hz : mnt v % P = 0
  · rw [if_pos hz, ← ht]
    refine whl_some hlt ?_
    rw [ht, hf]
    omega
  · rw [if_neg hz]
    refine whl_none (fun ⟨_, k⟩ => ?_)
    rw [ht, hf] at k
    omega
theorem whl_high {v : Nat} (h1 : 1075 < exq v) (h2 : exq v ≤ 1086) : whl v = some (mnt v * 2 ^ (exq v - 1075)) := by
  have hb := mnt_b v
  have hv := v_eq v (by omega)
  obtain ⟨s, hs⟩ : ∃ s, s = exq v - 1075 := ⟨_, rfl⟩
  have ht := trn_high h1
  rw [← hs] at ht ⊢
  have hp := Nat.two_pow_pos s
  have hlt : v < 4895412794951729152 := by unfold exq at *; omega
  have hlo : 2 ^ (52 + s) ≤ mnt v * 2 ^ s := by rw [Nat.pow_add]; exact Nat.mul_le_mul_right _ (by omega)
  have hhi : mnt v * 2 ^ s < 2 ^ (52 + s + 1) := by
    rw [show 52 + s + 1 = 53 + s by omega, Nat.pow_add]
    exact Nat.mul_lt_mul_of_pos_right (by omega) hp
  have hl := log2_eq hlo hhi
  have hn0 : mnt v * 2 ^ s ≠ 0 := by have := Nat.two_pow_pos (52 + s); omega
  rw [← ht]
  refine whl_some hlt ?_
  rw [ht]
  unfold flt kpt
  rw [if_neg hn0, hl, if_neg (by omega), show 52 + s - 52 = s by omega]
  unfold rnd
  rw [Nat.mul_div_cancel _ hp, Nat.mul_mod_left, if_neg (by omega)]
  omega
/-- Digits that are halved step by step. -/
theorem half_step {M i : Nat} (h : M % 2 ^ i = 0) : (M / 2 ^ i % 2 = 0 ↔ M % 2 ^ (i + 1) = 0) ∧ M / 2 ^ i / 2 = M / 2 ^ (i + 1) := by
  have hp := Nat.two_pow_pos i
  have hd := Nat.div_add_mod M (2 ^ i)
  rw [h, Nat.add_zero] at hd
  constructor
  · rw [Nat.pow_succ]
    generalize M / 2 ^ i = q at *
    rw [← hd, Nat.mul_mod_mul_left]
    constructor
    · intro k; rw [k, Nat.mul_zero]
    · intro k
      rcases Nat.mul_eq_zero.1 k with k | k
      · omega
      · exact k
  · rw [Nat.div_div_eq_div_mul, Nat.pow_succ]
theorem mod_pow_le {M i d : Nat} (h : i ≤ d) (k : M % 2 ^ d = 0) : M % 2 ^ i = 0 := by
  have h1 : 2 ^ i ∣ 2 ^ d := Nat.pow_dvd_pow 2 h
  exact Nat.mod_eq_zero_of_dvd (Nat.dvd_trans h1 (Nat.dvd_of_mod_eq_zero k))
end Go.Proofs.Ytnfbmdniomelnaa.Floats
