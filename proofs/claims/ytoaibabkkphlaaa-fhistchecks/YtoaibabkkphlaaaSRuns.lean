/-
  Package span: rise, runs.
-/
import Derived.Test.YtoaibabkkphlaaaSMem
import Derived.Test.YtoaibabkkphlaaaSCheck
namespace Go.Proofs.Ytoaibabkkphlaaa
open Go.RowKit Mem Spans
open Classical
set_option linter.unusedSimpArgs false
set_option linter.unusedVariables false
set_option maxRecDepth 100000

set_option maxHeartbeats 1000000 in
theorem rise_any (v : Value) (zs : List Int) (w : World) (h : ISrc w v zs) :
    Calls Try.prog 95 #[v] w fun e w' => e = .returned (.bool (decide (rises (-1048576) zs))) ∧ w = w' := by
  obtain ⟨ao, cap, rfl, hcap, hmax, h64, b, off, ha, hc⟩ := h
  have HC : Hid (∀ j x, zs[j]? = some x → w.cell? ⟨b, off + j, none⟩ = some (.int .i64 x)) := hc
  have HA : Hid (0 < zs.length → ao = some ⟨b, off, none⟩) := ha
  have H64 : Hid (∀ z ∈ zs, in64 z) := h64
  clear hc ha h64
  have hml : zs.length ≤ 9223372036854775807 := by unfold maxLen at hmax; omega
  go_enter Try.func95, Try.ntmps95
  go_wp2
  go_loopw [3, 8] (fun p i wr => ∃ (k : Nat) (L : Int), k ≤ zs.length ∧ i = .int .i64 (k : Int) ∧ p = .int .i64 L ∧ (rises (-1048576) zs ↔ rises L (zs.drop k)) ∧ w = wr) (fun _ i _ => zs.length - (intOf i).toNat)
  case atStart => exact ⟨0, -1048576, by omega, rfl, rfl, by simp, rfl⟩
  case round =>
    obtain ⟨k, L, hk, rfl, rfl, hr, rfl⟩ := hrel
    have HR : Hid (rises (-1048576) zs ↔ rises L (zs.drop k)) := hr
    clear hr
    by_cases hlt : k < zs.length
    · obtain rfl := HA.out (by omega)
      obtain ⟨x, hx⟩ := at_lt hlt
      have c0 := HC.out k x hx
      have HX := H64.out x (List.mem_of_getElem? hx)
      obtain ⟨hx1, hx2⟩ := HX
      have HR2 : Hid (rises (-1048576) zs ↔ L ≤ x ∧ x ≤ 1048576 ∧ rises (x + 1) (zs.drop (k + 1))) := by
        have := HR.out
        rw [drop_at hx] at this
        exact this
      clear HR hx
      by_cases t1 : L ≤ x
      · by_cases t2 : x ≤ 1048576
        · go_wp2
          go_roundw
          case rel => exact ⟨k + 1, x + 1, by omega, by go_num, rfl, by rw [HR2.out]; exact ⟨fun h => h.2.2, fun h => ⟨t1, t2, h⟩⟩, by trivial⟩
          case measure => simp [intOf]; omega
        · have HNO : Hid (decide (rises (-1048576) zs) = false) := by
            rw [Hid, decide_eq_false_iff_not, HR2.out]
            exact fun h => t2 h.2.1
          clear HR2
          go_wp2
          go_ret
          exact ⟨by rw [HNO.out]; rfl, rfl⟩
      · have HNO : Hid (decide (rises (-1048576) zs) = false) := by
          rw [Hid, decide_eq_false_iff_not, HR2.out]
          exact fun h => t1 h.1
        clear HR2
        go_wp2
        go_ret
        exact ⟨by rw [HNO.out]; rfl, rfl⟩
    · have HYES : Hid (decide (rises (-1048576) zs) = true) := by
        rw [Hid, decide_eq_true_iff, HR.out, List.drop_eq_nil_of_le (by omega)]
        trivial
      clear HR
      go_wp2
      go_ret
      exact ⟨by rw [HYES.out]; rfl, rfl⟩

theorem cnt_nonneg {f : Bool} {l : List Sp} (h : shp f l) : 0 ≤ cnt l := by
  induction l generalizing f with
  | nil => simp [cnt]
  | cons y l ih => have := ih h.2.2; have := h.1; simp only [cnt]; omega
theorem shp_snoc {f : Bool} {l : List Sp} {s : Sp} (h : shp f l) (h1 : 0 < s.2) (h2 : (f = true ∧ l = []) ∨ 0 < s.1) : shp f (l ++ [s]) := by
  induction l generalizing f with
  | nil =>
    refine ⟨h1, ?_, trivial⟩
    rcases h2 with h | h
    · exact .inl h.1
    · exact .inr h
  | cons y l ih =>
    refine ⟨h.1, h.2.1, ih h.2.2 ?_⟩
    rcases h2 with h | h
    · simp at h
    · exact .inr h
theorem shp_init {f : Bool} {l : List Sp} {s : Sp} (h : shp f (l ++ [s])) : shp f l ∧ 0 < s.2 ∧ ((f = true ∧ l = []) ∨ 0 < s.1) := by
  induction l generalizing f with
  | nil =>
    refine ⟨trivial, h.1, ?_⟩
    rcases h.2.1 with h | h
    · exact .inl ⟨h, rfl⟩
    · exact .inr h
  | cons y l ih =>
    obtain ⟨i1, i2, i3⟩ := ih h.2.2
    refine ⟨⟨h.1, h.2.1, i1⟩, i2, ?_⟩
    rcases i3 with h | h
    · simp at h
    · exact .inr h

theorem two_new (w : World) (a b : Value) (t : TypeId) : ∀ (j : Nat) (u : Value), [a, b][j]? = some u → (w.alloc (.cells #[a, b] t)).cell? ((⟨w.heap.size, 0, none⟩ : Addr).add j) = some u := by
  intro j u hu
  match j, hu with
  | 0, hu => simp at hu; subst hu; simp [Addr.add]
  | 1, hu => simp at hu; subst hu; simp [Addr.add]
  | j + 2, hu => simp at hu

/-- What runs has made of the first k places. -/
def Made (zs : List Int) (k : Nat) (B : Int) (out : List Sp) : Prop :=
  shp true out ∧ plc 0 out = zs.take k ∧ bhd 0 out = B ∧ (k = 0 → B = 0 ∧ out = []) ∧ (0 < k → out ≠ [] ∧ rises B (zs.drop k) ∧ -1048576 ≤ B ∧ B ≤ 1048577)
theorem Made.new {zs : List Int} {k : Nat} {B x : Int} {out : List Sp} (h : Made zs k B out) (hr : rises (-1048576) zs) (hx : zs[k]? = some x) (hb : k = 0 ∨ B < x) : Made zs (k + 1) (x + 1) (out ++ [(x - B, 1)]) ∧ -1048576 ≤ x ∧ x ≤ 1048576 ∧ -1048576 ≤ B ∧ B ≤ 1048577 := by
  obtain ⟨h1, h2, h3, h4, h5⟩ := h
  have hm := rises_mem hr x (List.mem_of_getElem? hx)
  have hBb : -1048576 ≤ B ∧ B ≤ 1048577 := by
    by_cases h0 : k = 0
    · have := (h4 h0).1; omega
    · exact (h5 (by omega)).2.2
  have hrest : rises (x + 1) (zs.drop (k + 1)) := by
    by_cases h0 : k = 0
    · subst h0
      have : rises (-1048576) (zs.drop 0) := by simpa using hr
      rw [drop_at hx] at this
      exact this.2.2
    · have := (h5 (by omega)).2.1
      rw [drop_at hx] at this
      exact this.2.2
  refine ⟨⟨shp_snoc h1 (by show (0 : Int) < 1; omega) ?_, ?_, ?_, by omega, fun _ => ⟨by simp, hrest, by omega, by omega⟩⟩, hm.1, hm.2, hBb⟩
  · rcases hb with h0 | h0
    · exact .inl ⟨rfl, (h4 h0).2⟩
    · exact .inr (by show 0 < x - B; omega)
  · rw [plc_append, h2, h3, take_at hx]
    simp [plc, run]
    omega
  · rw [bhd_append, h3]
    simp [bhd]
    omega
theorem Made.more {zs : List Int} {k : Nat} {B x : Int} {ini : List Sp} {s : Sp} (h : Made zs k B (ini ++ [s])) (hr : rises (-1048576) zs) (hx : zs[k]? = some x) (h0 : 0 < k) (hb : x = B) : Made zs (k + 1) (x + 1) (ini ++ [(s.1, s.2 + 1)]) ∧ 0 < s.2 ∧ s.2 ≤ (zs.length : Int) := by
  obtain ⟨h1, h2, h3, h4, h5⟩ := h
  obtain ⟨i1, i2, i3⟩ := shp_init h1
  obtain ⟨_, j2, j3, j4⟩ := h5 h0
  rw [drop_at hx] at j2
  have hlen : s.2 ≤ (zs.length : Int) := by
    have e1 := cnt_length (bh := 0) h1
    have e2 := cnt_nonneg i1
    rw [cnt_append, h2, List.length_take] at e1
    simp [cnt] at e1
    omega
  refine ⟨⟨shp_snoc i1 (by show 0 < s.2 + 1; omega) i3, ?_, ?_, by omega, fun _ => ⟨by simp, j2.2.2, by omega, by have := j2.2.1; omega⟩⟩, i2, hlen⟩
  · rw [plc_append] at h2 ⊢
    rw [take_at hx, ← h2]
    rw [bhd_append] at h3
    simp only [plc, bhd, List.append_nil] at h3 ⊢
    rw [show (s.2 + 1).toNat = s.2.toNat + 1 from by omega, run_snoc, ← List.append_assoc]
    congr 2
    omega
  · rw [bhd_append] at h3 ⊢
    simp only [bhd] at h3 ⊢
    omega
theorem Made.done {zs : List Int} {B : Int} {out : List Sp} (h : Made zs zs.length B out) : out = rns 0 zs := by
  obtain ⟨h1, h2, _⟩ := h
  rw [List.take_length] at h2
  rw [← h2, rns_unique 0 h1]

def RunsPost (zs : List Int) (w : World) (e : Ending) (w' : World) : Prop := ∃ u, e = .returned u ∧ SOwn 95 w.heap.size w' u (rns 0 zs) ∧ Fr [] w w'

set_option maxHeartbeats 4000000 in
theorem runs_any (v : Value) (zs : List Int) (w : World) (h : ISrc w v zs) (hr : rises (-1048576) zs) (hl : zs.length ≤ 4096) :
    Calls Try.prog 96 #[v] w fun e w' => RunsPost zs w e w' := by
  obtain ⟨ao, cap, rfl, hcap, hmax, h64, b, off, ha, hc⟩ := h
  have HC : Hid (∀ j x, zs[j]? = some x → w.cell? ⟨b, off + j, none⟩ = some (.int .i64 x)) := hc
  have HA : Hid (0 < zs.length → ao = some ⟨b, off, none⟩) := ha
  have HR : Hid (rises (-1048576) zs) := hr
  obtain ⟨i0, hi, hz0, hz1, hz2⟩ := info_span
  have HI : Hid (Try.prog.info? 95 = some i0 ∧ i0.zero = some (.agg #[.int .i64 0, .int .i64 0]) ∧ i0.size = 2 ∧ i0.bytes = 16) := ⟨hi, hz0, hz1, hz2⟩
  clear hc ha h64 hr hi hz0 hz1 hz2
  go_enter Try.func96, Try.ntmps96
  go_wp2
  go_loopw [3, 4, 9] (fun u q i wr => ∃ (k : Nat) (B : Int) (out : List Sp), k ≤ zs.length ∧ i = .int .i64 (k : Int) ∧ q = .int .i64 B ∧ SOwn 95 w.heap.size wr u out ∧ Made zs k B out ∧ Fr [] w wr) (fun _ _ i _ => zs.length - (intOf i).toNat)
  case atStart => exact ⟨0, 0, [], by omega, rfl, rfl, .inl ⟨rfl, rfl⟩, ⟨trivial, by simp [plc], rfl, fun _ => ⟨rfl, rfl⟩, by omega⟩, Fr.refl _ _⟩
  case round =>
    obtain ⟨k, B, out, hk, rfl, rfl, hso, hmd, hf⟩ := hrel
    have HF : Hid (Fr [] w wr) := hf
    have HM : Hid (Made zs k B out) := hmd
    have HS : Hid (SOwn 95 w.heap.size wr u3 out) := hso
    clear hf hmd hso
    by_cases hlt : k < zs.length
    · obtain rfl := HA.out (by omega)
      obtain ⟨x, hx⟩ := at_lt hlt
      have c0 : wr.cell? ⟨b, off + k, none⟩ = some (.int .i64 x) := HF.out.cell_some (HC.out k x hx) (by simp)
      rcases HS.out with ⟨rfl, rfl⟩ | ⟨g, hg, hy, hrow⟩
      · have hk0 : k = 0 := by
          by_cases h0 : k = 0
          · exact h0
          · exact absurd rfl (HM.out.2.2.2.2 (by omega)).1
        subst hk0
        obtain rfl : B = 0 := (HM.out.2.2.2.1 rfl).1
        obtain ⟨hm2, hx1, hx2, _, _⟩ := HM.out.new HR.out hx (.inl rfl)
        have HM2 : Hid (Made zs (0 + 1) (x + 1) [(x, 0 + 1)]) := by simpa [Hid] using hm2
        clear hm2 hx HM HS
        simp only [Nat.add_zero] at c0
        go_wp2_with (at_builtin; refine wpList_append_new _ rfl _ _ 23 rfl 95 i0 (.agg #[.int .i64 0, .int .i64 0]) 2 16 Try.underlying23 HI.out.1 HI.out.2.1 HI.out.2.2.1 HI.out.2.2.2 rfl rfl ⟨wr.heap.size, 0, none⟩ 1 1 [.int .i64 x, .int .i64 0] rfl rfl (two_new _ _ _ _) (by decide) (by unfold maxLen; decide) (by decide) ?_; intro v' w' hrow hfr; rw [World.size_alloc] at hrow; obtain ⟨cap', rfl⟩ := hrow.val; have d1 := hrow.cell 1 (by decide); have d2 := hrow.frozen 1; simp only [List.getElem?_cons_succ, List.getElem?_cons_zero] at d1; have HROW : Hid (Row _ _ _ _ _ _ _) := hrow; have HFR : Hid (Fr _ _ _) := hfr; clear hrow hfr)
        go_roundw
        case rel =>
          refine ⟨0 + 1, x + 1, [(x, 0 + 1)], by omega, rfl, rfl, .inr ⟨_, ?_, by simp, HROW.out.stored 1 _⟩, HM2.out, ?_⟩
          · have := HF.out.size; omega
          · refine ((HF.out.alloc _).trans HFR.out (by simp)).setCell _ _ (.inr ?_)
            have := HF.out.size
            simp
            omega
        case measure => simp [intOf]; omega
      · have hkp : 0 < k := by
          by_cases h0 : k = 0
          · have := (HM.out.2.2.2.1 h0).2; subst this; simp at hy
          · omega
        have hkb : ((k : Int) == 0) = false := by simp; omega
        have hBx : B ≤ x := by
          have := (HM.out.2.2.2.2 hkp).2.1
          rw [drop_at hx] at this
          exact this.1
        have hol : out.length ≤ 4096 := by
          have e1 := cnt_length (bh := 0) HM.out.1
          have e2 : ∀ (f : Bool) (l : List Sp), shp f l → (l.length : Int) ≤ cnt l := by
            intro f l
            induction l generalizing f with
            | nil => intro _; simp [cnt]
            | cons y l ih => intro hy; have := ih false hy.2.2; have := hy.1; simp only [cnt, List.length_cons]; omega
          have e3 := e2 true out HM.out.1
          rw [HM.out.2.1, List.length_take] at e1
          omega
        by_cases hb : B < x
        · obtain ⟨hm2, hx1, hx2, hB1, hB2⟩ := HM.out.new HR.out hx (.inr hb)
          have HM2 : Hid (Made zs (k + 1) (x + 1) (out ++ [(x - B, 1)])) := hm2
          obtain ⟨capx, rfl⟩ := hrow.val
          have HY : Hid (Row wr 95 2 (.slice (some ⟨g, 0, none⟩) out.length capx) g out.length (spCells out)) := hrow
          have HG : Hid (w.heap.size ≤ g) := hg
          clear hm2 hx HM HS hrow hg hBx
          go_wp2_with (at_builtin; refine wpList_append_row _ rfl _ _ 23 rfl 95 i0 (.agg #[.int .i64 0, .int .i64 0]) 2 16 Try.underlying23 HI.out.1 HI.out.2.1 HI.out.2.2.1 HI.out.2.2.2 rfl _ g out.length (spCells out) rfl (HY.out.kept ((Fr.refl [] wr).alloc _) (by simp)) ⟨wr.heap.size, 0, none⟩ 1 1 [.int .i64 (x - B), .int .i64 0] rfl rfl (two_new _ _ _ _) (by intro u hu; simp at hu; rcases hu with rfl | rfl <;> rfl) (by unfold maxLen; omega) (by omega) ?_; intro v' g' w' hrow hgg hfr; obtain ⟨cap', rfl⟩ := hrow.val; have d1 : w'.cell? ⟨g', out.length * 2 + 1, none⟩ = some (.int .i64 0) := (by rw [hrow.cell (out.length * 2 + 1) (by omega), List.getElem?_append_right (by rw [spCells_length]; omega), spCells_length, show out.length * 2 + 1 - out.length * 2 = 1 from by omega]; rfl); have d2 := hrow.frozen (out.length * 2 + 1); have HROW : Hid (Row _ _ _ _ _ _ _) := hrow; have HFR : Hid (Fr _ _ _) := hfr; clear hrow hfr)
          go_roundw
          case rel =>
            have HGB : w.heap.size ≤ g' := by
              rcases hgg.out with h | h
              · rw [h]; exact HG.out
              · have h1 : g' = wr.heap.size + 1 := by simpa using h
                have := HF.out.size
                omega
            refine ⟨k + 1, x + 1, out ++ [(x - B, 1)], by omega, by go_num, rfl, .inr ⟨g', HGB, by simp, ?_⟩, HM2.out, ?_⟩
            · have := HROW.out.stored (out.length * 2 + 1) (.int .i64 1)
              rw [show spCells out ++ [Value.int .i64 (x - B), Value.int .i64 0] = spCells (out ++ [(x - B, 0)]) from by rw [spCells_append]; rfl, spCells_set] at this
              simpa using this
            · exact ((HF.out.alloc _).trans HFR.out (by simp; exact HG.out)).setCell _ _ (.inr HGB)
          case measure => simp [intOf]; omega
        · obtain rfl : x = B := by omega
          obtain ⟨ini, s, rfl⟩ : ∃ ini s, out = ini ++ [s] := ⟨out.dropLast, out.getLast (by intro h; subst h; simp at hy), (List.dropLast_concat_getLast _).symm⟩
          obtain ⟨hm2, hs1, hs2⟩ := HM.out.more HR.out hx hkp rfl
          have HM2 : Hid (Made zs (k + 1) (x + 1) (ini ++ [(s.1, s.2 + 1)])) := hm2
          have hx1 := (HM.out.2.2.2.2 hkp).2.2.1
          have hx2 := (HM.out.2.2.2.2 hkp).2.2.2
          obtain ⟨capx, rfl⟩ := hrow.val
          have e1 : (ini ++ [s]).length = ini.length + 1 := by simp
          rw [e1] at hrow ⊢
          have d1 : wr.cell? ⟨g, ini.length * 2 + 1, none⟩ = some (.int .i64 s.2) := by
            rw [hrow.cell (ini.length * 2 + 1) (by omega)]
            exact (spCells_at (ini ++ [s]) ini.length s (by simp)).2
          have d2 := hrow.frozen (ini.length * 2 + 1)
          have HY : Hid (Row wr 95 2 (.slice (some ⟨g, 0, none⟩) (ini.length + 1) capx) g (ini.length + 1) (spCells (ini ++ [s]))) := hrow
          have HG : Hid (w.heap.size ≤ g) := hg
          have hil : ini.length ≤ 4096 := by omega
          clear hm2 hx HM HS hrow hg hBx hol hy e1
          obtain ⟨o, q⟩ := s
          simp only at d1 hs1 hs2
          go_wp2
          go_roundw
          case rel =>
            refine ⟨k + 1, x + 1, ini ++ [(o, q + 1)], by omega, by go_num, rfl, .inr ⟨g, HG.out, by simp, ?_⟩, HM2.out, ?_⟩
            · have := HY.out.stored (ini.length * 2 + 1) (.int .i64 (q + 1))
              rw [spCells_set] at this
              simpa using this
            · exact HF.out.setCell _ _ (.inr HG.out)
          case measure => simp [intOf]; omega
    · obtain rfl : k = zs.length := by omega
      have HD : Hid (out = rns 0 zs) := HM.out.done
      clear HM
      go_wp2
      go_ret
      exact ⟨u3, rfl, by rw [← HD.out]; exact HS.out, HF.out⟩
end Go.Proofs.Ytoaibabkkphlaaa
