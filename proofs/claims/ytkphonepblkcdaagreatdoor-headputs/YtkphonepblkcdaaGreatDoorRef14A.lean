/-
  The document's Sides and Check of a head.
-/
import Derived.Test.YtkphonepblkcdaaGreatDoorGA
import Derived.Test.YtkphonepblkcdaaGreatDoorHdFlags
import Derived.Test.YtkphonepblkcdaaGreatDoorRef12P
namespace Go.Proofs.YtkphonepblkcdaaGreatDoor
open Go.RowKit Mem Spans Thrs
set_option linter.unusedSimpArgs false
set_option linter.unusedVariables false
set_option maxRecDepth 100000

theorem shp_at {f : Bool} {pl bh : Int} {l : List Sp} (h : ok f pl bh l) : shp f l ↔ ∀ (j : Nat) (s : Sp), l[j]? = some s → s.2 ≠ 0 ∧ ((0 < j ∨ f = false) → s.1 ≠ 0) := by
  induction l generalizing f pl bh with
  | nil => simp [shp]
  | cons x r ih =>
    obtain ⟨⟨h1, h2, h3, h4⟩, _, _, _, h5⟩ := h
    have hi := ih h5
    constructor
    · rintro ⟨g1, g2, g3⟩ j s hs
      rcases j with _ | j
      · simp only [List.getElem?_cons_zero, Option.some.injEq] at hs
        subst hs
        refine ⟨by omega, fun hf => ?_⟩
        rcases hf with hf | hf
        · omega
        · rcases g2 with g2 | g2
          · rw [hf] at g2; exact absurd g2 (by decide)
          · omega
      · simp only [List.getElem?_cons_succ] at hs
        have := hi.1 g3 j s hs
        exact ⟨this.1, fun _ => this.2 (.inr rfl)⟩
    · intro hh
      refine ⟨?_, ?_, hi.2 fun j s hs => ?_⟩
      · have := (hh 0 x rfl).1; omega
      · cases f with
        | true => exact .inl rfl
        | false =>
          have := (hh 0 x rfl).2 (.inr rfl)
          simp only [lo] at h1
          exact .inr (by simp at h1; omega)
      · have := hh (j + 1) s (by simpa using hs)
        exact ⟨this.1, fun _ => this.2 (.inl (by omega))⟩
open Classical in
theorem sce_at {l : List Sp} (h : chk l = 0) (a : ∀ (j : Nat) (s : Sp), l[j]? = some s → s.2 ≠ 0 ∧ (0 < j → s.1 ≠ 0)) : sce l = 0 := by
  refine sce_zero.2 ⟨h, ?_⟩
  rw [cnn_def]
  refine decide_eq_true ⟨h, (shp_at (chk_zero.1 h).2).2 fun j s hs => ⟨(a j s hs).1, fun hf => (a j s hs).2 ?_⟩⟩
  rcases hf with hf | hf
  · exact hf
  · exact absurd hf (by decide)
open Classical in
theorem sce_no {l : List Sp} (h : chk l = 0) (j : Nat) (s : Sp) (hs : l[j]? = some s) (a : s.2 = 0 ∨ (0 < j ∧ s.1 = 0)) : sce l = 23 := by
  unfold sce
  rw [if_pos h, if_neg]
  intro hc
  rw [cnn_def] at hc
  have := (shp_at (chk_zero.1 h).2).1 (of_decide_eq_true hc).2 j s hs
  rcases a with a | ⟨a1, a2⟩
  · exact this.1 a
  · exact this.2 (.inl a1) a2

set_option maxHeartbeats 2000000 in
theorem lsides_any (v : Value) (l : List Sp) (w : World) (h : SSrc w v l) :
    Calls Tryz.prog 34 #[v] w fun e w' => e = .returned (.int .i64 (sce l)) ∧ Fr [] w w' := by
  have HSR : Hid (SSrc w v l) := h
  obtain ⟨ao, cap, rfl, hcap, hmax, h64, b, off, ha, hc⟩ := h
  have HC : Hid (∀ j s, l[j]? = some s → w.cell? ⟨b, off + j * 2, none⟩ = some (.int .i64 s.1) ∧ w.cell? ⟨b, off + j * 2 + 1, none⟩ = some (.int .i64 s.2)) := hc
  have HA : Hid (0 < l.length → ao = some ⟨b, off, none⟩) := ha
  have hml : l.length ≤ 9223372036854775807 := by unfold maxLen at hmax; omega
  clear hc ha h64
  go_enter Tryz.func34, Tryz.ntmps34
  go_wp2_with fail
  refine (lcheck_any _ l w HSR.out).mono ?_
  rintro e w1 ⟨rfl, hf1⟩
  have HF1 : Hid (Fr [] w w1) := hf1
  clear hf1
  by_cases hk0 : chk l = 0
  · have HK : Hid (chk l = 0) := hk0
    rw [hk0]
    clear hk0
    go_wp2
    go_loopw [4] (fun i wr => ∃ (k : Nat), k ≤ l.length ∧ i = .int .i64 (k : Int) ∧ (∀ j s, l[j]? = some s → j < k → s.2 ≠ 0 ∧ (0 < j → s.1 ≠ 0)) ∧ Fr [] w wr) (fun i _ => l.length - (intOf i).toNat)
    case atStart => exact ⟨0, by omega, rfl, fun j s _ hj => by omega, HF1.out⟩
    case round =>
      obtain ⟨k, hk, rfl, hp, hf⟩ := hrel
      have HF : Hid (Fr [] w wr) := hf
      have HP : Hid (∀ j s, l[j]? = some s → j < k → s.2 ≠ 0 ∧ (0 < j → s.1 ≠ 0)) := hp
      clear hf hp HF1
      by_cases hlt : k < l.length
      · obtain rfl := HA.out (by omega)
        obtain ⟨s, hs⟩ := at_lt hlt
        have c0 : wr.cell? ⟨b, off + k * 2, none⟩ = some (.int .i64 s.1) := HF.out.cell_some (HC.out k s hs).1 (by simp)
        have c1 : wr.cell? ⟨b, off + k * 2 + 1, none⟩ = some (.int .i64 s.2) := HF.out.cell_some (HC.out k s hs).2 (by simp)
        have HS : Hid (l[k]? = some s) := hs
        have HNX : Hid (s.2 ≠ 0 → (0 < k → s.1 ≠ 0) → ∀ j t, l[j]? = some t → j < k + 1 → t.2 ≠ 0 ∧ (0 < j → t.1 ≠ 0)) := by
          intro g1 g2 j t ht hj
          by_cases hjk : j = k
          · subst hjk
            rw [HS.out, Option.some.injEq] at ht
            subst ht
            exact ⟨g1, g2⟩
          · exact HP.out j t ht (by omega)
        clear hs
        obtain ⟨o, n⟩ := s
        simp only at c0 c1 HNX
        by_cases hn : n = 0
        · have HR : Hid (sce l = 23) := sce_no HK.out k _ HS.out (.inl hn)
          subst hn
          go_wp2
          go_ret
          exact ⟨by rw [HR.out]; rfl, HF.out⟩
        · have hnb : (n == 0) = false := beq_eq_false_iff_ne.2 hn
          by_cases hkz : k = 0
          · subst hkz
            have HN3 : Hid (∀ j t, l[j]? = some t → j < 0 + 1 → t.2 ≠ 0 ∧ (0 < j → t.1 ≠ 0)) := HNX.out hn (fun h => absurd h (by omega))
            go_wp2
            go_roundw
            case rel => exact ⟨1, by omega, by go_num, HN3.out, HF.out⟩
            case measure => simp [intOf]; omega
          · have dk : decide ((0 : Int) < (k : Int)) = true := decide_eq_true (by omega)
            have dk2 : 0 < k := by omega
            by_cases ho : o = 0
            · have HR : Hid (sce l = 23) := sce_no HK.out k _ HS.out (.inr ⟨by omega, ho⟩)
              subst ho
              go_wp2
              go_ret
              exact ⟨by rw [HR.out]; rfl, HF.out⟩
            · have HN3 : Hid (∀ j t, l[j]? = some t → j < k + 1 → t.2 ≠ 0 ∧ (0 < j → t.1 ≠ 0)) := HNX.out hn (fun _ => ho)
              have hob : (o == 0) = false := beq_eq_false_iff_ne.2 ho
              go_wp2
              go_roundw
              case rel => exact ⟨k + 1, by omega, by go_num, HN3.out, HF.out⟩
              case measure => simp [intOf]; omega
      · have HR : Hid (sce l = 0) := sce_at HK.out fun j s hs => HP.out j s hs (by have := (List.getElem?_eq_some_iff.1 hs).1; omega)
        go_wp2
        go_ret
        exact ⟨by rw [HR.out]; rfl, HF.out⟩
  · have HR : Hid (sce l = chk l) := by unfold Hid sce; rw [if_neg hk0]
    generalize chk l = K at *
    go_wp2
    go_ret
    exact ⟨by rw [HR.out]; rfl, HF1.out⟩

/-- The document's Head of a schema by itself, of a threshold by itself. -/
theorem lheadS_any (s : Int) (w : World) : Calls Tryz.prog 33 #[.int .i64 s, .int .u64 0] w fun e w' => e = .returned (.int .i64 (if s < -4 ∨ 8 < s then 21 else 0)) ∧ w = w' := by
  go_enter Tryz.func33, Tryz.ntmps33
  by_cases h1 : s < -4
  · have HE : Hid ((if s < -4 ∨ 8 < s then 21 else 0 : Int) = 21) := if_pos (.inl h1)
    go_wp2
    go_ret
    exact ⟨rfl, rfl⟩
  · by_cases h2 : 8 < s
    · have HE : Hid ((if s < -4 ∨ 8 < s then 21 else 0 : Int) = 21) := if_pos (.inr h2)
      go_wp2
      go_ret
      exact ⟨rfl, rfl⟩
    · have HE : Hid ((if s < -4 ∨ 8 < s then 21 else 0 : Int) = 0) := if_neg (by omega)
      go_wp2
      go_ret
      exact ⟨rfl, rfl⟩
theorem lheadZ_any (z : Nat) (w : World) : Calls Tryz.prog 33 #[.int .i64 0, .int .u64 (z : Int)] w fun e w' => e = .returned (.int .i64 (if z < inf then 0 else 11)) ∧ w = w' := by
  by_cases h1 : z < inf
  · rw [if_pos h1]; exact thHead_yes h1 w
  · rw [if_neg h1]; exact thHead_no h1 w

/-- What is wrong, as the document has it. -/
def wrV (c : Int) (p : ByteArray) (n : Int) : Value := .agg #[.int .i64 c, .string p, .int .i64 n]
def WrB (w : World) (b : Nat) (c : Int) (p : ByteArray) (n : Int) : Prop := w.heap[b]? = some (.cells #[.int .i64 c, .string p, .int .i64 n] 35 (0, 0))
theorem WrB.new (w : World) (c : Int) (p : ByteArray) (n : Int) : WrB (w.alloc (.cells #[.int .i64 c, .string p, .int .i64 n] 35)) w.heap.size c p n := heap_alloc_new _ _
theorem WrB.kept {w w' : World} {b : Nat} {c n : Int} {p : ByteArray} {S : List Nat} (h : WrB w b c p n) (f : Fr S w w') (hb : b ∉ S) : WrB w' b c p n := f.heap h hb
abbrev set3 (w : World) (g : Nat) (u0 u1 u2 : Value) : World := ((w.setCell ⟨g, 0, none⟩ u0).setCell ⟨g, 1, none⟩ u1).setCell ⟨g, 2, none⟩ u2
theorem set3_fr {S : List Nat} {a b : World} {g : Nat} (h : Fr S a b) (hg : g ∈ S ∨ a.heap.size ≤ g) (u0 u1 u2 : Value) : Fr S a (set3 b g u0 u1 u2) := ((h.setCell _ _ hg).setCell _ _ hg).setCell _ _ hg
theorem WrB.set {w : World} {b : Nat} {c n : Int} {p : ByteArray} (h : WrB w b c p n) (c' : Int) (p' : ByteArray) (n' : Int) : WrB (set3 w b (.int .i64 c') (.string p') (.int .i64 n')) b c' p' n' := by
  unfold WrB at h ⊢
  simp [set3, World.setCell, Array.getElem?_modify, h]
theorem Tryz.sizeOfWrong : (Tryz.prog.info? 35).map (·.size) = some 3 := by kernel_rfl
theorem wr_res {fn : Func} {p : Tmp} (h : fn.results = #[.cell p 35]) (tmps : Array Value) (w : World) (g : Nat) (c : Int) (nm : ByteArray) (n : Int)
    (hp : tmps.getD p undef = .pointer (some ⟨g, 0, none⟩)) (hg : WrB w g c nm n) : (results fn tmps).run Tryz.prog w = .ok (wrV c nm n) w :=
  results_cell_row h tmps w g 35 #[.int .i64 c, .string nm, .int .i64 n] (0, 0) _ hp hg Tryz.underlying35 rfl Tryz.sizeOfWrong
/-- What the document tells of a head. -/
def wrH (h : Hd) : Value := if (hce h).1 = 0 then wrV 0 ⟨#[]⟩ 0 else wrV (hce h).1 (hce h).2 0
set_option maxHeartbeats 4000000 in
theorem lcheck14_any (u : Value) (h : Hd) (w : World) (hh : HdSrc w u h) :
    Calls Tryz.prog 11 #[u] w fun e w' => e = .returned (wrH h) ∧ Fr [] w w' := by
  obtain ⟨po, pc, no, nc, rfl, hin, hp, hn⟩ := hh
  have HP : Hid (∀ wx, Fr [] w wx → SSrc wx (.slice po h.P.length pc) h.P) := fun wx f => hp.kept f
  have HN : Hid (∀ wx, Fr [] w wx → SSrc wx (.slice no h.N.length nc) h.N) := fun wx f => hn.kept f
  have HZ : Hid (h.z < 18446744073709551616) := hin.2.2.2
  clear hin hp hn
  have HCE : Hid (hce h = if h.v < 0 ∨ 1 < h.v then (25, nmVariant) else if h.h < 0 ∨ 3 < h.h then (26, nmHint) else if h.s < -4 ∨ 8 < h.s then (21, nmSchema)
    else if ¬ h.z < inf then (11, nmZero) else if sce h.P ≠ 0 then (sce h.P, nmPos) else (sce h.N, nmNeg)) := rfl
  have HW : Hid (∀ c p, c ≠ 0 → hce h = (c, p) → wrH h = wrV c p 0) := by
    intro c p hc he
    unfold wrH
    rw [he, if_neg hc]
  have HW0 : Hid ((hce h).1 = 0 → wrH h = wrV 0 ⟨#[]⟩ 0) := fun he => by unfold wrH; rw [if_pos he]
  obtain ⟨hv, hh, hs, hz, P, N⟩ := h
  simp only at HCE HP HN HZ ⊢
  generalize wrH ⟨hv, hh, hs, hz, P, N⟩ = WV at *
  generalize hce ⟨hv, hh, hs, hz, P, N⟩ = X at *
  go_enter Tryz.func11, Tryz.ntmps11
  have HB0 : Hid (WrB ((w.alloc (.cells #[.int .i64 hv, .int .i64 hh, .int .i64 hs, .int .u64 (hz : Int), .slice po P.length pc, .slice no N.length nc] 32)).alloc (.cells #[.int .i64 0, .string ⟨#[]⟩, .int .i64 0] 35)) (w.heap.size + 1) 0 ⟨#[]⟩ 0) := by
    have := WrB.new (w.alloc (.cells #[.int .i64 hv, .int .i64 hh, .int .i64 hs, .int .u64 (hz : Int), .slice po P.length pc, .slice no N.length nc] 32)) 0 ⟨#[]⟩ 0
    rwa [World.size_alloc] at this
  have HF0 : Hid (Fr [] w ((w.alloc (.cells #[.int .i64 hv, .int .i64 hh, .int .i64 hs, .int .u64 (hz : Int), .slice po P.length pc, .slice no N.length nc] 32)).alloc (.cells #[.int .i64 0, .string ⟨#[]⟩, .int .i64 0] 35))) := ((Fr.refl [] w).alloc _).alloc _
  have HC0 : Hid (Six' 32 ((w.alloc (.cells #[.int .i64 hv, .int .i64 hh, .int .i64 hs, .int .u64 (hz : Int), .slice po P.length pc, .slice no N.length nc] 32)).alloc (.cells #[.int .i64 0, .string ⟨#[]⟩, .int .i64 0] 35)) w.heap.size #[.int .i64 hv, .int .i64 hh, .int .i64 hs, .int .u64 (hz : Int), .slice po P.length pc, .slice no N.length nc]) := by
    unfold Six'
    rw [Hid, Below.heap_alloc _ _ _ (by simp)]
    exact heap_alloc_new _ _
  have HL : Hid (∀ W, Fr [] ((w.alloc (.cells #[.int .i64 hv, .int .i64 hh, .int .i64 hs, .int .u64 (hz : Int), .slice po P.length pc, .slice no N.length nc] 32)).alloc (.cells #[.int .i64 0, .string ⟨#[]⟩, .int .i64 0] 35)) W → W.cell? ⟨w.heap.size, 0, none⟩ = some (.int .i64 hv) ∧ W.cell? ⟨w.heap.size, 1, none⟩ = some (.int .i64 hh) ∧ W.cell? ⟨w.heap.size, 2, none⟩ = some (.int .i64 hs) ∧ W.cell? ⟨w.heap.size, 3, none⟩ = some (.int .u64 (hz : Int)) ∧ W.cell? ⟨w.heap.size, 4, none⟩ = some (.slice po P.length pc) ∧ W.cell? ⟨w.heap.size, 5, none⟩ = some (.slice no N.length nc) ∧ WrB W (w.heap.size + 1) 0 ⟨#[]⟩ 0) := fun W f => ⟨f.cell_some (HC0.out.cell 0 rfl) List.not_mem_nil, f.cell_some (HC0.out.cell 1 rfl) List.not_mem_nil, f.cell_some (HC0.out.cell 2 rfl) List.not_mem_nil, f.cell_some (HC0.out.cell 3 rfl) List.not_mem_nil, f.cell_some (HC0.out.cell 4 rfl) List.not_mem_nil, f.cell_some (HC0.out.cell 5 rfl) List.not_mem_nil, HB0.out.kept f (by simp)⟩
  go_upto_region 1 with fail
  generalize ((w.alloc (.cells #[.int .i64 hv, .int .i64 hh, .int .i64 hs, .int .u64 (hz : Int), .slice po P.length pc, .slice no N.length nc] 32)).alloc (.cells #[.int .i64 0, .string ⟨#[]⟩, .int .i64 0] 35)) = w1 at *
  have HF1 : Hid (Fr [] w w1) := HF0.out
  clear HB0 HC0 HF0
  obtain ⟨k0, k1, k2, k3, k4, k5, hb⟩ := HL.out w1 (Fr.refl _ _)
  have HB : Hid (WrB w1 (w.heap.size + 1) 0 ⟨#[]⟩ 0) := hb
  have d0 : w1.cell? ⟨w.heap.size + 1, 0, none⟩ = some (.int .i64 0) := by rw [cell_at hb]; rfl
  have d1 : w1.cell? ⟨w.heap.size + 1, 1, none⟩ = some (.string ⟨#[]⟩) := by rw [cell_at hb]; rfl
  have d2 : w1.cell? ⟨w.heap.size + 1, 2, none⟩ = some (.int .i64 0) := by rw [cell_at hb]; rfl
  have e0 := frozen_at hb 0
  have e1 := frozen_at hb 1
  have e2 := frozen_at hb 2
  clear hb
  by_cases h1 : hv < 0 ∨ 1 < hv
  · have HX : Hid (WV = wrV 25 nmVariant 0) := HW.out 25 nmVariant (by decide) (by rw [HCE.out, if_pos h1])
    rcases h1 with h1 | h1
    all_goals
      go_wp2_with fail
      refine bodyPost_ret (wr_res rfl _ _ (w.heap.size + 1) 25 nmVariant 0 rfl (HB.out.set 25 nmVariant 0)) rfl ?_
      have hff : Fr [] w (set3 w1 (w.heap.size + 1) (.int .i64 25) (.string nmVariant) (.int .i64 0)) := set3_fr HF1.out (.inr (by omega)) _ _ _
      exact ⟨by rw [HX.out], hff⟩
  have h1a : ¬ hv < 0 := by omega
  have h1b : ¬ 1 < hv := by omega
  by_cases h2 : hh < 0 ∨ 3 < hh
  · have HX : Hid (WV = wrV 26 nmHint 0) := HW.out 26 nmHint (by decide) (by rw [HCE.out, if_neg h1, if_pos h2])
    rcases h2 with h2 | h2
    all_goals
      go_wp2_with fail
      refine bodyPost_ret (wr_res rfl _ _ (w.heap.size + 1) 26 nmHint 0 rfl (HB.out.set 26 nmHint 0)) rfl ?_
      have hff : Fr [] w (set3 w1 (w.heap.size + 1) (.int .i64 26) (.string nmHint) (.int .i64 0)) := set3_fr HF1.out (.inr (by omega)) _ _ _
      exact ⟨by rw [HX.out], hff⟩
  have h2a : ¬ hh < 0 := by omega
  have h2b : ¬ 3 < hh := by omega
  have HX2 : Hid (X = if hs < -4 ∨ 8 < hs then (21, nmSchema)
    else if ¬ hz < inf then (11, nmZero) else if sce P ≠ 0 then (sce P, nmPos) else (sce N, nmNeg)) := by rw [Hid, HCE.out, if_neg h1, if_neg h2]
  clear h1 h2 HCE
  go_wp2_with fail
  refine (lheadS_any hs w1).mono ?_
  rintro e w2 ⟨rfl, rfl⟩
  by_cases h3 : hs < -4 ∨ 8 < hs
  · have HX : Hid (WV = wrV 21 nmSchema 0) := HW.out 21 nmSchema (by decide) (by rw [HX2.out, if_pos h3])
    rw [if_pos h3]
    go_wp2_with fail
    refine bodyPost_ret (wr_res rfl _ _ (w.heap.size + 1) 21 nmSchema 0 rfl (HB.out.set 21 nmSchema 0)) rfl ?_
    have hff : Fr [] w (set3 w1 (w.heap.size + 1) (.int .i64 21) (.string nmSchema) (.int .i64 0)) := set3_fr HF1.out (.inr (by omega)) _ _ _
    exact ⟨by rw [HX.out], hff⟩
  have HX3 : Hid (X = if ¬ hz < inf then (11, nmZero) else if sce P ≠ 0 then (sce P, nmPos) else (sce N, nmNeg)) := by rw [Hid, HX2.out, if_neg h3]
  rw [if_neg h3]
  clear h3 HX2 h1a h1b h2a h2b
  go_wp2_with fail
  refine (lheadZ_any hz w1).mono ?_
  rintro e w2 ⟨rfl, rfl⟩
  by_cases h4 : hz < inf
  case neg =>
    have HX : Hid (WV = wrV 11 nmZero 0) := HW.out 11 nmZero (by decide) (by rw [HX3.out, if_pos h4])
    rw [if_neg h4]
    go_wp2_with fail
    refine bodyPost_ret (wr_res rfl _ _ (w.heap.size + 1) 11 nmZero 0 rfl (HB.out.set 11 nmZero 0)) rfl ?_
    have hff : Fr [] w (set3 w1 (w.heap.size + 1) (.int .i64 11) (.string nmZero) (.int .i64 0)) := set3_fr HF1.out (.inr (by omega)) _ _ _
    exact ⟨by rw [HX.out], hff⟩
  have HX4 : Hid (X = if sce P ≠ 0 then (sce P, nmPos) else (sce N, nmNeg)) := by rw [Hid, HX3.out, if_neg (by simpa using h4)]
  rw [if_pos h4]
  clear h4 HX3
  go_wp2_with fail
  refine (lsides_any _ P w1 (HP.out _ HF1.out)).mono ?_
  rintro e w2 ⟨rfl, hf2⟩
  clear k0 k1 k2 k3 k4 k5 d0 d1 d2 e0 e1 e2 HB
  obtain ⟨k0, k1, k2, k3, k4, k5, hb⟩ := HL.out w2 hf2
  have HB : Hid (WrB w2 (w.heap.size + 1) 0 ⟨#[]⟩ 0) := hb
  have d0 : w2.cell? ⟨w.heap.size + 1, 0, none⟩ = some (.int .i64 0) := by rw [cell_at hb]; rfl
  have d1 : w2.cell? ⟨w.heap.size + 1, 1, none⟩ = some (.string ⟨#[]⟩) := by rw [cell_at hb]; rfl
  have d2 : w2.cell? ⟨w.heap.size + 1, 2, none⟩ = some (.int .i64 0) := by rw [cell_at hb]; rfl
  have e0 := frozen_at hb 0
  have e1 := frozen_at hb 1
  have e2 := frozen_at hb 2
  clear hb
  have HF2 : Hid (Fr [] w w2) := HF1.out.trans hf2 (by simp)
  have HG2 : Hid (Fr [] w1 w2) := hf2
  clear hf2
  by_cases h5 : sce P = 0
  case neg =>
    have HX : Hid (WV = wrV (sce P) nmPos 0) := HW.out (sce P) nmPos h5 (by rw [HX4.out, if_pos h5])
    generalize sce P = K at *
    go_wp2_with fail
    refine bodyPost_ret (wr_res rfl _ _ (w.heap.size + 1) K nmPos 0 rfl (HB.out.set K nmPos 0)) rfl ?_
    have hff : Fr [] w (set3 w2 (w.heap.size + 1) (.int .i64 K) (.string nmPos) (.int .i64 0)) := set3_fr HF2.out (.inr (by omega)) _ _ _
    exact ⟨by rw [HX.out], hff⟩
  have HX5 : Hid (X = (sce N, nmNeg)) := by rw [Hid, HX4.out, if_neg (by simpa using h5)]
  rw [h5]
  clear h5 HX4
  go_wp2_with fail
  refine (lsides_any _ N w2 (HN.out _ HF2.out)).mono ?_
  rintro e w3 ⟨rfl, hf3⟩
  clear k0 k1 k2 k3 k4 k5 d0 d1 d2 e0 e1 e2 HB
  obtain ⟨k0, k1, k2, k3, k4, k5, hb⟩ := HL.out w3 (HG2.out.trans hf3 (by simp))
  have HB : Hid (WrB w3 (w.heap.size + 1) 0 ⟨#[]⟩ 0) := hb
  have d0 : w3.cell? ⟨w.heap.size + 1, 0, none⟩ = some (.int .i64 0) := by rw [cell_at hb]; rfl
  have d1 : w3.cell? ⟨w.heap.size + 1, 1, none⟩ = some (.string ⟨#[]⟩) := by rw [cell_at hb]; rfl
  have d2 : w3.cell? ⟨w.heap.size + 1, 2, none⟩ = some (.int .i64 0) := by rw [cell_at hb]; rfl
  have e0 := frozen_at hb 0
  have e1 := frozen_at hb 1
  have e2 := frozen_at hb 2
  clear hb
  have HF3 : Hid (Fr [] w w3) := HF2.out.trans hf3 (by simp)
  clear hf3
  by_cases h6 : sce N = 0
  case neg =>
    have HX : Hid (WV = wrV (sce N) nmNeg 0) := HW.out (sce N) nmNeg h6 HX5.out
    generalize sce N = K at *
    go_wp2_with fail
    refine bodyPost_ret (wr_res rfl _ _ (w.heap.size + 1) K nmNeg 0 rfl (HB.out.set K nmNeg 0)) rfl ?_
    have hff : Fr [] w (set3 w3 (w.heap.size + 1) (.int .i64 K) (.string nmNeg) (.int .i64 0)) := set3_fr HF3.out (.inr (by omega)) _ _ _
    exact ⟨by rw [HX.out], hff⟩
  have HX : Hid (WV = wrV 0 ⟨#[]⟩ 0) := HW0.out (by rw [HX5.out]; exact h6)
  rw [h6]
  go_wp2_with fail
  refine bodyPost_ret (wr_res rfl _ _ (w.heap.size + 1) 0 ⟨#[]⟩ 0 rfl (HB.out.set 0 ⟨#[]⟩ 0)) rfl ?_
  have hff : Fr [] w (set3 w3 (w.heap.size + 1) (.int .i64 0) (.string ⟨#[]⟩) (.int .i64 0)) := set3_fr HF3.out (.inr (by omega)) _ _ _
  exact ⟨by rw [HX.out], hff⟩
end Go.Proofs.YtkphonepblkcdaaGreatDoor
