/-
  What the statements of layer 14 do with heads: few, spans, ref, same, one, tells.
-/
import Derived.Test.YtkphonepblkcdaaGreatDoorRef14A
import Derived.Test.YtkphonepblkcdaaGreatDoorHdHead
namespace Go.Proofs.YtkphonepblkcdaaGreatDoor
open Go.RowKit Mem Spans Thrs
set_option linter.unusedSimpArgs false
set_option linter.unusedVariables false
set_option maxRecDepth 100000

set_option maxHeartbeats 2000000 in
theorem spans14_any (v : Value) (l : List Sp) (w : World) (h : SSrc w v l) (hl : l.length ≤ 1024) :
    Calls Tryz.prog 32 #[v] w fun e w' => ∃ u, e = .returned u ∧ SOwn 115 w.heap.size w' u l ∧ Fr [] w w' := by
  obtain ⟨ao, cap, rfl, hcap, hmax, h64, b, off, ha, hc⟩ := h
  have HC : Hid (∀ j s, l[j]? = some s → w.cell? ⟨b, off + j * 2, none⟩ = some (.int .i64 s.1) ∧ w.cell? ⟨b, off + j * 2 + 1, none⟩ = some (.int .i64 s.2)) := hc
  have HA : Hid (0 < l.length → ao = some ⟨b, off, none⟩) := ha
  obtain ⟨i0, hi, hz0, hz1, hz2⟩ := info_refspan
  have HI : Hid (Tryz.prog.info? 115 = some i0 ∧ i0.zero = some (.agg #[.int .i64 0, .int .i64 0]) ∧ i0.size = 2 ∧ i0.bytes = 16) := ⟨hi, hz0, hz1, hz2⟩
  clear hc ha h64 hi hz0 hz1 hz2
  go_enter Tryz.func32, Tryz.ntmps32
  go_wp2
  go_loopw [3, 8] (fun u i wr => ∃ (k : Nat), k ≤ l.length ∧ i = .int .i64 (k : Int) ∧ SOwn 115 w.heap.size wr u (l.take k) ∧ Fr [] w wr) (fun _ i _ => l.length - (intOf i).toNat)
  case atStart => exact ⟨0, by omega, rfl, .inl ⟨by simp, rfl⟩, Fr.refl _ _⟩
  case round =>
    obtain ⟨k, hk, rfl, hso, hf⟩ := hrel
    have HF : Hid (Fr [] w wr) := hf
    have HS : Hid (SOwn 115 w.heap.size wr u3 (l.take k)) := hso
    clear hf hso
    by_cases hlt : k < l.length
    · obtain rfl := HA.out (by omega)
      obtain ⟨s, hs⟩ := at_lt hlt
      have c0 : wr.cell? ⟨b, off + k * 2, none⟩ = some (.int .i64 s.1) := HF.out.cell_some (HC.out k s hs).1 (by simp)
      have c1 : wr.cell? ⟨b, off + k * 2 + 1, none⟩ = some (.int .i64 s.2) := HF.out.cell_some (HC.out k s hs).2 (by simp)
      have HT : Hid (l.take (k + 1) = l.take k ++ [s]) := take_at hs
      have HL : Hid ((l.take k).length ≤ 1000000) := by rw [Hid, List.length_take]; omega
      clear hs
      obtain ⟨o, n⟩ := s
      simp only at c0 c1
      have HSZ : Hid (w.heap.size ≤ wr.heap.size) := HF.out.size
      go_wp2_with (at_builtin; refine wpList_append_sp _ rfl _ _ 30 rfl Tryz.underlying30 HI.out.1 HI.out.2.1 HI.out.2.2.1 HI.out.2.2.2 (B := w.heap.size) (s := (o, n)) (by have := HSZ.out; simp; omega) rfl rfl (HS.out.kept (((Fr.refl [] _).alloc _).alloc _)) (lit_sp' 115 (wr.alloc _) [(o, n)] (World.size_alloc _ _) (by have := HSZ.out; omega) (by simp) (by unfold maxLen; simp)) HL.out ?_; intro v3 w3 ho3 hb3; have HO3 : Hid (SOwn 115 w.heap.size w3 v3 (l.take k ++ [(o, n)])) := ho3; have HB3 : Hid (Fr [] w w3) := Fr.ofBelow ((((HF.out.alloc _).alloc _).below (Nat.le_refl _) (by simp)).trans hb3); clear ho3 hb3)
      go_roundw
      case rel => exact ⟨k + 1, by omega, by go_num, by rw [HT.out]; exact HO3.out, HB3.out⟩
      case measure => simp [intOf]; omega
    · have HS2 : Hid (SOwn 115 w.heap.size wr u3 l) := by
        have := HS.out
        rw [List.take_of_length_le (by omega)] at this
        exact this
      clear HS
      go_wp2
      go_ret
      exact ⟨_, rfl, HS2.out, HF.out⟩

def FewPost (l : List Sp) (w : World) (e : Ending) (w' : World) : Prop := ∃ r : Bool, e = .returned (.bool r) ∧ (r = true → l.length ≤ 400) ∧ Fr [] w w'

theorem div10 {m : Int} (h0 : 0 ≤ m) (h1 : m ≤ 5000) : 0 ≤ m / 10 ∧ m / 10 ≤ 500 := by omega

set_option maxHeartbeats 2000000 in
theorem few14_any (v : Value) (l : List Sp) (w : World) (h : SSrc w v l) :
    Calls Tryz.prog 6 #[v] w fun e w' => FewPost l w e w' := by
  obtain ⟨ao, cap, rfl, hcap, hmax, h64, b, off, ha, hc⟩ := h
  have HC : Hid (∀ j s, l[j]? = some s → w.cell? ⟨b, off + j * 2, none⟩ = some (.int .i64 s.1) ∧ w.cell? ⟨b, off + j * 2 + 1, none⟩ = some (.int .i64 s.2)) := hc
  have HA : Hid (0 < l.length → ao = some ⟨b, off, none⟩) := ha
  have H64 : Hid (∀ s ∈ l, in64 s.1 ∧ in64 s.2) := h64
  have hml : l.length ≤ 9223372036854775807 := by unfold maxLen at hmax; omega
  clear hc ha h64
  go_enter Tryz.func6, Tryz.ntmps6
  go_wp2
  go_loopw [3, 8] (fun c i wr => ∃ (k : Nat) (N : Int), k ≤ l.length ∧ i = .int .i64 (k : Int) ∧ c = .int .i64 N ∧ (k : Int) ≤ N ∧ N ≤ 400 ∧ Fr [] w wr) (fun _ i _ => l.length - (intOf i).toNat)
  case atStart => exact ⟨0, 0, by omega, rfl, rfl, by omega, by omega, Fr.refl _ _⟩
  case round =>
    obtain ⟨k, N, hk, rfl, rfl, hN1, hN2, hf⟩ := hrel
    have HF : Hid (Fr [] w wr) := hf
    clear hf
    by_cases hlt : k < l.length
    · obtain rfl := HA.out (by omega)
      obtain ⟨s, hs⟩ := at_lt hlt
      have HM := (H64.out s (List.mem_of_getElem? hs)).2
      have c0 : wr.cell? ⟨b, off + k * 2, none⟩ = some (.int .i64 s.1) := HF.out.cell_some (HC.out k s hs).1 (by simp)
      have c1 : wr.cell? ⟨b, off + k * 2 + 1, none⟩ = some (.int .i64 s.2) := HF.out.cell_some (HC.out k s hs).2 (by simp)
      clear hs
      obtain ⟨o, n⟩ := s
      obtain ⟨hn1, hn2⟩ := HM
      simp only at c0 c1 hn1 hn2
      have HF2 : Hid (Fr [] w (wr.alloc (.cells #[.int .i64 o, .int .i64 n] 64))) := HF.out.alloc _
      by_cases hp : 0 < n
      · by_cases h5 : 5000 < n
        · go_wp2
          go_ret
          exact ⟨false, rfl, by simp, HF2.out⟩
        · by_cases h6 : N + (1 + n / 10) + 1 ≤ 400
          · go_wp2
            go_roundw
            case rel => exact ⟨k + 1, _, by omega, by go_num, rfl, by omega, by omega, HF2.out⟩
            case measure => simp [intOf]; omega
          · go_wp2
            go_ret
            exact ⟨false, rfl, by simp, HF2.out⟩
      · by_cases h6 : N + 1 ≤ 400
        · go_wp2
          go_roundw
          case rel => exact ⟨k + 1, N + 1, by omega, by go_num, rfl, by omega, by omega, HF2.out⟩
          case measure => simp [intOf]; omega
        · go_wp2
          go_ret
          exact ⟨false, rfl, by simp, HF2.out⟩
    · go_wp2
      go_ret
      exact ⟨true, rfl, fun _ => by omega, HF.out⟩

set_option maxHeartbeats 2000000 in
theorem same14_any (v u : Value) (xs ys : List Sp) (w : World) (h1 : SSrc w v xs) (h2 : SSrc w u ys) :
    Calls Tryz.prog 31 #[v, u] w fun e w' => e = .returned (.bool (decide (xs = ys))) ∧ ∃ m, w' = w.drewN m := by
  obtain ⟨ao, cap, rfl, hcap, hmax, _, b, off, ha, hc⟩ := h1
  obtain ⟨ao2, cap2, rfl, hcap2, hmax2, _, b2, off2, ha2, hc2⟩ := h2
  have HC : Hid (∀ j s, xs[j]? = some s → w.cell? ⟨b, off + j * 2, none⟩ = some (.int .i64 s.1) ∧ w.cell? ⟨b, off + j * 2 + 1, none⟩ = some (.int .i64 s.2)) := hc
  have HC2 : Hid (∀ j s, ys[j]? = some s → w.cell? ⟨b2, off2 + j * 2, none⟩ = some (.int .i64 s.1) ∧ w.cell? ⟨b2, off2 + j * 2 + 1, none⟩ = some (.int .i64 s.2)) := hc2
  have HA : Hid (0 < xs.length → ao = some ⟨b, off, none⟩) := ha
  have HA2 : Hid (0 < ys.length → ao2 = some ⟨b2, off2, none⟩) := ha2
  have hml : xs.length ≤ 9223372036854775807 := by unfold maxLen at hmax; omega
  have hml2 : ys.length ≤ 9223372036854775807 := by unfold maxLen at hmax2; omega
  clear hc ha hc2 ha2
  go_enter Tryz.func31, Tryz.ntmps31
  by_cases hl : xs.length = ys.length
  · have hlb : ((xs.length : Int) != (ys.length : Int)) = false := by simp; omega
    have hle1 : xs.length ≤ ys.length := by omega
    have hle2 : ys.length ≤ xs.length := by omega
    clear hl
    go_wp2
    clear hlb
    go_loopw [13] (fun i wr => ∃ (k : Nat), k ≤ xs.length ∧ i = .int .i64 (k : Int) ∧ xs.take k = ys.take k ∧ ∃ m, wr = w.drewN m) (fun i _ => xs.length - (intOf i).toNat)
    case atStart => exact ⟨0, by omega, rfl, by simp, 0, rfl⟩
    case round =>
      obtain ⟨k, hk, rfl, ht, mr, rfl⟩ := hrel
      have HT : Hid (xs.take k = ys.take k) := ht
      clear ht
      by_cases hlt : k < xs.length
      · obtain rfl := HA.out (by omega)
        obtain rfl := HA2.out (by omega)
        obtain ⟨x, hx⟩ := at_lt hlt
        obtain ⟨y, hy⟩ := at_lt (show k < ys.length by omega)
        have c0 : (w.drewN mr).cell? ⟨b, off + k * 2, none⟩ = some (.int .i64 x.1) := (HC.out k x hx).1
        have c1 : (w.drewN mr).cell? ⟨b, off + k * 2 + 1, none⟩ = some (.int .i64 x.2) := (HC.out k x hx).2
        have c2 : (w.drewN mr).cell? ⟨b2, off2 + k * 2, none⟩ = some (.int .i64 y.1) := (HC2.out k y hy).1
        have c3 : (w.drewN mr).cell? ⟨b2, off2 + k * 2 + 1, none⟩ = some (.int .i64 y.2) := (HC2.out k y hy).2
        have hk2 : k < ys.length := by omega
        by_cases hxy : x = y
        · have HT2 : Hid (xs.take (k + 1) = ys.take (k + 1)) := by rw [Hid, take_at hx, take_at hy, HT.out, hxy]
          clear HT hx hy
          subst hxy
          obtain ⟨o, n⟩ := x
          simp only at c0 c1 c2 c3
          have HW : Hid (∀ q, (w.drewN mr).drewN q = w.drewN (mr + q)) := fun q => by rw [World.drewN_drewN]
          generalize w.drewN mr = wr at *
          go_wp2_with fail
          go_quiet (fail)
          go_wp2
          go_roundw
          case rel => exact ⟨k + 1, by omega, by go_num, HT2.out, _, HW.out _⟩
          case measure => simp [intOf]; omega
        · have HNO : Hid (decide (xs = ys) = false) := by
            rw [Hid, decide_eq_false_iff_not]
            intro h
            subst h
            rw [hx] at hy
            simp at hy
            exact hxy hy
          clear HT hx hy
          obtain ⟨o, n⟩ := x
          obtain ⟨o2, n2⟩ := y
          simp only at c0 c1 c2 c3
          have HW : Hid (∀ q, (w.drewN mr).drewN q = w.drewN (mr + q)) := fun q => by rw [World.drewN_drewN]
          generalize w.drewN mr = wr at *
          rw [Prod.mk.injEq] at hxy
          by_cases ho : o = o2
          · have hn : ¬ n = n2 := fun h => hxy ⟨ho, h⟩
            subst ho
            clear hxy
            go_wp2_with fail
            go_quiet (fail)
            go_wp2
            go_ret
            exact ⟨by rw [HNO.out]; rfl, _, HW.out _⟩
          · clear hxy
            go_wp2_with fail
            go_quiet (fail)
            go_wp2
            go_ret
            exact ⟨by rw [HNO.out]; rfl, _, HW.out _⟩
      · have HYES : Hid (decide (xs = ys) = true) := by
          rw [Hid, decide_eq_true_iff]
          have := HT.out
          rwa [List.take_of_length_le (by omega), List.take_of_length_le (by omega)] at this
        go_wp2
        go_ret
        exact ⟨by rw [HYES.out]; rfl, _, rfl⟩
  · have HNO : Hid (decide (xs = ys) = false) := by
      rw [Hid, decide_eq_false_iff_not]
      intro h
      exact hl (congrArg List.length h)
    have hlb : ((xs.length : Int) != (ys.length : Int)) = true := by simp; omega
    clear hl
    go_wp2
    go_ret
    exact ⟨by rw [HNO.out]; rfl, 0, rfl⟩


set_option maxHeartbeats 4000000 in
theorem one14_any (x y : Value) (a b : Hd) (w : World) (ha : HdSrc w x a) (hb : HdSrc w y b) :
    Calls Tryz.prog 9 #[x, y] w fun e w' => e = .returned (.bool (hdq a b)) ∧ Fr [] w w' := by
  obtain ⟨po, pc, no, nc, rfl, _, hp, hn⟩ := ha
  obtain ⟨qo, qc, mo, mc, rfl, _, hq, hm⟩ := hb
  obtain ⟨v1, k1, s1, z1, P1, N1⟩ := a
  obtain ⟨v2, k2, s2, z2, P2, N2⟩ := b
  simp only at hp hn hq hm
  unfold hdq
  simp only
  generalize (z1 : Int) = z1 at *
  generalize (z2 : Int) = z2 at *
  have Q5 : Hid (∀ wx, Fr [] w wx → Calls Tryz.prog 31 #[.slice po P1.length pc, .slice qo P2.length qc] wx fun e w' => e = .returned (.bool (decide (P1 = P2))) ∧ ∃ m, w' = wx.drewN m) := fun wx f => same14_any _ _ P1 P2 wx (hp.kept f) (hq.kept f)
  have Q6 : Hid (∀ wx, Fr [] w wx → Calls Tryz.prog 31 #[.slice no N1.length nc, .slice mo N2.length mc] wx fun e w' => e = .returned (.bool (decide (N1 = N2))) ∧ ∃ m, w' = wx.drewN m) := fun wx f => same14_any _ _ N1 N2 wx (hn.kept f) (hm.kept f)
  clear hp hn hq hm
  generalize decide (P1 = P2) = B5 at *
  generalize decide (N1 = N2) = B6 at *
  generalize hB1 : (v1 == v2) = B1 at *
  generalize hB2 : (k1 == k2) = B2 at *
  generalize hB3 : (s1 == s2) = B3 at *
  generalize hB4 : (z1 == z2) = B4 at *
  go_enter Tryz.func9, Tryz.ntmps9
  have HF : Hid (Fr [] w ((w.alloc (.cells #[.int .i64 v1, .int .i64 k1, .int .i64 s1, .int .u64 z1, .slice po P1.length pc, .slice no N1.length nc] 32)).alloc (.cells #[.int .i64 v2, .int .i64 k2, .int .i64 s2, .int .u64 z2, .slice qo P2.length qc, .slice mo N2.length mc] 32))) := ((Fr.refl _ _).alloc _).alloc _
  have HL : Hid (Six' 32 ((w.alloc (.cells #[.int .i64 v1, .int .i64 k1, .int .i64 s1, .int .u64 z1, .slice po P1.length pc, .slice no N1.length nc] 32)).alloc (.cells #[.int .i64 v2, .int .i64 k2, .int .i64 s2, .int .u64 z2, .slice qo P2.length qc, .slice mo N2.length mc] 32)) w.heap.size #[.int .i64 v1, .int .i64 k1, .int .i64 s1, .int .u64 z1, .slice po P1.length pc, .slice no N1.length nc] ∧ Six' 32 ((w.alloc (.cells #[.int .i64 v1, .int .i64 k1, .int .i64 s1, .int .u64 z1, .slice po P1.length pc, .slice no N1.length nc] 32)).alloc (.cells #[.int .i64 v2, .int .i64 k2, .int .i64 s2, .int .u64 z2, .slice qo P2.length qc, .slice mo N2.length mc] 32)) (w.heap.size + 1) #[.int .i64 v2, .int .i64 k2, .int .i64 s2, .int .u64 z2, .slice qo P2.length qc, .slice mo N2.length mc]) := two_at _ _ _ _
  cases B1 with
  | false =>
    go_wp2
    go_ret
    exact ⟨rfl, HF.out⟩
  | true =>
    cases B2 with
    | false =>
      go_wp2
      go_ret
      exact ⟨rfl, HF.out⟩
    | true =>
      cases B3 with
      | false =>
        go_wp2
        go_ret
        exact ⟨rfl, HF.out⟩
      | true =>
        cases B4 with
        | false =>
          go_wp2
          go_ret
          exact ⟨rfl, HF.out⟩
        | true =>
          go_wp2_with fail
          refine (Q5.out _ HF.out).mono ?_
          rintro e w2 ⟨rfl, m5, rfl⟩
          cases B5 with
          | false =>
            go_wp2
            go_ret
            exact ⟨rfl, HF.out.drewN _⟩
          | true =>
            go_wp2_with fail
            refine (Q6.out _ (HF.out.drewN _)).mono ?_
            rintro e w2 ⟨rfl, m6, rfl⟩
            go_wp2
            go_ret
            exact ⟨rfl, HF.out.drewN _⟩

/-- The document's head's block, written anew. -/
theorem set6_any {t : TypeId} {w : World} {g : Nat} {a0 a1 a2 a3 a4 a5 : Value} (h : Six' t w g #[a0, a1, a2, a3, a4, a5]) (u0 u1 u2 u3 u4 u5 : Value) : Six' t (set6 w g u0 u1 u2 u3 u4 u5) g #[u0, u1, u2, u3, u4, u5] := by
  unfold Six' at h ⊢
  simp [set6, World.setCell, Array.getElem?_modify, h]
theorem Six'.kept {t : TypeId} {w w' : World} {b : Nat} {cs : Array Value} {S : List Nat} (h : Six' t w b cs) (f : Fr S w w') (hb : b ∉ S) : Six' t w' b cs := f.heap h hb
theorem Six'.frozen {t : TypeId} {w : World} {b : Nat} {cs : Array Value} (h : Six' t w b cs) (i : Nat) : w.frozen? ⟨b, i, none⟩ = false := frozen_at h i
theorem Tryz.sizeOfRHead : (Tryz.prog.info? 32).map (·.size) = some 6 := by kernel_rfl
theorem rhd_res {fn : Func} {p : Tmp} (h : fn.results = #[.cell p 32]) (tmps : Array Value) (w : World) (g : Nat) (a0 a1 a2 a3 a4 a5 : Value)
    (hp : tmps.getD p undef = .pointer (some ⟨g, 0, none⟩)) (hg : Six' 32 w g #[a0, a1, a2, a3, a4, a5]) : (results fn tmps).run Tryz.prog w = .ok (.agg #[a0, a1, a2, a3, a4, a5]) w :=
  results_cell_row h tmps w g 32 #[a0, a1, a2, a3, a4, a5] (0, 0) _ hp hg Tryz.underlying32 rfl Tryz.sizeOfRHead

set_option maxHeartbeats 4000000 in
theorem ref14_any (v : Value) (h : Hd) (w : World) (hh : HdSrc w v h) (hl : h.P.length ≤ 1024 ∧ h.N.length ≤ 1024) :
    Calls Tryz.prog 10 #[v] w fun e w' => ∃ u, e = .returned u ∧ HdSrc w' u h ∧ Fr [] w w' := by
  obtain ⟨po, pc, no, nc, rfl, hin, hsp, hsn⟩ := hh
  have HIN : Hid (HdIn h) := hin
  have HSR : Hid (SSrc w (.slice po h.P.length pc) h.P ∧ SSrc w (.slice no h.N.length nc) h.N) := ⟨hsp, hsn⟩
  have HL : Hid (h.P.length ≤ 1024 ∧ h.N.length ≤ 1024) := hl
  clear hin hsp hsn hl
  go_enter Tryz.func10, Tryz.ntmps10
  have HA : Hid (Six' 25 ((w.alloc (.cells #[.int .i64 h.v, .int .i64 h.h, .int .i64 h.s, .int .u64 (h.z : Int), .slice po h.P.length pc, .slice no h.N.length nc] 25)).alloc (.cells #[.int .i64 0, .int .i64 0, .int .i64 0, .int .u64 0, .slice none 0 0, .slice none 0 0] 32)) w.heap.size #[.int .i64 h.v, .int .i64 h.h, .int .i64 h.s, .int .u64 (h.z : Int), .slice po h.P.length pc, .slice no h.N.length nc] ∧ Six' 32 ((w.alloc (.cells #[.int .i64 h.v, .int .i64 h.h, .int .i64 h.s, .int .u64 (h.z : Int), .slice po h.P.length pc, .slice no h.N.length nc] 25)).alloc (.cells #[.int .i64 0, .int .i64 0, .int .i64 0, .int .u64 0, .slice none 0 0, .slice none 0 0] 32)) (w.heap.size + 1) #[.int .i64 0, .int .i64 0, .int .i64 0, .int .u64 0, .slice none 0 0, .slice none 0 0] ∧ Fr [] w ((w.alloc (.cells #[.int .i64 h.v, .int .i64 h.h, .int .i64 h.s, .int .u64 (h.z : Int), .slice po h.P.length pc, .slice no h.N.length nc] 25)).alloc (.cells #[.int .i64 0, .int .i64 0, .int .i64 0, .int .u64 0, .slice none 0 0, .slice none 0 0] 32))) := by
    refine ⟨?_, ?_, ((Fr.refl [] w).alloc _).alloc _⟩
    · unfold Six'
      rw [Below.heap_alloc _ _ _ (by simp)]
      exact heap_alloc_new _ _
    · have := heap_alloc_new (w.alloc (.cells #[.int .i64 h.v, .int .i64 h.h, .int .i64 h.s, .int .u64 (h.z : Int), .slice po h.P.length pc, .slice no h.N.length nc] 25)) (.cells #[.int .i64 0, .int .i64 0, .int .i64 0, .int .u64 0, .slice none 0 0, .slice none 0 0] 32)
      rwa [World.size_alloc] at this
  go_upto_region 1 with fail
  obtain ⟨hA3, hA6, hAF⟩ := HA.out
  clear HA
  generalize ((w.alloc (.cells #[.int .i64 h.v, .int .i64 h.h, .int .i64 h.s, .int .u64 (h.z : Int), .slice po h.P.length pc, .slice no h.N.length nc] 25)).alloc (.cells #[.int .i64 0, .int .i64 0, .int .i64 0, .int .u64 0, .slice none 0 0, .slice none 0 0] 32)) = wA at hA3 hA6 hAF ⊢
  have HSZ : Hid (w.heap.size + 1 < wA.heap.size) := lt_of_heap hA6
  have H6 : Hid (Six' 32 wA (w.heap.size + 1) #[.int .i64 0, .int .i64 0, .int .i64 0, .int .u64 0, .slice none 0 0, .slice none 0 0]) := hA6
  have HAF : Hid (Fr [] w wA) := hAF
  have c0 := hA3.cell 0 rfl
  have c1 := hA3.cell 1 rfl
  have c2 := hA3.cell 2 rfl
  have c3 := hA3.cell 3 rfl
  have c4 := hA3.cell 4 rfl
  have c5 := hA3.cell 5 rfl
  clear hA3 hA6 hAF
  have HSP : Hid (∀ wx, Fr [] wA wx → Calls Tryz.prog 32 #[.slice po h.P.length pc] wx fun e w' => ∃ u, e = .returned u ∧ SOwn 115 wA.heap.size w' u h.P ∧ Fr [] wA w') := by
    intro wx hf
    refine (spans14_any _ h.P wx (HSR.out.1.kept (HAF.out.trans hf (by simp))) HL.out.1).mono ?_
    rintro e w' ⟨u, rfl, hu, hf'⟩
    exact ⟨u, rfl, hu.mono hf.size, hf.trans hf' (by simp)⟩
  have HSN : Hid (∀ wx, Fr [] wA wx → Calls Tryz.prog 32 #[.slice no h.N.length nc] wx fun e w' => ∃ u, e = .returned u ∧ SOwn 115 wA.heap.size w' u h.N ∧ Fr [] wA w' ∧ Fr [] wx w') := by
    intro wx hf
    refine (spans14_any _ h.N wx (HSR.out.2.kept (HAF.out.trans hf (by simp))) HL.out.2).mono ?_
    rintro e w' ⟨u, rfl, hu, hf'⟩
    exact ⟨u, rfl, hu.mono hf.size, hf.trans hf' (by simp), hf'⟩
  have F0 : Fr [] wA wA.drew := (Fr.refl _ _).drew
  go_region_held3 (fun w' => w'.cell? ⟨w.heap.size, 0, none⟩ = some (.int .i64 h.v) ∧ w'.cell? ⟨w.heap.size, 1, none⟩ = some (.int .i64 h.h) ∧ w'.cell? ⟨w.heap.size, 2, none⟩ = some (.int .i64 h.s) ∧ w'.cell? ⟨w.heap.size, 3, none⟩ = some (.int .u64 (h.z : Int)) ∧ w'.cell? ⟨w.heap.size, 4, none⟩ = some (.slice po h.P.length pc) ∧ w'.cell? ⟨w.heap.size, 5, none⟩ = some (.slice no h.N.length nc)) (go_keep) (first
    | (go_at_call 32; with_reducible refine (HSP.out _ F0).mono ?_; rintro e wa ⟨ua, rfl, hua, hfa⟩; have ka0 := hfa.cell_some c0 (by simp); have ka1 := hfa.cell_some c1 (by simp); have ka2 := hfa.cell_some c2 (by simp); have ka3 := hfa.cell_some c3 (by simp); have ka4 := hfa.cell_some c4 (by simp); have ka5 := hfa.cell_some c5 (by simp))
    | (go_at_call 32; with_reducible refine (HSN.out _ hfa).mono ?_; rintro e wb ⟨ub, rfl, hub, hfb, hfab⟩; have kb0 := hfb.cell_some c0 (by simp); have kb1 := hfb.cell_some c1 (by simp); have kb2 := hfb.cell_some c2 (by simp); have kb3 := hfb.cell_some c3 (by simp); have kb4 := hfb.cell_some c4 (by simp); have kb5 := hfb.cell_some c5 (by simp); have h6 := H6.out.kept hfb (by simp); have d0 := h6.cell 0 rfl; have d1 := h6.cell 1 rfl; have d2 := h6.cell 2 rfl; have d3 := h6.cell 3 rfl; have d4 := h6.cell 4 rfl; have d5 := h6.cell 5 rfl; have f0 := h6.frozen 0; have f1 := h6.frozen 1; have f2 := h6.frozen 2; have f3 := h6.frozen 3; have f4 := h6.frozen 4; have f5 := h6.frozen 5; obtain ⟨ua1, ua2, rfl⟩ := hua.valR; obtain ⟨ub1, ub2, rfl⟩ := hub.valR))
  have H6b : Hid (Six' 32 wb (w.heap.size + 1) #[.int .i64 0, .int .i64 0, .int .i64 0, .int .u64 0, .slice none 0 0, .slice none 0 0]) := h6
  have HUA : Hid (SOwn 115 wA.heap.size wb (.slice ua1 h.P.length ua2) h.P) := hua.kept hfab
  have HUB : Hid (SOwn 115 wA.heap.size wb (.slice ub1 h.N.length ub2) h.N) := hub
  have HFB : Hid (Fr [] w wb) := HAF.out.trans hfb (by simp)
  clear h6 hua hub hfb
  go_wp2
  refine bodyPost_ret (rhd_res rfl _ _ (w.heap.size + 1) _ _ _ _ _ _ rfl (set6_any H6b.out _ _ _ _ _ _)) rfl ?_
  have hs9 := set6_fr (S := [w.heap.size + 1]) (g := w.heap.size + 1) (Fr.refl _ wb) (.inl (by simp)) (.int .i64 h.v) (.int .i64 h.h) (.int .i64 h.s) (.int .u64 (h.z : Int)) (.slice ua1 h.P.length ua2) (.slice ub1 h.N.length ub2)
  have hfw : Fr [] w (set6 wb (w.heap.size + 1) (.int .i64 h.v) (.int .i64 h.h) (.int .i64 h.s) (.int .u64 (h.z : Int)) (.slice ua1 h.P.length ua2) (.slice ub1 h.N.length ub2)) := set6_fr HFB.out (.inr (by omega)) _ _ _ _ _ _
  have hb : ∀ y ∈ [w.heap.size + 1], y < wA.heap.size := by have := HSZ.out; simp; omega
  have hp64 : ∀ s ∈ h.P, in64 s.1 ∧ in64 s.2 := by obtain ⟨_, _, _, _, _, h64, _⟩ := HSR.out.1; exact h64
  have hn64 : ∀ s ∈ h.N, in64 s.1 ∧ in64 s.2 := by obtain ⟨_, _, _, _, _, h64, _⟩ := HSR.out.2; exact h64
  exact ⟨_, rfl, ⟨_, _, _, _, rfl, HIN.out, (HUA.out.keptR hs9 hb).src hp64, (HUB.out.keptR hs9 hb).src hn64⟩, hfw⟩

set_option maxHeartbeats 4000000 in
theorem tells14_any (sa : Addr) (w : World) (v : Value) (c : Int) (p : ByteArray) (n : Int) (hE : Env sa w) (hw : 2 ≤ w.heap.size) (h : IsErr w v c p n) (hc : c ≠ 0) :
    Calls Tryz.prog 13 #[v, wrV c p n] w fun e w' => e = .returned (.bool true) ∧ Fr [] w w' := by
  rcases h with ⟨h0, _⟩ | ⟨_, b1, b2, rfl, hch⟩
  · exact absurd h0 hc
  have HE : Hid (∀ W, Fr [] w W → Env sa W) := fun W f => hE.kept0 f
  have HC : Hid (∀ W, Fr [] w W → Chain W .nilIface [⟨b1, c, p, n⟩, ⟨b2, c, ByteArray.empty, 0⟩] (errOf b1)) := fun W f => hch.kept0 f
  have HG : Hid (2 ≤ w.heap.size) := hw
  have HAT : Hid (atRes p [⟨b1, c, p, n⟩, ⟨b2, c, ByteArray.empty, 0⟩] = .tuple #[.int .i64 n, .bool true]) := by rw [Hid]; simp [atRes, atOf]
  clear hE hch hw hc
  unfold wrV
  go_enter Tryz.func13, Tryz.ntmps13
  have HB : Hid (WrB (w.alloc (.cells #[.int .i64 c, .string p, .int .i64 n] 35)) w.heap.size c p n) := WrB.new _ _ _ _
  have HF0 : Hid (Fr [] w (w.alloc (.cells #[.int .i64 c, .string p, .int .i64 n] 35))) := (Fr.refl _ _).alloc _
  go_wp2_with fail
  refine (at_chain sa .nilIface _ _ p _ (HE.out _ HF0.out) (last_nil sa) (HC.out _ HF0.out) (by have := HG.out; have := HF0.out.size; omega)).mono ?_
  rintro e w1 ⟨rfl, hf1⟩
  rw [HAT.out]
  have HB1 : Hid (WrB w1 w.heap.size c p n) := HB.out.kept hf1 (by simp)
  have HF1 : Hid (Fr [] w w1) := HF0.out.trans hf1 (by simp)
  clear hf1 HB HF0
  have L0 : ∀ W, Fr [] w1 W → W.cell? ⟨w.heap.size, 0, none⟩ = some (.int .i64 c) := fun W f => f.cell_some (by rw [cell_at HB1.out]; rfl) List.not_mem_nil
  have L2 : ∀ W, Fr [] w1 W → W.cell? ⟨w.heap.size, 2, none⟩ = some (.int .i64 n) := fun W f => f.cell_some (by rw [cell_at HB1.out]; rfl) List.not_mem_nil
  have HP1 : Hid (∀ wx, Fr [] w1 wx → Calls Tryz.prog 29 #[errOf b1] wx fun e w' => e = .returned (.int .i64 c) ∧ Fr [] w1 w') := by
    intro wx hx
    refine (code_chain sa .nilIface _ _ wx (HE.out _ (HF1.out.trans hx (by simp))) (last_nil sa) (HC.out _ (HF1.out.trans hx (by simp)))).mono ?_
    rintro e w' ⟨rfl, h⟩
    exact ⟨rfl, hx.trans h (by simp)⟩
  have HP2 : Hid (∀ wx, Fr [] w1 wx → Calls Tryz.prog 38 #[errOf b1] wx fun e w' => e = .returned (.int .i64 2) ∧ Fr [] w1 w') := by
    intro wx hx
    refine (depth_chain sa .nilIface _ _ wx (HE.out _ (HF1.out.trans hx (by simp))) (last_nil sa) (HC.out _ (HF1.out.trans hx (by simp))) (by simp) (by have := HG.out; have := HF1.out.size; have := hx.size; omega)).mono ?_
    rintro e w' ⟨rfl, h⟩
    exact ⟨rfl, hx.trans h (by simp)⟩
  have F0 : Fr [] w1 w1.drew := (Fr.refl _ _).drew
  go_wp2_with fail
  go_region_held3 (fun w' => w'.cell? ⟨w.heap.size, 0, none⟩ = some (.int .i64 c) ∧ w'.cell? ⟨w.heap.size, 2, none⟩ = some (.int .i64 n)) (go_keep) (first
    | (go_at_call 29; with_reducible refine (HP1.out _ F0).mono ?_; rintro e wa ⟨rfl, hfa⟩)
    | (go_at_call 38; with_reducible refine (HP2.out _ hfa).mono ?_; rintro e wb ⟨rfl, hfb⟩))
  all_goals (go_wp2)
  all_goals (go_ret)
  all_goals exact ⟨rfl, HF1.out.trans hfb (by simp)⟩
end Go.Proofs.YtkphonepblkcdaaGreatDoor
