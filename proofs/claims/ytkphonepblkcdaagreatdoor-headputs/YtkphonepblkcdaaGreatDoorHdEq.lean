/-
  Package head: Equal (slices.Equal over spans).
-/
import Derived.Test.YtkphonepblkcdaaGreatDoorHdMem
namespace Go.Proofs.YtkphonepblkcdaaGreatDoor
open Go.RowKit Mem Spans Thrs
set_option linter.unusedSimpArgs false
set_option linter.unusedVariables false
set_option maxRecDepth 100000

set_option maxHeartbeats 2000000 in
theorem spanEq_any (v u : Value) (xs ys : List Sp) (w : World) (h1 : SSrc w v xs) (h2 : SSrc w u ys) :
    Calls Tryz.prog 30 #[v, u] w fun e w' => e = .returned (.bool (decide (xs = ys))) ∧ ∃ m, w' = w.drewN m := by
  obtain ⟨ao, cap, rfl, hcap, hmax, _, b, off, ha, hc⟩ := h1
  obtain ⟨ao2, cap2, rfl, hcap2, hmax2, _, b2, off2, ha2, hc2⟩ := h2
  have HC : Hid (∀ j s, xs[j]? = some s → w.cell? ⟨b, off + j * 2, none⟩ = some (.int .i64 s.1) ∧ w.cell? ⟨b, off + j * 2 + 1, none⟩ = some (.int .i64 s.2)) := hc
  have HC2 : Hid (∀ j s, ys[j]? = some s → w.cell? ⟨b2, off2 + j * 2, none⟩ = some (.int .i64 s.1) ∧ w.cell? ⟨b2, off2 + j * 2 + 1, none⟩ = some (.int .i64 s.2)) := hc2
  have HA : Hid (0 < xs.length → ao = some ⟨b, off, none⟩) := ha
  have HA2 : Hid (0 < ys.length → ao2 = some ⟨b2, off2, none⟩) := ha2
  have hml : xs.length ≤ 9223372036854775807 := by unfold maxLen at hmax; omega
  have hml2 : ys.length ≤ 9223372036854775807 := by unfold maxLen at hmax2; omega
  clear hc ha hc2 ha2
  go_enter Tryz.func30, Tryz.ntmps30
  by_cases hl : xs.length = ys.length
  · have hlb : ((xs.length : Int) != (ys.length : Int)) = false := by simp; omega
    have hle1 : xs.length ≤ ys.length := by omega
    have hle2 : ys.length ≤ xs.length := by omega
    clear hl
    go_wp2
    clear hlb
    go_loopw [13] (fun i wr => ∃ (k : Nat), k ≤ xs.length ∧ i = .int .i64 (k : Int) ∧ xs.take k = ys.take k ∧ ∃ m, wr = w.drewN m) (fun i _ => xs.length - (intOf i).toNat)
    case atStart => exact ⟨0, by omega, rfl, by simp, 0, rfl⟩
    case round =>
      obtain ⟨k, hk, rfl, ht, mr, rfl⟩ := hrel
      have HT : Hid (xs.take k = ys.take k) := ht
      clear ht
      by_cases hlt : k < xs.length
      · obtain rfl := HA.out (by omega)
        obtain rfl := HA2.out (by omega)
        obtain ⟨x, hx⟩ := at_lt hlt
        obtain ⟨y, hy⟩ := at_lt (show k < ys.length by omega)
        have c0 : (w.drewN mr).cell? ⟨b, off + k * 2, none⟩ = some (.int .i64 x.1) := (HC.out k x hx).1
        have c1 : (w.drewN mr).cell? ⟨b, off + k * 2 + 1, none⟩ = some (.int .i64 x.2) := (HC.out k x hx).2
        have c2 : (w.drewN mr).cell? ⟨b2, off2 + k * 2, none⟩ = some (.int .i64 y.1) := (HC2.out k y hy).1
        have c3 : (w.drewN mr).cell? ⟨b2, off2 + k * 2 + 1, none⟩ = some (.int .i64 y.2) := (HC2.out k y hy).2
        have hk2 : k < ys.length := by omega
        by_cases hxy : x = y
        · have HT2 : Hid (xs.take (k + 1) = ys.take (k + 1)) := by rw [Hid, take_at hx, take_at hy, HT.out, hxy]
          clear HT hx hy
          subst hxy
          obtain ⟨o, n⟩ := x
          simp only at c0 c1 c2 c3
          have HW : Hid (∀ q, (w.drewN mr).drewN q = w.drewN (mr + q)) := fun q => by rw [World.drewN_drewN]
          generalize w.drewN mr = wr at *
          go_wp2_with fail
          go_quiet (fail)
          go_wp2
          go_roundw
          case rel => exact ⟨k + 1, by omega, by go_num, HT2.out, _, HW.out _⟩
          case measure => simp [intOf]; omega
        · have HNO : Hid (decide (xs = ys) = false) := by
            rw [Hid, decide_eq_false_iff_not]
            intro h
            subst h
            rw [hx] at hy
            simp at hy
            exact hxy hy
          clear HT hx hy
          obtain ⟨o, n⟩ := x
          obtain ⟨o2, n2⟩ := y
          simp only at c0 c1 c2 c3
          have HW : Hid (∀ q, (w.drewN mr).drewN q = w.drewN (mr + q)) := fun q => by rw [World.drewN_drewN]
          generalize w.drewN mr = wr at *
          rw [Prod.mk.injEq] at hxy
          by_cases ho : o = o2
          · have hn : ¬ n = n2 := fun h => hxy ⟨ho, h⟩
            subst ho
            clear hxy
            go_wp2_with fail
            go_quiet (fail)
            go_wp2
            go_ret
            exact ⟨by rw [HNO.out]; rfl, _, HW.out _⟩
          · clear hxy
            go_wp2_with fail
            go_quiet (fail)
            go_wp2
            go_ret
            exact ⟨by rw [HNO.out]; rfl, _, HW.out _⟩
      · have HYES : Hid (decide (xs = ys) = true) := by
          rw [Hid, decide_eq_true_iff]
          have := HT.out
          rwa [List.take_of_length_le (by omega), List.take_of_length_le (by omega)] at this
        go_wp2
        go_ret
        exact ⟨by rw [HYES.out]; rfl, _, rfl⟩
  · have HNO : Hid (decide (xs = ys) = false) := by
      rw [Hid, decide_eq_false_iff_not]
      intro h
      exact hl (congrArg List.length h)
    have hlb : ((xs.length : Int) != (ys.length : Int)) = true := by simp; omega
    clear hl
    go_wp2
    go_ret
    exact ⟨by rw [HNO.out]; rfl, 0, rfl⟩

/-- Are two heads one? -/
def hdq (a b : Hd) : Bool := ((((a.v == b.v) && (a.h == b.h)) && (a.s == b.s)) && ((a.z : Int) == (b.z : Int))) && decide (a.P = b.P) && decide (a.N = b.N)
theorem hdq_iff (a b : Hd) : hdq a b = true ↔ a = b := by
  obtain ⟨v, h, s, z, P, N⟩ := a
  obtain ⟨v', h', s', z', P', N'⟩ := b
  simp only [hdq, Bool.and_eq_true, beq_iff_eq, decide_eq_true_iff, Hd.mk.injEq]
  constructor
  · rintro ⟨⟨⟨⟨⟨h1, h2⟩, h3⟩, h4⟩, h5⟩, h6⟩
    exact ⟨h1, h2, h3, by omega, h5, h6⟩
  · rintro ⟨h1, h2, h3, h4, h5, h6⟩
    exact ⟨⟨⟨⟨⟨h1, h2⟩, h3⟩, by omega⟩, h5⟩, h6⟩
theorem hdq_self (a : Hd) : hdq a a = true := (hdq_iff a a).2 rfl
theorem hdq_comm (a b : Hd) : hdq a b = hdq b a := by
  rw [Bool.eq_iff_iff, hdq_iff, hdq_iff]
  exact eq_comm

/-- A block of six cells, of whatever type. -/
def Six' (t : TypeId) (w : World) (b : Nat) (cs : Array Value) : Prop := w.heap[b]? = some (.cells cs t (0, 0))
theorem Six'.cell {t : TypeId} {w : World} {b : Nat} {cs : Array Value} (h : Six' t w b cs) (i : Nat) {v : Value} (hv : cs[i]? = some v) : w.cell? ⟨b, i, none⟩ = some v := by rw [cell_at h]; exact hv
theorem two_at (t : TypeId) (w : World) (A B : Array Value) : Six' t ((w.alloc (.cells A t)).alloc (.cells B t)) w.heap.size A ∧ Six' t ((w.alloc (.cells A t)).alloc (.cells B t)) (w.heap.size + 1) B := by
  refine ⟨?_, ?_⟩
  · unfold Six'
    rw [Below.heap_alloc _ _ _ (by simp)]
    exact heap_alloc_new _ _
  · have := heap_alloc_new (w.alloc (.cells A t)) (.cells B t)
    rwa [World.size_alloc] at this

set_option maxHeartbeats 4000000 in
theorem hdEqual_any (x y : Value) (a b : Hd) (w : World) (ha : HdSrc w x a) (hb : HdSrc w y b) :
    Calls Tryz.prog 8 #[x, y] w fun e w' => e = .returned (.bool (hdq a b)) ∧ Fr [] w w' := by
  obtain ⟨po, pc, no, nc, rfl, _, hp, hn⟩ := ha
  obtain ⟨qo, qc, mo, mc, rfl, _, hq, hm⟩ := hb
  obtain ⟨v1, k1, s1, z1, P1, N1⟩ := a
  obtain ⟨v2, k2, s2, z2, P2, N2⟩ := b
  simp only at hp hn hq hm
  unfold hdq
  simp only
  generalize (z1 : Int) = z1 at *
  generalize (z2 : Int) = z2 at *
  have Q5 : Hid (∀ wx, Fr [] w wx → Calls Tryz.prog 30 #[.slice po P1.length pc, .slice qo P2.length qc] wx fun e w' => e = .returned (.bool (decide (P1 = P2))) ∧ ∃ m, w' = wx.drewN m) := fun wx f => spanEq_any _ _ P1 P2 wx (hp.kept f) (hq.kept f)
  have Q6 : Hid (∀ wx, Fr [] w wx → Calls Tryz.prog 30 #[.slice no N1.length nc, .slice mo N2.length mc] wx fun e w' => e = .returned (.bool (decide (N1 = N2))) ∧ ∃ m, w' = wx.drewN m) := fun wx f => spanEq_any _ _ N1 N2 wx (hn.kept f) (hm.kept f)
  clear hp hn hq hm
  generalize decide (P1 = P2) = B5 at *
  generalize decide (N1 = N2) = B6 at *
  generalize hB1 : (v1 == v2) = B1 at *
  generalize hB2 : (k1 == k2) = B2 at *
  generalize hB3 : (s1 == s2) = B3 at *
  generalize hB4 : (z1 == z2) = B4 at *
  go_enter Tryz.func8, Tryz.ntmps8
  have HF : Hid (Fr [] w ((w.alloc (.cells #[.int .i64 v1, .int .i64 k1, .int .i64 s1, .int .u64 z1, .slice po P1.length pc, .slice no N1.length nc] 25)).alloc (.cells #[.int .i64 v2, .int .i64 k2, .int .i64 s2, .int .u64 z2, .slice qo P2.length qc, .slice mo N2.length mc] 25))) := ((Fr.refl _ _).alloc _).alloc _
  have HL : Hid (Six' 25 ((w.alloc (.cells #[.int .i64 v1, .int .i64 k1, .int .i64 s1, .int .u64 z1, .slice po P1.length pc, .slice no N1.length nc] 25)).alloc (.cells #[.int .i64 v2, .int .i64 k2, .int .i64 s2, .int .u64 z2, .slice qo P2.length qc, .slice mo N2.length mc] 25)) w.heap.size #[.int .i64 v1, .int .i64 k1, .int .i64 s1, .int .u64 z1, .slice po P1.length pc, .slice no N1.length nc] ∧ Six' 25 ((w.alloc (.cells #[.int .i64 v1, .int .i64 k1, .int .i64 s1, .int .u64 z1, .slice po P1.length pc, .slice no N1.length nc] 25)).alloc (.cells #[.int .i64 v2, .int .i64 k2, .int .i64 s2, .int .u64 z2, .slice qo P2.length qc, .slice mo N2.length mc] 25)) (w.heap.size + 1) #[.int .i64 v2, .int .i64 k2, .int .i64 s2, .int .u64 z2, .slice qo P2.length qc, .slice mo N2.length mc]) := two_at _ _ _ _
  cases B1 with
  | false =>
    go_wp2
    go_ret
    exact ⟨rfl, HF.out⟩
  | true =>
    cases B2 with
    | false =>
      go_wp2
      go_ret
      exact ⟨rfl, HF.out⟩
    | true =>
      cases B3 with
      | false =>
        go_wp2
        go_ret
        exact ⟨rfl, HF.out⟩
      | true =>
        cases B4 with
        | false =>
          go_wp2
          go_ret
          exact ⟨rfl, HF.out⟩
        | true =>
          go_wp2_with fail
          refine (Q5.out _ HF.out).mono ?_
          rintro e w2 ⟨rfl, m5, rfl⟩
          cases B5 with
          | false =>
            go_wp2
            go_ret
            exact ⟨rfl, HF.out.drewN _⟩
          | true =>
            go_wp2_with fail
            refine (Q6.out _ (HF.out.drewN _)).mono ?_
            rintro e w2 ⟨rfl, m6, rfl⟩
            go_wp2
            go_ret
            exact ⟨rfl, HF.out.drewN _⟩
end Go.Proofs.YtkphonepblkcdaaGreatDoor
