/-
  Package span: All, and the function that it hands back: all buckets' numbers and places, as far as it is asked.
-/
import Derived.Test.YtoaibabkkphlaaaSCount
import Derived.RangeFuncBox
import Derived.RangeFuncLeaves
import Derived.RangeFuncNested
import Derived.Shelf.Abstract
import Derived.OwnWalkIn
import Derived.TacticsInMore
import Derived.LoopNIn
import Derived.LoopIn
import Derived.Maps.AppendAt
namespace Go.Proofs.Ytoaibabkkphlaaa
open Go.RowKit Go.Shelf Mem Spans
set_option linter.unusedSimpArgs false
set_option linter.unusedVariables false
set_option maxRecDepth 100000
attribute [local go_sem] Oper.semAt_some

/-- Places with their numbers, from i on. -/
def prs (i : Nat) : List Int → List (Int × Int)
  | [] => []
  | p :: r => ((i : Int), p) :: prs (i + 1) r
theorem prs_length (i : Nat) (l : List Int) : (prs i l).length = l.length := by
  induction l generalizing i with
  | nil => rfl
  | cons x l ih => simp [prs, ih]
theorem prs_snoc (i : Nat) (l : List Int) (x : Int) : prs i (l ++ [x]) = prs i l ++ [(((i + l.length : Nat) : Int), x)] := by
  induction l generalizing i with
  | nil => simp [prs]
  | cons y l ih =>
    simp only [List.cons_append, prs, ih]
    rw [show i + 1 + l.length = i + (y :: l).length from by simp; omega]
theorem prs_take (i : Nat) (l : List Int) (k : Nat) : prs i (l.take k) = (prs i l).take k := by
  induction l generalizing i k with
  | nil => simp [prs]
  | cons y l ih =>
    cases k with
    | zero => simp [prs]
    | succ k => simp [prs, ih]
theorem prs_at (i : Nat) (l : List Int) (k : Nat) : (prs i l)[k]? = l[k]?.map (fun p => (((i + k : Nat) : Int), p)) := by
  induction l generalizing i k with
  | nil => simp [prs]
  | cons y l ih =>
    cases k with
    | zero => simp [prs]
    | succ k =>
      simp only [prs, List.getElem?_cons_succ, ih]
      rw [show i + 1 + k = i + (k + 1) from by omega]
theorem prs_snd (i : Nat) (l : List Int) : (prs i l).map (fun x => x.2) = l := by
  induction l generalizing i with
  | nil => rfl
  | cons y l ih => simp [prs, ih]
/-- All that a list tells. -/
def pls (l : List Sp) : List Int := if chk l = 0 then plc 0 l else []
def tot (l : List Sp) : List (Int × Int) := prs 0 (pls l)
theorem pls_le (l : List Sp) : (pls l).length ≤ 4096 := by
  unfold pls
  split
  · have := ok_cnt (chk_zero.1 (by assumption)).2
    have := this.2.2 (by omega)
    omega
  · simp
theorem pls_rises (l : List Sp) : rises (-1048576) (pls l) := by
  unfold pls
  split
  · exact ok_rising (chk_zero.1 (by assumption)).2
  · trivial
theorem pls_in (l : List Sp) : ∀ x ∈ pls l, in64 x := fun x hx => by
  have := rises_mem (pls_rises l) x hx
  unfold in64
  omega

theorem Fr.grownBy {w w' : World} (h : Fr [] w w') : w.grownBy w' none := ⟨h.os, h.tape, h.output, h.size, fun k hk _ => h.block k hk (by simp)⟩
theorem SSrc.below {n0 : Nat} {w w' : World} {v : Value} {l : List Sp} (h : SSrc w v l) (hb : Below n0 w w') (hn : w.heap.size ≤ n0) : SSrc w' v l := by
  obtain ⟨ao, cap, h1, h2, h3, h4, b, off, h5, h6⟩ := h
  refine ⟨ao, cap, h1, h2, h3, h4, b, off, h5, fun j x hj => ?_⟩
  have c0 := (h6 j x hj).1
  have c1 := (h6 j x hj).2
  have b0 : b < n0 := by have := World.block_lt_of_cell? w _ c0; simp at this; omega
  exact ⟨(hb.cell (p := ⟨b, off + j * 2, none⟩) b0).trans c0, (hb.cell (p := ⟨b, off + j * 2 + 1, none⟩) b0).trans c1⟩

set_option maxHeartbeats 2000000 in
theorem all1_in (n : Nat) (hn : 1 ≤ n) (lp Bs : Nat) (v : Value) (l : List Sp) (w0 : World) (hS : SSrc w0 v l) (J Jx : List (Int × Int) → World → Prop)
    (hY : ∀ pre x W, J pre W → pre.length < (tot l).length → x.1 = (pre.length : Int) → YieldAt Fence.wide (n - 1) Try.prog lp #[.int .i64 x.1, .int .i64 x.2] W fun e W' =>
      (e = .returned (.bool true) ∧ J (pre ++ [x]) W' ∧ Below w0.heap.size W W') ∨ (e = .returned (.bool false) ∧ Jx (pre ++ [x]) W'))
    (W : World) (hJ : AbidesFrom W.heap.size J) (hB : Below w0.heap.size w0 W) (hBs : W.cell? ⟨Bs, 0, none⟩ = some v) (h0 : J [] W) :
    CallsIn Fence.wide n Try.prog 99 #[.func (.yield lp) #[] #[], .pointer (some ⟨Bs, 0, none⟩)] W fun e W' => (∃ u, e = .returned u) ∧
      ((∃ ys, ys = tot l ∧ J ys W') ∨ (∃ pre, pre <+: tot l ∧ Jx pre W')) := by
  have HSR : Hid (SSrc W v l) := hS.below hB (Nat.le_refl _)
  have HS0 : Hid (SSrc w0 v l) := hS
  obtain ⟨ao, cap, rfl, hcap, hmax, h64, b, off, ha, hc⟩ := hS
  have HA : Hid (0 < l.length → ao = some ⟨b, off, none⟩) := ha
  have HCW : Hid (∀ wr, Below w0.heap.size w0 wr → ∀ j s, l[j]? = some s → wr.cell? ⟨b, off + j * 2, none⟩ = some (.int .i64 s.1) ∧ wr.cell? ⟨b, off + j * 2 + 1, none⟩ = some (.int .i64 s.2)) := by
    intro wr hbw j s hj
    have c0 := (hc j s hj).1
    have c1 := (hc j s hj).2
    have b0 : b < w0.heap.size := World.block_lt_of_cell? w0 _ c0
    exact ⟨(hbw.cell (p := ⟨b, off + j * 2, none⟩) b0).trans c0, (hbw.cell (p := ⟨b, off + j * 2 + 1, none⟩) b0).trans c1⟩
  have HY : Hid (∀ pre x W, J pre W → pre.length < (tot l).length → x.1 = (pre.length : Int) → YieldAt Fence.wide (n - 1) Try.prog lp #[.int .i64 x.1, .int .i64 x.2] W fun e W' =>
      (e = .returned (.bool true) ∧ J (pre ++ [x]) W' ∧ Below w0.heap.size W W') ∨ (e = .returned (.bool false) ∧ Jx (pre ++ [x]) W')) := hY
  have HJ : Hid (AbidesFrom W.heap.size J) := hJ
  have HB : Hid (Below w0.heap.size w0 W) := hB
  have H0 : Hid (J [] W) := h0
  clear hc ha h64 hY hJ hB h0
  refine callsIn_of_wp Try.func99 rfl trivial ?_ rfl
  simp only [Try.ntmps99, List.size_toArray, List.length_cons, List.length_nil, Nat.reduceAdd, Nat.reduceSub, Array.replicate_succ, Array.replicate_zero, List.push_toArray, List.append_toArray, List.nil_append, List.cons_append]
  gi_wp2_with fail
  refine ⟨trivial, (callsIn_wide.2 (check_any _ l W HSR.out)).mono ?_⟩
  rintro e w1 ⟨rfl, hf1⟩
  have hBs1 : w1.cell? ⟨Bs, 0, none⟩ = some (.slice ao l.length cap) := hf1.cell_some hBs (by simp)
  have HJ1 : Hid (J [] w1) := HJ.out _ _ _ none H0.out (Fr.grownBy hf1) (fun r e => by cases e)
  have HB1 : Hid (Below w0.heap.size w0 w1) := HB.out.trans (hf1.below HB.out.size (by simp))
  clear hf1 hBs
  by_cases hk0 : chk l = 0
  · have HT : Hid (tot l = prs 0 (plc 0 l)) := by unfold Hid tot pls; rw [if_pos hk0]
    have hlen := (chk_zero.1 hk0).1
    have HO : Hid (ok true 0 0 l) := (chk_zero.1 hk0).2
    gi_wp2
    gi_loopw [3, 4, 12] (fun c p i wr => ∃ (k : Nat) (N A : Int), k ≤ l.length ∧ i = .int .i64 (k : Int) ∧ c = .int .i64 N ∧ p = .int .i64 A ∧ N = ((plc 0 (l.take k)).length : Int) ∧ A = bhd 0 (l.take k) ∧ (k = 0 → A = 0) ∧ -1048576 ≤ A ∧ A ≤ 1048577 ∧ J (prs 0 (plc 0 (l.take k))) wr ∧ Below w0.heap.size w0 wr) (fun _ _ i _ => l.length - (intOf i).toNat)
    case atStart => exact ⟨0, 0, 0, by omega, rfl, rfl, rfl, by simp [plc], by simp [bhd], fun _ => rfl, by omega, by omega, HJ1.out, HB1.out⟩
    case round =>
      obtain ⟨k, N, A, hk, rfl, rfl, rfl, hN, hA, hA0, hA1, hA2, hJk, hBk⟩ := hrel
      have HN : Hid (N = ((plc 0 (l.take k)).length : Int)) := hN
      have HAA : Hid (A = bhd 0 (l.take k) ∧ (k = 0 → A = 0)) := ⟨hA, hA0⟩
      have HJk : Hid (J (prs 0 (plc 0 (l.take k))) wr) := hJk
      have HBk : Hid (Below w0.heap.size w0 wr) := hBk
      clear hN hA hA0 hJk hBk
      by_cases hlt : k < l.length
      · obtain rfl := HA.out (by omega)
        obtain ⟨s, hs⟩ := at_lt hlt
        have c0 := (HCW.out wr HBk.out k s hs).1
        have c1 := (HCW.out wr HBk.out k s hs).2
        have hat := ok_at HO.out k s hs
        have hod : ok (decide (k = 0)) (cnt (l.take k)) (bhd 0 (l.take k)) (s :: l.drop (k + 1)) := by rw [← drop_at hs]; exact ok_drop HO.out k
        obtain ⟨_, _, ho1, ho2, ho3⟩ := hod
        rw [← HAA.out.1] at ho1 ho2
        have HTK : Hid (plc 0 (l.take (k + 1)) = plc 0 (l.take k) ++ run (A + s.1) s.2.toNat ∧ bhd 0 (l.take (k + 1)) = A + s.1 + s.2) := by
          rw [Hid, take_at hs, plc_append, bhd_append, ← HAA.out.1]
          simp [plc, bhd]
        have HPRE : Hid (∀ m : Nat, m ≤ s.2.toNat → (plc 0 (l.take k) ++ run (A + s.1) m).length ≤ (plc 0 (l.take (k + 1))).length ∧ plc 0 (l.take (k + 1)) <+: plc 0 l) := by
          intro m hm
          refine ⟨by rw [HTK.out.1]; simp only [List.length_append, run_length]; omega, ?_⟩
          conv => rhs; rw [← List.take_append_drop (k + 1) l]
          rw [plc_append]
          exact List.prefix_append _ _
        have hle : ((plc 0 l).length : Int) ≤ 4096 := by
          have := ok_cnt HO.out
          have := this.2.2 (by omega)
          omega
        have hNb : N + s.2 ≤ 4096 := by
          have h1 := (HPRE.out s.2.toNat (Nat.le_refl _))
          have h2 := h1.2.length_le
          have h3 := h1.1
          have := HN.out
          simp only [List.length_append, run_length] at h3
          omega
        have hN0 : 0 ≤ N := by have := HN.out; omega
        have HLow : Hid (-1048576 ≤ A + s.1) := by
          by_cases h0 : k = 0
          · have := HAA.out.2 h0; rw [Hid]; omega
          · have := hat.2.2.2.2 (by omega); rw [Hid]; omega
        have hlow := HLow.out
        obtain ⟨hat1, hat2, hat3, hat4, _⟩ := hat
        clear ho3 hle HLow hk0
        obtain ⟨o, q⟩ := s
        simp only at c0 c1 hat1 hat2 hat3 hat4 ho1 ho2 hNb hlow
        obtain ⟨M, rfl⟩ : ∃ M : Nat, q = (M : Int) := ⟨q.toNat, by omega⟩
        have HPRE2 : Hid (∀ m : Nat, m ≤ M → (plc 0 (l.take k) ++ run (A + o) m).length ≤ (plc 0 (l.take (k + 1))).length ∧ plc 0 (l.take (k + 1)) <+: plc 0 l) := by
          have := HPRE.out
          simp only [Int.toNat_natCast] at this
          exact this
        have HTK2 : Hid (plc 0 (l.take (k + 1)) = plc 0 (l.take k) ++ run (A + o) M ∧ bhd 0 (l.take (k + 1)) = A + o + (M : Int)) := by
          have := HTK.out
          simp only [Int.toNat_natCast] at this
          exact this
        clear HPRE HTK hs
        have HJ2 : Hid (J (prs 0 (plc 0 (l.take k))) (wr.alloc (.cells #[.int .i64 o, .int .i64 (M : Int)] 95))) := HJ.out _ _ _ none HJk.out (World.grownBy_alloc wr _ none) (fun r e => by cases e)
        have HB2 : Hid (Below w0.heap.size w0 (wr.alloc (.cells #[.int .i64 o, .int .i64 (M : Int)] 95))) := HBk.out.alloc HBk.out.size _
        clear HJk HBk
        gi_wp2
        gi_loopw [3, 4, 22] (fun c p i wx => ∃ (m : Nat), m ≤ M ∧ i = .int .i64 (m : Int) ∧ c = .int .i64 (N + (m : Int)) ∧ p = .int .i64 (A + o + (m : Int)) ∧ J (prs 0 (plc 0 (l.take k) ++ run (A + o) m)) wx ∧ Below w0.heap.size w0 wx) (fun _ _ i _ => M - (intOf i).toNat)
        case atStart => exact ⟨0, by omega, rfl, by simp, by simp, by simpa [run] using HJ2.out, HB2.out⟩
        case round =>
          obtain ⟨m, hm, rfl, rfl, rfl, hJm, hBm⟩ := hrel
          have HSN : Hid (prs 0 (plc 0 (l.take k) ++ run (A + o) (m + 1)) = prs 0 (plc 0 (l.take k) ++ run (A + o) m) ++ [(N + (m : Int), A + o + (m : Int))]) := by
            rw [Hid, run_snoc, ← List.append_assoc, prs_snoc]
            have e : ((0 + (plc 0 (l.take k) ++ run (A + o) m).length : Nat) : Int) = N + (m : Int) := by
              rw [HN.out]
              simp only [List.length_append, run_length]
              omega
            rw [e]
          have HBm : Hid (Below w0.heap.size w0 wr) := hBm
          have HJm : Hid (J (prs 0 (plc 0 (l.take k) ++ run (A + o) m)) wr) := hJm
          clear hBm hJm
          by_cases hmlt : m < M
          · have HPX : Hid (prs 0 (plc 0 (l.take k) ++ run (A + o) (m + 1)) <+: tot l) := by
              have h1 := (HPRE2.out M (Nat.le_refl _)).2
              have h2 : plc 0 (l.take k) ++ run (A + o) (m + 1) <+: plc 0 (l.take (k + 1)) := by
                rw [HTK2.out.1]
                have key : ∀ (d i : Nat) (a : Int), run a i <+: run a (i + d) := by
                  intro d i
                  induction i with
                  | zero => intro a; exact List.nil_prefix
                  | succ i ih => intro a; rw [show i + 1 + d = i + d + 1 from by omega]; exact (List.prefix_cons_inj a).2 (ih (a + 1))
                have := key (M - (m + 1)) (m + 1) (A + o)
                rw [show m + 1 + (M - (m + 1)) = M from by omega] at this
                exact List.prefix_append_right_inj _ |>.2 this
              have h3 := h2.trans h1
              rw [Hid, HT.out]
              obtain ⟨t, ht⟩ := h3
              have h4 : plc 0 (l.take k) ++ run (A + o) (m + 1) = (plc 0 l).take (plc 0 (l.take k) ++ run (A + o) (m + 1)).length := by rw [← ht]; exact List.take_left.symm
              rw [h4, prs_take]
              exact List.take_prefix _ _
            have hlen2 : (prs 0 (plc 0 (l.take k) ++ run (A + o) m)).length < (tot l).length := by
              have := HPX.out.length_le
              rw [HSN.out] at this
              simp only [List.length_append, List.length_singleton] at this
              omega
            obtain ⟨fn, tmps, assign, body, hy, hR⟩ := HY.out _ (N + (m : Int), A + o + (m : Int)) wr HJm.out hlen2 (by
              rw [prs_length, HN.out]
              simp only [List.length_append, run_length]
              omega)
            dsimp only at hy
            clear hlen2
            gi_wp2
            refine hR.mono ?_
            rintro e W3 (⟨rfl, hJ3, hk3⟩ | ⟨rfl, hJx3⟩)
            · have HJ3 : Hid (J (prs 0 (plc 0 (l.take k) ++ run (A + o) (m + 1))) W3) := by rw [Hid, HSN.out]; exact hJ3
              have HK3 : Hid (Below w0.heap.size wr W3) := hk3
              clear hJ3 hk3 hR hy
              gi_wp2
              go_roundw
              case rel => exact ⟨m + 1, by omega, by go_num, by rw [show N + ((m + 1 : Nat) : Int) = N + (m : Int) + 1 from by omega], by rw [show A + o + ((m + 1 : Nat) : Int) = A + o + (m : Int) + 1 from by omega], HJ3.out, HBm.out.trans HK3.out⟩
              case measure => simp [intOf]; omega
            · have HJx : Hid (Jx (prs 0 (plc 0 (l.take k) ++ run (A + o) (m + 1))) W3) := by rw [Hid, HSN.out]; exact hJx3
              clear hJx3 hR hy
              gi_wp2
              refine bodyPost_ret (results_none rfl _ _ _) rfl ?_
              exact ⟨⟨_, rfl⟩, .inr ⟨_, HPX.out, HJx.out⟩⟩
          · obtain rfl : m = M := by omega
            clear HSN
            gi_wp2
            go_roundw
            case rel =>
              refine ⟨k + 1, N + (m : Int), A + o + (m : Int), by omega, by go_num, rfl, rfl, ?_, HTK2.out.2.symm, by omega, by omega, by omega, ?_, HBm.out⟩
              · rw [HTK2.out.1, HN.out]; simp only [List.length_append, run_length]; omega
              · rw [HTK2.out.1]; exact HJm.out
            case measure => simp [intOf]; omega
      · have hkl : k = l.length := by omega
        have HJ4 : Hid (J (tot l) wr) := by
          rw [Hid, HT.out]
          have := HJk.out
          rw [List.take_of_length_le (by omega)] at this
          exact this
        clear HJk
        gi_wp2
        go_end0
        exact ⟨⟨_, rfl⟩, .inl ⟨_, rfl, HJ4.out⟩⟩
  · have HT : Hid (tot l = []) := by unfold Hid tot pls; rw [if_neg hk0]; rfl
    gi_wp2
    refine bodyPost_ret (results_none rfl _ _ _) rfl ?_
    exact ⟨⟨_, rfl⟩, .inl ⟨_, rfl, by rw [HT.out]; exact HJ1.out⟩⟩

set_option maxHeartbeats 400000 in
/-- All: the list is boxed; the function value captures the box. -/
theorem all_in (n : Nat) (a : Option Addr) (len cap : Nat) (w : World) :
    CallsIn Fence.wide n Try.prog 86 #[.slice a len cap] w fun e w' => e = .returned (.func (.func 99) #[] #[.pointer (some ⟨w.heap.size, 0, none⟩)]) ∧ w' = w.alloc (.cells #[.slice a len cap] 23) := by
  refine callsIn_of_wp Try.func86 rfl trivial ?_ rfl
  simp only [Try.ntmps86, List.size_toArray, List.length_cons, List.length_nil, Nat.reduceAdd, Nat.reduceSub, Array.replicate_succ, Array.replicate_zero, List.push_toArray, List.append_toArray, List.nil_append, List.cons_append]
  gi_wp2
  go_ret
  exact ⟨rfl, rfl⟩

/-- What All hands back tells all of a list, or a part of it. -/
theorem all_stops (n : Nat) (hn : 1 ≤ n) (Bs : Nat) (v : Value) (l : List Sp) (w0 w : World) (hS : SSrc w0 v l) (hB : Below w0.heap.size w0 w) (hBs : Bs < w.heap.size) (hc : w.cell? ⟨Bs, 0, none⟩ = some v) :
    SeqStopsK Fence.wide n Try.prog 99 #[.pointer (some ⟨Bs, 0, none⟩)] (fun x : Int × Int => #[Value.int .i64 x.1, Value.int .i64 x.2]) (Below w0.heap.size) (fun ys => ys = tot l) (fun pre => pre <+: tot l) (tot l).length w :=
  fun lp J Jx W hW hJ hJx hY h0 => all1_in n hn lp Bs v l w0 hS J Jx (fun pre x W h1 h2 _ => hY pre x W h1 h2) W hJ (hB.trans (hW.mono hB.size)) ((hW.cell (p := ⟨Bs, 0, none⟩) hBs).trans hc) h0

/-- The same, where the body is owed only at pairs whose number is one of the list's. -/
def NPair (N : Nat) : Type := { x : Int × Int // ∃ k : Nat, k < N ∧ x.1 = (k : Int) }
theorem all_stopsB (n : Nat) (hn : 1 ≤ n) (Bs : Nat) (v : Value) (l : List Sp) (w0 w : World) (hS : SSrc w0 v l) (hB : Below w0.heap.size w0 w) (hBs : Bs < w.heap.size) (hc : w.cell? ⟨Bs, 0, none⟩ = some v) :
    SeqStopsK Fence.wide n Try.prog 99 #[.pointer (some ⟨Bs, 0, none⟩)] (fun x : NPair (tot l).length => #[Value.int .i64 x.1.1, Value.int .i64 x.1.2]) (Below w0.heap.size) (fun ys => ys.map (fun x => x.1) = tot l) (fun pre => pre.map (fun x => x.1) <+: tot l) (tot l).length w := by
  intro lp J Jx W hW hJ hJx hY h0
  refine (all1_in n hn lp Bs v l w0 hS (fun pre W => ∃ ps : List (NPair (tot l).length), ps.map (fun x => x.1) = pre ∧ J ps W) (fun pre W => ∃ ps : List (NPair (tot l).length), ps.map (fun x => x.1) = pre ∧ Jx ps W) ?_ W ?_ (hB.trans (hW.mono hB.size)) ((hW.cell (p := ⟨Bs, 0, none⟩) hBs).trans hc) ⟨[], rfl, h0⟩).mono ?_
  · rintro pre x W1 ⟨ps, rfl, hj⟩ hlen hx
    rw [List.length_map] at hlen hx
    obtain ⟨fn, tmps, assign, body, hy, hR⟩ := hY ps ⟨x, ps.length, hlen, hx⟩ W1 hj hlen
    refine ⟨fn, tmps, assign, body, hy, hR.mono ?_⟩
    rintro e W3 (⟨rfl, h1, h2⟩ | ⟨rfl, h1⟩)
    · exact .inl ⟨rfl, ⟨_, List.map_append, h1⟩, h2⟩
    · exact .inr ⟨rfl, ⟨_, List.map_append, h1⟩⟩
  · rintro s A B row ⟨ps, rfl, hj⟩ hg hr
    exact ⟨ps, rfl, hJ ps A B row hj hg hr⟩
  · rintro e W3 ⟨h1, (⟨ys, rfl, ps, h2, h3⟩ | ⟨pre, h2, ps, rfl, h3⟩)⟩
    · exact ⟨h1, .inl ⟨ps, h2, h3⟩⟩
    · exact ⟨h1, .inr ⟨ps, h2, h3⟩⟩
end Go.Proofs.Ytoaibabkkphlaaa
