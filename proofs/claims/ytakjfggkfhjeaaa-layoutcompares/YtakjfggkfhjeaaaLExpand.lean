/-
  Package layout: Expand.
-/
import Derived.Test.YtakjfggkfhjeaaaLRight
namespace Go.Proofs.Ytakjfggkfhjeaaa
open Go.RowKit Mem Spans
set_option linter.unusedSimpArgs false
set_option linter.unusedVariables false
set_option maxRecDepth 100000

/-- What an append to a row of type e leaves: all blocks of other types. -/
def Oth (e : TypeId) (w w' : World) : Prop := ∀ (G : Nat) (cs : Array Value) (t : TypeId) (f : Nat × Nat), w.heap[G]? = some (Obj.cells cs t f) → t ≠ e → w'.heap[G]? = some (Obj.cells cs t f)
theorem Oth.refl (e : TypeId) (w : World) : Oth e w w := fun _ _ _ _ h _ => h
theorem Oth.trans {e : TypeId} {a b c : World} (h : Oth e a b) (k : Oth e b c) : Oth e a c := fun G cs t f hg ht => k G cs t f (h G cs t f hg ht) ht
theorem Oth.of {e : TypeId} {size : Nat} {B n : Nat} {w w' : World} {v : Value} {xs : List Value} (h : w.ownsRow B e size v n xs) (g : w.grownBy w' v.ownBlock) : Oth e w w' := by
  intro G cs t f hg ht
  rw [g.block G (lt_of_heap hg) ?_, hg]
  intro hb
  rcases h.2 with ⟨rfl, _⟩ | ⟨g', cap, cur, rfl, _, hh, _⟩
  · simp [Value.ownBlock] at hb
  · simp [Value.ownBlock] at hb
    subst hb
    rw [hg] at hh
    simp at hh
    exact ht hh.2.1
theorem Oth.alloc {e : TypeId} {a b : World} (h : Oth e a b) (o : Obj) : Oth e a (b.alloc o) := fun G cs t f hg ht => by
  have := h G cs t f hg ht
  rw [Below.heap_alloc _ _ _ (lt_of_heap this), this]

theorem run_append_isrc {e t : TypeId} {i0 : TypeInfo} (ht : Try.prog.underlying t = some (.slice e)) (hi : NInfo e i0)
    {B : Nat} {w : World} {v u : Value} {xs ys : List Int} (hB : B ≤ w.heap.size) (h : NOwn e B w v xs) (h2 : ISrc w u ys) (hl : xs.length + ys.length ≤ 1000000000) (ty : TypeId) :
    ∃ v' w', (Builtin.append_ #[t, t] ty #[v, u]).run Try.prog w = .ok v' w' ∧ NOwn e B w' v' (xs ++ ys) ∧ Below B w w' ∧ Oth e w w' := by
  obtain ⟨ao, c, rfl, hc1, hc2, h64, b, off, ha, hc⟩ := h2
  cases ao with
  | none =>
    have h0 : ys = [] := by
      by_cases hy : 0 < ys.length
      · have := ha hy; cases this
      · exact List.eq_nil_of_length_eq_zero (by omega)
    subst h0
    refine ⟨v, w, ?_, by simpa using h, Below.refl _ _, Oth.refl _ _⟩
    rcases h.owns.2 with ⟨rfl, _⟩ | ⟨g, cap, cur, rfl, _, _, hnc, _⟩
    · simp [Builtin.append_, run_underlying ht, sizeOf, typeInfo, hi.1, Builtin.lenOf, Builtin.firstCells]
    · simp [Builtin.append_, run_underlying ht, sizeOf, typeInfo, hi.1, Builtin.lenOf, Builtin.firstCells, hnc, storeCells]
  | some ad =>
    have hnew : ∀ (j : Nat) (x : Value), (inCells ys)[j]? = some x → w.cell? (ad.add j) = some x := by
      intro j x hj
      have hjl : j < (inCells ys).length := (List.getElem?_eq_some_iff.1 hj).1
      rw [inCells_length] at hjl
      have := ha (by omega)
      simp only [Option.some.injEq] at this
      subst this
      have e : (⟨b, off, none⟩ : Addr).add j = ⟨b, off + j, none⟩ := by unfold Addr.add; split <;> simp_all
      rw [e]
      obtain ⟨s, hs⟩ := at_lt hjl
      rw [hc j s hs, ← hj, inCells, List.getElem?_map, hs]
      rfl
    obtain ⟨v', w', e1, e2, e3, e4⟩ := run_append_own w B t ty e i0 _ 1 8 ht hi.1 hi.2.1 hi.2.2.1 hi.2.2.2 rfl (by decide) v xs.length (inCells xs) h.owns ad ys.length c (inCells ys) (by rw [inCells_length]; omega)
      hnew
      (fun x hx => by
        obtain ⟨z, _, rfl⟩ := List.mem_map.1 hx
        rfl) (by unfold maxLen; omega) (by omega) hB
    refine ⟨v', w', e1, NOwn.of_owns ?_ ?_, (Below.refl B w).grown e3 hB h.block, Oth.of h.owns e3⟩
    · have e5 : inCells (xs ++ ys) = inCells xs ++ inCells ys := by simp [inCells]
      rw [e5, List.length_append]; exact e2
    · rw [e4]
      constructor
      · rintro ⟨h1, h0⟩
        have hx : xs = [] := by
          rcases h with ⟨h, _⟩ | ⟨g, _, h3, hr⟩
          · exact h
          · obtain ⟨cc, hv⟩ := hr.val
            rw [hv] at h1
            simp at h1
        have hy : ys = [] := List.eq_nil_of_length_eq_zero (by omega)
        rw [hx, hy]; rfl
      · intro h0
        have hx := (List.append_eq_nil_iff.1 h0).1
        have hy := (List.append_eq_nil_iff.1 h0).2
        subst hx
        exact ⟨h.nil, by rw [hy]; rfl⟩

section
variable (w : World)
theorem wpList_append_isrc {ops : Array Oper} {rest : List Oper} {o : Oper} {a : Act} {Q : Exit → Act → World → Prop} (hgd : o.guard = none) (sx x : Operand) (t : TypeId)
    (ho : o.op = .call { callee := .builtin .append, args := #[sx, x], argTypes := #[t, t] })
    {e : TypeId} {i0 : TypeInfo} (ht : Try.prog.underlying t = some (.slice e)) (hi : NInfo e i0)
    {B : Nat} {v u : Value} {xs ys : List Int} (hB : B ≤ w.heap.size) (hs : a.eval sx = v) (hx : a.eval x = u) (h1 : NOwn e B w v xs) (h2 : ISrc w u ys) (hl : xs.length + ys.length ≤ 1000000000)
    (h : ∀ v' w', NOwn e B w' v' (xs ++ ys) → Below B w w' → Oth e w w' → wpList Try.prog ops Q rest (a.put o.dst v') w') : wpList Try.prog ops Q (o :: rest) a w := by
  refine wpList_plain hgd fun _ hK => ?_
  obtain ⟨v', w', hr, h3, h4, h5⟩ := run_append_isrc ht hi hB h1 h2 hl o.type
  unfold Oper.wp execOp
  simp only [ho, resolve, invoke, builtin, Sem.run_bind, Sem.run_pure, Result.andThen_ok, List.map_toArray, List.map_cons, List.map_nil, hs, hx, hr]
  exact hK _ _ (h v' w' h3 h4 h5)
end

/-- A part of a slice that came in. -/
theorem ISrc.sub {w : World} {ao : Option Addr} {cap t A : Nat} {vs : List Int} (h : ISrc w (.slice ao vs.length cap) vs) (ht : t ≤ A) (hA : A ≤ vs.length) :
    ISrc w (.slice (if cap = t then ao else Option.map (fun x => x.add t) ao) (A - t) (cap - t)) ((vs.take A).drop t) := by
  obtain ⟨_, _, hv, hcap, hmax, h64, b, off, ha, hc⟩ := h
  simp only [Value.slice.injEq] at hv
  obtain ⟨rfl, _, rfl⟩ := hv
  have hlen : ((vs.take A).drop t).length = A - t := by rw [List.length_drop, List.length_take]; omega
  refine ⟨_, _, by rw [hlen], by omega, by omega, fun x hx => h64 x (List.mem_of_mem_take (List.mem_of_mem_drop hx)), b, off + t, fun h0 => ?_, fun j x hj => ?_⟩
  · rw [if_neg (by omega), ha (by omega)]
    simp only [Option.map_some, Option.some.injEq]
    unfold Addr.add; split <;> simp_all
  · have hjl := (List.getElem?_eq_some_iff.1 hj).1
    rw [hlen] at hjl
    rw [List.getElem?_drop, List.getElem?_take, if_pos (by omega)] at hj
    rw [Nat.add_assoc]
    exact hc (t + j) x hj

/-- Expand's error and values. -/
def exe (vs : List Int) (l : List Sp) : Int := if rgtB (-1) 4096 vs.length l = true then 0 else 11
def exv (z : Int) (vs : List Int) (l : List Sp) : List Int := if rgtB (-1) 4096 vs.length l = true then exf z vs 0 l else []

set_option maxHeartbeats 2000000 in
theorem expand_any (v u : Value) (vs : List Int) (l : List Sp) (z : Int) (w : World) (h : ISrc w v vs) (h2 : SSrc w u l) (hl : vs.length ≤ 900000) (hz : in64 z) :
    Calls Try.prog 15 #[v, u, .int .i64 z] w fun e w' => ∃ r, e = .returned (.tuple #[r, .int .i64 (exe vs l)]) ∧ NOwn 2 w.heap.size w' r (exv z vs l) ∧ Fr [] w w' := by
  have HV : Hid (ISrc w v vs) := h
  have HL : Hid (SSrc w u l) := h2
  obtain ⟨ao, cap, rfl, hcap, hmax, h64, b, off, ha, hc⟩ := h
  obtain ⟨ao2, cap2, rfl, hcap2, hmax2, h642, b2, off2, ha2, hc2⟩ := h2
  have HC : Hid (∀ j x, vs[j]? = some x → w.cell? ⟨b, off + j, none⟩ = some (.int .i64 x)) := hc
  have HA : Hid (0 < vs.length → ao = some ⟨b, off, none⟩) := ha
  have HC2 : Hid (∀ j s, l[j]? = some s → w.cell? ⟨b2, off2 + j * 2, none⟩ = some (.int .i64 s.1) ∧ w.cell? ⟨b2, off2 + j * 2 + 1, none⟩ = some (.int .i64 s.2)) := hc2
  have HA2 : Hid (0 < l.length → ao2 = some ⟨b2, off2, none⟩) := ha2
  have H64 : Hid (∀ s ∈ vs, in64 s) := h64
  have hml : l.length ≤ 9223372036854775807 := by unfold maxLen at hmax2; omega
  obtain ⟨i0, hi⟩ := info_int64
  have HI : Hid (NInfo 2 i0) := hi
  clear hc ha h64 hc2 ha2 h642 hi
  go_enter Try.func15, Try.ntmps15
  go_wp2_with fail
  refine (right_any _ l vs.length w HL.out (by omega)).mono ?_
  rintro e w1 ⟨rfl, hf1⟩
  have HF1 : Hid (Fr [] w w1) := hf1
  clear hf1
  by_cases hr : rgtB (-1) 4096 vs.length l = true
  · rw [hr]
    have HR : Hid (exe vs l = 0 ∧ exv z vs l = exf z vs 0 l) := by unfold Hid exe exv; rw [if_pos hr, if_pos hr]; exact ⟨rfl, rfl⟩
    have hasc := (rgtB_iff (by omega)).1 hr
    have HASC : Hid (asc (-1) vs.length l) := hasc.1
    have HSM : Hid (smN l ≤ 4096) := hasc.2
    clear hr hasc
    go_wp2
    go_loopw [8, 9, 19] (fun u c i wr => ∃ (k t : Nat) (A : Int) (out : List Int), k ≤ l.length ∧ i = .int .i64 (k : Int) ∧ c = .int .i64 (t : Int) ∧ t ≤ vs.length ∧ asc A vs.length (l.drop k) ∧ (t : Int) ≤ A + 1 ∧ -1 ≤ A ∧ exf z vs 0 l = out ++ exf z vs t (l.drop k) ∧ NOwn 2 w.heap.size wr u out ∧ Fr [] w wr) (fun _ _ i _ => l.length - (intOf i).toNat)
    case atStart => exact ⟨0, 0, -1, [], by omega, rfl, rfl, by omega, HASC.out, by omega, by omega, rfl, .inl ⟨rfl, rfl⟩, HF1.out⟩
    case round =>
      obtain ⟨k, t, A0, out, hk, rfl, rfl, ht, hasc, hA0, hA1, hex, hno, hf⟩ := hrel
      have HF : Hid (Fr [] w wr) := hf
      have HN : Hid (NOwn 2 w.heap.size wr u8 out) := hno
      have HX : Hid (exf z vs 0 l = out ++ exf z vs t (l.drop k)) := hex
      have HOL : Hid (out.length ≤ 1000000) := by
        have h1 := exf_length (z := z) (t := 0) HASC.out (by omega) (by omega) (by omega)
        rw [hex, List.length_append] at h1
        have := HSM.out
        rw [Hid]; omega
      by_cases hlt : k < l.length
      · obtain rfl := HA2.out (by omega)
        obtain ⟨s, hs⟩ := at_lt hlt
        have c0 : wr.cell? ⟨b2, off2 + k * 2, none⟩ = some (.int .i64 s.1) := HF.out.cell_some (HC2.out k s hs).1 (by simp)
        have c1 : wr.cell? ⟨b2, off2 + k * 2 + 1, none⟩ = some (.int .i64 s.2) := HF.out.cell_some (HC2.out k s hs).2 (by simp)
        rw [drop_at hs] at hasc hex
        obtain ⟨hs1, hs2, hs3, hs4⟩ := hasc
        obtain ⟨o, q⟩ := s
        simp only at c0 c1 hs1 hs2 hs3 hs4
        obtain ⟨A, rfl⟩ : ∃ A : Nat, o = (A : Int) := ⟨o.toNat, by omega⟩
        obtain ⟨M, rfl⟩ : ∃ M : Nat, q = (M : Int) := ⟨q.toNat, by omega⟩
        have hAt : t ≤ A := by omega
        have hAv : A ≤ vs.length := by omega
        have HX2 : Hid (exf z vs 0 l = (out ++ (vs.take A).drop t) ++ (List.replicate M z ++ exf z vs A (l.drop (k + 1)))) := by
          rw [Hid, hex]; simp [exf]
        have HL2 : Hid (out.length + ((vs.take A).drop t).length ≤ 1000000 ∧ M ≤ 4096) := by
          have h1 := exf_length (z := z) (t := 0) HASC.out (by omega) (by omega) (by omega)
          rw [HX2.out] at h1
          simp only [List.length_append, List.length_replicate] at h1
          have h2 := HSM.out
          have h3 : 0 ≤ smN (l.take k) ∧ 0 ≤ smN (l.drop (k + 1)) := by
            have key : ∀ r : List Sp, (∀ s ∈ r, 1 ≤ s.2) → 0 ≤ smN r := by
              intro r
              induction r with
              | nil => intro _; simp [smN]
              | cons y r ih => intro h; have := ih (fun x hx => h x (by simp [hx])); have := h y (by simp); simp only [smN]; omega
            have key2 : ∀ (r : List Sp) (a : Int), asc a vs.length r → ∀ s ∈ r, 1 ≤ s.2 := by
              intro r
              induction r with
              | nil => intro a _; simp
              | cons y r ih =>
                intro a h s hs
                rcases List.mem_cons.1 hs with rfl | hs
                · exact h.2.2.1
                · exact ih _ h.2.2.2 s hs
            exact ⟨key _ (fun x hx => key2 _ _ HASC.out x (List.mem_of_mem_take hx)), key _ (fun x hx => key2 _ _ HASC.out x (List.mem_of_mem_drop hx))⟩
          have h4 : smN l = smN (l.take k) + ((M : Int) + smN (l.drop (k + 1))) := by
            conv => lhs; rw [← List.take_append_drop k l, smN_append, drop_at hs]
            rfl
          rw [Hid, ← List.length_append]
          simp only [List.length_append]
          omega
        have HS4 : Hid (asc (A : Int) vs.length (l.drop (k + 1))) := hs4
        clear hf hno hex hs hs4
        have HSZ : Hid (w.heap.size ≤ wr.heap.size) := HF.out.size
        go_wp2_with (at_builtin; refine wpList_append_isrc _ rfl _ _ 36 rfl Try.underlying36 HI.out (B := w.heap.size) (ys := (vs.take A).drop t) (by have := HSZ.out; simp; omega) rfl rfl (HN.out.kept ((Fr.refl [] _).alloc _)) ((HV.out.kept (HF.out.alloc _)).sub hAt hAv) (by have := HL2.out; omega) ?_; intro v3 w3 ho3 hb3 hoth3; have HO3 : Hid (NOwn 2 w.heap.size w3 v3 (out ++ (vs.take A).drop t)) := ho3; have HB3 : Hid (Fr [] w w3) := Fr.ofBelow (((HF.out.alloc _).below (Nat.le_refl _) (by simp)).trans hb3); have HIN : Hid (w3.heap[wr.heap.size]? = some (Obj.cells #[.int .i64 (A : Int), .int .i64 (M : Int)] 47 (0, 0))) := hoth3 _ _ _ _ (heap_alloc_new _ _) (by decide); have d1 : w3.cell? ⟨wr.heap.size, 1, none⟩ = some (.int .i64 (M : Int)) := cell_at HIN.out 1; generalize (if cap = t then ao else Option.map (fun x => Addr.add x t) ao) = ao3; clear ho3 hb3 hoth3 c0 c1)
        clear HN HF
        generalize wr.heap.size = G at HIN d1 HSZ ⊢
        go_loopw [8, 32] (fun u i wx => ∃ (m : Nat), m ≤ M ∧ i = .int .i64 (m : Int) ∧ NOwn 2 w.heap.size wx u ((out ++ (vs.take A).drop t) ++ List.replicate m z) ∧ wx.heap[G]? = some (Obj.cells #[.int .i64 (A : Int), .int .i64 (M : Int)] 47 (0, 0)) ∧ Fr [] w wx) (fun _ i _ => M - (intOf i).toNat)
        case atStart => exact ⟨0, by omega, rfl, by simpa using HO3.out, HIN.out, HB3.out⟩
        case round =>
          obtain ⟨m, hm, rfl, hno, hin, hf⟩ := hrel
          have HN5 : Hid (NOwn 2 w.heap.size wr u8 ((out ++ (vs.take A).drop t) ++ List.replicate m z)) := hno
          have HF5 : Hid (Fr [] w wr) := hf
          have HI5 : Hid (wr.heap[G]? = some (Obj.cells #[.int .i64 (A : Int), .int .i64 (M : Int)] 47 (0, 0))) := hin
          clear hno hf hin
          have hM4 : M ≤ 4096 := HL2.out.2
          by_cases hmlt : m < M
          · have HSZ5 : Hid (w.heap.size ≤ wr.heap.size) := HF5.out.size
            have HL5 : Hid (((out ++ (vs.take A).drop t) ++ List.replicate m z).length + 1 ≤ 1000000000) := by have := HL2.out; rw [Hid]; simp only [List.length_append, List.length_replicate] at this ⊢; omega
            have HE5 : Hid (((out ++ (vs.take A).drop t) ++ List.replicate m z) ++ [z] = (out ++ (vs.take A).drop t) ++ List.replicate (m + 1) z) := by rw [Hid, List.replicate_succ', List.append_assoc]
            go_wp2_with (at_builtin; refine wpList_append_isrc _ rfl _ _ 36 rfl Try.underlying36 HI.out (B := w.heap.size) (ys := [z]) (by have := HSZ5.out; simp; omega) rfl rfl (HN5.out.kept ((Fr.refl [] _).alloc _)) ((lit_n 2 wr [z] rfl HSZ5.out (by simp) (by unfold maxLen; simp)).src (by simpa using hz)) HL5.out ?_; intro v6 w6 ho6 hb6 hoth6; have HO6 : Hid (NOwn 2 w.heap.size w6 v6 ((out ++ (vs.take A).drop t) ++ List.replicate (m + 1) z)) := (by rw [Hid, ← HE5.out]; exact ho6); have HB6 : Hid (Fr [] w w6) := Fr.ofBelow (((HF5.out.alloc _).below (Nat.le_refl _) (by simp)).trans hb6); have HIN6 : Hid (w6.heap[G]? = some (Obj.cells #[.int .i64 (A : Int), .int .i64 (M : Int)] 47 (0, 0))) := hoth6 _ _ _ _ (((Fr.refl [] wr).alloc _).heap HI5.out (by simp)) (by decide); clear ho6 hb6 hoth6)
            go_roundw
            case rel => exact ⟨m + 1, by omega, by go_num, HO6.out, HIN6.out, HB6.out⟩
            case measure => simp [intOf]; omega
          · obtain rfl : m = M := by omega
            have d0 : wr.cell? ⟨G, 0, none⟩ = some (.int .i64 (A : Int)) := cell_at HI5.out 0
            go_wp2
            go_roundw
            case rel => exact ⟨k + 1, A, A, _, by omega, by go_num, rfl, hAv, HS4.out, by omega, by omega, by rw [HX2.out, ← List.append_assoc], HN5.out, HF5.out⟩
            case measure => simp [intOf]; omega
      · have HE : Hid (exf z vs 0 l = out ++ (vs.take vs.length).drop t) := by
          rw [Hid, hex, List.drop_eq_nil_of_le (by omega), List.take_length]; rfl
        have HLL : Hid (out.length + ((vs.take vs.length).drop t).length ≤ 1000000000) := by have := HOL.out; rw [Hid, List.length_drop, List.length_take]; omega
        clear hf hno hex hasc
        go_wp2_with (at_builtin; refine wpList_append_isrc _ rfl _ _ 36 rfl Try.underlying36 HI.out (B := w.heap.size) (ys := (vs.take vs.length).drop t) HF.out.size rfl rfl HN.out ((HV.out.kept HF.out).sub ht (Nat.le_refl _)) HLL.out ?_; intro v3 w3 ho3 hb3 hoth3; have HO3 : Hid (NOwn 2 w.heap.size w3 v3 (out ++ (vs.take vs.length).drop t)) := ho3; have HB3 : Hid (Fr [] w w3) := Fr.ofBelow ((HF.out.below (Nat.le_refl _) (by simp)).trans hb3); generalize (if cap = t then ao else Option.map (fun x => Addr.add x t) ao) = ao3; clear ho3 hb3 hoth3)
        go_ret2
        exact ⟨_, by rw [HR.out.1]; rfl, by rw [HR.out.2, HE.out]; exact HO3.out, HB3.out⟩
  · have hr' : rgtB (-1) 4096 vs.length l = false := by simpa using hr
    have HR : Hid (exe vs l = 11 ∧ exv z vs l = []) := by unfold Hid exe exv; rw [if_neg hr, if_neg hr]; exact ⟨rfl, rfl⟩
    clear hr
    go_wp2
    go_ret2
    exact ⟨_, by rw [HR.out.1]; rfl, .inl ⟨HR.out.2, rfl⟩, HF1.out⟩
end Go.Proofs.Ytakjfggkfhjeaaa
