/-
  Package hist: Over (and the library's Clone of spans).
-/
import Derived.Test.YtjkiiccdcjcfbaaHSpread
import Derived.Lib.SliceRun
namespace Go.Proofs.Ytjkiiccdcjcfbaa
open Go.RowKit Mem Spans
set_option linter.unusedSimpArgs false
set_option linter.unusedVariables false
set_option maxRecDepth 100000

theorem ssrc_cells {w : World} {ad : Addr} {c : Nat} {ys : List Sp} (h : SSrc w (.slice (some ad) ys.length c) ys) : ∀ (j : Nat) (x : Value), (spCells ys)[j]? = some x → w.cell? (ad.add j) = some x := by
  obtain ⟨ao, cc, hv, hc1, hc2, h64, b, off, ha, hc⟩ := h
  simp only [Value.slice.injEq] at hv
  obtain ⟨rfl, _, rfl⟩ := hv
  intro j x hj
  have hjl : j < (spCells ys).length := (List.getElem?_eq_some_iff.1 hj).1
  rw [spCells_length] at hjl
  have hlen : 0 < ys.length := by omega
  have := ha hlen
  simp only [Option.some.injEq] at this
  subst this
  have e : (⟨b, off, none⟩ : Addr).add j = ⟨b, off + j, none⟩ := by unfold Addr.add; split <;> simp_all
  rw [e]
  obtain ⟨s, hs⟩ := at_lt (l := ys) (k := j / 2) (by omega)
  have h1 := spCells_at ys (j / 2) s hs
  have h2 := hc (j / 2) s hs
  by_cases hp : j % 2 = 0
  · have ej : j / 2 * 2 = j := by omega
    rw [ej] at h1 h2
    rw [h2.1, ← h1.1, hj]
  · have ej : j / 2 * 2 + 1 = j := by omega
    rw [Nat.add_assoc, ej] at h2
    rw [ej] at h1
    rw [h2.2, ← h1.2, hj]
theorem ssrc_of_owns {w : World} {B : Nat} {e : TypeId} {v : Value} {l : List Sp} (h : w.ownsRow B e 2 v l.length (spCells l)) (hz : ∀ s ∈ l, in64 s.1 ∧ in64 s.2) : ∃ ao cap, v = .slice ao l.length cap ∧ SSrc w v l := by
  rcases h.2 with ⟨rfl, h0⟩ | ⟨g, cap, cur, rfl, _, hg, hn, hm, hs, ht⟩
  · have := List.eq_nil_of_length_eq_zero h0
    subst this
    exact ⟨none, 0, rfl, SSrc.nil w⟩
  · refine ⟨_, _, rfl, _, cap, rfl, hn, hm, hz, g, 0, fun _ => rfl, fun j x hj => ?_⟩
    have hjl := (List.getElem?_eq_some_iff.1 hj).1
    have hq := spCells_at l j x hj
    have hcur : ∀ i, i < l.length * 2 → w.cell? ⟨g, i, none⟩ = (spCells l)[i]? := by
      intro i hi
      rw [cell_at hg, ← ht, List.getElem?_take, if_pos hi, Array.getElem?_toList]
    rw [show 0 + j * 2 = j * 2 from by omega, hcur _ (by omega), hcur _ (by omega)]
    exact hq
section
variable (w : World)
theorem wpList_append_lit {ops : Array Oper} {rest : List Oper} {o : Oper} {a : Act} {Q : Exit → Act → World → Prop} (hgd : o.guard = none) (sx x : Operand) (t : TypeId)
    (ho : o.op = .call { callee := .builtin .append, args := #[sx, x], argTypes := #[t, t] })
    {e : TypeId} {i0 : TypeInfo} (ht : Try.prog.underlying t = some (.slice e)) (hi : SInfo e i0)
    {B c : Nat} {v : Value} {ad : Addr} {ys : List Sp} (hB : B ≤ w.heap.size) (hs : a.eval sx = v) (hx : a.eval x = .slice (some ad) ys.length c) (h1 : w.ownsRow B e 2 v 0 []) (h2 : SSrc w (.slice (some ad) ys.length c) ys) (hl : ys.length ≤ 1000000)
    (h : ∀ v' w', w'.ownsRow B e 2 v' ys.length (spCells ys) → w.grownBy w' v.ownBlock → wpList Try.prog ops Q rest (a.put o.dst v') w') : wpList Try.prog ops Q (o :: rest) a w := by
  refine wpList_plain hgd fun _ hK => ?_
  obtain ⟨v', w', hr, h3, h4, _⟩ := run_append_own w B t o.type e i0 _ 2 16 ht hi.1 hi.2.1 hi.2.2.1 hi.2.2.2 rfl (by decide) v 0 [] h1 ad ys.length c (spCells ys) (by rw [spCells_length]) (ssrc_cells h2)
    (fun x hx => by
      obtain ⟨s, _, hs⟩ := List.mem_flatMap.1 hx
      simp at hs
      rcases hs with rfl | rfl <;> rfl) (by unfold maxLen; omega) (by omega) hB
  unfold Oper.wp execOp
  simp only [ho, resolve, invoke, builtin, Sem.run_bind, Sem.run_pure, Result.andThen_ok, List.map_toArray, List.map_cons, List.map_nil, hs, hx, hr]
  exact hK _ _ (h v' w' (by simpa using h3) h4)
end

theorem ownsRow_keptS {w w' : World} {B n size : Nat} {e : TypeId} {v : Value} {xs : List Value} {S : List Nat} (h : w.ownsRow B e size v n xs) (f : Fr S w w') (hs : ∀ y ∈ S, y < B) : w'.ownsRow B e size v n xs := by
  refine ⟨h.1, ?_⟩
  rcases h.2 with h | ⟨g, cap, cur, h1, h2, h3, h4⟩
  · exact .inl h
  · exact .inr ⟨g, cap, cur, h1, h2, f.heap h3 (fun hg => by have := hs g hg; omega), h4⟩
theorem ownsRow_mono {w : World} {B C n size : Nat} {e : TypeId} {v : Value} {xs : List Value} (h : w.ownsRow B e size v n xs) (hc : C ≤ B) : w.ownsRow C e size v n xs := by
  refine ⟨h.1, ?_⟩
  rcases h.2 with h | ⟨g, cap, cur, h1, h2, h3⟩
  · exact .inl h
  · exact .inr ⟨g, cap, cur, h1, by omega, h3⟩
set_option maxHeartbeats 1000000 in
theorem clone_any (v : Value) (l : List Sp) (w : World) (h : SSrc w v l) (hl : l.length ≤ 1000000) :
    Calls Try.prog 54 #[v] w fun e w' => ∃ ao cap, e = .returned (.slice ao l.length cap) ∧ w'.ownsRow w.heap.size 79 2 (.slice ao l.length cap) l.length (spCells l) ∧ Fr [] w w' := by
  have HS : Hid (SSrc w v l) := h
  obtain ⟨ao, cap, rfl, hcap, hmax, _⟩ := h
  have q23 : ∀ (w : World) (a : Option Addr) (n c : Nat), (binOp .eql 23 (.slice a n c) (.slice none 0 0)).run Try.prog w = .ok (.bool a.isNone) w := fun w a n c => Lib.run_eql_slice_nil w _ _ _ _ _ _ _ Try.underlying23
  obtain ⟨i0, hi⟩ := info_span
  have HI : Hid (SInfo 79 i0) := hi
  clear hi
  go_enter Try.func54, Try.ntmps54
  cases ao with
  | none =>
    have h0 : l = [] := by
      obtain ⟨_, _, hv, _, _, _, b, off, ha, _⟩ := HS.out
      simp only [Value.slice.injEq] at hv
      obtain ⟨rfl, _, rfl⟩ := hv
      by_cases hy : 0 < l.length
      · have := ha hy; cases this
      · exact List.eq_nil_of_length_eq_zero (by omega)
    subst h0
    go_wp2
    go_ret
    exact ⟨_, _, rfl, World.ownsRow_nil _ _ _ _, Fr.refl _ _⟩
  | some ad =>
    have HM : Hid (World.ownsRow (w.alloc (.cells #[] 79)) w.heap.size 79 2 (.slice (some ⟨w.heap.size, 0, none⟩) 0 0) 0 []) := World.ownsRow_made w #[] 0 (Nat.le_refl _) (by unfold maxLen; omega) (by simp)
    have HIN : Hid (∀ s ∈ l, in64 s.1 ∧ in64 s.2) := by obtain ⟨_, _, _, _, _, h64, _⟩ := HS.out; exact h64
    go_wp2_with (at_builtin; refine wpList_append_lit _ rfl _ _ 23 rfl Try.underlying23 HI.out (B := w.heap.size) (v := .slice (some ⟨w.heap.size, 0, none⟩) 0 0) (ys := l) (by simp) rfl rfl HM.out (HS.out.kept ((Fr.refl [] w).alloc _)) hl ?_; intro v' w3 hown hgr; obtain ⟨ao3, cap3, rfl, hs3⟩ := ssrc_of_owns hown HIN.out; have HS3 : Hid (w3.ownsRow w.heap.size 79 2 _ l.length (spCells l)) := hown; have HF3 : Hid (Fr [] w w3) := ((Fr.refl [] w).alloc _).grown hgr (fun k hk => .inr (by simp [Value.ownBlock] at hk; omega)); clear hown hgr hs3)
    go_ret
    exact ⟨_, _, rfl, HS3.out, HF3.out⟩

/-- Has a side all places? Over's error; what it tells. -/
def spb (o : List Sp) (l : List Sp) : Bool := decide ((sps o (pls l)).1 = o.length)
def ove (h : Hs) (p n : List Sp) : Int :=
  if che h = 0 then (if chk p = 0 then (if chk n = 0 then (if spb (sdp h) p = true then (if spb (sdn h) n = true then 0 else 23) else 23) else chk n) else chk p) else che h
def ovs (h : Hs) (p n : List Sp) : Hs := ⟨h.s, h.z, h.zc, h.c, h.sm, p, n, dlv (sps (sdp h) (pls p)).2, dlv (sps (sdn h) (pls n)).2⟩
def ovh (h : Hs) (p n : List Sp) : Hs := if ove h p n = 0 then ovs h p n else hzero
theorem hzero_src (w : World) : HSrc w (.agg #[.int .i64 0, .int .u64 0, .int .u64 0, .int .u64 0, .int .u64 0, .slice none 0 0, .slice none 0 0, .slice none 0 0, .slice none 0 0]) hzero := (hzero_own 0 w).src (by unfold hin hzero; simp)
/-- A histogram that lies apart from all blocks below B. -/
def HKeep (B : Nat) (w : World) (v : Value) (h : Hs) : Prop := ∀ (S : List Nat) (w' : World), Fr S w w' → (∀ y ∈ S, y < B) → HSrc w' v h
theorem HKeep.src {B : Nat} {w : World} {v : Value} {h : Hs} (k : HKeep B w v h) : HSrc w v h := k [] w (Fr.refl _ _) (by simp)
theorem hzero_keep (B : Nat) (w : World) : HKeep B w (.agg #[.int .i64 0, .int .u64 0, .int .u64 0, .int .u64 0, .int .u64 0, .slice none 0 0, .slice none 0 0, .slice none 0 0, .slice none 0 0]) hzero := fun _ w' _ _ => hzero_src w'
theorem chk_len {l : List Sp} (h : chk l = 0) : l.length ≤ 1000000 := by have := (chk_zero.1 h).1; omega

set_option maxHeartbeats 8000000 in
theorem over_any (v vp vn : Value) (h : Hs) (p n : List Sp) (w : World) (hh : HSrc w v h) (hp : SSrc w vp p) (hn : SSrc w vn n) :
    Calls Try.prog 36 #[v, vp, vn] w fun e w' => ∃ u, e = .returned (.tuple #[u, .int .i64 (ove h p n)]) ∧ HKeep w.heap.size w' u (ovh h p n) ∧ Fr [] w w' := by
  have HP : Hid (SSrc w vp p) := hp
  have HN : Hid (SSrc w vn n) := hn
  have HH : Hid (∀ wx, Fr [] w wx → HSrc wx v h) := fun wx hx => hh.kept hx
  obtain ⟨po, pc, no, nc, qo, qc, ro, rc, rfl, hin, _⟩ := hh.opens
  have HIN : Hid (in64 h.s ∧ inu h.z ∧ inu h.zc ∧ inu h.c ∧ inu h.sm) := hin
  clear hh hin
  obtain ⟨ao, ac, rfl, _⟩ := hp
  obtain ⟨bo, bc, rfl, _⟩ := hn
  go_enter Try.func36, Try.ntmps36
  obtain ⟨cs, hcs⟩ : ∃ cs : Array Value, cs = #[.int .i64 h.s, .int .u64 h.z, .int .u64 h.zc, .int .u64 h.c, .int .u64 h.sm, .slice po h.P.length pc, .slice no h.N.length nc, .slice qo h.pd.length qc, .slice ro h.nd.length rc] := ⟨_, rfl⟩
  have HA : Hid (∀ z, Nine ((w.alloc (.cells cs 26)).alloc (.cells z 26)) w.heap.size cs ∧ Nine ((w.alloc (.cells cs 26)).alloc (.cells z 26)) (w.heap.size + 1) z ∧ Fr [] w ((w.alloc (.cells cs 26)).alloc (.cells z 26))) := fun z => ⟨nine_mid _ _ _, nine_top _ _ _, ((Fr.refl [] w).alloc _).alloc _⟩
  subst hcs
  go_wp2_with fail
  obtain ⟨hA3, hA6, hAF⟩ := HA.out #[.int .i64 0, .int .u64 0, .int .u64 0, .int .u64 0, .int .u64 0, .slice none 0 0, .slice none 0 0, .slice none 0 0, .slice none 0 0]
  clear HA
  generalize (w.alloc (.cells _ _)).alloc (.cells _ _) = wA at hA3 hA6 hAF ⊢
  have HSZ : Hid (w.heap.size + 1 < wA.heap.size) := hA6.lt
  refine (sides_any _ h wA (HH.out _ hAF)).mono ?_
  rintro e w1 ⟨x, y, rfl, hx, hy, hf1⟩
  have HX : Hid (SSrc w1 x (sdp h)) := hx.src (sdp_in h)
  have HY : Hid (SSrc w1 y (sdn h)) := hy.src (sdn_in h)
  have HF1 : Hid (Fr [] w w1) := hAF.trans hf1 (by simp)
  have HS1 : Hid (wA.heap.size ≤ w1.heap.size) := hf1.size
  have H3 : Hid (Nine w1 w.heap.size _) := hA3.kept hf1 (by simp)
  have H6 : Hid (Nine w1 (w.heap.size + 1) _) := hA6.kept hf1 (by simp)
  clear hx hy hf1 hA3 hA6 hAF
  by_cases h0 : che h = 0
  case neg =>
    have HE : Hid (ove h p n = che h ∧ ovh h p n = hzero) := by
      have e : ove h p n = che h := by unfold ove; rw [if_neg h0]
      unfold Hid ovh; rw [if_neg (by rw [e]; exact h0)]; exact ⟨e, rfl⟩
    have d0 := H6.out.cell 0 rfl
    have d1 := H6.out.cell 1 rfl
    have d2 := H6.out.cell 2 rfl
    have d3 := H6.out.cell 3 rfl
    have d4 := H6.out.cell 4 rfl
    have d5 := H6.out.cell 5 rfl
    have d6 := H6.out.cell 6 rfl
    have d7 := H6.out.cell 7 rfl
    have d8 := H6.out.cell 8 rfl
    have f0 := H6.out.frozen 0
    have f1 := H6.out.frozen 1
    have f2 := H6.out.frozen 2
    have f3 := H6.out.frozen 3
    have f4 := H6.out.frozen 4
    have f5 := H6.out.frozen 5
    have f6 := H6.out.frozen 6
    have f7 := H6.out.frozen 7
    have f8 := H6.out.frozen 8
    go_wp2
    refine bodyPost_ret (hist_res rfl _ _ (w.heap.size + 1) _ _ _ _ _ _ _ _ _ rfl (set9_nine H6.out (.int .i64 0) (.int .u64 0) (.int .u64 0) (.int .u64 0) (.int .u64 0) (.slice none 0 0) (.slice none 0 0) (.slice none 0 0) (.slice none 0 0))) rfl ?_
    exact ⟨_, by rw [HE.out.1]; rfl, by rw [HE.out.2]; exact hzero_keep _ _, set9_fr HF1.out (.inr (by simp)) (.int .i64 0) (.int .u64 0) (.int .u64 0) (.int .u64 0) (.int .u64 0) (.slice none 0 0) (.slice none 0 0) (.slice none 0 0) (.slice none 0 0)⟩
  have HC : Hid (che h = 0) := h0
  rw [h0]
  clear h0
  go_wp2_with fail
  refine (check_any _ p _ (HP.out.kept HF1.out)).mono ?_
  rintro e w2 ⟨rfl, hf2⟩
  have HF2 : Hid (Fr [] w w2) := HF1.out.trans hf2 (by simp)
  have HX2 : Hid (SSrc w2 x (sdp h)) := HX.out.kept hf2
  have HY2 : Hid (SSrc w2 y (sdn h)) := HY.out.kept hf2
  have HS2 : Hid (wA.heap.size ≤ w2.heap.size) := Nat.le_trans HS1.out hf2.size
  have H3b : Hid (Nine w2 w.heap.size _) := H3.out.kept hf2 (by simp)
  have H6b : Hid (Nine w2 (w.heap.size + 1) _) := H6.out.kept hf2 (by simp)
  clear hf2 HX HY H3 H6 HF1 HS1
  by_cases h1 : chk p = 0
  case neg =>
    have HE : Hid (ove h p n = chk p ∧ ovh h p n = hzero) := by
      have e : ove h p n = chk p := by unfold ove; rw [if_pos HC.out, if_neg h1]
      unfold Hid ovh; rw [if_neg (by rw [e]; exact h1)]; exact ⟨e, rfl⟩
    have d0 := H6b.out.cell 0 rfl
    have d1 := H6b.out.cell 1 rfl
    have d2 := H6b.out.cell 2 rfl
    have d3 := H6b.out.cell 3 rfl
    have d4 := H6b.out.cell 4 rfl
    have d5 := H6b.out.cell 5 rfl
    have d6 := H6b.out.cell 6 rfl
    have d7 := H6b.out.cell 7 rfl
    have d8 := H6b.out.cell 8 rfl
    have f0 := H6b.out.frozen 0
    have f1 := H6b.out.frozen 1
    have f2 := H6b.out.frozen 2
    have f3 := H6b.out.frozen 3
    have f4 := H6b.out.frozen 4
    have f5 := H6b.out.frozen 5
    have f6 := H6b.out.frozen 6
    have f7 := H6b.out.frozen 7
    have f8 := H6b.out.frozen 8
    go_wp2
    refine bodyPost_ret (hist_res rfl _ _ (w.heap.size + 1) _ _ _ _ _ _ _ _ _ rfl (set9_nine H6b.out (.int .i64 0) (.int .u64 0) (.int .u64 0) (.int .u64 0) (.int .u64 0) (.slice none 0 0) (.slice none 0 0) (.slice none 0 0) (.slice none 0 0))) rfl ?_
    exact ⟨_, by rw [HE.out.1]; rfl, by rw [HE.out.2]; exact hzero_keep _ _, set9_fr HF2.out (.inr (by simp)) (.int .i64 0) (.int .u64 0) (.int .u64 0) (.int .u64 0) (.int .u64 0) (.slice none 0 0) (.slice none 0 0) (.slice none 0 0) (.slice none 0 0)⟩
  have HK1 : Hid (chk p = 0) := h1
  rw [h1]
  clear h1
  go_wp2_with fail
  refine (check_any _ n _ (HN.out.kept HF2.out)).mono ?_
  rintro e w3 ⟨rfl, hf3⟩
  have HF3 : Hid (Fr [] w w3) := HF2.out.trans hf3 (by simp)
  have HX3 : Hid (SSrc w3 x (sdp h)) := HX2.out.kept hf3
  have HY3 : Hid (SSrc w3 y (sdn h)) := HY2.out.kept hf3
  have HS3 : Hid (wA.heap.size ≤ w3.heap.size) := Nat.le_trans HS2.out hf3.size
  have H3c : Hid (Nine w3 w.heap.size _) := H3b.out.kept hf3 (by simp)
  have H6c : Hid (Nine w3 (w.heap.size + 1) _) := H6b.out.kept hf3 (by simp)
  clear hf3 HX2 HY2 H3b H6b HF2 HS2
  by_cases h2 : chk n = 0
  case neg =>
    have HE : Hid (ove h p n = chk n ∧ ovh h p n = hzero) := by
      have e : ove h p n = chk n := by unfold ove; rw [if_pos HC.out, if_pos HK1.out, if_neg h2]
      unfold Hid ovh; rw [if_neg (by rw [e]; exact h2)]; exact ⟨e, rfl⟩
    have d0 := H6c.out.cell 0 rfl
    have d1 := H6c.out.cell 1 rfl
    have d2 := H6c.out.cell 2 rfl
    have d3 := H6c.out.cell 3 rfl
    have d4 := H6c.out.cell 4 rfl
    have d5 := H6c.out.cell 5 rfl
    have d6 := H6c.out.cell 6 rfl
    have d7 := H6c.out.cell 7 rfl
    have d8 := H6c.out.cell 8 rfl
    have f0 := H6c.out.frozen 0
    have f1 := H6c.out.frozen 1
    have f2 := H6c.out.frozen 2
    have f3 := H6c.out.frozen 3
    have f4 := H6c.out.frozen 4
    have f5 := H6c.out.frozen 5
    have f6 := H6c.out.frozen 6
    have f7 := H6c.out.frozen 7
    have f8 := H6c.out.frozen 8
    go_wp2
    refine bodyPost_ret (hist_res rfl _ _ (w.heap.size + 1) _ _ _ _ _ _ _ _ _ rfl (set9_nine H6c.out (.int .i64 0) (.int .u64 0) (.int .u64 0) (.int .u64 0) (.int .u64 0) (.slice none 0 0) (.slice none 0 0) (.slice none 0 0) (.slice none 0 0))) rfl ?_
    exact ⟨_, by rw [HE.out.1]; rfl, by rw [HE.out.2]; exact hzero_keep _ _, set9_fr HF3.out (.inr (by simp)) (.int .i64 0) (.int .u64 0) (.int .u64 0) (.int .u64 0) (.int .u64 0) (.slice none 0 0) (.slice none 0 0) (.slice none 0 0) (.slice none 0 0)⟩
  have HK2 : Hid (chk n = 0) := h2
  rw [h2]
  clear h2
  go_wp2_with fail
  refine (spread_any x _ (sdp h) p _ HX3.out (HP.out.kept HF3.out) (by have := sdp_le h; omega)).mono ?_
  rintro e w4 ⟨q, rfl, hq, hf4⟩
  have HF4 : Hid (Fr [] w w4) := HF3.out.trans hf4 (by simp)
  have HQ4 : Hid (NOwn 2 wA.heap.size w4 q (dlv (sps (sdp h) (pls p)).2)) := hq.mono HS3.out
  have HY4 : Hid (SSrc w4 y (sdn h)) := HY3.out.kept hf4
  have HS4 : Hid (wA.heap.size ≤ w4.heap.size) := Nat.le_trans HS3.out hf4.size
  have H3d : Hid (Nine w4 w.heap.size _) := H3c.out.kept hf4 (by simp)
  have H6d : Hid (Nine w4 (w.heap.size + 1) _) := H6c.out.kept hf4 (by simp)
  clear hf4 hq HX3 HY3 H3c H6c HF3 HS3
  have HB1 : Hid (decide ((sps (sdp h) (pls p)).1 = (sdp h).length) = spb (sdp h) p) := rfl
  rw [HB1.out]
  go_wp2_with fail
  refine (spread_any y _ (sdn h) n _ HY4.out (HN.out.kept HF4.out) (by have := sdn_le h; omega)).mono ?_
  rintro e w5 ⟨r, rfl, hr, hf5⟩
  have HF5 : Hid (Fr [] w w5) := HF4.out.trans hf5 (by simp)
  have HQ5 : Hid (NOwn 2 wA.heap.size w5 q (dlv (sps (sdp h) (pls p)).2)) := HQ4.out.kept hf5
  have HR5 : Hid (NOwn 2 wA.heap.size w5 r (dlv (sps (sdn h) (pls n)).2)) := hr.mono HS4.out
  have HS5 : Hid (wA.heap.size ≤ w5.heap.size) := Nat.le_trans HS4.out hf5.size
  have H3e : Hid (Nine w5 w.heap.size _) := H3d.out.kept hf5 (by simp)
  have H6e : Hid (Nine w5 (w.heap.size + 1) _) := H6d.out.kept hf5 (by simp)
  clear hf5 hr HQ4 HY4 H3d H6d HF4 HS4
  have HB2 : Hid (decide ((sps (sdn h) (pls n)).1 = (sdn h).length) = spb (sdn h) n) := rfl
  rw [HB2.out]
  clear HB1 HB2
  obtain ⟨qa, qcc, rfl⟩ := HQ5.out.val
  obtain ⟨ra, rcc, rfl⟩ := HR5.out.val
  by_cases hb1 : spb (sdp h) p = true
  case neg =>
    have hb1' : spb (sdp h) p = false := by simpa using hb1
    have HE : Hid (ove h p n = 23 ∧ ovh h p n = hzero) := by
      have e : ove h p n = 23 := by unfold ove; rw [if_pos HC.out, if_pos HK1.out, if_pos HK2.out, if_neg hb1]
      unfold Hid ovh; rw [if_neg (by rw [e]; decide)]; exact ⟨e, rfl⟩
    rw [hb1']
    clear hb1 hb1'
    have d0 := H6e.out.cell 0 rfl
    have d1 := H6e.out.cell 1 rfl
    have d2 := H6e.out.cell 2 rfl
    have d3 := H6e.out.cell 3 rfl
    have d4 := H6e.out.cell 4 rfl
    have d5 := H6e.out.cell 5 rfl
    have d6 := H6e.out.cell 6 rfl
    have d7 := H6e.out.cell 7 rfl
    have d8 := H6e.out.cell 8 rfl
    have f0 := H6e.out.frozen 0
    have f1 := H6e.out.frozen 1
    have f2 := H6e.out.frozen 2
    have f3 := H6e.out.frozen 3
    have f4 := H6e.out.frozen 4
    have f5 := H6e.out.frozen 5
    have f6 := H6e.out.frozen 6
    have f7 := H6e.out.frozen 7
    have f8 := H6e.out.frozen 8
    go_wp2
    refine bodyPost_ret (hist_res rfl _ _ (w.heap.size + 1) _ _ _ _ _ _ _ _ _ rfl (set9_nine H6e.out (.int .i64 0) (.int .u64 0) (.int .u64 0) (.int .u64 0) (.int .u64 0) (.slice none 0 0) (.slice none 0 0) (.slice none 0 0) (.slice none 0 0))) rfl ?_
    exact ⟨_, by rw [HE.out.1]; rfl, by rw [HE.out.2]; exact hzero_keep _ _, set9_fr HF5.out (.inr (by simp)) (.int .i64 0) (.int .u64 0) (.int .u64 0) (.int .u64 0) (.int .u64 0) (.slice none 0 0) (.slice none 0 0) (.slice none 0 0) (.slice none 0 0)⟩
  have HB1 : Hid (spb (sdp h) p = true) := hb1
  rw [hb1]
  clear hb1
  by_cases hb2 : spb (sdn h) n = true
  case neg =>
    have hb2' : spb (sdn h) n = false := by simpa using hb2
    have HE : Hid (ove h p n = 23 ∧ ovh h p n = hzero) := by
      have e : ove h p n = 23 := by unfold ove; rw [if_pos HC.out, if_pos HK1.out, if_pos HK2.out, if_pos HB1.out, if_neg hb2]
      unfold Hid ovh; rw [if_neg (by rw [e]; decide)]; exact ⟨e, rfl⟩
    rw [hb2']
    clear hb2 hb2'
    have d0 := H6e.out.cell 0 rfl
    have d1 := H6e.out.cell 1 rfl
    have d2 := H6e.out.cell 2 rfl
    have d3 := H6e.out.cell 3 rfl
    have d4 := H6e.out.cell 4 rfl
    have d5 := H6e.out.cell 5 rfl
    have d6 := H6e.out.cell 6 rfl
    have d7 := H6e.out.cell 7 rfl
    have d8 := H6e.out.cell 8 rfl
    have f0 := H6e.out.frozen 0
    have f1 := H6e.out.frozen 1
    have f2 := H6e.out.frozen 2
    have f3 := H6e.out.frozen 3
    have f4 := H6e.out.frozen 4
    have f5 := H6e.out.frozen 5
    have f6 := H6e.out.frozen 6
    have f7 := H6e.out.frozen 7
    have f8 := H6e.out.frozen 8
    go_wp2
    refine bodyPost_ret (hist_res rfl _ _ (w.heap.size + 1) _ _ _ _ _ _ _ _ _ rfl (set9_nine H6e.out (.int .i64 0) (.int .u64 0) (.int .u64 0) (.int .u64 0) (.int .u64 0) (.slice none 0 0) (.slice none 0 0) (.slice none 0 0) (.slice none 0 0))) rfl ?_
    exact ⟨_, by rw [HE.out.1]; rfl, by rw [HE.out.2]; exact hzero_keep _ _, set9_fr HF5.out (.inr (by simp)) (.int .i64 0) (.int .u64 0) (.int .u64 0) (.int .u64 0) (.int .u64 0) (.slice none 0 0) (.slice none 0 0) (.slice none 0 0) (.slice none 0 0)⟩
  have HE : Hid (ove h p n = 0 ∧ ovh h p n = ovs h p n) := by
    have e : ove h p n = 0 := by unfold ove; rw [if_pos HC.out, if_pos HK1.out, if_pos HK2.out, if_pos HB1.out, if_pos hb2]
    unfold Hid ovh; rw [if_pos e]; exact ⟨e, rfl⟩
  rw [hb2]
  clear hb2
  go_wp2_with fail
  refine (clone_any _ p w5 (HP.out.kept HF5.out) (chk_len HK1.out)).mono ?_
  rintro e w6 ⟨ka, kc, rfl, hk, hf6⟩
  have HKP : Hid (w6.ownsRow wA.heap.size 79 2 (.slice ka p.length kc) p.length (spCells p)) := ownsRow_mono hk HS5.out
  have HF6 : Hid (Fr [] w w6) := HF5.out.trans hf6 (by simp)
  have HQ6 : Hid (NOwn 2 wA.heap.size w6 _ (dlv (sps (sdp h) (pls p)).2)) := HQ5.out.kept hf6
  have HR6 : Hid (NOwn 2 wA.heap.size w6 _ (dlv (sps (sdn h) (pls n)).2)) := HR5.out.kept hf6
  have HS6 : Hid (wA.heap.size ≤ w6.heap.size) := Nat.le_trans HS5.out hf6.size
  have h3 := H3e.out.kept hf6 (by simp)
  have h6 := H6e.out.kept hf6 (by simp)
  clear hk hf6 HQ5 HR5 H3e H6e HF5 HS5
  have c5 := h3.cell 5 rfl
  have c7 := h3.cell 7 rfl
  have f5 := h3.frozen 5
  have f7 := h3.frozen 7
  have H3 : Hid (Nine ((w6.setCell ⟨w.heap.size, 5, none⟩ (.slice ka p.length kc)).setCell ⟨w.heap.size, 7, none⟩ (.slice qa (dlv (sps (sdp h) (pls p)).2).length qcc)) w.heap.size _) := h3.set57 (.slice ka p.length kc) (.slice qa (dlv (sps (sdp h) (pls p)).2).length qcc)
  have H6 : Hid (Nine ((w6.setCell ⟨w.heap.size, 5, none⟩ (.slice ka p.length kc)).setCell ⟨w.heap.size, 7, none⟩ (.slice qa (dlv (sps (sdp h) (pls p)).2).length qcc)) (w.heap.size + 1) _) := (h6.other (i := 5) (v := (.slice ka p.length kc)) (by omega)).other (i := 7) (v := (.slice qa (dlv (sps (sdp h) (pls p)).2).length qcc)) (by omega)
  have HFS : Hid (Fr [w.heap.size] w6 ((w6.setCell ⟨w.heap.size, 5, none⟩ (.slice ka p.length kc)).setCell ⟨w.heap.size, 7, none⟩ (.slice qa (dlv (sps (sdp h) (pls p)).2).length qcc))) := ((Fr.refl _ _).setCell _ _ (.inl (by simp))).setCell _ _ (.inl (by simp))
  clear h3 h6
  go_upto_region 15 with fail
  clear c5 c7 f5 f7
  generalize (w6.setCell ⟨w.heap.size, 5, none⟩ (.slice ka p.length kc)).setCell ⟨w.heap.size, 7, none⟩ (.slice qa (dlv (sps (sdp h) (pls p)).2).length qcc) = wB at H3 H6 HFS ⊢
  have hb : ∀ y ∈ [w.heap.size], y < wA.heap.size := by have := HSZ.out; simp; omega
  have HKB : Hid (wB.ownsRow wA.heap.size 79 2 (.slice ka p.length kc) p.length (spCells p)) := ownsRow_keptS HKP.out HFS.out hb
  have HQB : Hid (NOwn 2 wA.heap.size wB _ (dlv (sps (sdp h) (pls p)).2)) := HQ6.out.keptS HFS.out hb
  have HRB : Hid (NOwn 2 wA.heap.size wB _ (dlv (sps (sdn h) (pls n)).2)) := HR6.out.keptS HFS.out hb
  have HFB : Hid (Fr [] w wB) := HF6.out.trans HFS.out (by simp)
  have HSB : Hid (wA.heap.size ≤ wB.heap.size) := Nat.le_trans HS6.out HFS.out.size
  clear HKP HQ6 HR6 HF6 HFS HS6 hb
  go_wp2_with fail
  refine (clone_any _ n wB (HN.out.kept HFB.out) (chk_len HK2.out)).mono ?_
  rintro e w7 ⟨ka2, kc2, rfl, hk, hf7⟩
  have HKN : Hid (w7.ownsRow wA.heap.size 79 2 (.slice ka2 n.length kc2) n.length (spCells n)) := ownsRow_mono hk HSB.out
  have HKP : Hid (w7.ownsRow wA.heap.size 79 2 (.slice ka p.length kc) p.length (spCells p)) := ownsRow_keptS HKB.out hf7 (by simp)
  have HF7 : Hid (Fr [] w w7) := HFB.out.trans hf7 (by simp)
  have HQ7 : Hid (NOwn 2 wA.heap.size w7 _ (dlv (sps (sdp h) (pls p)).2)) := HQB.out.kept hf7
  have HR7 : Hid (NOwn 2 wA.heap.size w7 _ (dlv (sps (sdn h) (pls n)).2)) := HRB.out.kept hf7
  have h3 := H3.out.kept hf7 (by simp)
  have h6 := H6.out.kept hf7 (by simp)
  clear hk hf7 HQB HRB HKB H3 H6 HFB HSB
  have c6 := h3.cell 6 rfl
  have c8 := h3.cell 8 rfl
  have f6 := h3.frozen 6
  have f8 := h3.frozen 8
  have H3 : Hid (Nine ((w7.setCell ⟨w.heap.size, 6, none⟩ (.slice ka2 n.length kc2)).setCell ⟨w.heap.size, 8, none⟩ (.slice ra (dlv (sps (sdn h) (pls n)).2).length rcc)) w.heap.size _) := h3.set68 (.slice ka2 n.length kc2) (.slice ra (dlv (sps (sdn h) (pls n)).2).length rcc)
  have H6 : Hid (Nine ((w7.setCell ⟨w.heap.size, 6, none⟩ (.slice ka2 n.length kc2)).setCell ⟨w.heap.size, 8, none⟩ (.slice ra (dlv (sps (sdn h) (pls n)).2).length rcc)) (w.heap.size + 1) _) := (h6.other (i := 6) (v := (.slice ka2 n.length kc2)) (by omega)).other (i := 8) (v := (.slice ra (dlv (sps (sdn h) (pls n)).2).length rcc)) (by omega)
  have HFS : Hid (Fr [w.heap.size] w7 ((w7.setCell ⟨w.heap.size, 6, none⟩ (.slice ka2 n.length kc2)).setCell ⟨w.heap.size, 8, none⟩ (.slice ra (dlv (sps (sdn h) (pls n)).2).length rcc))) := ((Fr.refl _ _).setCell _ _ (.inl (by simp))).setCell _ _ (.inl (by simp))
  clear h3 h6
  go_upto_region 16 with fail
  clear c6 c8 f6 f8
  generalize (w7.setCell ⟨w.heap.size, 6, none⟩ (.slice ka2 n.length kc2)).setCell ⟨w.heap.size, 8, none⟩ (.slice ra (dlv (sps (sdn h) (pls n)).2).length rcc) = wC at H3 H6 HFS ⊢
  have c0 := H3.out.cell 0 rfl
  have c1 := H3.out.cell 1 rfl
  have c2 := H3.out.cell 2 rfl
  have c3 := H3.out.cell 3 rfl
  have c4 := H3.out.cell 4 rfl
  have c5 := H3.out.cell 5 rfl
  have c6 := H3.out.cell 6 rfl
  have c7 := H3.out.cell 7 rfl
  have c8 := H3.out.cell 8 rfl
  have d0 := H6.out.cell 0 rfl
  have d1 := H6.out.cell 1 rfl
  have d2 := H6.out.cell 2 rfl
  have d3 := H6.out.cell 3 rfl
  have d4 := H6.out.cell 4 rfl
  have d5 := H6.out.cell 5 rfl
  have d6 := H6.out.cell 6 rfl
  have d7 := H6.out.cell 7 rfl
  have d8 := H6.out.cell 8 rfl
  have f0 := H6.out.frozen 0
  have f1 := H6.out.frozen 1
  have f2 := H6.out.frozen 2
  have f3 := H6.out.frozen 3
  have f4 := H6.out.frozen 4
  have f5 := H6.out.frozen 5
  have f6 := H6.out.frozen 6
  have f7 := H6.out.frozen 7
  have f8 := H6.out.frozen 8
  go_wp2
  have hs9 := set9_fr (S := [w.heap.size, w.heap.size + 1]) (g := w.heap.size + 1) (HFS.out.mono (S' := [w.heap.size, w.heap.size + 1]) (by simp)) (.inl (by simp)) (.int .i64 h.s) (.int .u64 h.z) (.int .u64 h.zc) (.int .u64 h.c) (.int .u64 h.sm) (.slice ka p.length kc) (.slice ka2 n.length kc2) (.slice qa (dlv (sps (sdp h) (pls p)).2).length qcc) (.slice ra (dlv (sps (sdn h) (pls n)).2).length rcc)
  have hb : ∀ y ∈ [w.heap.size, w.heap.size + 1], y < wA.heap.size := by have := HSZ.out; simp; omega
  have k1 := ownsRow_keptS HKP.out hs9 hb
  have k2 := ownsRow_keptS HKN.out hs9 hb
  have k3 := HQ7.out.keptS hs9 hb
  have k4 := HR7.out.keptS hs9 hb
  have hp64 : ∀ s ∈ p, in64 s.1 ∧ in64 s.2 := by obtain ⟨_, _, _, _, _, h64, _⟩ := HP.out; exact h64
  have hn64 : ∀ s ∈ n, in64 s.1 ∧ in64 s.2 := by obtain ⟨_, _, _, _, _, h64, _⟩ := HN.out; exact h64
  refine bodyPost_ret (hist_res rfl _ _ (w.heap.size + 1) _ _ _ _ _ _ _ _ _ rfl (set9_nine H6.out _ _ _ _ _ _ _ _ _)) rfl ?_
  refine ⟨_, by rw [HE.out.1]; rfl, ?_, set9_fr ((HF7.out.trans HFS.out (by simp)) : Fr [] w wC) (.inr (by simp)) _ _ _ _ _ _ _ _ _⟩
  rw [HE.out.2]
  intro S w2 hS hbS
  have hb3 : ∀ y ∈ S, y < wA.heap.size := fun y hy => by have := hbS y hy; have := HSZ.out; omega
  obtain ⟨_, _, _, k5⟩ := ssrc_of_owns (ownsRow_keptS k1 hS hb3) hp64
  obtain ⟨_, _, _, k6⟩ := ssrc_of_owns (ownsRow_keptS k2 hS hb3) hn64
  exact ⟨_, _, _, _, rfl, HIN.out.1, HIN.out.2, k5, k6, (k3.keptS hS hb3).src (dlv_in _), (k4.keptS hS hb3).src (dlv_in _)⟩
end Go.Proofs.Ytjkiiccdcjcfbaa
