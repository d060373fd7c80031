/-
  Package hist: Over (and the library's Clone of spans).
-/
import Derived.Test.YtoaibabkkphlaaaHSpread
import Derived.Lib.SliceRun
namespace Go.Proofs.Ytoaibabkkphlaaa
open Go.RowKit Mem Spans
set_option linter.unusedSimpArgs false
set_option linter.unusedVariables false
set_option maxRecDepth 100000

theorem ssrc_cells {w : World} {ad : Addr} {c : Nat} {ys : List Sp} (h : SSrc w (.slice (some ad) ys.length c) ys) : ∀ (j : Nat) (x : Value), (spCells ys)[j]? = some x → w.cell? (ad.add j) = some x := by
  obtain ⟨ao, cc, hv, hc1, hc2, h64, b, off, ha, hc⟩ := h
  simp only [Value.slice.injEq] at hv
  obtain ⟨rfl, _, rfl⟩ := hv
  intro j x hj
  have hjl : j < (spCells ys).length := (List.getElem?_eq_some_iff.1 hj).1
  rw [spCells_length] at hjl
  have hlen : 0 < ys.length := by omega
  have := ha hlen
  simp only [Option.some.injEq] at this
  subst this
  have e : (⟨b, off, none⟩ : Addr).add j = ⟨b, off + j, none⟩ := by unfold Addr.add; split <;> simp_all
  rw [e]
  obtain ⟨s, hs⟩ := at_lt (l := ys) (k := j / 2) (by omega)
  have h1 := spCells_at ys (j / 2) s hs
  have h2 := hc (j / 2) s hs
  by_cases hp : j % 2 = 0
  · have ej : j / 2 * 2 = j := by omega
    rw [ej] at h1 h2
    rw [h2.1, ← h1.1, hj]
  · have ej : j / 2 * 2 + 1 = j := by omega
    rw [Nat.add_assoc, ej] at h2
    rw [ej] at h1
    rw [h2.2, ← h1.2, hj]
theorem ssrc_of_owns {w : World} {B : Nat} {e : TypeId} {v : Value} {l : List Sp} (h : w.ownsRow B e 2 v l.length (spCells l)) (hz : ∀ s ∈ l, in64 s.1 ∧ in64 s.2) : ∃ ao cap, v = .slice ao l.length cap ∧ SSrc w v l := by
  rcases h.2 with ⟨rfl, h0⟩ | ⟨g, cap, cur, rfl, _, hg, hn, hm, hs, ht⟩
  · have := List.eq_nil_of_length_eq_zero h0
    subst this
    exact ⟨none, 0, rfl, SSrc.nil w⟩
  · refine ⟨_, _, rfl, _, cap, rfl, hn, hm, hz, g, 0, fun _ => rfl, fun j x hj => ?_⟩
    have hjl := (List.getElem?_eq_some_iff.1 hj).1
    have hq := spCells_at l j x hj
    have hcur : ∀ i, i < l.length * 2 → w.cell? ⟨g, i, none⟩ = (spCells l)[i]? := by
      intro i hi
      rw [cell_at hg, ← ht, List.getElem?_take, if_pos hi, Array.getElem?_toList]
    rw [show 0 + j * 2 = j * 2 from by omega, hcur _ (by omega), hcur _ (by omega)]
    exact hq
section
variable (w : World)
theorem wpList_append_lit {ops : Array Oper} {rest : List Oper} {o : Oper} {a : Act} {Q : Exit → Act → World → Prop} (hgd : o.guard = none) (sx x : Operand) (t : TypeId)
    (ho : o.op = .call { callee := .builtin .append, args := #[sx, x], argTypes := #[t, t] })
    {e : TypeId} {i0 : TypeInfo} (ht : Try.prog.underlying t = some (.slice e)) (hi : SInfo e i0)
    {B c : Nat} {v : Value} {ad : Addr} {ys : List Sp} (hB : B ≤ w.heap.size) (hs : a.eval sx = v) (hx : a.eval x = .slice (some ad) ys.length c) (h1 : w.ownsRow B e 2 v 0 []) (h2 : SSrc w (.slice (some ad) ys.length c) ys) (hl : ys.length ≤ 1000000)
    (h : ∀ v' w', w'.ownsRow B e 2 v' ys.length (spCells ys) → w.grownBy w' v.ownBlock → wpList Try.prog ops Q rest (a.put o.dst v') w') : wpList Try.prog ops Q (o :: rest) a w := by
  refine wpList_plain hgd fun _ hK => ?_
  obtain ⟨v', w', hr, h3, h4, _⟩ := run_append_own w B t o.type e i0 _ 2 16 ht hi.1 hi.2.1 hi.2.2.1 hi.2.2.2 rfl (by decide) v 0 [] h1 ad ys.length c (spCells ys) (by rw [spCells_length]) (ssrc_cells h2)
    (fun x hx => by
      obtain ⟨s, _, hs⟩ := List.mem_flatMap.1 hx
      simp at hs
      rcases hs with rfl | rfl <;> rfl) (by unfold maxLen; omega) (by omega) hB
  unfold Oper.wp execOp
  simp only [ho, resolve, invoke, builtin, Sem.run_bind, Sem.run_pure, Result.andThen_ok, List.map_toArray, List.map_cons, List.map_nil, hs, hx, hr]
  exact hK _ _ (h v' w' (by simpa using h3) h4)
end

theorem ownsRow_keptS {w w' : World} {B n size : Nat} {e : TypeId} {v : Value} {xs : List Value} {S : List Nat} (h : w.ownsRow B e size v n xs) (f : Fr S w w') (hs : ∀ y ∈ S, y < B) : w'.ownsRow B e size v n xs := by
  refine ⟨h.1, ?_⟩
  rcases h.2 with h | ⟨g, cap, cur, h1, h2, h3, h4⟩
  · exact .inl h
  · exact .inr ⟨g, cap, cur, h1, h2, f.heap h3 (fun hg => by have := hs g hg; omega), h4⟩
theorem ownsRow_mono {w : World} {B C n size : Nat} {e : TypeId} {v : Value} {xs : List Value} (h : w.ownsRow B e size v n xs) (hc : C ≤ B) : w.ownsRow C e size v n xs := by
  refine ⟨h.1, ?_⟩
  rcases h.2 with h | ⟨g, cap, cur, h1, h2, h3⟩
  · exact .inl h
  · exact .inr ⟨g, cap, cur, h1, by omega, h3⟩
set_option maxHeartbeats 1000000 in
theorem clone_any (v : Value) (l : List Sp) (w : World) (h : SSrc w v l) (hl : l.length ≤ 1000000) :
    Calls Try.prog 63 #[v] w fun e w' => ∃ ao cap, e = .returned (.slice ao l.length cap) ∧ w'.ownsRow w.heap.size 95 2 (.slice ao l.length cap) l.length (spCells l) ∧ Fr [] w w' := by
  have HS : Hid (SSrc w v l) := h
  obtain ⟨ao, cap, rfl, hcap, hmax, _⟩ := h
  have q23 : ∀ (w : World) (a : Option Addr) (n c : Nat), (binOp .eql 23 (.slice a n c) (.slice none 0 0)).run Try.prog w = .ok (.bool a.isNone) w := fun w a n c => Lib.run_eql_slice_nil w _ _ _ _ _ _ _ Try.underlying23
  obtain ⟨i0, hi⟩ := info_span
  have HI : Hid (SInfo 95 i0) := hi
  clear hi
  go_enter Try.func63, Try.ntmps63
  cases ao with
  | none =>
    have h0 : l = [] := by
      obtain ⟨_, _, hv, _, _, _, b, off, ha, _⟩ := HS.out
      simp only [Value.slice.injEq] at hv
      obtain ⟨rfl, _, rfl⟩ := hv
      by_cases hy : 0 < l.length
      · have := ha hy; cases this
      · exact List.eq_nil_of_length_eq_zero (by omega)
    subst h0
    go_wp2
    go_ret
    exact ⟨_, _, rfl, World.ownsRow_nil _ _ _ _, Fr.refl _ _⟩
  | some ad =>
    have HM : Hid (World.ownsRow (w.alloc (.cells #[] 95)) w.heap.size 95 2 (.slice (some ⟨w.heap.size, 0, none⟩) 0 0) 0 []) := World.ownsRow_made w #[] 0 (Nat.le_refl _) (by unfold maxLen; omega) (by simp)
    have HIN : Hid (∀ s ∈ l, in64 s.1 ∧ in64 s.2) := by obtain ⟨_, _, _, _, _, h64, _⟩ := HS.out; exact h64
    go_wp2_with (at_builtin; refine wpList_append_lit _ rfl _ _ 23 rfl Try.underlying23 HI.out (B := w.heap.size) (v := .slice (some ⟨w.heap.size, 0, none⟩) 0 0) (ys := l) (by simp) rfl rfl HM.out (HS.out.kept ((Fr.refl [] w).alloc _)) hl ?_; intro v' w3 hown hgr; obtain ⟨ao3, cap3, rfl, hs3⟩ := ssrc_of_owns hown HIN.out; have HS3 : Hid (w3.ownsRow w.heap.size 95 2 _ l.length (spCells l)) := hown; have HF3 : Hid (Fr [] w w3) := ((Fr.refl [] w).alloc _).grown hgr (fun k hk => .inr (by simp [Value.ownBlock] at hk; omega)); clear hown hgr hs3)
    go_ret
    exact ⟨_, _, rfl, HS3.out, HF3.out⟩

/-- Has a side all places? Over's error; what it tells. -/
def spb (o : List Sp) (l : List Sp) : Bool := decide ((sps o (pls l)).1 = o.length)
def ove (h : Hs) (p n : List Sp) : Int :=
  if che h = 0 then (if chk p = 0 then (if chk n = 0 then (if spb (sdp h) p = true then (if spb (sdn h) n = true then 0 else 23) else 23) else chk n) else chk p) else che h
def ovs (h : Hs) (p n : List Sp) : Hs := ⟨h.s, h.z, h.zc, h.c, h.sm, p, n, dlv (sps (sdp h) (pls p)).2, dlv (sps (sdn h) (pls n)).2⟩
def ovh (h : Hs) (p n : List Sp) : Hs := if ove h p n = 0 then ovs h p n else hzero
theorem hzero_src (w : World) : HSrc w (.agg #[.int .i64 0, .int .u64 0, .int .u64 0, .int .u64 0, .int .u64 0, .slice none 0 0, .slice none 0 0, .slice none 0 0, .slice none 0 0]) hzero := (hzero_own 0 w).src (by unfold hin hzero; simp)
/-- A histogram that lies apart from all blocks below B. -/
def HKeep (B : Nat) (w : World) (v : Value) (h : Hs) : Prop := ∀ (S : List Nat) (w' : World), Fr S w w' → (∀ y ∈ S, y < B) → HSrc w' v h
theorem HKeep.src {B : Nat} {w : World} {v : Value} {h : Hs} (k : HKeep B w v h) : HSrc w v h := k [] w (Fr.refl _ _) (by simp)
theorem hzero_keep (B : Nat) (w : World) : HKeep B w (.agg #[.int .i64 0, .int .u64 0, .int .u64 0, .int .u64 0, .int .u64 0, .slice none 0 0, .slice none 0 0, .slice none 0 0, .slice none 0 0]) hzero := fun _ w' _ _ => hzero_src w'
theorem chk_len {l : List Sp} (h : chk l = 0) : l.length ≤ 1000000 := by have := (chk_zero.1 h).1; omega

end Go.Proofs.Ytoaibabkkphlaaa
