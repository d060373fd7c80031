/-
  Rows of numbers of whatever type, of the call's own; Find, Without.
-/
import Derived.Test.YtlcnjiibapehbaaPMem
namespace Go.Proofs.Ytlcnjiibapehbaa
open Go.RowKit Mem Spans
set_option linter.unusedSimpArgs false
set_option linter.unusedVariables false
set_option maxRecDepth 100000

/-- A slice of numbers (of whatever such type) that the call made itself. -/
def NOwn (e : TypeId) (B : Nat) (w : World) (v : Value) (zs : List Int) : Prop :=
  (zs = [] ∧ v = .slice none 0 0) ∨ ∃ g, B ≤ g ∧ 0 < zs.length ∧ Row w e 1 v g zs.length (inCells zs)
theorem NOwn.kept {e : TypeId} {B : Nat} {w w' : World} {v : Value} {zs : List Int} (h : NOwn e B w v zs) (f : Fr [] w w') : NOwn e B w' v zs := by
  rcases h with h | ⟨g, h1, h2, h3⟩
  · exact .inl h
  · exact .inr ⟨g, h1, h2, h3.kept f (by simp)⟩
theorem NOwn.mono {e : TypeId} {B C : Nat} {w : World} {v : Value} {zs : List Int} (h : NOwn e B w v zs) (hc : C ≤ B) : NOwn e C w v zs := by
  rcases h with h | ⟨g, h1, h2, h3⟩
  · exact .inl h
  · exact .inr ⟨g, by omega, h2, h3⟩
theorem NOwn.src {e : TypeId} {B : Nat} {w : World} {v : Value} {zs : List Int} (h : NOwn e B w v zs) (hz : ∀ z ∈ zs, in64 z) : ISrc w v zs := by
  rcases h with ⟨rfl, rfl⟩ | ⟨g, h1, h2, h3⟩
  · exact ISrc.nil w
  · have hr := h3
    obtain ⟨_, cap, cur, hv, _, hn, hm, _⟩ := h3
    refine ⟨_, cap, hv, hn, hm, hz, g, 0, fun _ => rfl, fun j x hj => ?_⟩
    have hjl := (List.getElem?_eq_some_iff.1 hj).1
    have := hr.cell j (by omega)
    rw [show 0 + j = j from by omega, this, inCells, List.getElem?_map, hj]
    rfl
theorem NOwn.owns {e : TypeId} {B : Nat} {w : World} {v : Value} {zs : List Int} (h : NOwn e B w v zs) : w.ownsRow B e 1 v zs.length (inCells zs) := by
  rcases h with ⟨rfl, rfl⟩ | ⟨g, h1, h2, h3, cap, cur, hv, r⟩
  · exact World.ownsRow_nil _ _ _ _
  · exact ⟨h3, .inr ⟨g, cap, cur, hv, h1, r⟩⟩
theorem NOwn.block {e : TypeId} {B : Nat} {w : World} {v : Value} {zs : List Int} (h : NOwn e B w v zs) : ∀ k, v.ownBlock = some k → B ≤ k := by
  rcases h with ⟨rfl, rfl⟩ | ⟨g, h1, h2, h3⟩
  · intro k hk; simp [Value.ownBlock] at hk
  · obtain ⟨c, rfl⟩ := h3.val
    intro k hk
    have : g = k := by simpa [Value.ownBlock] using hk
    omega
theorem NOwn.of_owns {e : TypeId} {B : Nat} {w : World} {v : Value} {zs : List Int} (h : w.ownsRow B e 1 v zs.length (inCells zs)) (hn : v = .slice none 0 0 ↔ zs = []) : NOwn e B w v zs := by
  rcases h.2 with ⟨h1, h2⟩ | ⟨g, cap, cur, hv, hg, r⟩
  · exact .inl ⟨hn.1 h1, h1⟩
  · refine .inr ⟨g, hg, ?_, h.1, cap, cur, hv, r⟩
    cases zs with
    | nil => have := hn.2 rfl; rw [hv] at this; simp at this
    | cons x r => simp
theorem NOwn.val {e : TypeId} {B : Nat} {w : World} {v : Value} {zs : List Int} (h : NOwn e B w v zs) : ∃ ao cap, v = .slice ao zs.length cap := by
  rcases h with ⟨rfl, rfl⟩ | ⟨g, _, _, hr⟩
  · exact ⟨none, 0, rfl⟩
  · obtain ⟨c, h⟩ := hr.val; exact ⟨_, c, h⟩
theorem NOwn.nil {e : TypeId} {B : Nat} {w : World} {v : Value} (h : NOwn e B w v []) : v = .slice none 0 0 := by
  rcases h with ⟨_, h⟩ | ⟨g, _, h, _⟩
  · exact h
  · simp at h
theorem SOwn.nil {e : TypeId} {B : Nat} {w : World} {v : Value} (h : SOwn e B w v []) : v = .slice none 0 0 := by
  rcases h with ⟨_, h⟩ | ⟨g, _, h, _⟩
  · exact h
  · simp at h
/-- A slice of numbers, as it is built. -/
theorem lit_n {B g : Nat} (e : TypeId) (w : World) (l : List Int) (hg : w.heap.size = g) (h : B ≤ g) (h0 : 0 < l.length) (hm : l.length ≤ maxLen) : NOwn e B (w.alloc (.cells (inCells l).toArray e)) (.slice (some ⟨g, 0, none⟩) l.length l.length) l := by
  subst hg
  exact .inr ⟨w.heap.size, h, h0, Row.made (heap_alloc_new _ _) hm (by simp [inCells])⟩

theorem run_append_n {e t : TypeId} {i0 : TypeInfo} (ht : Try.prog.underlying t = some (.slice e)) (hi : Try.prog.info? e = some i0) (hz : i0.zero = some (.int .i64 0)) (hs : i0.size = 1) (hb : i0.bytes = 8)
    {B : Nat} {w : World} {v u : Value} {l : List Int} {s : Int} (hB : B ≤ w.heap.size) (h : NOwn e B w v l) (h2 : NOwn e B w u [s]) (hl : l.length ≤ 1000000) (ty : TypeId) :
    ∃ v' w', (Builtin.append_ #[t, t] ty #[v, u]).run Try.prog w = .ok v' w' ∧ NOwn e B w' v' (l ++ [s]) ∧ Below B w w' := by
  rcases h2 with ⟨h0, _⟩ | ⟨g, hg, hy, hrow⟩
  · simp at h0
  · have hr := hrow
    obtain ⟨c, rfl⟩ := hrow.val
    obtain ⟨v', w', e1, e2, e3, e4⟩ := run_append_own w B t ty e i0 _ 1 8 ht hi hz hs hb rfl (by decide) v l.length (inCells l) h.owns ⟨g, 0, none⟩ 1 c (inCells [s]) rfl
      (fun j x hj => by
        have hjl : j < (inCells [s]).length := (List.getElem?_eq_some_iff.1 hj).1
        have e : (⟨g, 0, none⟩ : Addr).add j = ⟨g, j, none⟩ := by unfold Addr.add; split <;> simp_all
        rw [e, hr.cell j (by simpa [inCells] using hjl), hj])
      (fun x hx => by
        simp [inCells] at hx
        subst hx; rfl) (by unfold maxLen; omega) (by omega) hB
    refine ⟨v', w', e1, NOwn.of_owns ?_ ?_, (Below.refl B w).grown e3 hB h.block⟩
    · have : inCells (l ++ [s]) = inCells l ++ inCells [s] := by simp [inCells]
      rw [this, List.length_append]; exact e2
    · rw [e4]
      constructor
      · rintro ⟨_, h0⟩; omega
      · intro h0; simp at h0

section
variable (w : World)
theorem wpList_append_n {ops : Array Oper} {rest : List Oper} {o : Oper} {a : Act} {Q : Exit → Act → World → Prop} (hgd : o.guard = none) (sx x : Operand) (t : TypeId)
    (ho : o.op = .call { callee := .builtin .append, args := #[sx, x], argTypes := #[t, t] })
    {e : TypeId} {i0 : TypeInfo} (ht : Try.prog.underlying t = some (.slice e)) (hi : Try.prog.info? e = some i0) (hz : i0.zero = some (.int .i64 0)) (hsz : i0.size = 1) (hb : i0.bytes = 8)
    {B : Nat} {v u : Value} {l : List Int} {s : Int} (hB : B ≤ w.heap.size) (hs : a.eval sx = v) (hx : a.eval x = u) (h1 : NOwn e B w v l) (h2 : NOwn e B w u [s]) (hl : l.length ≤ 1000000)
    (h : ∀ v' w', NOwn e B w' v' (l ++ [s]) → Below B w w' → wpList Try.prog ops Q rest (a.put o.dst v') w') : wpList Try.prog ops Q (o :: rest) a w := by
  refine wpList_plain hgd fun _ hK => ?_
  obtain ⟨v', w', hr, h3, h4⟩ := run_append_n ht hi hz hsz hb hB h1 h2 hl o.type
  unfold Oper.wp execOp
  simp only [ho, resolve, invoke, builtin, Sem.run_bind, Sem.run_pure, Result.andThen_ok, List.map_toArray, List.map_cons, List.map_nil, hs, hx, hr]
  exact hK _ _ (h v' w' h3 h4)
end

/-- What the kit knows of a type whose values are numbers of one cell; of pairs of two cells. -/
def NInfo (e : TypeId) (i : TypeInfo) : Prop := Try.prog.info? e = some i ∧ i.zero = some (.int .i64 0) ∧ i.size = 1 ∧ i.bytes = 8
def SInfo (e : TypeId) (i : TypeInfo) : Prop := Try.prog.info? e = some i ∧ i.zero = some (.agg #[.int .i64 0, .int .i64 0]) ∧ i.size = 2 ∧ i.bytes = 16
theorem Try.infoI64 : (Try.prog.info? 2).map (fun i => (i.zero, i.size, i.bytes)) = some (some (.int .i64 0), 1, 8) := by kernel_rfl
theorem info_int64 : ∃ i, NInfo 2 i := by
  obtain ⟨i, hi, h⟩ := Option.map_eq_some_iff.1 Try.infoI64
  simp only [Prod.mk.injEq] at h
  exact ⟨i, hi, h.1, h.2.1, h.2.2⟩
theorem ninfo_int : ∃ i, NInfo 3 i := info_int
theorem Try.infoPair : (Try.prog.info? 36).map (fun i => (i.zero, i.size, i.bytes)) = some (some (.agg #[.int .i64 0, .int .i64 0]), 2, 16) := by kernel_rfl
theorem info_pair : ∃ i, SInfo 36 i := by
  obtain ⟨i, hi, h⟩ := Option.map_eq_some_iff.1 Try.infoPair
  simp only [Prod.mk.injEq] at h
  exact ⟨i, hi, h.1, h.2.1, h.2.2⟩

/-- The number of the first pair with a place (their length: there is none). -/
def fdx : List Sp → Int → Nat
  | [], _ => 0
  | s :: r, p => if s.1 = p then 0 else fdx r p + 1
theorem fdx_le (l : List Sp) (p : Int) : fdx l p ≤ l.length := by
  induction l with
  | nil => simp [fdx]
  | cons s r ih => simp only [fdx, List.length_cons]; split <;> omega
theorem fdx_at {l : List Sp} {p : Int} (h : fdx l p < l.length) : ∃ s, l[fdx l p]? = some s ∧ s.1 = p := by
  induction l with
  | nil => simp [fdx] at h
  | cons s r ih =>
    simp only [fdx] at h ⊢
    split
    · exact ⟨s, by simp, by assumption⟩
    · rename_i hn
      rw [if_neg hn] at h
      obtain ⟨t, h1, h2⟩ := ih (by simpa using h)
      exact ⟨t, by simpa using h1, h2⟩
theorem fdx_lt {l : List Sp} {p : Int} : fdx l p < l.length ↔ p ∈ l.map (fun s => s.1) := by
  induction l with
  | nil => simp [fdx]
  | cons s r ih =>
    simp only [fdx, List.length_cons, List.map_cons, List.mem_cons]
    by_cases h : s.1 = p
    · simp [h]
    · rw [if_neg h, ← ih]
      constructor
      · intro h1; exact .inr (by omega)
      · rintro (h1 | h1)
        · exact absurd h1.symm h
        · omega
def fnv (l : List Sp) (p : Int) : Int := match l[fdx l p]? with | some s => s.2 | none => 0
def fnb (l : List Sp) (p : Int) : Bool := decide (fdx l p < l.length)

set_option maxHeartbeats 1000000 in
theorem find_any (v : Value) (l : List Sp) (p : Int) (w : World) (h : SSrc w v l) :
    Calls Try.prog 19 #[v, .int .i64 p] w fun e w' => e = .returned (.tuple #[.int .i64 (fnv l p), .bool (fnb l p)]) ∧ Fr [] w w' := by
  obtain ⟨ao, cap, rfl, hcap, hmax, _, b, off, ha, hc⟩ := h
  have HC : Hid (∀ j s, l[j]? = some s → w.cell? ⟨b, off + j * 2, none⟩ = some (.int .i64 s.1) ∧ w.cell? ⟨b, off + j * 2 + 1, none⟩ = some (.int .i64 s.2)) := hc
  have HA : Hid (0 < l.length → ao = some ⟨b, off, none⟩) := ha
  have hml : l.length ≤ 9223372036854775807 := by unfold maxLen at hmax; omega
  clear hc ha
  go_enter Try.func19, Try.ntmps19
  go_wp2
  go_loopw [11] (fun i wr => ∃ (k : Nat), k ≤ l.length ∧ i = .int .i64 (k : Int) ∧ fdx l p = k + fdx (l.drop k) p ∧ Fr [] w wr) (fun i _ => l.length - (intOf i).toNat)
  case atStart => exact ⟨0, by omega, rfl, by simp, Fr.refl _ _⟩
  case round =>
    obtain ⟨k, hk, rfl, hx, hf⟩ := hrel
    have HF : Hid (Fr [] w wr) := hf
    have HX : Hid (fdx l p = k + fdx (l.drop k) p) := hx
    clear hf hx
    by_cases hlt : k < l.length
    · obtain rfl := HA.out (by omega)
      obtain ⟨s, hs⟩ := at_lt hlt
      have HS : Hid (l[k]? = some s) := hs
      have c0 : wr.cell? ⟨b, off + k * 2, none⟩ = some (.int .i64 s.1) := HF.out.cell_some (HC.out k s hs).1 (by simp)
      have c1 : wr.cell? ⟨b, off + k * 2 + 1, none⟩ = some (.int .i64 s.2) := HF.out.cell_some (HC.out k s hs).2 (by simp)
      have HX2 : Hid (fdx l p = k + fdx (s :: l.drop (k + 1)) p) := by rw [Hid, ← drop_at hs]; exact HX.out
      clear hs HX
      obtain ⟨o, n⟩ := s
      simp only at c0 c1
      have HF2 : Hid (Fr [] w (wr.alloc (.cells #[.int .i64 o, .int .i64 n] 36))) := HF.out.alloc _
      by_cases ho : o = p
      · have HE : Hid (fnv l p = n ∧ fnb l p = true) := by
          have h1 : fdx l p = k := by rw [HX2.out, fdx, if_pos ho]; rfl
          unfold Hid fnv fnb
          rw [h1, HS.out]
          exact ⟨rfl, decide_eq_true hlt⟩
        subst ho
        go_wp2
        go_ret2
        exact ⟨by rw [HE.out.1, HE.out.2]; rfl, HF2.out⟩
      · have HX3 : Hid (fdx l p = k + 1 + fdx (l.drop (k + 1)) p) := by rw [Hid, HX2.out, fdx, if_neg ho]; omega
        go_wp2
        go_roundw
        case rel => exact ⟨k + 1, by omega, by go_num, HX3.out, HF2.out⟩
        case measure => simp [intOf]; omega
    · have HE : Hid (fnv l p = 0 ∧ fnb l p = false) := by
        have h1 : fdx l p = l.length := by rw [HX.out, List.drop_eq_nil_of_le (by omega)]; simp [fdx]; omega
        unfold Hid fnv fnb
        rw [h1]
        simp
      go_wp2
      go_ret2
      exact ⟨by rw [HE.out.1, HE.out.2]; rfl, HF.out⟩

/-- Without's list. -/
def wio (l : List Sp) (z : Int) : List Sp := l.filter fun s => !decide (s.2 = z)

set_option maxHeartbeats 2000000 in
theorem without_any (v : Value) (l : List Sp) (z : Int) (w : World) (h : SSrc w v l) (hl : l.length ≤ 1000000) :
    Calls Try.prog 22 #[v, .int .i64 z] w fun e w' => ∃ u, e = .returned u ∧ SOwn 36 w.heap.size w' u (wio l z) ∧ Fr [] w w' := by
  obtain ⟨ao, cap, rfl, hcap, hmax, _, b, off, ha, hc⟩ := h
  have HC : Hid (∀ j s, l[j]? = some s → w.cell? ⟨b, off + j * 2, none⟩ = some (.int .i64 s.1) ∧ w.cell? ⟨b, off + j * 2 + 1, none⟩ = some (.int .i64 s.2)) := hc
  have HA : Hid (0 < l.length → ao = some ⟨b, off, none⟩) := ha
  obtain ⟨i0, hi⟩ := info_pair
  have HI : Hid (SInfo 36 i0) := hi
  clear hc ha hi
  go_enter Try.func22, Try.ntmps22
  go_wp2
  go_loopw [5, 10] (fun u i wr => ∃ (k : Nat), k ≤ l.length ∧ i = .int .i64 (k : Int) ∧ SOwn 36 w.heap.size wr u (wio (l.take k) z) ∧ Fr [] w wr) (fun _ i _ => l.length - (intOf i).toNat)
  case atStart => exact ⟨0, by omega, rfl, .inl ⟨by simp [wio], rfl⟩, Fr.refl _ _⟩
  case round =>
    obtain ⟨k, hk, rfl, hso, hf⟩ := hrel
    have HF : Hid (Fr [] w wr) := hf
    have HS : Hid (SOwn 36 w.heap.size wr u5 (wio (l.take k) z)) := hso
    clear hf hso
    by_cases hlt : k < l.length
    · obtain rfl := HA.out (by omega)
      obtain ⟨s, hs⟩ := at_lt hlt
      have c0 : wr.cell? ⟨b, off + k * 2, none⟩ = some (.int .i64 s.1) := HF.out.cell_some (HC.out k s hs).1 (by simp)
      have c1 : wr.cell? ⟨b, off + k * 2 + 1, none⟩ = some (.int .i64 s.2) := HF.out.cell_some (HC.out k s hs).2 (by simp)
      have HT : Hid (wio (l.take (k + 1)) z = wio (l.take k) z ++ wio [s] z) := by rw [Hid, take_at hs]; simp [wio]
      have HL : Hid ((wio (l.take k) z).length ≤ 1000000) := by
        have := List.length_filter_le (fun s : Sp => !decide (s.2 = z)) (l.take k)
        rw [List.length_take] at this
        unfold Hid wio; omega
      clear hs
      obtain ⟨o, n⟩ := s
      simp only at c0 c1
      have HF2 : Hid (Fr [] w (wr.alloc (.cells #[.int .i64 o, .int .i64 n] 36))) := HF.out.alloc _
      go_wp2_with fail
      refine (same64_any n z _).mono ?_
      rintro e w2 ⟨rfl, rfl⟩
      by_cases hn : n = z
      · have hd : decide (n = z) = true := decide_eq_true hn
        have HT2 : Hid (wio (l.take (k + 1)) z = wio (l.take k) z) := by rw [Hid, HT.out]; simp [wio, hn]
        have HS2 := HS.out.kept ((Fr.refl [] _).alloc (.cells #[.int .i64 o, .int .i64 n] 36))
        have HS3 : Hid (SOwn 36 w.heap.size (wr.alloc (.cells #[.int .i64 o, .int .i64 n] 36)) u5 (wio (l.take k) z)) := HS2
        clear HS2 hn HT
        go_wp2
        go_roundw
        case rel => exact ⟨k + 1, by omega, by go_num, by rw [HT2.out]; exact HS3.out, HF2.out⟩
        case measure => simp [intOf]; omega
      · have hd : decide (n = z) = false := decide_eq_false hn
        have HT2 : Hid (wio (l.take (k + 1)) z = wio (l.take k) z ++ [(o, n)]) := by rw [Hid, HT.out]; simp [wio, hn]
        have HSZ : Hid (w.heap.size ≤ wr.heap.size) := HF.out.size
        clear HT hn
        go_wp2_with (at_builtin; refine wpList_append_sp _ rfl _ _ 26 rfl Try.underlying26 HI.out.1 HI.out.2.1 HI.out.2.2.1 HI.out.2.2.2 (B := w.heap.size) (s := (o, n)) (by have := HSZ.out; simp; omega) rfl rfl (HS.out.kept (((Fr.refl [] _).alloc _).alloc _)) (lit_sp' 36 (wr.alloc _) [(o, n)] (World.size_alloc _ _) (by have := HSZ.out; omega) (by simp) (by unfold maxLen; simp)) HL.out ?_; intro v3 w3 ho3 hb3; have HO3 : Hid (SOwn 36 w.heap.size w3 v3 (wio (l.take k) z ++ [(o, n)])) := ho3; have HB3 : Hid (Fr [] w w3) := Fr.ofBelow ((((HF.out.alloc _).alloc _).below (Nat.le_refl _) (by simp)).trans hb3); clear ho3 hb3)
        go_roundw
        case rel => exact ⟨k + 1, by omega, by go_num, by rw [HT2.out]; exact HO3.out, HB3.out⟩
        case measure => simp [intOf]; omega
    · have HS2 : Hid (SOwn 36 w.heap.size wr u5 (wio l z)) := by
        have := HS.out
        rw [List.take_of_length_le (by omega)] at this
        exact this
      clear HS
      go_wp2
      go_ret
      exact ⟨_, rfl, HS2.out, HF.out⟩
end Go.Proofs.Ytlcnjiibapehbaa
