/-
  A region that draws its order, within a round of a range over a function: it is walked as outside of the round.
-/
import Derived.Test.YtoaibabkkphlaaaSOwns
import Derived.RegionIn
namespace Go.Proofs.Ytoaibabkkphlaaa
open Go.RowKit Go.Shelf Mem Spans
set_option linter.unusedSimpArgs false
set_option linter.unusedVariables false
set_option maxRecDepth 100000

section
variable {n : Nat} {P : Program} {ops : Array Oper} {Q : Exit → Act → World → Prop} {md : Region.Mode}
theorem uponIn_round (l : Nat) (o : Oper) (a : Act) (K : Act → World → Prop) (r : Result Next) (h : o.uponIn Fence.wide n P a K Q r) : o.uponIn (Fence.wide.inRound l) n P a K Q r := h
theorem wpOpIn_round (l : Nat) {i : Nat} {K : Act → World → Prop} {a : Act} {w : World} (hnd : ∀ o, ops[i]? = some o → ∀ c, o.op ≠ .defer c) (h : wpOpIn Fence.wide n P ops Q i K a w) : wpOpIn (Fence.wide.inRound l) n P ops Q i K a w := by
  unfold wpOpIn at *
  cases ho : ops[i]? with
  | none => simpa [ho] using h
  | some o =>
    simp only [ho] at h ⊢
    split
    · rename_i hw
      simp only [hw, if_true] at h
      refine ⟨fun f hf => h.1 f hf, ?_⟩
      have h2 := h.2
      rw [Oper.semAt_eq _ _ _ (hnd o ho)] at h2 ⊢
      exact uponIn_round l o a K _ h2
    · rename_i hw
      simp only [hw] at h
      exact h
theorem wpAnyIn_round (l : Nat) (hnd : ∀ (i : Nat) (o : Oper), ops[i]? = some o → ∀ c, o.op ≠ .defer c) : ∀ (fuel : Nat) (listed : Array Bool) (a : Act) (w : World), wpAnyIn Fence.wide n P md ops Q fuel listed a w → wpAnyIn (Fence.wide.inRound l) n P md ops Q fuel listed a w := by
  intro fuel
  induction fuel with
  | zero => intro listed a w h; exact h
  | succ fuel ih =>
    intro listed a w h
    exact ⟨h.1, fun i hi => wpOpIn_mono (fun a' w' h' => ih _ a' w' h') (wpOpIn_round l (hnd i) (h.2 i hi))⟩
/-- Is no operation a defer statement? -/
def noDefer (ops : Array Oper) : Bool := ops.toList.all fun o => match o.op with | .defer _ => false | _ => true
theorem noDefer_spec (h : noDefer ops = true) : ∀ (i : Nat) (o : Oper), ops[i]? = some o → ∀ c, o.op ≠ .defer c := by
  intro i o ho c hc
  unfold noDefer at h
  rw [List.all_eq_true] at h
  have h1 : ops.toList[i]? = some o := by simpa using ho
  have := h o (List.mem_of_getElem? h1)
  rw [hc] at this
  simp at this
theorem region_round {id l : Nat} {a : Act} {w : World} (hm : P.follows .mixedOrders = true) (hnd : noDefer ops = true)
    (h : wpAnyIn Fence.wide n P .any ops Q ops.size (Array.replicate ops.size false) a w.drew) : (Code.region id ops true).wpIn (Fence.wide.inRound l) n P Q a w :=
  wpIn_region_any hm (wpAnyIn_round l (noDefer_spec hnd) _ _ _ _ h)
end
section
variable {n : Nat} {ops : Array Oper} {o : Oper} {a : Act} {w : World} {K : Act → World → Prop} {Q : Exit → Act → World → Prop} {E : Prop}
/-- append of a pair to a row of the call's own, as one step of such a region. -/
theorem stepIn_append_sp (hgd : o.guard = none) (sx x : Operand) (t : TypeId)
    (ho : o.op = .call { callee := .builtin .append, args := #[sx, x], argTypes := #[t, t] })
    {e : TypeId} {i0 : TypeInfo} (ht : Try.prog.underlying t = some (.slice e)) (hi : Try.prog.info? e = some i0) (hz : i0.zero = some (.agg #[.int .i64 0, .int .i64 0])) (hsz : i0.size = 2) (hb : i0.bytes = 16)
    {B : Nat} {v u : Value} {l : List Sp} {s : Sp} (hs : a.eval sx = v) (hx : a.eval x = u) (hB : B ≤ w.heap.size) (h1 : w.ownsRow B e 2 v l.length (spCells l)) (h2 : SOwn e B w u [s]) (hl : l.length ≤ 1000000)
    (h : ∀ v' w', w'.ownsRow B e 2 v' (l.length + 1) (spCells (l ++ [s])) → w.grownBy w' v.ownBlock → K (a.put o.dst v') w') :
    if Region.wanted o (yielded ops a.tmps) = true then Oper.wpIn Fence.wide n Try.prog o a w K Q else E := by
  have hw : Region.wanted o (yielded ops a.tmps) = true := by simp [Region.wanted, hgd]
  rw [if_pos hw]
  refine ⟨fun _ _ => trivial, ?_⟩
  rw [show o.semAt Fence.wide.round a.eval = execOp a.eval o from rfl]
  rcases h2 with ⟨h0, _⟩ | ⟨g, hg, hy, hrow⟩
  · simp at h0
  · have hr := hrow
    obtain ⟨c, rfl⟩ := hrow.val
    obtain ⟨v', w', e1, e2, e3, e4⟩ := run_append_own w B t o.type e i0 _ 2 16 ht hi hz hsz hb rfl (by decide) v l.length (spCells l) h1 ⟨g, 0, none⟩ 1 c (spCells [s]) rfl
      (fun j x hj => by
        have hjl : j < (spCells [s]).length := (List.getElem?_eq_some_iff.1 hj).1
        rw [spCells_length] at hjl
        have e : (⟨g, 0, none⟩ : Addr).add j = ⟨g, j, none⟩ := by unfold Addr.add; split <;> simp_all
        rw [e, hr.cell j (by simpa using hjl), hj])
      (fun x hx => by
        simp [spCells] at hx
        rcases hx with rfl | rfl <;> rfl) (by unfold maxLen; omega) (by omega) hB
    unfold execOp
    simp only [ho, resolve, invoke, builtin, Sem.run_bind, Sem.run_pure, Result.andThen_ok, List.map_toArray, List.map_cons, List.map_nil, hs, hx, List.length_singleton, e1]
    rw [← spCells_append] at e2
    exact h v' w' e2 e3
end
end Go.Proofs.Ytoaibabkkphlaaa
