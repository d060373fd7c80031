/-
  A range over a function whose rounds are called from within the rounds of another one: the iterator tells a list L in its order, and may lay and turn
  whatever it makes itself (loops of its own among it). The walk of both sides at the wide fence.
-/
import Derived.Test.YtjkiiccdcjcfbaaHBack
namespace Go.Proofs.Ytjkiiccdcjcfbaa
open Go.RowKit Go.Shelf Mem Spans
set_option linter.unusedSimpArgs false
set_option linter.unusedVariables false

theorem round_deep {m m' : Nat} {P : Program} {l : Nat} {f : FuncId} {tmps : Array Value} {assign body : Code} {w : World} {R : Ending → World → Prop}
    (h : RoundIn Fence.wide m P l f tmps assign body w R) : RoundIn Fence.wide m' P l f tmps assign body w R := ⟨h.1, fun c cs _ => h.2 c cs (fun d e => by cases e)⟩
theorem round_in {m m' : Nat} {P : Program} {l l2 : Nat} {f : FuncId} {tmps : Array Value} {assign body : Code} {w : World} {R : Ending → World → Prop}
    (h : RoundIn Fence.wide m P l f tmps assign body w R) : RoundIn (Fence.wide.inRound l2) m' P l f tmps assign body w R := (round_deep h : RoundIn Fence.wide m' P l f tmps assign body w R)

/-- What a round tells its iterator. -/
def Told {α : Type} (Kp : World → World → Prop) (J Jx : List α → World → Prop) (pre : List α) (x : α) (W : World) : Ending → World → Prop := fun e W' =>
  (e = .returned (.bool true) ∧ J (pre ++ [x]) W' ∧ Kp W W') ∨ (e = .returned (.bool false) ∧ Jx (pre ++ [x]) W' ∧ Kp W W')
/-- The iterator at function gf tells L to the loop l, from world W on. -/
def Tells {α : Type} (P : Program) (gf l : Nat) (lb : Array Value) (encs : α → Array Value) (Kp : World → World → Prop) (L : List α) (W : World) : Prop :=
  ∀ (n : Nat) (J Jx : List α → World → Prop), OwnFrom W.heap.size J → OwnFrom W.heap.size Jx →
    (∀ m pre x W1, J pre W1 → pre ++ [x] <+: L → YieldAt Fence.wide m P l (encs x) W1 (Told Kp J Jx pre x W1)) → J [] W →
    CallsIn Fence.wide (n + 1) P gf (#[.func (.yield l) #[] #[]] ++ lb) W fun e W' => (∃ v, e = .returned v) ∧ (J L W' ∨ ∃ pre, pre <+: L ∧ Jx pre W')

/-- How a round's body may be left. -/
def leaves9 {α : Type} (B : Nat) (Kp : World → World → Prop) (I : List α → World → Prop) (Ix : Code → List α → World → Prop) (xs : List α) (W : World) : Exit → Act → World → Prop
  | .normal, _, W' => KeepsFrom B W W' ∧ Kp W W' ∧ I xs W'
  | .ret, _, W' => KeepsFrom B W W' ∧ Kp W W' ∧ Ix .ret xs W'
  | .exit i, _, W' => KeepsFrom B W W' ∧ Kp W W' ∧ Ix (.exit i) xs W'
  | _, _, _ => False

set_option maxHeartbeats 1000000 in
theorem range9 {α : Type} {P : Program} {g : Operand} {ps : Array Tmp} {assign body : Code} {Q : Exit → Act → World → Prop} {a : Act} {w : World} {n : Nat}
    {gf : Nat} {lb : Array Value} (hg : a.eval g = .func (.func gf) #[] lb) (eg : ∀ args w, (callFunc gf args).run P w = .ok (.enter gf args) w)
    (encs : α → Array Value) (hps : ∀ x, (encs x).size = ps.size) (L : List α) (Kp : World → World → Prop) (hKt : ∀ {A B C : World}, Kp A B → Kp B C → Kp A C)
    (hKb : ∀ (W : World) (o o' : Obj), W.heap[w.heap.size + 1]? = some o → o.isCells = false → Kp W (W.putObj (w.heap.size + 1) o'))
    (I : List α → World → Prop) (Ix : Code → List α → World → Prop) (hI : OwnFrom w.heap.size I) (hIx : ∀ c, OwnFrom w.heap.size (Ix c)) (h0 : I [] w)
    (Ax : α → Act → World → Prop) (hAx : ∀ x a', OwnFrom w.heap.size (fun (_ : Unit) W => Ax x a' W))
    (hassign : ∀ (pre : List α) (x : α) (W : World) (K : Act → World → Prop), I pre W → w.heap.size + 1 < W.heap.size → (∀ a' W', KeepsFrom w.heap.size W W' → Kp W W' → I pre W' → Ax x a' W' → K a' W') →
      assign.wpIn (Fence.wide.inRound (w.heap.size + 1)) 3 P (Exit.then K (fun _ _ _ => False)) { tmps := (ps.zip (encs x)).foldl (fun t (p, v) => t.setIfInBounds p v) a.tmps, defers := [] } W)
    (hbody : ∀ (pre : List α) (x : α) (a' : Act) (W : World), I pre W → w.heap.size + 1 < W.heap.size → Ax x a' W → pre ++ [x] <+: L → body.wpIn (Fence.wide.inRound (w.heap.size + 1)) 3 P (leaves9 w.heap.size Kp I Ix (pre ++ [x]) W) a' W)
    (hseq : ∀ W1, w.grownBy W1 none → W1.heap.size = w.heap.size + 2 → Tells P gf (w.heap.size + 1) lb encs Kp L W1)
    (hdone : ∀ W, I L W → W.heap[w.heap.size]? = some (.deferred (some [])) → Q .normal { a with defers := { target := .collected w.heap.size, args := #[] } :: a.defers } W)
    (hstop : ∀ (c : Code) (pre : List α) W, pre <+: L → Ix c pre W → W.heap[w.heap.size]? = some (.deferred (some [])) → c.wpIn Fence.wide n P Q { a with defers := { target := .collected w.heap.size, args := #[] } :: a.defers } W) :
    (Code.rangeFunc g ps assign body).wpIn Fence.wide n P Q a w := by
  refine wpIn_rangeFunc ?_
  intro fn hfn
  obtain ⟨rec, hrec⟩ : ∃ rec : LoopState → Option Code → Loop, rec = fun s p => { state := s, pending := p, fn, tmps := a.tmps, params := ps, assign, body, defers := w.heap.size } := ⟨_, rfl⟩
  generalize hW1 : (w.alloc (.deferred (some []))).alloc (.loop (rec .ready none)) = W1
  have g1 : w.grownBy W1 none := by
    rw [← hW1]
    exact (World.grownBy_alloc w _ none).trans (World.grownBy_alloc _ _ none)
  have s1 : W1.heap.size = w.heap.size + 2 := by rw [← hW1]; simp
  have r1 : W1.heap[w.heap.size + 1]? = some (.loop (rec .ready none)) := by
    rw [← hW1]; have := World.alloc_heap_new (w.alloc (.deferred (some []))) (.loop (rec .ready none)); rwa [World.size_alloc] at this
  have d1 : W1.heap[w.heap.size]? = some (.deferred (some [])) := by
    rw [← hW1]; exact (Below.heap_alloc _ _ _ (by simp)).trans (World.alloc_heap_new w _)
  -- between two rounds; where a round has left
  let J : List α → World → Prop := fun pre W => I pre W ∧ W.heap[w.heap.size + 1]? = some (.loop (rec .ready none)) ∧ W.heap[w.heap.size]? = some (.deferred (some []))
  let Jx : List α → World → Prop := fun pre W => ∃ c, Ix c pre W ∧ W.heap[w.heap.size + 1]? = some (.loop (rec .done (some c))) ∧ W.heap[w.heap.size]? = some (.deferred (some []))
  have stay : ∀ {X Y : World} {row : Option Nat}, X.grownBy Y row → (∀ r, row = some r → W1.heap.size ≤ r ∧ ∃ o : Obj, X.heap[r]? = some o ∧ o.isCells = false) →
      (∀ r, row = some r → w.heap.size ≤ r ∧ ∃ o : Obj, X.heap[r]? = some o ∧ o.isCells = false) ∧ ∀ (k : Nat) (o : Obj), k < w.heap.size + 2 → X.heap[k]? = some o → Y.heap[k]? = some o := by
    intro X Y row gr hr
    refine ⟨fun r e => ⟨by have := (hr r e).1; omega, (hr r e).2⟩, fun k o hk ho => (gr.block k (Array.getElem?_eq_some_iff.1 ho).1 (fun e => ?_)).trans ho⟩
    have := (hr k e.symm).1
    omega
  have oJ : OwnFrom W1.heap.size J := fun s X Y row hs gr hr =>
    ⟨hI s X Y row hs.1 gr (stay gr hr).1, (stay gr hr).2 _ _ (by omega) hs.2.1, (stay gr hr).2 _ _ (by omega) hs.2.2⟩
  have oJx : OwnFrom W1.heap.size Jx := fun s X Y row hs gr hr => by
    obtain ⟨c, hc, hl, hd⟩ := hs
    exact ⟨c, hIx c s X Y row hc gr (stay gr hr).1, (stay gr hr).2 _ _ (by omega) hl, (stay gr hr).2 _ _ (by omega) hd⟩
  refine ⟨w.heap.size + 1, [{ target := .collected w.heap.size, args := #[] }], W1, { target := .fn (.func gf) lb, args := #[.func (.yield (w.heap.size + 1)) #[] #[]] }, W1, gf,
    #[.func (.yield (w.heap.size + 1)) #[] #[]] ++ lb, W1, ?_, ?_, ?_, ?_, (fun h => by cases h), ?_⟩
  · rw [← hW1, hrec]; exact run_enterLoop_outer _ _ _ _ _
  · simp only [resolve, hg]
    simp [go_sem]
  · intro f' _; trivial
  · simp [invoke, go_sem, eg]
  have start : J [] W1 := ⟨hI [] w W1 none h0 g1 (fun r e => by cases e), r1, d1⟩
  refine (callsIn_wide.2 (callsIn_wide.1 (hseq W1 g1 s1 0 J Jx oJ oJx ?_ start))).mono ?_
  · rintro m pre x W ⟨hi, hl, hd⟩ hpre
    have hy := run_yield (P := P) (args := encs x) hl (by rw [hrec]; exact hps x)
    rw [hrec] at hy
    refine ⟨fn, _, assign, body, hy, round_deep (m := 3) (roundIn_of_wpIn hfn (hassign pre x W _ hi (Array.getElem?_eq_some_iff.1 hl).1 ?_))⟩
    intro a' X hX kX iX aX
    have hl2 := hX.same _ _ (by omega) hl rfl
    have hd2 := hX.same _ _ (Nat.le_refl _) hd rfl
    refine ⟨_, run_beginRound hl2 (by rw [hrec]), ?_⟩
    generalize hB : ({ rec .ready none with state := .busy } : Loop) = busy
    have hlt := (Array.getElem?_eq_some_iff.1 hl2).1
    have b2 : (X.putObj (w.heap.size + 1) (.loop busy)).heap[w.heap.size + 1]? = some (.loop busy) := World.putObj_heap_same hlt
    have d2 : (X.putObj (w.heap.size + 1) (.loop busy)).heap[w.heap.size]? = some (.deferred (some [])) := (World.putObj_heap_other (by omega)).trans hd2
    have k2 : Kp W (X.putObj (w.heap.size + 1) (.loop busy)) := hKt kX (hKb X _ _ hl2 rfl)
    refine wpIn_mono (hbody pre x a' _ (hI.putObj _ iX (by omega) hl2 rfl) (by simpa using hlt) ((hAx x a').putObj (s := ()) _ aX (by omega) hl2 rfl) hpre) ?_
    have ends : ∀ (jump : Option Code) (Z : World), KeepsFrom w.heap.size (X.putObj (w.heap.size + 1) (.loop busy)) Z →
        (Instr.endRound (w.heap.size + 1) jump).run P Z = .ok (.bool jump.isNone) (Z.putObj (w.heap.size + 1) (.loop (rec (if jump.isNone then .ready else .done) jump))) ∧
        Z.heap[w.heap.size + 1]? = some (.loop busy) ∧
        (Z.putObj (w.heap.size + 1) (.loop (rec (if jump.isNone then .ready else .done) jump))).heap[w.heap.size + 1]? = some (.loop (rec (if jump.isNone then .ready else .done) jump)) ∧
        (Z.putObj (w.heap.size + 1) (.loop (rec (if jump.isNone then .ready else .done) jump))).heap[w.heap.size]? = some (.deferred (some [])) := by
      intro jump Z hZ
      have z1 := hZ.same _ _ (by omega) b2 rfl
      have z2 := hZ.same _ _ (Nat.le_refl _) d2 rfl
      have e := run_endRound (P := P) jump (by rw [← hB] at z1; exact z1)
      rw [hrec] at e ⊢
      exact ⟨e, z1, World.putObj_heap_same (Array.getElem?_eq_some_iff.1 z1).1, (World.putObj_heap_other (by omega)).trans z2⟩
    rintro e a3 Z hp
    cases e with
    | normal =>
      obtain ⟨q1, q2, q3⟩ := hp
      obtain ⟨e1, e2, e3, e4⟩ := ends none Z q1
      exact ⟨_, _, e1, .inl ⟨rfl, ⟨hI.putObj _ q3 (by omega) e2 (by rw [← hB]; rfl), e3, e4⟩, hKt k2 (hKt q2 (hKb Z _ _ e2 (by rw [← hB]; rfl)))⟩⟩
    | ret =>
      obtain ⟨q1, q2, q3⟩ := hp
      obtain ⟨e1, e2, e3, e4⟩ := ends (some .ret) Z q1
      exact ⟨_, _, e1, .inr ⟨rfl, ⟨.ret, (hIx _).putObj _ q3 (by omega) e2 (by rw [← hB]; rfl), e3, e4⟩, hKt k2 (hKt q2 (hKb Z _ _ e2 (by rw [← hB]; rfl)))⟩⟩
    | exit i =>
      obtain ⟨q1, q2, q3⟩ := hp
      obtain ⟨e1, e2, e3, e4⟩ := ends (some (.exit i)) Z q1
      exact ⟨_, _, e1, .inr ⟨rfl, ⟨.exit i, (hIx _).putObj _ q3 (by omega) e2 (by rw [← hB]; rfl), e3, e4⟩, hKt k2 (hKt q2 (hKb Z _ _ e2 (by rw [← hB]; rfl)))⟩⟩
    | goto t => exact hp.elim
    | panic ch => exact hp.elim
    | outgrown => exact hp.elim
  · rintro e W2 ⟨⟨v, rfl⟩, (⟨hi, hl, hd⟩ | ⟨pre, hpre, c, hi, hl, hd⟩)⟩
    · exact ⟨none, _, by have := run_endLoop (P := P) hl (by rw [hrec]; simp); rw [hrec] at this; exact this, hdone _ (hI.putObj _ hi (by omega) hl rfl) ((World.putObj_heap_other (by omega)).trans hd)⟩
    · exact ⟨some c, _, by have := run_endLoop (P := P) hl (by rw [hrec]; simp); rw [hrec] at this; exact this, hstop c pre _ hpre ((hIx c).putObj _ hi (by omega) hl rfl) ((World.putObj_heap_other (by omega)).trans hd)⟩
end Go.Proofs.Ytjkiiccdcjcfbaa
