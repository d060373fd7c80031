/-
  fail.each over a chain, with whatever function value that is handed to it: the *fail.Errors are told in their order, the outer ones first, as long as it wants more.
-/
import Derived.Test.YtkphonepblkcdaaGreatDoorTied
namespace Go.Proofs.YtkphonepblkcdaaGreatDoor
open Go.RowKit Go.Extern.Stop Go.Stop Go.Extern Mem
set_option linter.unusedVariables false
set_option maxRecDepth 100000

theorem contains_none (p : Value) (w : World) : Calls Tryz.prog 89 #[.slice none 0 0, p] w fun e w' => e = .returned (.bool false) ∧ w' = w := by
  go_enter Tryz.func89, Tryz.ntmps89
  go_wp2
  refine wp_loop_rounds 1 ?_
  rw [rounds_succ]
  go_wp2
  go_ret
  exact ⟨rfl, rfl⟩

theorem Chain.at {w : World} {last : Value} {n : Node} {r : List Node} : ∀ {pre : List Node} {v : Value}, Chain w last (pre ++ n :: r) v →
    ∃ u, w.heap[n.b]? = some (.cells #[.int .i64 n.c, .string n.p, .int .i64 n.a, u] 112 (0, 0)) ∧ Chain w last r u
  | [], _, h => h.2.2
  | _ :: pre, _, ⟨_, _, _, _, h⟩ => Chain.at (pre := pre) h

set_option maxHeartbeats 2000000 in
theorem each_chain (sa : Addr) (last : Value) (l : List Node) (v : Value) (g : Nat) (caps : Array Value) (hent : ∀ args w, (callFunc g args).run Tryz.prog w = .ok (.enter g args) w)
    (I : List Node → World → Prop) (J : World → Prop) (w : World) (hl : IsLast sa last)
    (hIC : ∀ r w, I r w → Env sa w ∧ Chain w last l v) (hmono : ∀ r w w', I r w → Fr [] w w' → I r w')
    (hstep : ∀ pre n r w, l = pre ++ n :: r → I (n :: r) w → Calls Tryz.prog g (#[.pointer (some ⟨n.b, 0, none⟩)] ++ caps) w fun e w' => ∃ go, e = .returned (.bool go) ∧ (go = true → I r w') ∧ (go = false → J w'))
    (h : I l w) :
    Calls Tryz.prog 62 #[v, .func (.func g) #[] caps] w fun e w' => e = .returned (.tuple #[]) ∧ (I [] w' ∨ J w') := by
  have HE : Hid (∀ r w, I r w → Env sa w ∧ Chain w last l v) := hIC
  have HL : Hid (IsLast sa last) := hl
  have HM : Hid (∀ r w w', I r w → Fr [] w w' → I r w') := hmono
  have HS : Hid (∀ pre n r w, l = pre ++ n :: r → I (n :: r) w → Calls Tryz.prog g (#[.pointer (some ⟨n.b, 0, none⟩)] ++ caps) w fun e w' => ∃ go, e = .returned (.bool go) ∧ (go = true → I r w') ∧ (go = false → J w')) := hstep
  have HI : Hid (I l w) := h
  clear hIC hl hmono hstep h
  go_enter Tryz.func62, Tryz.ntmps62
  go_wp2_with fail
  refine (tied_chain sa last l v _ (HE.out _ _ HI.out).1 HL.out (HE.out _ _ HI.out).2).mono ?_
  rintro e w1 ⟨rfl, f1⟩
  have H1 : Hid (I l w1) := HM.out _ _ _ HI.out f1
  clear f1 HI
  go_wp2_with fail
  refine (first_chain sa last l v _ (HE.out _ _ H1.out).1 HL.out (HE.out _ _ H1.out).2).mono ?_
  rintro e w2 ⟨rfl, f2⟩
  have H2 : Hid (I l w2) := HM.out _ _ _ H1.out f2
  clear f2 H1
  go_wp2_with fail
  go_loopg [4, 6] l.length (fun k t e wr => ∃ pre r, l = pre ++ r ∧ r.length ≤ k ∧ t = .slice none 0 0 ∧ e = hd r ∧ I r wr)
  case atStart => exact ⟨[], l, rfl, Nat.le_refl _, rfl, rfl, H2.out⟩
  case round =>
    obtain ⟨pre, r, hlr, hk, rfl, rfl, hi⟩ := hrel
    have HP : Hid (l = pre ++ r) := hlr
    have HI : Hid (I r wr) := hi
    clear hlr hi
    rcases r with _ | ⟨n, r⟩
    · rw [show hd ([] : List Node) = .pointer none from rfl]
      go_wp2
      go_end0
      exact ⟨rfl, .inl HI.out⟩
    · have hk' : r.length < gk := by simp at hk; omega
      rw [show hd (n :: r) = .pointer (some ⟨n.b, 0, none⟩) from rfl]
      clear hk
      go_wp2_with fail
      refine (contains_none _ _).mono ?_
      rintro e w3 ⟨rfl, rfl⟩
      go_wp2_with fail
      refine (HS.out pre n r _ HP.out HI.out).mono ?_
      rintro e w4 ⟨go, rfl, hgo, hstop⟩
      have HG : Hid (go = true → I r w4) := hgo
      have HX : Hid (go = false → J w4) := hstop
      clear hgo hstop
      cases go
      · have HJ : Hid (J w4) := HX.out rfl
        clear HG HX
        go_wp2_with fail
        go_end0
        exact ⟨rfl, .inr HJ.out⟩
      · have H4 : Hid (I r w4) := HG.out rfl
        clear HG HX
        obtain ⟨hE4, hC4⟩ := HE.out _ _ H4.out
        rw [HP.out] at hC4
        obtain ⟨u, hu, hc⟩ := Chain.at hC4
        have hcell : w4.cell? ⟨n.b, 3, none⟩ = some u := by rw [cell_at hu]; rfl
        have HE4 : Hid (Env sa w4) := hE4
        have HC4 : Hid (Chain w4 last r u) := hc
        clear hE4 hC4 hu hc
        go_wp2_with fail
        refine (first_chain sa last r u _ HE4.out HL.out HC4.out).mono ?_
        rintro e w5 ⟨rfl, f5⟩
        go_wp2_with fail
        go_roundg r.length
        case measure => exact hk'
        case rel => exact ⟨pre ++ [n], r, by rw [HP.out]; simp, Nat.le_refl _, rfl, rfl, HM.out _ _ _ H4.out f5⟩

/-! ### fail.Depth -/
theorem enters_depth (args : Array Value) (w : World) : (callFunc 70 args).run Tryz.prog w = .ok (.enter 70 args) w := by kernel_rfl
theorem enters_at (args : Array Value) (w : World) : (callFunc 63 args).run Tryz.prog w = .ok (.enter 63 args) w := by kernel_rfl

/-- One variable of an int's, in a block of its own. -/
def IntVar (w : World) (b : Nat) (n : Int) : Prop := w.heap[b]? = some (.cells #[.int .i64 n] 3 (0, 0))
theorem IntVar.kept {w w' : World} {b : Nat} {n : Int} {S : List Nat} (h : IntVar w b n) (f : Fr S w w') (hn : b ∉ S) : IntVar w' b n := f.heap h hn
theorem IntVar.set {w : World} {b : Nat} {n : Int} (h : IntVar w b n) (m : Int) : IntVar (w.setCell ⟨b, 0, none⟩ (.int .i64 m)) b m := by
  have := lt_of_heap h
  simp [IntVar, World.setCell, Array.getElem?_modify]
  rw [IntVar] at h
  simp [h]

set_option maxHeartbeats 1000000 in
theorem depth_step (p : Value) (b : Nat) (n : Int) (w : World) (h : IntVar w b n) (h0 : 0 ≤ n) (h1 : n < 1000000) :
    Calls Tryz.prog 70 #[p, .pointer (some ⟨b, 0, none⟩)] w fun e w' => e = .returned (.bool true) ∧ w' = w.setCell ⟨b, 0, none⟩ (.int .i64 (n + 1)) := by
  have hc : w.cell? ⟨b, 0, none⟩ = some (.int .i64 n) := by rw [cell_at h]; rfl
  have hf : w.frozen? ⟨b, 0, none⟩ = false := frozen_at h 0
  clear h
  go_enter Tryz.func70, Tryz.ntmps70
  go_wp2
  go_ret
  exact ⟨rfl, rfl⟩

set_option maxHeartbeats 1000000 in
/-- fail.Depth over a chain: how many *fail.Errors are in it. -/
theorem depth_chain (sa : Addr) (last : Value) (l : List Node) (v : Value) (w : World) (hE : Env sa w) (hl : IsLast sa last) (h : Chain w last l v) (hlen : l.length ≤ 100000) (hw : 2 ≤ w.heap.size) :
    Calls Tryz.prog 38 #[v] w fun e w' => e = .returned (.int .i64 l.length) ∧ Fr [] w w' := by
  have HE : Hid (Env sa w) := hE
  have HL : Hid (IsLast sa last) := hl
  have HC : Hid (Chain w last l v) := h
  have hlt : Hid (∀ n ∈ l, n.b < w.heap.size) := h.lt
  clear hE hl h
  go_enter Tryz.func38, Tryz.ntmps38
  go_wp2_with fail
  refine (each_chain sa last l v 70 _ enters_depth (fun r w' => ∃ pre, l = pre ++ r ∧ IntVar w' w.heap.size pre.length ∧ Fr [w.heap.size] (w.alloc (.cells #[.int .i64 0] 3)) w') (fun _ => False) _ HL.out ?_ ?_ ?_ ?_).mono ?_
  · rintro r w' ⟨pre, _, _, f⟩
    have f' : Fr [w.heap.size] w w' := ((Fr.refl [w.heap.size] w).alloc _).trans f (by simp)
    refine ⟨HE.out.kept f' (by simpa using hw), HC.out.kept f' (fun n hn => ?_)⟩
    have := hlt.out n hn
    simp
    omega
  · rintro r w1 w2 ⟨pre, hp, hi, f⟩ f2
    exact ⟨pre, hp, hi.kept f2 (by simp), f.trans f2 (by simp)⟩
  · rintro pre n r w1 hp ⟨pre', hp', hi, f⟩
    have hpp : pre = pre' := by
      rw [hp] at hp'
      exact (List.append_inj_left' hp' rfl)
    subst hpp
    have hb : pre.length < 1000000 := by
      have := congrArg List.length hp
      simp at this
      omega
    refine (depth_step _ w.heap.size pre.length w1 hi (by omega) (by omega)).mono ?_
    rintro e w2 ⟨rfl, rfl⟩
    refine ⟨true, rfl, fun _ => ⟨pre ++ [n], by rw [hp]; simp, ?_, f.setCell _ _ (.inl (by simp))⟩, fun h => by cases h⟩
    have := hi.set (pre.length + 1)
    simpa using this
  · refine ⟨[], rfl, ?_, Fr.refl _ _⟩
    exact heap_alloc_new w _
  · rintro e w1 ⟨rfl, ⟨pre, hp, hi, f⟩ | hf⟩
    · have hc : w1.cell? ⟨w.heap.size, 0, none⟩ = some (.int .i64 l.length) := by rw [cell_at hi, hp]; simp
      have HF : Hid (Fr [w.heap.size] (w.alloc (.cells #[.int .i64 0] 3)) w1) := f
      clear hp hi f
      go_wp2_with fail
      go_ret
      exact ⟨rfl, ((Fr.refl [] w).alloc _).trans HF.out (by simp)⟩
    · exact hf.elim
end Go.Proofs.YtkphonepblkcdaaGreatDoor
