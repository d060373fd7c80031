/-
  fail.tied over a chain: false: no *fail.Error of it has itself within it. fail.Closed, fail.Code, fail.New, fail.Wrap over chains.
-/
import Derived.Test.YtkphonepblkcdaaGreatDoorIs
namespace Go.Proofs.YtkphonepblkcdaaGreatDoor
open Go.RowKit Go.Extern.Stop Go.Stop Go.Extern Mem
set_option linter.unusedVariables false
set_option maxRecDepth 100000

theorem run_eql_ptr_other {P : Program} (w : World) {tp te : TypeId} {j : TypeInfo} {a b : Addr} {ca cb : Array Value} {ta tb : TypeId}
    (hp : P.underlying tp = some (.pointer te)) (hte : P.info? te = some j) (hsz : j.size ≠ 0)
    (hne : a ≠ b) (ha : w.heap[a.block]? = some (.cells ca ta (0, 0))) (hb : w.heap[b.block]? = some (.cells cb tb (0, 0))) :
    (binOp .eql tp (.pointer (some a)) (.pointer (some b))).run P w = .ok (.bool false) w := by
  have h : ∀ d : Nat, (Op.equalIn (d + 1) tp (.pointer (some a)) (.pointer (some b))).run P w = .ok false w := fun d => by
    simp [Op.equalIn, run_underlying hp, sizeOf, typeInfo, hte, hsz, run_sameAddr_other w hne ha hb]
  simp only [binOp]
  simp [Op.equal, Op.maxDepth, h 9999]
theorem Tryz.errSize : (Tryz.prog.info? 112).map (·.size) = some 4 := by kernel_rfl

theorem errPtr_ne (w : World) (a b : Nat) {ca cb : Array Value} (ha : w.heap[a]? = some (.cells ca 112 (0, 0))) (hb : w.heap[b]? = some (.cells cb 112 (0, 0))) (h : a ≠ b) :
    (binOp .eql 110 (.pointer (some ⟨a, 0, none⟩)) (.pointer (some ⟨b, 0, none⟩))).run Tryz.prog w = .ok (.bool false) w := by
  obtain ⟨j, hj, hjs⟩ := Option.map_eq_some_iff.1 Tryz.errSize
  exact run_eql_ptr_other (P := Tryz.prog) w (a := ⟨a, 0, none⟩) (b := ⟨b, 0, none⟩) Tryz.underlying110 hj (by rw [hjs]; decide) (by intro e; rw [Addr.mk.injEq] at e; exact h e.1) ha hb

/-- The mark of fail.tied: none yet, or one that is none of these. -/
def MarkOk (w : World) (l : List Node) (m : Value) : Prop :=
  m = .pointer none ∨ ∃ mb cs, m = .pointer (some ⟨mb, 0, none⟩) ∧ w.heap[mb]? = some (.cells cs 112 (0, 0)) ∧ ∀ n ∈ l, n.b < mb
theorem MarkOk.kept {w w' : World} {l r : List Node} {m : Value} (h : MarkOk w l m) (f : Fr [] w w') (hs : ∀ n ∈ r, n ∈ l) : MarkOk w' r m := by
  rcases h with h | ⟨mb, cs, h1, h2, h3⟩
  · exact .inl h
  · exact .inr ⟨mb, cs, h1, f.heap h2 (by simp), fun n hn => h3 n (hs n hn)⟩

set_option maxHeartbeats 2000000 in
theorem tied_chain (sa : Addr) (last : Value) (l : List Node) (v : Value) (w : World) (hE : Env sa w) (hl : IsLast sa last) (h : Chain w last l v) :
    Calls Tryz.prog 88 #[v] w fun e w' => e = .returned (.bool false) ∧ Fr [] w w' := by
  have HE : Hid (Env sa w) := hE
  have HL : Hid (IsLast sa last) := hl
  have HC : Hid (Chain w last l v) := h
  clear hE hl h
  go_enter Tryz.func88, Tryz.ntmps88
  go_wp2_with fail
  refine (first_chain sa last l v _ HE.out HL.out HC.out).mono ?_
  rintro e w1 ⟨rfl, f1⟩
  go_wp2_with fail
  go_loopg [3, 4, 5, 6] l.length (fun k m s f e wr => ∃ r u, r.length ≤ k ∧ e = hd r ∧ Chain wr last r u ∧ Fr [] w wr ∧ (∃ si : Int, s = .int .i64 si) ∧ (∃ fi : Int, f = .int .i64 fi) ∧ MarkOk wr r m)
  case atStart => exact ⟨l, v, Nat.le_refl _, rfl, HC.out.kept0 f1, f1, ⟨0, rfl⟩, ⟨1, rfl⟩, .inl rfl⟩
  case round =>
    obtain ⟨r, u, hk, rfl, hc, hf, ⟨si, rfl⟩, ⟨fi, rfl⟩, hm⟩ := hrel
    rcases r with _ | ⟨n, r⟩
    · rw [show hd ([] : List Node) = .pointer none from rfl]
      clear hc hm
      go_wp2
      go_ret
      exact ⟨rfl, hf⟩
    · obtain ⟨hv, hlt, u', hu, hc'⟩ := hc
      have hcell : wr.cell? ⟨n.b, 3, none⟩ = some u' := by rw [cell_at hu]; rfl
      have HU : Hid _ := hu
      have HC' : Hid (Chain wr last r u') := hc'
      have HE' : Hid (Env sa wr) := HE.out.kept0 hf
      have HF : Hid (Fr [] w wr) := hf
      have HLT : Hid (∀ m ∈ r, m.b < n.b) := hlt
      have hk' : r.length < gk := by simp at hk; omega
      rw [show hd (n :: r) = .pointer (some ⟨n.b, 0, none⟩) from rfl]
      rcases hm with rfl | ⟨mb, cs, rfl, h2, h3⟩
      · clear hu hc' hf hlt hv hk
        go_wp2_with fail
        all_goals
          refine (first_chain sa last r u' _ HE'.out HL.out HC'.out).mono ?_
          rintro e w2 ⟨rfl, f2⟩
          go_wp2_with fail
          go_roundg r.length
          case measure => exact hk'
          case rel =>
            refine ⟨r, u', Nat.le_refl _, rfl, HC'.out.kept0 f2, HF.out.trans f2 (by simp), ⟨_, rfl⟩, ⟨_, rfl⟩, ?_⟩
            first
              | exact .inl rfl
              | exact .inr ⟨n.b, _, rfl, f2.heap HU.out (by simp), HLT.out⟩
      · have hne := errPtr_ne wr n.b mb hu h2 (by have := h3 n (by simp); omega)
        have HM : Hid (MarkOk wr r (.pointer (some ⟨mb, 0, none⟩))) := Or.inr ⟨mb, cs, rfl, h2, fun m hm => h3 m (by simp [hm])⟩
        clear hu hc' hf hlt hv hk h2 h3
        go_wp2_with fail
        all_goals
          refine (first_chain sa last r u' _ HE'.out HL.out HC'.out).mono ?_
          rintro e w2 ⟨rfl, f2⟩
          go_wp2_with fail
          go_roundg r.length
          case measure => exact hk'
          case rel =>
            refine ⟨r, u', Nat.le_refl _, rfl, HC'.out.kept0 f2, HF.out.trans f2 (by simp), ⟨_, rfl⟩, ⟨_, rfl⟩, ?_⟩
            first
              | exact HM.out.kept f2 (fun _ h => h)
              | exact .inr ⟨n.b, _, rfl, f2.heap HU.out (by simp), HLT.out⟩


/-- The code of a chain: that of the first *fail.Error; of the sentinel the one of forms, of nil none. -/
def codeOf (last : Value) : List Node → Int
  | [] => if endsB last then 10 else 0
  | n :: _ => n.c

set_option maxHeartbeats 1000000 in
theorem code_nil (w : World) : Calls Tryz.prog 29 #[.nilIface] w fun e w' => e = .returned (.int .i64 0) ∧ w' = w := by
  go_enter Tryz.func29, Tryz.ntmps29
  go_wp2
  go_ret
  exact ⟨rfl, rfl⟩
set_option maxHeartbeats 1000000 in
theorem code_node (b : Nat) (c : Int) (c1 c2 u : Value) (w : World) (hg : TypeVar w) (h : w.heap[b]? = some (.cells #[.int .i64 c, c1, c2, u] 112 (0, 0))) :
    Calls Tryz.prog 29 #[.iface 110 (.pointer (some ⟨b, 0, none⟩))] w fun e w' => e = .returned (.int .i64 c) ∧ Fr [] w w' := by
  have HG : Hid (TypeVar w) := hg
  have HH : Hid (w.heap[b]? = some (.cells #[.int .i64 c, c1, c2, u] 112 (0, 0))) := h
  clear hg h
  go_enter Tryz.func29, Tryz.ntmps29
  go_wp2_with fail
  refine (first_node _ _ HG.out).mono ?_
  rintro e w1 ⟨rfl, f1⟩
  have hc : w1.cell? ⟨b, 0, none⟩ = some (.int .i64 c) := by rw [cell_at (f1.heap HH.out (by simp))]; rfl
  go_wp2_with fail
  go_ret
  exact ⟨rfl, f1⟩

/-- fail.Code of what is at a chain's end. -/
theorem code_last (sa : Addr) (last : Value) (w : World) (hE : Env sa w) (hl : IsLast sa last) : Calls Tryz.prog 29 #[last] w fun e w' => e = .returned (.int .i64 (codeOf last [])) ∧ Fr [] w w' := by
  have e : last = .nilIface := hl
  subst e
  refine (code_nil w).mono ?_
  rintro e w' ⟨rfl, rfl⟩
  exact ⟨rfl, Fr.refl _ _⟩
/-- fail.Code over a chain. -/
theorem code_chain (sa : Addr) (last : Value) (l : List Node) (v : Value) (w : World) (hE : Env sa w) (hl : IsLast sa last) (h : Chain w last l v) :
    Calls Tryz.prog 29 #[v] w fun e w' => e = .returned (.int .i64 (codeOf last l)) ∧ Fr [] w w' := by
  rcases l with _ | ⟨n, r⟩
  · have : v = last := h
    subst this
    exact code_last sa v w hE hl
  · obtain ⟨rfl, _, u, hu, _⟩ := h
    exact code_node n.b n.c _ _ _ w hE.ty hu

/-- fail.New of no code. -/
theorem new_nil (w : World) : Calls Tryz.prog 67 #[.int .i64 0] w fun e w' => e = .returned .nilIface ∧ w' = w := by
  go_enter Tryz.func67, Tryz.ntmps67
  go_wp2
  go_ret
  exact ⟨rfl, rfl⟩
/-- fail.New of a code: a new *fail.Error by itself. -/
theorem new_code (c : Int) (w : World) (h : c ≠ 0) : Calls Tryz.prog 67 #[.int .i64 c] w fun e w' => e = .returned (errOf w.heap.size) ∧ w' = w.alloc (.cells #[.int .i64 c, .string ByteArray.empty, .int .i64 0, .nilIface] 112) := by
  have hb : (c == 0) = false := by simpa using h
  go_enter Tryz.func67, Tryz.ntmps67
  go_wp2
  go_ret
  exact ⟨rfl, rfl⟩

/-- fail.Wrap of nil. -/
theorem wrap_nil (p : ByteArray) (a : Int) (w : World) : Calls Tryz.prog 66 #[.nilIface, .string p, .int .i64 a] w fun e w' => e = .returned .nilIface ∧ w' = w := by
  go_enter Tryz.func66, Tryz.ntmps66
  go_wp2
  go_ret
  exact ⟨rfl, rfl⟩
set_option maxHeartbeats 1000000 in
/-- fail.Wrap of an error that is there: a new *fail.Error around it. -/
theorem wrap_some (sa : Addr) (last : Value) (l : List Node) (t : TypeId) (x : Value) (p : ByteArray) (a : Int) (w : World) (hE : Env sa w) (hl : IsLast sa last) (h : Chain w last l (.iface t x)) :
    Calls Tryz.prog 66 #[.iface t x, .string p, .int .i64 a] w fun e w' => ∃ b, e = .returned (errOf b) ∧ w.heap.size ≤ b ∧ Fr [] w w' ∧ Chain w' last (⟨b, codeOf last l, p, a⟩ :: l) (errOf b) := by
  have HE : Hid (Env sa w) := hE
  have HL : Hid (IsLast sa last) := hl
  have HC : Hid (Chain w last l (.iface t x)) := h
  clear hE hl h
  go_enter Tryz.func66, Tryz.ntmps66
  go_wp2_with fail
  refine (code_chain sa last l _ _ HE.out HL.out HC.out).mono ?_
  rintro e w1 ⟨rfl, f1⟩
  go_wp2_with fail
  go_ret
  have hz := f1.size
  refine ⟨w1.heap.size, rfl, hz, f1.alloc _, rfl, fun m hm => Nat.lt_of_lt_of_le (HC.out.lt m hm) hz, .iface t x, ?_, (HC.out.kept0 f1).kept0 ((Fr.refl [] w1).alloc _)⟩
  exact heap_alloc_new w1 _
end Go.Proofs.YtkphonepblkcdaaGreatDoor
