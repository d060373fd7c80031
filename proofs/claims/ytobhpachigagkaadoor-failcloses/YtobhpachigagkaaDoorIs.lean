/-
  errors.Is of a chain and the sentinel: true just if the sentinel is at the chain's end; memory stays as it was.
-/
import Derived.Test.YtobhpachigagkaaDoorChain
import Derived.Deep.LoopGhost
namespace Go.Proofs.YtobhpachigagkaaDoor
open Go.RowKit Go.Extern.Stop Go.Stop Go.Extern Mem
set_option linter.unusedVariables false

theorem Tryd.isTypeOf (v : Value) (w : World) : (Extern.ReflectliteType.typeOf #[.iface 121 v]).run Tryd.prog w = .ok (.iface 89 (.agg #[.pointer (some ⟨5, 121, none⟩)])) w := by kernel_rfl
/-- The model's entry for (rtype).Comparable. -/
def cmpEntry : Array Value → Sem Value := Extern.ReflectliteType.method fun t => do Extern.Rtype.noPackHeld "Comparable" t; pure (.bool (← typeInfo t).comparable)
theorem Tryd.isComparable (w : World) : (cmpEntry #[.agg #[.pointer (some ⟨5, 121, none⟩)]]).run Tryd.prog w = .ok (.bool true) w := by kernel_rfl
theorem Tryd.isMethodComparable (v : Value) (w : World) : (Go.method 252 89 v "Comparable").run Tryd.prog w = .ok (81, v) w := by kernel_rfl
theorem Tryd.isComp : (Tryd.prog.info? 121).map (·.comparable) = some true := by kernel_rfl
theorem Tryd.isSize : (Tryd.prog.info? 140).map (·.size) = some 1 := by kernel_rfl
theorem Tryd.noIsS (v : Value) (xT : TypeId) (w : World) : (Instr.typeAssert (.iface 121 v) xT 91 true).run Tryd.prog w = .ok (.tuple #[.nilIface, .bool false]) w := run_typeAssert_lacksB Tryd.underlying91 (by kernel_rfl) (by kernel_rfl) v xT w
theorem Tryd.noIsE (v : Value) (xT : TypeId) (w : World) : (Instr.typeAssert (.iface 50 v) xT 91 true).run Tryd.prog w = .ok (.tuple #[.nilIface, .bool false]) w := run_typeAssert_lacksB Tryd.underlying91 (by kernel_rfl) (by kernel_rfl) v xT w
theorem Tryd.hasUnwrapE (v : Value) (xT : TypeId) (w : World) : (Instr.typeAssert (.iface 50 v) xT 93 true).run Tryd.prog w = .ok (.tuple #[.iface 50 v, .bool true]) w := run_typeAssert_hasB Tryd.underlying93 (by kernel_rfl) v xT w
theorem Tryd.methodUnwrapE (v : Value) (w : World) : (Go.method 252 50 v "Unwrap").run Tryd.prog w = .ok (19, v) w := by kernel_rfl

/-- (*fail.Error).Unwrap of one that is there: what is within it. -/
theorem unwrap_node (b : Nat) (c0 c1 c2 u : Value) (w : World) (h : w.heap[b]? = some (.cells #[c0, c1, c2, u] 54 (0, 0))) :
    Calls Tryd.prog 19 #[.pointer (some ⟨b, 0, none⟩)] w fun e w' => e = .returned u ∧ w' = w := by
  have hc : w.cell? ⟨b, 3, none⟩ = some u := by rw [cell_at h]; rfl
  clear h
  go_enter Tryd.func19, Tryd.ntmps19
  go_wp2
  go_ret
  exact ⟨rfl, rfl⟩

/-- Is the sentinel at the chain's end? -/
def endsB : Value → Bool
  | .nilIface => false
  | _ => true

/-- What errors.is begins with: a *fail.Error, or the sentinel. -/
def Begins (w : World) (sa : Addr) (last : Value) (k : Nat) (v : Value) : Prop :=
  (∃ n r, r.length < k ∧ Chain w last (n :: r) v) ∨ (v = sentOf sa ∧ last = sentOf sa)

set_option maxHeartbeats 2000000 in
theorem is_in (sa : Addr) (last v : Value) (k : Nat) (w : World) (hl : IsLast sa last) (h : Begins w sa last k v) :
    Calls Tryd.prog 35 #[v, sentOf sa, .bool true] w fun e w' => e = .returned (.bool (endsB last)) ∧ w' = w := by
  obtain ⟨i, hi, hcmp⟩ := Option.map_eq_some_iff.1 Tryd.isComp
  obtain ⟨j, hj, hjs⟩ := Option.map_eq_some_iff.1 Tryd.isSize
  have nS := Tryd.noIsS
  have nE := Tryd.noIsE
  have uE := Tryd.hasUnwrapE
  have mU := Tryd.methodUnwrapE
  have HL : Hid (IsLast sa last) := hl
  have HB : Hid (Begins w sa last k v) := h
  clear hl h
  generalize hres : endsB last = res
  have HR : Hid ((endsB last) = res) := hres
  clear hres
  unfold sentOf
  go_enter Tryd.func35, Tryd.ntmps35
  go_wp2
  go_loopg [0] k (fun k v wr => wr = w ∧ Begins w sa last k v)
  case atStart => exact ⟨rfl, HB.out⟩
  case round =>
    obtain ⟨rfl, hb⟩ := hrel
    have heq := run_eql_iface_ptr_same (P := Tryd.prog) wr sa Tryd.underlying27 Tryd.underlying121 hi hcmp hj
    rcases hb with ⟨n, r, hk, hv, -, u, hu, hc⟩ | ⟨hv, hs⟩
    · unfold errOf at hv
      subst hv
      have hty := run_eql_iface_types (P := Tryd.prog) 50 121 (.pointer (some ⟨n.b, 0, none⟩)) (.pointer (some sa)) Tryd.underlying27 (by decide) wr
      have HU : Hid _ := hu
      have HC : Hid _ := hc
      clear hu hc
      rcases r with _ | ⟨m, r⟩
      · have e1 : u = last := HC.out
        rcases HL.out with e2 | e2
        · rw [e2] at e1
          subst e1
          rw [e2] at HR
          go_wp2_with fail
          refine (unwrap_node n.b _ _ _ _ _ HU.out).mono ?_
          rintro e w' ⟨rfl, rfl⟩
          go_wp2_with fail
          go_ret
          exact ⟨by rw [← HR.out]; rfl, rfl⟩
        · rw [e2] at e1
          subst e1
          go_wp2_with fail
          refine (unwrap_node n.b _ _ _ _ _ HU.out).mono ?_
          rintro e w' ⟨rfl, rfl⟩
          unfold sentOf
          go_wp2_with fail
          go_roundg 0
          case measure => omega
          case rel => exact ⟨rfl, .inr ⟨rfl, e2⟩⟩
      · have e1 : u = errOf m.b := HC.out.1
        subst e1
        go_wp2_with fail
        refine (unwrap_node n.b _ _ _ _ _ HU.out).mono ?_
        rintro e w' ⟨rfl, rfl⟩
        unfold errOf
        go_wp2_with fail
        go_roundg (gk - 1)
        case measure => simp at hk; omega
        case rel => exact ⟨rfl, .inl ⟨m, r, by simp at hk; omega, HC.out⟩⟩
    · subst hv
      unfold sentOf
      go_wp2
      go_ret
      refine ⟨?_, rfl⟩
      rw [hs] at HR
      rw [← HR.out]
      rfl

theorem is_nil (sa : Addr) (w : World) :
    Calls Tryd.prog 26 #[.nilIface, sentOf sa] w fun e w' => e = .returned (.bool false) ∧ w' = w := by
  have hn := run_eql_iface_nil_left (P := Tryd.prog) w 121 (.pointer (some sa)) Tryd.underlying27
  unfold sentOf
  go_enter Tryd.func26, Tryd.ntmps26
  go_wp2
  go_ret
  exact ⟨rfl, rfl⟩

set_option maxHeartbeats 1000000 in
theorem is_some (sa : Addr) (last : Value) (k : Nat) (t : TypeId) (p : Value) (w : World) (hl : IsLast sa last) (h : Begins w sa last k (.iface t p)) :
    Calls Tryd.prog 26 #[.iface t p, sentOf sa] w fun e w' => e = .returned (.bool (endsB last)) ∧ w' = w := by
  have h8 := @run_callFunc_extern Tryd.prog 34 _ Extern.ReflectliteType.typeOf Tryd.func34 (by kernel_rfl) (by kernel_rfl) (by kernel_rfl) (by kernel_rfl)
  have h32 := @run_callFunc_extern Tryd.prog 81 _ cmpEntry Tryd.func81 (by kernel_rfl) (by kernel_rfl) (by kernel_rfl) (by kernel_rfl)
  have tT := Tryd.isTypeOf
  have cT := Tryd.isComparable
  have mR := Tryd.isMethodComparable
  have HL : Hid (IsLast sa last) := hl
  have HB : Hid (Begins w sa last k (.iface t p)) := h
  clear hl h
  unfold sentOf
  go_enter Tryd.func26, Tryd.ntmps26
  go_wp2_with fail
  refine (is_in sa last _ k w HL.out HB.out).mono ?_
  rintro e w' ⟨rfl, rfl⟩
  go_wp2_with fail
  go_ret
  exact ⟨rfl, rfl⟩

/-- errors.Is over a chain. -/
theorem is_chain (sa : Addr) (last : Value) (l : List Node) (v : Value) (w : World) (hl : IsLast sa last) (h : Chain w last l v) :
    Calls Tryd.prog 26 #[v, sentOf sa] w fun e w' => e = .returned (.bool (endsB last)) ∧ w' = w := by
  rcases l with _ | ⟨n, r⟩
  · have : v = last := h
    subst this
    rcases hl with rfl | rfl
    · exact is_nil sa w
    · exact is_some sa (sentOf sa) 0 _ _ w (.inr rfl) (.inr ⟨rfl, rfl⟩)
  · obtain ⟨hv, -⟩ := id h
    subst hv
    refine (is_some sa last (r.length + 1) _ _ w hl (.inl ⟨n, r, by omega, h⟩)).mono ?_
    rintro e w' ⟨rfl, rfl⟩
    exact ⟨rfl, rfl⟩
end Go.Proofs.YtobhpachigagkaaDoor
