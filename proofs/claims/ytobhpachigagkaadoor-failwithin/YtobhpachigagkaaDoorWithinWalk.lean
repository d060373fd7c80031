/-
  FailWithin's walk: within a wrapped error is the one that was wrapped.
-/
import Derived.Test.YtobhpachigagkaaDoorWrapsMore
import Derived.Lib.SmallJoins
namespace Go.Proofs.YtobhpachigagkaaDoor
open Go.RowKit Go.Extern.Stop Go.Stop Go.Extern Mem
open Go.ChangeShapes Go.WideShapes Go.ChangeAt Go.Joins
set_option linter.unusedSimpArgs false
set_option linter.unusedVariables false
set_option maxRecDepth 100000

/-- The law's argument. -/
structure Wn where
  c : Int
  a : Option Addr
  len : Nat
  cap : Nat
  z : List Wp
  p : ByteArray
  n : Int
def Wn.val (x : Wn) : Value := .agg #[.int .i64 x.c, .slice x.a x.len x.cap, .string x.p, .int .i64 x.n]
def WnOk (w : World) (x : Wn) : Prop := IsWraps w x.a x.len x.cap x.z ∧ x.p.size ≤ 9223372036854775807 ∧ (Lit.int .i64 x.c).wf = true ∧ (Lit.int .i64 x.n).wf = true

theorem within_of {H : Type} {enc : TypeId × Value → H} {W : World} {base b0 : Nat} {r : Reach} {v : Value} {d : DataW H} {p : List MemPlace}
    (hv : Value.okWide Tryd.prog W r b0 49 v) (h : DataW.Trod enc Tryd.prog W base (fun _ => true) true 49 v d p) : ∃ x : Wn, v = x.val ∧ WnOk W x := by
  obtain ⟨v0, v1, v2, v3, y0, y1, y2, y3, m, rfl, _, _, h0, h1, h2, h3⟩ := open_agg4 Tryd.underlying49 (by kernel_rfl) (by kernel_rfl) hv h
  obtain ⟨c, e0, _, w0⟩ := DataW.trod_int Tryd.underlying22 h0
  obtain ⟨s, e2, _, w2⟩ := DataW.trod_string Tryd.underlying9 h2
  obtain ⟨n, e3, _, w3⟩ := DataW.trod_int Tryd.underlying3 h3
  simp at e0 e2 e3
  subst e0 e2 e3
  obtain ⟨a, len, cap, e1⟩ := slice_form Tryd.underlying23 h1
  simp at e1
  subst e1
  have h1' : DataW.Trod enc Tryd.prog W base (fun _ => true) true 23 (.slice a len cap) y1.1 y1.2 := ⟨m, by simpa [Value.cells] using h1⟩
  obtain ⟨z, hz⟩ := wraps_of h1'
  exact ⟨⟨c, a, len, cap, z, s, n⟩, rfl, hz, w2, w0, w3⟩

/-- An error that is a *fail.Error, asked for it. -/
theorem assertE (p : Value) (w : World) : (Instr.typeAssert (.iface 50 p) 27 50 true).run Tryd.prog w = .ok (.tuple #[p, .bool true]) w := by kernel_rfl

set_option maxHeartbeats 8000000 in
theorem within_walk (c : Int) (a : Option Addr) (len cap : Nat) (z : List Wp) (place : ByteArray) (n : Int) (sa : Addr) (w : World) (hE : Env sa w) (hw : 5 ≤ w.heap.size) (hz : IsWraps w a len cap z) (hplace : place.size ≤ 9223372036854775807)
    (c0 : -9223372036854775808 ≤ c) (c1 : c ≤ 9223372036854775807) (n0 : -9223372036854775808 ≤ n) (n1 : n ≤ 9223372036854775807) :
    Calls Tryd.prog 5 #[.agg #[.int .i64 c, .slice a len cap, .string place, .int .i64 n]] w fun e w' => LawPost w e w' := by
  have HE : Hid (∀ {w'}, Fr [] w w' → Env sa w') := fun f => hE.kept0 f
  have HG : Hid (∀ {w'}, Fr [] w w' → 5 ≤ w'.heap.size) := fun f => Nat.le_trans hw f.size
  have HZ : Hid (IsWraps w a len cap z) := hz
  have hlm := hz.2.1
  have HOK : Hid (∀ x ∈ z, WpOk x) := hz.2.2.1
  have HZL : Hid (z.length = len) := hz.1
  clear hE hw hz
  go_enter Tryd.func5, Tryd.ntmps5
  go_wp2
  go_quiet (fail)
  have F0 : Hid (Fr [] w ((w.alloc (.cells #[.int .i64 c, .slice a len cap, .string place, .int .i64 n] 49)).drewN nq)) := ((Fr.refl [] w).alloc _).drewN nq
  generalize (w.alloc (.cells #[.int .i64 c, .slice a len cap, .string place, .int .i64 n] 49)).drewN nq = w0 at *
  go_wp2_with fail
  refine (small_any a len cap z w0 (HZ.out.kept F0.out)).mono ?_
  rintro e w1 ⟨r, rfl, f1, hr⟩
  have F1 : Hid (Fr [] w w1) := F0.out.trans f1 (by simp)
  have HR : Hid (r = true → len ≤ 30 ∧ ∀ x ∈ z, x.1.size ≤ 50) := hr
  clear f1 hr
  cases r
  · go_wp2_with fail
    refine (awake_any sa _ (HE.out F1.out) (HG.out F1.out)).mono ?_
    rintro e w2 ⟨rfl, f2⟩
    go_wp2_with fail
    go_ret
    exact ⟨rfl, F1.out.trans f2 (by simp)⟩
  · obtain ⟨hl30, hz50⟩ := HR.out rfl
    have HZ50 : Hid (∀ x ∈ z, x.1.size ≤ 50) := hz50
    clear hz50 HR
    by_cases hc : c = 0
    · have hcb : (c == 0) = true := by simpa using hc
      go_wp2_with fail
      refine (awake_any sa _ (HE.out F1.out) (HG.out F1.out)).mono ?_
      rintro e w2 ⟨rfl, f2⟩
      go_wp2_with fail
      go_ret
      exact ⟨rfl, F1.out.trans f2 (by simp)⟩
    · have hcb : (c == 0) = false := by simpa using hc
      by_cases hn : 50 < (place.size : Int)
      · go_wp2_with fail
        refine (awake_any sa _ (HE.out F1.out) (HG.out F1.out)).mono ?_
        rintro e w2 ⟨rfl, f2⟩
        go_wp2_with fail
        go_ret
        exact ⟨rfl, F1.out.trans f2 (by simp)⟩
      · have hnd : decide (50 < (place.size : Int)) = false := decide_eq_false hn
        go_wp2_with fail
        refine (new_code c _ hc).mono ?_
        rintro e w2 ⟨rfl, hw2⟩
        have F2 : Hid (Fr [] w w2) := by rw [Hid, hw2]; exact F1.out.alloc _
        have B2 : Hid (Built c (newBase c) .nilIface z 0 w2 (errOf w1.heap.size)) := by
          rw [Hid, hw2]
          exact ⟨_, new_chain c w1, rfl⟩
        clear hw2
        go_wp2_with fail
        go_loopw [7, 40] (fun v i wr => ∃ k : Nat, k ≤ len ∧ i = .int .i64 (k : Int) ∧ Built c (newBase c) .nilIface z k wr v ∧ Fr [] w wr) (fun _ i _ => len - (intOf i).toNat)
        case atStart => exact ⟨0, by omega, rfl, B2.out, F2.out⟩
        case round =>
          obtain ⟨k, hk, rfl, hb, hf⟩ := hrel
          have HF : Hid (Fr [] w wr) := hf
          have HB : Hid (Built c (newBase c) .nilIface z k wr u7) := hb
          obtain ⟨bb, rfl⟩ := hb.iface
          clear hf hb
          unfold errOf
          by_cases hlt : k < len
          · obtain ⟨hzl, -, -, b, off, ha, hcc⟩ := HZ.out.kept HF.out
            obtain rfl := ha (by omega)
            have hkz : k < z.length := by rw [hzl]; exact hlt
            have k0 := (hcc k hkz).1
            have k1 := (hcc k hkz).2
            clear ha hcc hzl
            go_wp2_with fail
            refine (built_step sa z k hkz (.inl ⟨_, _, [], rfl⟩) _ _ _ (HE.out (HF.out.alloc _)) (.inl rfl) (HB.out.kept ((Fr.refl [] wr).alloc _))).mono ?_
            rintro e w3 ⟨b3, rfl, f3, hb3⟩
            have HB3 : Hid (Built c (newBase c) .nilIface z (k + 1) w3 (errOf b3)) := hb3
            have HF3 : Hid (Fr [] w w3) := (HF.out.alloc _).trans f3 (by simp)
            clear f3 hb3
            go_wp2_with fail
            go_roundw
            case rel => exact ⟨k + 1, by omega, by go_num, HB3.out, HF3.out⟩
            case measure => simp [intOf]; omega
          · have hkl : k = len := by omega
            obtain ⟨l, hch, hwh⟩ := HB.out.whole place (by rw [HZL.out]; exact hkl) (by rw [HZL.out]; exact hl30) HZ50.out HOK.out c0 c1
            have HC : Hid (∀ {w'}, Fr [] wr w' → Chain w' .nilIface l (errOf bb)) := fun f => hch.kept0 f
            have HW : Hid (Whole c z place l) := hwh
            have HN : Hid (∀ {w'}, Fr [] wr w' → Fr [] w w') := fun f => HF.out.trans f (by simp)
            clear hch hwh HZ
            have HR0 : Hid (Fr [] wr wr) := Fr.refl _ _
            have hzl30 : Hid (z.length ≤ 30) := by rw [Hid, HZL.out]; exact hl30
            go_wp2_with fail
            refine (wrap_some sa .nilIface l _ _ place n _ (HE.out HF.out) (.inl rfl) (HC.out HR0.out)).mono ?_
            rintro e w3 ⟨b3, rfl, -, f3, hc3⟩
            rw [HW.out.code] at hc3
            have R3 : Hid (Fr [] wr w3) := f3
            have HC3 : Hid (Chain w3 .nilIface (⟨b3, c, place, n⟩ :: l) (errOf b3)) := hc3
            clear f3 hc3
            unfold errOf
            obtain ⟨-, -, u3, hu3, hcu⟩ := HC3.out
            have hu : u3 = errOf bb := by
              obtain ⟨m, r, hm⟩ : ∃ m r, l = m :: r := by
                have := HW.out.len
                rcases l with _ | ⟨m, r⟩
                · simp at this
                · exact ⟨m, r, rfl⟩
              have h1 : Chain wr .nilIface l (errOf bb) := HC.out HR0.out
              subst hm
              rw [hcu.1, h1.1]
            subst hu
            have d0 : w3.cell? ⟨b3, 0, none⟩ = some (.int .i64 c) := by rw [cell_at hu3]; rfl
            have d1 : w3.cell? ⟨b3, 1, none⟩ = some (.string place) := by rw [cell_at hu3]; rfl
            have d2 : w3.cell? ⟨b3, 2, none⟩ = some (.int .i64 n) := by rw [cell_at hu3]; rfl
            have HU3 : Hid (w3.heap[b3]? = some (.cells #[.int .i64 c, .string place, .int .i64 n, errOf bb] 54 (0, 0))) := hu3
            clear hu3 hcu
            have hAE := assertE
            go_wp2_with fail
            refine (unwrap_node b3 _ _ _ _ _ HU3.out).mono ?_
            rintro e w4 ⟨rfl, rfl⟩
            unfold errOf
            go_wp2_with fail
            obtain ⟨m, r, hm⟩ : ∃ m r, l = m :: r := by
              have := HW.out.len
              rcases l with _ | ⟨m, r⟩
              · simp at this
              · exact ⟨m, r, rfl⟩
            have hbm : bb = m.b := by
              have h1 : Chain wr .nilIface l (errOf bb) := HC.out HR0.out
              rw [hm] at h1
              have h2 := h1.1
              unfold errOf at h2
              simpa using h2
            subst hm
            subst hbm
            refine (error_chain sa .nilIface m r _ (HE.out (HN.out R3.out)) (.inl rfl) (HC.out R3.out) HW.out.fits (HG.out (HN.out R3.out))).mono ?_
            rintro e w5 ⟨rfl, f5⟩
            have R5 : Hid (Fr [] wr w5) := R3.out.trans f5 (by simp)
            clear f5
            go_wp2_with fail
            refine (text_chain sa .nilIface (m :: r) _ _ _ (HE.out (HN.out R5.out)) (.inl rfl) (HC.out R5.out) HW.out.fits (HG.out (HN.out R5.out))).mono ?_
            rintro e w6 ⟨rfl, f6⟩
            have R6 : Hid (Fr [] wr w6) := R5.out.trans f6 (by simp)
            clear f6
            go_wp2_with fail
            refine (text_chain sa .nilIface (m :: r) _ _ _ (HE.out (HN.out R6.out)) (.inl rfl) (HC.out R6.out) HW.out.fits (HG.out (HN.out R6.out))).mono ?_
            rintro e w7 ⟨rfl, f7⟩
            have R7 : Hid (Fr [] wr w7) := R6.out.trans f7 (by simp)
            clear f7
            go_wp2_with fail
            refine (text_chain sa .nilIface (m :: r) _ _ _ (HE.out (HN.out R7.out)) (.inl rfl) (HC.out R7.out) HW.out.fits (HG.out (HN.out R7.out))).mono ?_
            rintro e w8 ⟨rfl, f8⟩
            have R8 : Hid (Fr [] wr w8) := R7.out.trans f8 (by simp)
            clear f8
            generalize textOf .nilIface (m :: r) = T
            go_wp2_with fail
            refine (depth_chain sa .nilIface (m :: r) _ _ (HE.out (HN.out R8.out)) (.inl rfl) (HC.out R8.out) (by rw [HW.out.len]; have := hzl30.out; omega) (HG.out (HN.out R8.out))).mono ?_
            rintro e w9 ⟨rfl, f9⟩
            have R9 : Hid (Fr [] wr w9) := R8.out.trans f9 (by simp)
            clear f9
            rw [HW.out.len, HZL.out, show ((len + 1 : Nat) : Int) = (len : Int) + 1 from by omega]
            go_wp2_with fail
            refine (awake_any sa _ (HE.out (HN.out R9.out)) (HG.out (HN.out R9.out))).mono ?_
            rintro e w14 ⟨rfl, f14⟩
            go_wp2_with fail
            go_ret
            exact ⟨rfl, (HN.out R9.out).trans f14 (by simp)⟩

/-- FailWithin, whatever the input. -/
theorem within_law (x : Wn) (sa : Addr) (w : World) (hE : Env sa w) (hw : 5 ≤ w.heap.size) (h : WnOk w x) :
    Calls Tryd.prog 5 #[x.val] w fun e w' => LawPost w e w' :=
  within_walk x.c x.a x.len x.cap x.z x.p x.n sa w hE hw h.1 h.2.1 (i64_of h.2.2.1).1 (i64_of h.2.2.1).2 (i64_of h.2.2.2).1 (i64_of h.2.2.2).2
end Go.Proofs.YtobhpachigagkaaDoor
