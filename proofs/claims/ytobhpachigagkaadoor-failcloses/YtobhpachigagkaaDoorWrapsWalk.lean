/-
  FailWraps' walk: an error that is wrapped again and again has its code, all its places, and their text.
-/
import Derived.Test.YtobhpachigagkaaDoorBuilt
namespace Go.Proofs.YtobhpachigagkaaDoor
open Go.RowKit Go.Extern.Stop Go.Stop Go.Extern Mem
set_option linter.unusedSimpArgs false
set_option linter.unusedVariables false
set_option maxRecDepth 100000

/-- What the walk says of a law. -/
def LawPost (w : World) (e : Ending) (w' : World) : Prop := e = .returned (.bool true) ∧ Fr [] w w'

set_option maxHeartbeats 4000000 in
theorem wraps_zero (a : Option Addr) (len cap : Nat) (z : List Wp) (name : ByteArray) (sa : Addr) (w : World) (hE : Env sa w) (hw : 5 ≤ w.heap.size) (hz : IsWraps w a len cap z) (hname : name.size ≤ 9223372036854775807) :
    Calls Tryd.prog 3 #[.int .i64 0, .slice a len cap, .string name] w fun e w' => LawPost w e w' := by
  have HE : Hid (∀ {w'}, Fr [] w w' → Env sa w') := fun f => hE.kept0 f
  have HG : Hid (∀ {w'}, Fr [] w w' → 5 ≤ w'.heap.size) := fun f => Nat.le_trans hw f.size
  have HZ : Hid (IsWraps w a len cap z) := hz
  have hlm := hz.2.1
  clear hE hw hz
  go_enter Tryd.func3, Tryd.ntmps3
  go_wp2_with fail
  refine (small_any a len cap z w HZ.out).mono ?_
  rintro e w1 ⟨r, rfl, f1, hr⟩
  have F1 : Hid (Fr [] w w1) := f1
  have HR : Hid (r = true → len ≤ 30 ∧ ∀ x ∈ z, x.1.size ≤ 50) := hr
  clear f1 hr
  cases r
  · go_wp2_with fail
    refine (awake_any sa _ (HE.out F1.out) (HG.out F1.out)).mono ?_
    rintro e w2 ⟨rfl, f2⟩
    go_wp2_with fail
    go_ret
    exact ⟨rfl, F1.out.trans f2 (by simp)⟩
  · obtain ⟨hl30, hz50⟩ := HR.out rfl
    have HZ50 : Hid (∀ x ∈ z, x.1.size ≤ 50) := hz50
    clear hz50 HR
    by_cases hn : 50 < (name.size : Int)
    · go_wp2_with fail
      refine (awake_any sa _ (HE.out F1.out) (HG.out F1.out)).mono ?_
      rintro e w2 ⟨rfl, f2⟩
      go_wp2_with fail
      go_ret
      exact ⟨rfl, F1.out.trans f2 (by simp)⟩
    · have hnd : decide (50 < (name.size : Int)) = false := decide_eq_false hn
      go_wp2_with fail
      refine (new_nil _).mono ?_
      rintro e w2 ⟨rfl, rfl⟩
      go_wp2_with fail
      go_loopw [7, 27] (fun v i wr => ∃ k : Nat, k ≤ len ∧ i = .int .i64 (k : Int) ∧ v = .nilIface ∧ Fr [] w wr) (fun _ i _ => len - (intOf i).toNat)
      case atStart => exact ⟨0, by omega, rfl, rfl, F1.out⟩
      case round =>
        obtain ⟨k, hk, rfl, rfl, hf⟩ := hrel
        have HF : Hid (Fr [] w wr) := hf
        clear hf
        by_cases hlt : k < len
        · obtain ⟨hzl, -, -, b, off, ha, hc⟩ := HZ.out.kept HF.out
          obtain rfl := ha (by omega)
          have hkz : k < z.length := by rw [hzl]; exact hlt
          have c0 := (hc k hkz).1
          have c1 := (hc k hkz).2
          generalize z[k] = x at *
          obtain ⟨p, n⟩ := x
          simp only at c0 c1
          clear ha hc hzl
          go_wp2_with fail
          refine (wrap_nil _ _ _).mono ?_
          rintro e w3 ⟨rfl, rfl⟩
          go_wp2_with fail
          go_roundw
          case rel => exact ⟨k + 1, by omega, by go_num, rfl, HF.out.alloc _⟩
          case measure => simp [intOf]; omega
        · have hkl : k = len := by omega
          go_wp2_with fail
          refine (code_nil _).mono ?_
          rintro e w3 ⟨rfl, rfl⟩
          go_wp2_with fail
          refine (depth_chain sa .nilIface [] .nilIface _ (HE.out HF.out) (.inl rfl) rfl (by simp) (HG.out HF.out)).mono ?_
          rintro e w4 ⟨rfl, f4⟩
          simp only [List.length_nil]
          have F4 : Hid (Fr [] w w4) := HF.out.trans f4 (by simp)
          clear f4
          go_wp2_with fail
          refine (awake_any sa _ (HE.out F4.out) (HG.out F4.out)).mono ?_
          rintro e w5 ⟨rfl, f5⟩
          go_wp2_with fail
          go_ret
          exact ⟨rfl, F4.out.trans f5 (by simp)⟩
end Go.Proofs.YtobhpachigagkaaDoor
