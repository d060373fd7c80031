/-
  The statements' fixed answer of layer 2 (tidepolelaw02.awake) is true, and leaves memory as it was.
-/
import Derived.Test.YtobhpachigagkaaDoorText
import Derived.Test.YtobhpachigagkaaDoorRefText
namespace Go.Proofs.YtobhpachigagkaaDoor
open Go.RowKit Go.Extern.Stop Go.Stop Go.Extern Mem
set_option linter.unusedSimpArgs false
set_option linter.unusedVariables false
set_option maxRecDepth 100000

theorem new_chain (c : Int) (w : World) : Chain (w.alloc (.cells #[.int .i64 c, .string ByteArray.empty, .int .i64 0, .nilIface] 54)) .nilIface [⟨w.heap.size, c, ByteArray.empty, 0⟩] (errOf w.heap.size) :=
  ⟨rfl, by simp, .nilIface, heap_alloc_new w _, rfl⟩

set_option maxHeartbeats 4000000 in
theorem awake_any (sa : Addr) (w : World) (hE : Env sa w) (hw : 5 ≤ w.heap.size) : Calls Tryd.prog 7 #[] w fun e w' => e = .returned (.bool true) ∧ Fr [] w w' := by
  have HE : Hid (Env sa w) := hE
  clear hE
  go_enter Tryd.func7, Tryd.ntmps7
  go_wp2_with fail
  refine (new_code 10 w (by decide)).mono ?_
  rintro e w1 ⟨rfl, hw1⟩
  have C1 : Hid (Chain w1 .nilIface [⟨w.heap.size, 10, ByteArray.empty, 0⟩] (errOf w.heap.size)) := by rw [Hid, hw1]; exact new_chain 10 w
  have F1 : Hid (Fr [] w w1) := by rw [Hid, hw1]; exact (Fr.refl [] w).alloc _
  clear hw1
  unfold errOf
  go_wp2_with fail
  refine (wrap_some sa .nilIface _ _ _ _ _ _ (HE.out.kept0 F1.out) (.inl rfl) C1.out).mono ?_
  rintro e w2 ⟨b, rfl, hb, f2, c2⟩
  have F2 : Hid (Fr [] w w2) := F1.out.trans f2 (by simp)
  have C2 : Hid (Chain w2 .nilIface [⟨b, 10, ⟨#[99, 104, 117, 110, 107]⟩, 3⟩, ⟨w.heap.size, 10, ByteArray.empty, 0⟩] (errOf b)) := c2
  clear f2 c2 hb
  have HG : ∀ {w' : World}, Fr [] w w' → 5 ≤ w'.heap.size := fun f => Nat.le_trans hw f.size
  have HGG : Hid (∀ {w' : World}, Fr [] w w' → 5 ≤ w'.heap.size) := HG
  clear HG
  unfold errOf
  go_wp2_with fail
  refine (at_chain sa .nilIface _ _ _ _ (HE.out.kept0 F2.out) (.inl rfl) C2.out (HGG.out F2.out)).mono ?_
  rintro e w3 ⟨rfl, f3⟩
  have F3 : Hid (Fr [] w w3) := F2.out.trans f3 (by simp)
  have C3 : Hid (Chain w3 .nilIface [⟨b, 10, ⟨#[99, 104, 117, 110, 107]⟩, 3⟩, ⟨w.heap.size, 10, ByteArray.empty, 0⟩] (errOf b)) := C2.out.kept0 f3
  clear f3
  rw [show atRes ⟨#[99, 104, 117, 110, 107]⟩ [⟨b, 10, ⟨#[99, 104, 117, 110, 107]⟩, 3⟩, ⟨w.heap.size, 10, ByteArray.empty, 0⟩] = .tuple #[.int .i64 3, .bool true] from by simp [atRes, atOf]]
  go_wp2_with fail
  refine (code_chain sa .nilIface _ _ _ (HE.out.kept0 F3.out) (.inl rfl) C3.out).mono ?_
  rintro e w4 ⟨rfl, f4⟩
  have F4 : Hid (Fr [] w w4) := F3.out.trans f4 (by simp)
  have C4 : Hid (Chain w4 .nilIface [⟨b, 10, ⟨#[99, 104, 117, 110, 107]⟩, 3⟩, ⟨w.heap.size, 10, ByteArray.empty, 0⟩] (errOf b)) := C3.out.kept0 f4
  clear f4
  simp only [codeOf]
  go_wp2_with fail
  refine (depth_chain sa .nilIface _ _ _ (HE.out.kept0 F4.out) (.inl rfl) C4.out (by simp) (HGG.out F4.out)).mono ?_
  rintro e w5 ⟨rfl, f5⟩
  have F5 : Hid (Fr [] w w5) := F4.out.trans f5 (by simp)
  have C5 : Hid (Chain w5 .nilIface [⟨b, 10, ⟨#[99, 104, 117, 110, 107]⟩, 3⟩, ⟨w.heap.size, 10, ByteArray.empty, 0⟩] (errOf b)) := C4.out.kept0 f5
  clear f5
  simp only [List.length_cons, List.length_nil]
  go_wp2_with fail
  refine (closed_chain sa .nilIface _ _ _ (HE.out.kept0 F5.out) (.inl rfl) C5.out).mono ?_
  rintro e w6 ⟨rfl, f6⟩
  have F6 : Hid (Fr [] w w6) := F5.out.trans f6 (by simp)
  clear f6
  rw [show endsB Value.nilIface = false from rfl]
  have hs6 := (HE.out.kept0 F6.out).sent
  unfold sentOf at hs6
  go_wp2_with fail
  refine (wrap_some sa (sentOf sa) [] _ _ _ _ _ (HE.out.kept0 F6.out) (.inr rfl) rfl).mono ?_
  rintro e w7 ⟨b7, rfl, -, f7, c7⟩
  have F7 : Hid (Fr [] w w7) := F6.out.trans f7 (by simp)
  have C7 : Hid (Chain w7 (sentOf sa) [⟨b7, codeOf (sentOf sa) [], ⟨#[97]⟩, 1⟩] (errOf b7)) := c7
  clear f7 c7
  unfold errOf
  go_wp2_with fail
  refine (closed_chain sa (sentOf sa) _ _ _ (HE.out.kept0 F7.out) (.inr rfl) C7.out).mono ?_
  rintro e w8 ⟨rfl, f8⟩
  have F8 : Hid (Fr [] w w8) := F7.out.trans f8 (by simp)
  clear f8
  rw [show endsB (sentOf sa) = true from rfl]
  go_wp2_with fail
  refine (code_nil w8).mono ?_
  rintro e w9 ⟨rfl, rfl⟩
  go_wp2_with fail
  go_ret
  exact ⟨rfl, F8.out⟩
end Go.Proofs.YtobhpachigagkaaDoor
