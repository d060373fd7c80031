/-
  The document's own answers of layer 5 (package tidepoleref05): Put.
-/
import Derived.Test.YtjijbegoehpicaaDoorRef5
import Derived.Test.YtjijbegoehpicaaDoorXCost
import Derived.Deep.RegionHeld3
import Derived.Laws.Rows
import Derived.Laws.ResultCell
namespace Go.Proofs.YtjijbegoehpicaaDoor
open Go.RowKit Mem Bits Windows
set_option linter.unusedSimpArgs false
set_option linter.unusedVariables false

theorem txt_mid (t : List Bool) (a b : Nat) : (txt t).extract a (a + b) = txt ((t.drop a).take b) := by
  apply ByteArray.ext
  simp [txt, List.map_take, List.map_drop]

/-- A row's value, as the document has it. -/
abbrev rowv (s : XRow) : Value := .agg #[.int .u64 (s.last : Int), .int .i64 (s.n : Int), .int .i64 (s.a : Int), .int .i64 (s.b : Int)]
theorem Tryd.sizeOf32 : (Tryd.prog.info? 32).map (·.size) = some 4 := by kernel_rfl
theorem row_res {fn : Func} {p u : Tmp} (h : fn.results = #[.cell p 32, .tmp u]) (tmps : Array Value) (w : World) (g : Nat) (t : TypeId) (a b c d : Value) (fr : Nat × Nat)
    (hp : tmps.getD p undef = .pointer (some ⟨g, 0, none⟩)) (hg : w.heap[g]? = some (.cells #[a, b, c, d] t fr)) : (results fn tmps).run Tryd.prog w = .ok (.tuple #[.agg #[a, b, c, d], tmps.getD u undef]) w := by
  rw [results_cell_tmp h tmps, hp]
  have := run_loadVar_row (P := Tryd.prog) w g t 32 #[a, b, c, d] fr _ hg Tryd.underlying32 rfl Tryd.sizeOf32
  simp [asAddr, this]

/-- The world in which Put works: the row, the answer, the row then. -/
def putW (w : World) (s : XRow) (V : Nat) : World := ((w.alloc (.cells #[.int .u64 (s.last : Int), .int .i64 (s.n : Int), .int .i64 (s.a : Int), .int .i64 (s.b : Int)] 32)).alloc (.cells #[.int .u64 0, .int .i64 0, .int .i64 0, .int .i64 0] 32)).alloc (.cells #[.int .u64 (V : Int), .int .i64 ((s.n : Int) + 1), .int .i64 (s.a : Int), .int .i64 (s.b : Int)] 32)
/-- Four cells of a block. -/
def Four (w : World) (b : Nat) (v0 v1 v2 v3 : Value) : Prop := w.heap[b]? = some (.cells #[v0, v1, v2, v3] 32 (0, 0))
theorem Four.kept {w w' : World} {b : Nat} {v0 v1 v2 v3 : Value} {S : List Nat} (h : Four w b v0 v1 v2 v3) (f : Fr S w w') (hb : b ∉ S) : Four w' b v0 v1 v2 v3 := f.heap h hb
theorem Four.c0 {w : World} {b : Nat} {v0 v1 v2 v3 : Value} (h : Four w b v0 v1 v2 v3) : w.cell? ⟨b, 0, none⟩ = some v0 := by rw [cell_at h]; rfl
theorem Four.c1 {w : World} {b : Nat} {v0 v1 v2 v3 : Value} (h : Four w b v0 v1 v2 v3) : w.cell? ⟨b, 1, none⟩ = some v1 := by rw [cell_at h]; rfl
theorem Four.c2 {w : World} {b : Nat} {v0 v1 v2 v3 : Value} (h : Four w b v0 v1 v2 v3) : w.cell? ⟨b, 2, none⟩ = some v2 := by rw [cell_at h]; rfl
theorem Four.c3 {w : World} {b : Nat} {v0 v1 v2 v3 : Value} (h : Four w b v0 v1 v2 v3) : w.cell? ⟨b, 3, none⟩ = some v3 := by rw [cell_at h]; rfl
theorem Four.set {w : World} {b : Nat} {v0 v1 v2 v3 : Value} (h : Four w b v0 v1 v2 v3) (u0 u1 u2 u3 : Value) : Four ((((w.setCell ⟨b, 0, none⟩ u0).setCell ⟨b, 1, none⟩ u1).setCell ⟨b, 2, none⟩ u2).setCell ⟨b, 3, none⟩ u3) b u0 u1 u2 u3 := by
  unfold Four at h ⊢
  simp [World.setCell, Array.getElem?_modify, h]
theorem Four.set2 {w : World} {b : Nat} {v0 v1 v2 v3 : Value} (h : Four w b v0 v1 v2 v3) (u : Value) : Four (w.setCell ⟨b, 2, none⟩ u) b v0 v1 u v3 := by
  unfold Four at h ⊢
  simp [World.setCell, Array.getElem?_modify, h]
theorem Four.set3 {w : World} {b : Nat} {v0 v1 v2 v3 : Value} (h : Four w b v0 v1 v2 v3) (u : Value) : Four (w.setCell ⟨b, 3, none⟩ u) b v0 v1 v2 u := by
  unfold Four at h ⊢
  simp [World.setCell, Array.getElem?_modify, h]
theorem Four.drew {w : World} {b : Nat} {v0 v1 v2 v3 : Value} (h : Four w b v0 v1 v2 v3) : Four w.drew b v0 v1 v2 v3 := h
theorem Four.drewN {w : World} {b : Nat} {v0 v1 v2 v3 : Value} (h : Four w b v0 v1 v2 v3) (n : Nat) : Four (w.drewN n) b v0 v1 v2 v3 := h
theorem putW_is (w : World) (s : XRow) (V : Nat) : Fr [] w (putW w s V) ∧ Four (putW w s V) w.heap.size (.int .u64 (s.last : Int)) (.int .i64 (s.n : Int)) (.int .i64 (s.a : Int)) (.int .i64 (s.b : Int)) ∧ Four (putW w s V) (w.heap.size + 1) (.int .u64 0) (.int .i64 0) (.int .i64 0) (.int .i64 0)
    ∧ Four (putW w s V) (w.heap.size + 1 + 1) (.int .u64 (V : Int)) (.int .i64 ((s.n : Int) + 1)) (.int .i64 (s.a : Int)) (.int .i64 (s.b : Int)) := by
  refine ⟨(((Fr.refl _ _).alloc _).alloc _).alloc _, ?_, ?_, ?_⟩
  · exact ((Fr.refl [] _).alloc _).heap (((Fr.refl [] _).alloc _).heap (heap_alloc_new _ _) (by simp)) (by simp)
  · have := ((Fr.refl [] ((w.alloc (.cells #[.int .u64 (s.last : Int), .int .i64 (s.n : Int), .int .i64 (s.a : Int), .int .i64 (s.b : Int)] 32)).alloc (.cells #[.int .u64 0, .int .i64 0, .int .i64 0, .int .i64 0] 32))).alloc (.cells #[.int .u64 (V : Int), .int .i64 ((s.n : Int) + 1), .int .i64 (s.a : Int), .int .i64 (s.b : Int)] 32)).heap (heap_alloc_new _ _) (by simp)
    simpa [Four, putW] using this
  · have := heap_alloc_new ((w.alloc (.cells #[.int .u64 (s.last : Int), .int .i64 (s.n : Int), .int .i64 (s.a : Int), .int .i64 (s.b : Int)] 32)).alloc (.cells #[.int .u64 0, .int .i64 0, .int .i64 0, .int .i64 0] 32)) (.cells #[.int .u64 (V : Int), .int .i64 ((s.n : Int) + 1), .int .i64 (s.a : Int), .int .i64 (s.b : Int)] 32)
    simpa [Four, putW] using this

theorem sum_wraps {a b M : Nat} (h : M = a + b) (hM : M ≤ 1000) : wrap64 ((a : Int) + (b : Int)) = (M : Int) ∧ IntKind.i64.wrap ((a : Int) + (b : Int)) = (M : Int) ∧ (a : Int) + (b : Int) = (M : Int) := by
  refine ⟨by unfold wrap64; omega, by rw [IntKind.wrap_i64]; omega, by omega⟩

theorem heap_mid (w : World) (a b c : Obj) : (((w.alloc a).alloc b).alloc c).heap[w.heap.size + 1]? = some b := by
  have h1 : ((w.alloc a).alloc b).heap[w.heap.size + 1]? = some b := by simpa using heap_alloc_new (w.alloc a) b
  exact ((Fr.refl [] _).alloc _).heap h1 (by simp)

theorem diff_wraps {a b M : Nat} (h : (a : Int) - (b : Int) = (M : Int)) (hM : M ≤ 1000) : wrap64 ((a : Int) - (b : Int)) = (M : Int) ∧ IntKind.i64.wrap ((a : Int) - (b : Int)) = (M : Int) := by
  refine ⟨by unfold wrap64; omega, by rw [IntKind.wrap_i64]; omega⟩
theorem to_u64 {a : Nat} (h : a ≤ 1000) : IntKind.u64.wrap (a : Int) = (a : Int) := by rw [IntKind.wrap_u64]; omega

set_option maxRecDepth 100000 in
set_option maxHeartbeats 2000000 in
theorem rput_zero (s : XRow) (V : Nat) (w : World) (hs : s.ok) (h0 : s.n = 0) (hV : V < 18446744073709551616) :
    Calls Tryd.prog 10 #[rowv s, .int .u64 (V : Int)] w fun e w' => e = .returned (.tuple #[rowv ⟨V, s.n + 1, s.a, s.b⟩, .string (txt (numBits V 64))]) ∧ Fr [] w w' := by
  obtain ⟨D, hD⟩ : ∃ D, V ^^^ s.last = D := ⟨_, rfl⟩
  have hxo := xor_int hV hs.1 hD
  have hD64 : D < 18446744073709551616 := by rw [← hD]; exact xor_lt hV hs.1
  have d0 : ((s.n : Int) == 0) = true := beq_iff_eq.2 (by omega)
  have hn : s.n ≤ 1000000000 := by omega
  obtain ⟨hf, hX, hR, hY⟩ := putW_is w s V
  obtain ⟨w3, hw3⟩ : ∃ w3, putW w s V = w3 := ⟨_, rfl⟩
  rw [hw3] at hf hX hR hY
  have r0 := hR.c0
  have r1 := hR.c1
  have r2 := hR.c2
  have r3 := hR.c3
  have f0 := frozen_at hR 0
  have f1 := frozen_at hR 1
  have f2 := frozen_at hR 2
  have f3 := frozen_at hR 3
  have y0 := hY.c0
  have y1 := hY.c1
  have y2 := hY.c2
  have y3 := hY.c3
  have HX : Hid (Four w3 w.heap.size (.int .u64 (s.last : Int)) (.int .i64 (s.n : Int)) (.int .i64 (s.a : Int)) (.int .i64 (s.b : Int))) := hX
  have HR : Hid (Four w3 (w.heap.size + 1) (.int .u64 0) (.int .i64 0) (.int .i64 0) (.int .i64 0)) := hR
  have HF : Hid (Fr [] w w3) := hf
  have HW : Hid (putW w s V = w3) := hw3
  clear hs hX hR hY hf hw3 h0
  go_enter Tryd.func10, Tryd.ntmps10
  go_wp2_with fail
  refine (number_any D 64 _ hD64 (by omega)).mono ?_
  rintro e w1 ⟨rfl, rfl⟩
  go_wp2_with fail
  rw [show ((w.alloc (.cells #[.int .u64 (s.last : Int), .int .i64 (s.n : Int), .int .i64 (s.a : Int), .int .i64 (s.b : Int)] 32)).alloc (.cells #[.int .u64 0, .int .i64 0, .int .i64 0, .int .i64 0] 32)).alloc (.cells #[.int .u64 (V : Int), .int .i64 ((s.n : Int) + 1), .int .i64 (s.a : Int), .int .i64 (s.b : Int)] 32) = w3 from HW.out]
  clear HW
  go_region_with ((go_at_call 24; refine (number_any V 64 _ hV (by omega)).mono ?_; rintro e w4 ⟨rfl, rfl⟩))
  all_goals go_wp2_with fail
  all_goals refine bodyPost_ret (row_res rfl _ _ (w.heap.size + 1) 32 (.int .u64 (V : Int)) (.int .i64 ((s.n : Int) + 1)) (.int .i64 (s.a : Int)) (.int .i64 (s.b : Int)) (0, 0) rfl (by first | exact (HR.out.set _ _ _ _).drew | exact HR.out.drew.set _ _ _ _)) rfl ?_
  all_goals refine ⟨rfl, HF.out.trans (S' := [w.heap.size + 1]) ?_ (by simp)⟩
  all_goals first
    | exact (((((Fr.refl [w.heap.size + 1] w3).setCell _ _ (.inl (by simp))).setCell _ _ (.inl (by simp))).setCell _ _ (.inl (by simp))).setCell _ _ (.inl (by simp))).drew
    | exact (((((Fr.refl [w.heap.size + 1] w3).drew).setCell _ _ (.inl (by simp))).setCell _ _ (.inl (by simp))).setCell _ _ (.inl (by simp))).setCell _ _ (.inl (by simp))

set_option maxRecDepth 100000 in
set_option maxHeartbeats 2000000 in
theorem rput_same (s : XRow) (V : Nat) (w : World) (hs : s.ok) (h0 : s.n ≠ 0) (hn : s.n ≤ 1000000000) (hV : V < 18446744073709551616) (he : V = s.last) :
    Calls Tryd.prog 10 #[rowv s, .int .u64 (V : Int)] w fun e w' => e = .returned (.tuple #[rowv ⟨V, s.n + 1, s.a, s.b⟩, .string (txt [false])]) ∧ Fr [] w w' := by
  obtain ⟨D, hD⟩ : ∃ D, V ^^^ s.last = D := ⟨_, rfl⟩
  have hxo := xor_int hV hs.1 hD
  have hD64 : D < 18446744073709551616 := by rw [← hD]; exact xor_lt hV hs.1
  have d0 : ((s.n : Int) == 0) = false := beq_eq_false_iff_ne.2 (by omega)
  have d1 : ((V : Int) == (s.last : Int)) = true := beq_iff_eq.2 (by omega)
  obtain ⟨hf, hX, hR, hY⟩ := putW_is w s V
  have HR : Hid (Four (putW w s V) (w.heap.size + 1) (.int .u64 0) (.int .i64 0) (.int .i64 0) (.int .i64 0)) := hR
  have HF : Hid (Fr [] w (putW w s V)) := hf
  clear hs hX hY hf h0 he
  clear hR
  go_enter Tryd.func10, Tryd.ntmps10
  go_wp2_with fail
  refine (number_any D 64 _ hD64 (by omega)).mono ?_
  rintro e w1 ⟨rfl, rfl⟩
  go_wp2_with fail
  refine bodyPost_ret (row_res rfl _ _ (w.heap.size + 1) 32 (.int .u64 (V : Int)) (.int .i64 ((s.n : Int) + 1)) (.int .i64 (s.a : Int)) (.int .i64 (s.b : Int)) (0, 0) rfl (heap_mid _ _ _ _)) rfl ?_
  exact ⟨rfl, (((Fr.refl _ _).alloc _).alloc _).alloc _⟩

set_option maxRecDepth 100000 in
set_option maxHeartbeats 2000000 in
theorem rput_own (s : XRow) (V D : Nat) (w : World) (hs : s.ok) (h0 : s.n ≠ 0) (hn : s.n ≤ 1000000000) (hV : V < 18446744073709551616) (hD : V ^^^ s.last = D) (hD0 : D ≠ 0) (hh : hasW s.a s.b D = true) :
    Calls Tryd.prog 10 #[rowv s, .int .u64 (V : Int)] w fun e w' => e = .returned (.tuple #[rowv ⟨V, s.n + 1, s.a, s.b⟩, .string (txt (true :: false :: dbits s.a s.b D))]) ∧ Fr [] w w' := by
  have hxo := xor_int hV hs.1 hD
  have hD64 : D < 18446744073709551616 := by rw [← hD]; exact xor_lt hV hs.1
  have hne : V ≠ s.last := fun h => hD0 (by rw [← hD]; exact xor_zero.2 h)
  have d0 : ((s.n : Int) == 0) = false := beq_eq_false_iff_ne.2 (by omega)
  have d1 : ((V : Int) == (s.last : Int)) = false := beq_eq_false_iff_ne.2 (by omega)
  have hle := hs.2.le
  have hb0 : 0 < s.b := by
    rcases hs.2 with ⟨ha, hb⟩ | ⟨_, h1, _⟩
    · rw [hb, hasW_none hD0 hD64 ha] at hh; cases hh
    · omega
  obtain ⟨F, hFe⟩ : ∃ F, 64 - bl D = F := ⟨_, rfl⟩
  obtain ⟨E, hEe⟩ : ∃ E, 64 - tz D = E := ⟨_, rfl⟩
  have hFE : s.a ≤ F ∧ E ≤ s.a + s.b := by
    unfold hasW at hh
    simp only [Bool.and_eq_true, decide_eq_true_eq] at hh
    omega
  have HFI : Hid (∀ wx, Calls Tryd.prog 25 #[.string (txt (numBits D 64))] wx fun e w' => e = .returned (.int .i64 (F : Int)) ∧ wx = w') := by rw [← hFe]; exact fun wx => first_num wx hD0 hD64
  have HEN : Hid (∀ wx, Calls Tryd.prog 26 #[.string (txt (numBits D 64))] wx fun e w' => e = .returned (.int .i64 (E : Int)) ∧ wx = w') := by rw [← hEe]; exact fun wx => end_num wx hD0 hD64
  have d2 : decide ((0 : Int) < (s.b : Int)) = true := decide_eq_true (by omega)
  have d3 : decide ((s.a : Int) ≤ (F : Int)) = true := decide_eq_true (by omega)
  have d4 : decide ((E : Int) ≤ (s.a : Int) + (s.b : Int)) = true := decide_eq_true (by omega)
  have hzT : (txt (numBits D 64)).size = 64 := by rw [txt_size]; simp
  obtain ⟨M, hM⟩ : ∃ M, M = s.a + s.b := ⟨_, rfl⟩
  have HEX : Hid ((txt (numBits D 64)).extract s.a M = txt (dbits s.a s.b D)) := by show _ = _; rw [hM, txt_mid, numBits_window _ _ _ hle.2]
  have hM64 : M ≤ 64 := by omega
  have haM : s.a ≤ M := by omega
  obtain ⟨q1, q2, q3⟩ := sum_wraps hM (by omega)
  have d5 : decide (s.a ≤ F) = true := decide_eq_true hFE.1
  have d6 : decide (E ≤ M) = true := decide_eq_true (by rw [hM]; exact hFE.2)
  have d7 : decide (0 < s.b) = true := decide_eq_true hb0
  rw [q3] at d4
  have HTX : Hid ((txt (numBits D 64)).size = 64) := hzT
  obtain ⟨hf, hX, hR, hY⟩ := putW_is w s V
  obtain ⟨w3, hw3⟩ : ∃ w3, putW w s V = w3 := ⟨_, rfl⟩
  rw [hw3] at hf hX hR hY
  have r0 := hR.c0
  have r1 := hR.c1
  have r2 := hR.c2
  have r3 := hR.c3
  have f0 := frozen_at hR 0
  have f1 := frozen_at hR 1
  have f2 := frozen_at hR 2
  have f3 := frozen_at hR 3
  have y0 := hY.c0
  have y1 := hY.c1
  have y2 := hY.c2
  have y3 := hY.c3
  have x2 := hX.c2
  have x3 := hX.c3
  have HX : Hid (Four w3 w.heap.size (.int .u64 (s.last : Int)) (.int .i64 (s.n : Int)) (.int .i64 (s.a : Int)) (.int .i64 (s.b : Int))) := hX
  have HR : Hid (Four w3 (w.heap.size + 1) (.int .u64 0) (.int .i64 0) (.int .i64 0) (.int .i64 0)) := hR
  have HY : Hid (Four w3 (w.heap.size + 1 + 1) (.int .u64 (V : Int)) (.int .i64 ((s.n : Int) + 1)) (.int .i64 (s.a : Int)) (.int .i64 (s.b : Int))) := hY
  have HF : Hid (Fr [] w w3) := hf
  have HW : Hid (putW w s V = w3) := hw3
  clear hs hX hR hY hf hw3 hFe hEe hM hFE hh
  have ha31 : s.a ≤ 31 := hle.1
  go_enter Tryd.func10, Tryd.ntmps10
  go_wp2_with fail
  refine (number_any D 64 _ hD64 (by omega)).mono ?_
  rintro e w1 ⟨rfl, rfl⟩
  generalize txt (numBits D 64) = T at *
  go_wp2_with fail
  rw [show ((w.alloc (.cells #[.int .u64 (s.last : Int), .int .i64 (s.n : Int), .int .i64 (s.a : Int), .int .i64 (s.b : Int)] 32)).alloc (.cells #[.int .u64 0, .int .i64 0, .int .i64 0, .int .i64 0] 32)).alloc (.cells #[.int .u64 (V : Int), .int .i64 ((s.n : Int) + 1), .int .i64 (s.a : Int), .int .i64 (s.b : Int)] 32) = w3 from HW.out]
  clear HW
  go_quiet (first | (go_at_call 25; exact Calls.quiet_of_same ((HFI.out _).mono fun e w' ⟨a, b⟩ => ⟨a, b.symm⟩)) | (go_at_call 26; exact Calls.quiet_of_same ((HEN.out _).mono fun e w' ⟨a, b⟩ => ⟨a, b.symm⟩)))
  go_wp2_with fail
  go_region
  go_wp2_with fail
  refine bodyPost_ret (row_res rfl _ _ (w.heap.size + 1) 32 (.int .u64 (V : Int)) (.int .i64 ((s.n : Int) + 1)) (.int .i64 (s.a : Int)) (.int .i64 (s.b : Int)) (0, 0) rfl ((HR.out.drewN (nq + 1)).set _ _ _ _)) rfl ?_
  refine ⟨?_, HF.out.trans (S' := [w.heap.size + 1]) ((((((Fr.refl [w.heap.size + 1] w3).drewN _).setCell _ _ (.inl (by simp))).setCell _ _ (.inl (by simp))).setCell _ _ (.inl (by simp))).setCell _ _ (.inl (by simp))) (by simp)⟩
  have e := HEX.out
  rw [show txt (true :: false :: dbits s.a s.b D) = (⟨#[49, 48]⟩ : ByteArray) ++ txt (dbits s.a s.b D) from (txt_append [true, false] (dbits s.a s.b D)).symm, ← e]
  rfl
end Go.Proofs.YtjijbegoehpicaaDoor
