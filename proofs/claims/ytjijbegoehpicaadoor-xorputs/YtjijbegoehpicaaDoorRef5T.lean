/-
  The document's own answers of layer 5 (package tidepoleref05): Put, where a window is told.
-/
import Derived.Test.YtjijbegoehpicaaDoorRef5P
namespace Go.Proofs.YtjijbegoehpicaaDoor
open Go.RowKit Mem Bits Windows
set_option linter.unusedSimpArgs false
set_option linter.unusedVariables false

theorem adds (a b : ByteArray) (h : a.size + b.size ≤ 9223372036854775807) (w : World) : (Op.stringOp .add a b).run Tryd.prog w = .ok (.string (a ++ b)) w := run_string_add_sum w a b h

set_option maxRecDepth 100000 in
set_option maxHeartbeats 4000000 in
theorem rput_told (s : XRow) (V D : Nat) (w : World) (hs : s.ok) (h0 : s.n ≠ 0) (hn : s.n ≤ 1000000000) (hV : V < 18446744073709551616) (hD : V ^^^ s.last = D) (hD0 : D ≠ 0) (hh : hasW s.a s.b D = false) :
    Calls Tryd.prog 10 #[rowv s, .int .u64 (V : Int)] w fun e w' => e = .returned (.tuple #[rowv ⟨V, s.n + 1, wa D, wb D⟩, .string (txt (true :: true :: (numBits (wa D) 5 ++ numBits (wb D) 6 ++ dbits (wa D) (wb D) D)))]) ∧ Fr [] w w' := by
  have hxo := xor_int hV hs.1 hD
  have hD64 : D < 18446744073709551616 := by rw [← hD]; exact xor_lt hV hs.1
  have hne : V ≠ s.last := fun h => hD0 (by rw [← hD]; exact xor_zero.2 h)
  have d0 : ((s.n : Int) == 0) = false := beq_eq_false_iff_ne.2 (by omega)
  have d1 : ((V : Int) == (s.last : Int)) = false := beq_eq_false_iff_ne.2 (by omega)
  have hle := hs.2.le
  obtain ⟨F, hFe⟩ : ∃ F, 64 - bl D = F := ⟨_, rfl⟩
  obtain ⟨E, hEe⟩ : ∃ E, 64 - tz D = E := ⟨_, rfl⟩
  obtain ⟨M, hM⟩ : ∃ M, M = s.a + s.b := ⟨_, rfl⟩
  have hFE : ¬ (s.a ≤ F ∧ E ≤ M) := by
    rintro ⟨g1, g2⟩
    have : hasW s.a s.b D = true := by
      unfold hasW
      rw [decide_eq_true (by omega), decide_eq_true (by omega)]; rfl
    rw [this] at hh; cases hh
  have HFI : Hid (∀ wx, Calls Tryd.prog 25 #[.string (txt (numBits D 64))] wx fun e w' => e = .returned (.int .i64 (F : Int)) ∧ wx = w') := by rw [← hFe]; exact fun wx => first_num wx hD0 hD64
  have HEN : Hid (∀ wx, Calls Tryd.prog 26 #[.string (txt (numBits D 64))] wx fun e w' => e = .returned (.int .i64 (E : Int)) ∧ wx = w') := by rw [← hEe]; exact fun wx => end_num wx hD0 hD64
  obtain ⟨A, hA⟩ : ∃ A, wa D = A := ⟨_, rfl⟩
  obtain ⟨W, hW⟩ : ∃ W, wb D = W := ⟨_, rfl⟩
  have hAW := wa_wb hD0 hD64
  rw [hA, hW] at hAW ⊢
  have hAF : A = if 31 < F then 31 else F := by rw [← hA]; unfold wa; rw [hFe]; split <;> split <;> omega
  have hEW : E = A + W := by omega
  have hF64 : F ≤ 64 := by omega
  have hzT : (txt (numBits D 64)).size = 64 := by rw [txt_size]; simp
  have hz5 : (txt (numBits A 5)).size = 5 := by rw [txt_size]; simp
  have hz6 : (txt (numBits W 6)).size = 6 := by rw [txt_size]; simp
  have HEX : Hid ((txt (numBits D 64)).extract A E = txt (dbits A W D)) := by show _ = _; rw [hEW, txt_mid, numBits_window _ _ _ (by omega)]
  have hE64 : E ≤ 64 := by omega
  have hAE : A ≤ E := by omega
  have hEA : (E : Int) - (A : Int) = (W : Int) := by omega
  have hA31 : A ≤ 31 := hAW.1
  have hW64 : W ≤ 64 := by omega
  have HTX : Hid ((txt (numBits D 64)).size = 64) := hzT
  obtain ⟨q1, q2, q3⟩ := sum_wraps hM (by omega)
  obtain ⟨hf, hX, hR, hY⟩ := putW_is w s V
  obtain ⟨w3, hw3⟩ : ∃ w3, putW w s V = w3 := ⟨_, rfl⟩
  rw [hw3] at hf hX hR hY
  have r0 := hR.c0
  have r1 := hR.c1
  have r2 := hR.c2
  have r3 := hR.c3
  have f0 := frozen_at hR 0
  have f1 := frozen_at hR 1
  have f2 := frozen_at hR 2
  have f3 := frozen_at hR 3
  have y0 := hY.c0
  have y1 := hY.c1
  have y2 := hY.c2
  have y3 := hY.c3
  have x2 := hX.c2
  have x3 := hX.c3
  have HX : Hid (Four w3 w.heap.size (.int .u64 (s.last : Int)) (.int .i64 (s.n : Int)) (.int .i64 (s.a : Int)) (.int .i64 (s.b : Int))) := hX
  have HR : Hid (Four w3 (w.heap.size + 1) (.int .u64 0) (.int .i64 0) (.int .i64 0) (.int .i64 0)) := hR
  have HY : Hid (Four w3 (w.heap.size + 1 + 1) (.int .u64 (V : Int)) (.int .i64 ((s.n : Int) + 1)) (.int .i64 (s.a : Int)) (.int .i64 (s.b : Int))) := hY
  have HF : Hid (Fr [] w w3) := hf
  have HW : Hid (putW w s V = w3) := hw3
  clear hs hX hR hY hf hw3 hFe hEe hh hA hW hEW hAW
  have ha31 : s.a ≤ 31 := hle.1
  have hb64 : s.b ≤ 64 := Nat.le_trans (Nat.le_add_left _ _) hle.2
  have HHL : Hid (s.a ≤ 31 ∧ s.a + s.b ≤ 64) := hle
  have HFE : Hid (¬ (s.a ≤ F ∧ E ≤ M)) := hFE
  have HM : Hid (M = s.a + s.b) := hM
  have HAF : Hid (A = if 31 < F then 31 else F) := hAF
  clear hle hFE hM hAF
  go_enter Tryd.func10, Tryd.ntmps10
  go_wp2_with fail
  refine (number_any D 64 _ hD64 (by omega)).mono ?_
  rintro e w1 ⟨rfl, rfl⟩
  generalize txt (numBits D 64) = T at *
  go_upto_region 7 with fail
  rw [show ((w.alloc (.cells #[.int .u64 (s.last : Int), .int .i64 (s.n : Int), .int .i64 (s.a : Int), .int .i64 (s.b : Int)] 32)).alloc (.cells #[.int .u64 0, .int .i64 0, .int .i64 0, .int .i64 0] 32)).alloc (.cells #[.int .u64 (V : Int), .int .i64 ((s.n : Int) + 1), .int .i64 (s.a : Int), .int .i64 (s.b : Int)] 32) = w3 from HW.out]
  clear HW
  go_cut [52] from 33 to 52 (fun c wx => c = .bool false ∧ ∃ n, wx = w3.drewN n)
  case first =>
    by_cases h1 : 0 < s.b
    · have e1 : decide (0 < s.b) = true := decide_eq_true h1
      have e2 : decide ((0 : Int) < (s.b : Int)) = true := decide_eq_true (by omega)
      by_cases h2 : s.a ≤ F
      · have e3 : decide (s.a ≤ F) = true := decide_eq_true h2
        have e4 : decide ((s.a : Int) ≤ (F : Int)) = true := decide_eq_true (by omega)
        have h3 : ¬ E ≤ M := fun h => HFE.out ⟨h2, h⟩
        have e5 : decide (E ≤ M) = false := decide_eq_false h3
        have e6 : decide ((E : Int) ≤ (M : Int)) = false := decide_eq_false (by omega)
        go_quiet (first | (go_at_call 25; exact Calls.quiet_of_same ((HFI.out _).mono fun e w' ⟨a, b⟩ => ⟨a, b.symm⟩)) | (go_at_call 26; exact Calls.quiet_of_same ((HEN.out _).mono fun e w' ⟨a, b⟩ => ⟨a, b.symm⟩)))
        go_wp2
        go_meet
        exact ⟨rfl, _, rfl⟩
      · have e3 : decide (s.a ≤ F) = false := decide_eq_false h2
        have e4 : decide ((s.a : Int) ≤ (F : Int)) = false := decide_eq_false (by omega)
        go_quiet (first | (go_at_call 25; exact Calls.quiet_of_same ((HFI.out _).mono fun e w' ⟨a, b⟩ => ⟨a, b.symm⟩)) | (go_at_call 26; exact Calls.quiet_of_same ((HEN.out _).mono fun e w' ⟨a, b⟩ => ⟨a, b.symm⟩)))
        go_wp2
        go_meet
        exact ⟨rfl, _, rfl⟩
    · have e1 : decide (0 < s.b) = false := decide_eq_false h1
      have e2 : decide ((0 : Int) < (s.b : Int)) = false := decide_eq_false (by omega)
      go_quiet (first | (go_at_call 25; exact Calls.quiet_of_same ((HFI.out _).mono fun e w' ⟨a, b⟩ => ⟨a, b.symm⟩)) | (go_at_call 26; exact Calls.quiet_of_same ((HEN.out _).mono fun e w' ⟨a, b⟩ => ⟨a, b.symm⟩)))
      go_wp2
      go_meet
      exact ⟨rfl, _, rfl⟩
  case rest =>
    obtain ⟨rfl, nq, rfl⟩ := hcut
    obtain ⟨q4, q5⟩ := diff_wraps hEA (by omega)
    have hYd := HY.out.drewN nq
    have hRd := HR.out.drewN nq
    have hFd := HF.out.drewN nq
    clear HX HY HR HF r0 r1 r2 r3 f0 f1 f2 f3 y0 y1 y2 y3 x2 x3 HFE HHL HM
    go_wp2_with fail
    refine (HFI.out _).mono ?_
    rintro e w4 ⟨rfl, rfl⟩
    generalize w3.drewN nq = w4 at *
    have y2 := hYd.c2
    have g2 := frozen_at hYd 2
    have HYd : Hid (Four w4 (w.heap.size + 1 + 1) (.int .u64 (V : Int)) (.int .i64 ((s.n : Int) + 1)) (.int .i64 (s.a : Int)) (.int .i64 (s.b : Int))) := hYd
    have HRd : Hid (Four w4 (w.heap.size + 1) (.int .u64 0) (.int .i64 0) (.int .i64 0) (.int .i64 0)) := hRd
    have HFd : Hid (Fr [] w w4) := hFd
    clear hYd hRd hFd
    go_upto_if 69 with fail
    go_cut [] from 70 to 70 (fun wx => Four wx (w.heap.size + 1 + 1) (.int .u64 (V : Int)) (.int .i64 ((s.n : Int) + 1)) (.int .i64 (A : Int)) (.int .i64 (s.b : Int)) ∧ Four wx (w.heap.size + 1) (.int .u64 0) (.int .i64 0) (.int .i64 0) (.int .i64 0) ∧ Fr [] w wx)
    case first =>
      by_cases h31 : 31 < F
      · have e1 : decide (31 < F) = true := decide_eq_true h31
        have e2 : decide ((31 : Int) < (F : Int)) = true := decide_eq_true (by omega)
        have hAe : A = 31 := by rw [HAF.out, if_pos h31]
        have HAe : Hid ((31 : Int) = (A : Int)) := by show _ = _; omega
        clear HAF hAe
        go_wp2_with fail
        go_meet
        refine ⟨?_, ?_, ?_⟩
        · rw [← HAe.out]; exact (HYd.out.set2 _).set2 _
        · exact HRd.out.kept (S := [w.heap.size + 1 + 1]) (((Fr.refl _ w4).setCell _ _ (.inl (by simp))).setCell _ _ (.inl (by simp))) (by simp)
        · exact (HFd.out.setCell _ _ (.inr (by simp; omega))).setCell _ _ (.inr (by simp; omega))
      · have e1 : decide (31 < F) = false := decide_eq_false h31
        have e2 : decide ((31 : Int) < (F : Int)) = false := decide_eq_false (by omega)
        have hAe : A = F := by rw [HAF.out, if_neg h31]
        have HAe : Hid ((F : Int) = (A : Int)) := by show _ = _; omega
        clear HAF hAe
        go_wp2_with fail
        go_meet
        refine ⟨?_, ?_, ?_⟩
        · rw [← HAe.out]; exact HYd.out.set2 _
        · exact HRd.out.kept (S := [w.heap.size + 1 + 1]) ((Fr.refl _ w4).setCell _ _ (.inl (by simp))) (by simp)
        · exact HFd.out.setCell _ _ (.inr (by simp; omega))
    case rest =>
      clear HYd HRd HFd y2 g2
      obtain ⟨hYS, hRS, hFS⟩ := hcut
      have z2 := hYS.c2
      have z3 := hYS.c3
      have g3 := frozen_at hYS 3
      have q6 : IntKind.i64.wrap (W : Int) = (W : Int) := by rw [IntKind.wrap_i64]; omega
      have HYS : Hid (Four wc (w.heap.size + 1 + 1) (.int .u64 (V : Int)) (.int .i64 ((s.n : Int) + 1)) (.int .i64 (A : Int)) (.int .i64 (s.b : Int))) := hYS
      have HRS : Hid (Four wc (w.heap.size + 1) (.int .u64 0) (.int .i64 0) (.int .i64 0) (.int .i64 0)) := hRS
      have HFS : Hid (Fr [] w wc) := hFS
      clear hYS hRS hFS
      go_upto_region 12 with fail
      go_cut [] from 71 to 76 (fun wx => Four wx (w.heap.size + 1 + 1) (.int .u64 (V : Int)) (.int .i64 ((s.n : Int) + 1)) (.int .i64 (A : Int)) (.int .i64 (W : Int)) ∧ Four wx (w.heap.size + 1) (.int .u64 0) (.int .i64 0) (.int .i64 0) (.int .i64 0) ∧ Fr [] w wx)
      case first =>
        go_region_with (first
          | (go_at_call 26; refine (HEN.out _).mono ?_; rintro e w6 ⟨rfl, rfl⟩))
        all_goals go_wp2_with fail
        all_goals go_meet
        all_goals refine ⟨?_, ?_, ?_⟩
        all_goals first
          | exact (HYS.out.set3 _).drew
          | exact HRS.out.kept (S := [w.heap.size + 1 + 1]) (((Fr.refl _ wc).setCell _ _ (.inl (by simp))).drew) (by simp)
          | exact (HFS.out.setCell _ _ (.inr (by simp; omega))).drew
      case rest =>
        clear HYS HRS HFS z2 z3 g3
        obtain ⟨hYS, hRS, hFS⟩ := hcut
        have z0 := hYS.c0
        have z1 := hYS.c1
        have z2 := hYS.c2
        have z3 := hYS.c3
        have r0 := hRS.c0
        have r1 := hRS.c1
        have r2 := hRS.c2
        have r3 := hRS.c3
        have f0 := frozen_at hRS 0
        have f1 := frozen_at hRS 1
        have f2 := frozen_at hRS 2
        have f3 := frozen_at hRS 3
        have HRS : Hid (Four wc (w.heap.size + 1) (.int .u64 0) (.int .i64 0) (.int .i64 0) (.int .i64 0)) := hRS
        have HFS : Hid (Fr [] w wc) := hFS
        have u5 := to_u64 (a := A) (by omega)
        have u6 := to_u64 (a := W) (by omega)
        have HN5 : Hid (∀ wx, Calls Tryd.prog 24 #[.int .u64 (A : Int), .int .i64 5] wx fun e w' => e = .returned (.string (txt (numBits A 5))) ∧ wx = w') := fun wx => number_any A 5 wx (by omega) (by omega)
        have HN6 : Hid (∀ wx, Calls Tryd.prog 24 #[.int .u64 (W : Int), .int .i64 6] wx fun e w' => e = .returned (.string (txt (numBits W 6))) ∧ wx = w') := fun wx => number_any W 6 wx (by omega) (by omega)
        have HTT : Hid (txt (true :: true :: (numBits A 5 ++ numBits W 6 ++ dbits A W D)) = (⟨#[49, 49]⟩ : ByteArray) ++ txt (numBits A 5) ++ txt (numBits W 6) ++ T.extract A E) := by
          show _ = _
          have e := HEX.out
          rw [e, show (⟨#[49, 49]⟩ : ByteArray) = txt [true, true] from rfl, txt_append, txt_append, txt_append]
          simp
        obtain ⟨x5, hx5⟩ : ∃ x, x = txt (numBits A 5) := ⟨_, rfl⟩
        obtain ⟨x6, hx6⟩ : ∃ x, x = txt (numBits W 6) := ⟨_, rfl⟩
        rw [← hx5] at HN5 hz5 HTT
        rw [← hx6] at HN6 hz6 HTT
        clear hYS hRS hFS HEX hx5 hx6
        have hzT : T.size = 64 := HTX.out
        have i0 : (0 : Int) ≤ (A : Int) := by omega
        have i1 : (0 : Int) ≤ (E : Int) := by omega
        have i2 : (A : Int) ≤ (E : Int) := by omega
        have i3 : (E : Int) ≤ 64 := by omega
        have hze : (T.extract A E).size ≤ 64 := by rw [ByteArray.size_extract]; omega
        have a1 := adds ⟨#[49, 49]⟩ x5 (by have : (⟨#[49, 49]⟩ : ByteArray).size = 2 := rfl; omega)
        have a2 := adds (⟨#[49, 49]⟩ ++ x5) x6 (by have : (⟨#[49, 49]⟩ : ByteArray).size = 2 := rfl; rw [ByteArray.size_append]; omega)
        have a3 := adds (⟨#[49, 49]⟩ ++ x5 ++ x6) (T.extract A E) (by have : (⟨#[49, 49]⟩ : ByteArray).size = 2 := rfl; rw [ByteArray.size_append, ByteArray.size_append]; omega)
        clear hzT q1 q2 q3 q4 q5 q6 d0 d1 hxo hD hne
        go_wp2_with fail
        go_region_held3 (fun w' => w'.cell? ⟨w.heap.size + 1 + 1, 0, none⟩ = some (.int .u64 (V : Int)) ∧ w'.cell? ⟨w.heap.size + 1 + 1, 1, none⟩ = some (.int .i64 ((s.n : Int) + 1)) ∧ w'.cell? ⟨w.heap.size + 1 + 1, 2, none⟩ = some (.int .i64 (A : Int)) ∧ w'.cell? ⟨w.heap.size + 1 + 1, 3, none⟩ = some (.int .i64 (W : Int))) (go_keep) (first
          | (go_at_call 26; refine (HEN.out _).mono ?_; rintro e w6 ⟨rfl, rfl⟩)
          | (go_at_call 24; with_reducible refine (HN5.out _).mono ?_; rintro e w6 ⟨rfl, rfl⟩)
          | (go_at_call 24; with_reducible refine (HN6.out _).mono ?_; rintro e w6 ⟨rfl, rfl⟩))
        go_wp2_with fail
        refine bodyPost_ret (row_res rfl _ _ (w.heap.size + 1) 32 (.int .u64 (V : Int)) (.int .i64 ((s.n : Int) + 1)) (.int .i64 (A : Int)) (.int .i64 (W : Int)) (0, 0) rfl (HRS.out.set _ _ _ _).drew) rfl ?_
        refine ⟨?_, HFS.out.trans (S' := [w.heap.size + 1]) (((((Fr.refl [w.heap.size + 1] wc).setCell _ _ (.inl (by simp))).setCell _ _ (.inl (by simp))).setCell _ _ (.inl (by simp))).setCell _ _ (.inl (by simp))).drew (by simp)⟩
        rw [HTT.out]
        rfl

/-- Whatever the row, whatever the value. -/
theorem rput_any (s : XRow) (V : Nat) (w : World) (hs : s.ok) (hn : s.n ≤ 1000000000) (hV : V < 18446744073709551616) :
    Calls Tryd.prog 10 #[rowv s, .int .u64 (V : Int)] w fun e w' => e = .returned (.tuple #[rowv (xnext s V), .string (txt (xbits s V))]) ∧ Fr [] w w' := by
  unfold xnext xbits
  by_cases h0 : s.n = 0
  · rw [if_pos h0, if_pos h0]; exact rput_zero s V w hs h0 hV
  · rw [if_neg h0, if_neg h0]
    by_cases hd : V ^^^ s.last = 0
    · rw [if_pos hd, if_pos hd]; exact rput_same s V w hs h0 hn hV (xor_zero.1 hd)
    · rw [if_neg hd, if_neg hd]
      unfold diffBits fw
      by_cases hh : hasW s.a s.b (V ^^^ s.last) = true
      · rw [if_pos hh, if_pos hh]; exact rput_own s V _ w hs h0 hn hV rfl hd hh
      · rw [if_neg hh, if_neg hh]; exact rput_told s V _ w hs h0 hn hV rfl hd (by simpa using hh)
end Go.Proofs.YtjijbegoehpicaaDoor
