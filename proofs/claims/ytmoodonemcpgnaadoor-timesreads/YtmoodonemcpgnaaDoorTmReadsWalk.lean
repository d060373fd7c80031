/-
  The walk of tidepolelaw13.TimesReads: it returns true, whatever it is given, and writes nothing that was there.
-/
import Derived.Test.YtmoodonemcpgnaaDoorLaw13
import Derived.Test.YtmoodonemcpgnaaDoorRef4P
import Derived.Test.YtmoodonemcpgnaaDoorVRow
namespace Go.Proofs.YtmoodonemcpgnaaDoor
open Go.RowKit Mem Bits Groups Evens
set_option linter.unusedSimpArgs false
set_option linter.unusedVariables false

theorem txt_take (l : List Bool) (k : Nat) : (txt l).extract 0 k = txt (l.take k) := by
  apply ByteArray.ext
  simp [txt, List.map_take]
theorem txt_drop (l : List Bool) (k : Nat) (h : k ≤ l.length) : (txt l).extract k (txt l).size = txt (l.drop k) := by
  rw [txt_size]
  have := txt_mid l k (l.length - k)
  rw [show k + (l.length - k) = l.length from by omega] at this
  rw [this, List.take_of_length_le (by simp)]
theorem tbits_pos (b : Bool) (s : TRow) (V : Nat) : 1 ≤ (tbits b s V).length := by
  have h : ∀ k v, 1 ≤ (gbits k v).length := fun k v => by rw [gbits_length]; unfold fore; split <;> omega
  unfold tbits
  split
  · split
    · exact h _ _
    · exact h _ _
  · exact h _ _
theorem lead_drop {T : List Bool} {pos n k : Nat} (hT : T.length = n) (hp : pos ≤ n) (h : LeadIs T pos n k) : LeadIs (T.drop pos) 0 (T.drop pos).length k := by
  obtain ⟨h1, h2, h3, h4⟩ := h
  have hl : (T.drop pos).length = n - pos := by rw [List.length_drop, hT]
  have hg : ∀ i, (T.drop pos).getD i false = T.getD (pos + i) false := fun i => by simp [List.getD_eq_getElem?_getD, List.getElem?_drop]
  refine ⟨h1, by omega, fun i hi => by rw [hg, Nat.zero_add]; exact h3 i hi, fun h8 hlt => by rw [hg, Nat.zero_add]; exact h4 h8 (by omega)⟩

/-- The law's premises on its input, all but the good case: the fixed answer alone. -/
def BadIn (len : Nat) (n : Int) : Prop := 60 < len ∨ n < 0 ∨ 8 * (len : Int) < n

set_option maxRecDepth 100000 in
set_option maxHeartbeats 2000000 in
theorem treads_bad (a0 : Option Addr) (len0 cap0 : Nat) (a1 : Int) (s : Bool) (w : World) (hT : Tab w) (hb : BadIn len0 a1) (hm : len0 ≤ maxLen) :
    Calls Tryd.prog 5 #[.slice a0 len0 cap0, .int .i64 a1, .bool s] w fun e w' => e = .returned (.bool true) ∧ Fr [] w w' := by
  have hout : (decide (60 < (len0 : Int)) = true) ∨ (decide (60 < (len0 : Int)) = false ∧ decide (a1 < 0) = true) ∨ (decide (60 < (len0 : Int)) = false ∧ decide (a1 < 0) = false ∧ decide (8 * (len0 : Int) < a1) = true ∧ len0 ≤ 60) := by
    unfold BadIn at hb
    by_cases h1 : 60 < len0
    · exact .inl (decide_eq_true (by omega))
    · by_cases h2 : a1 < 0
      · exact .inr (.inl ⟨decide_eq_false (by omega), decide_eq_true h2⟩)
      · exact .inr (.inr ⟨decide_eq_false (by omega), decide_eq_false h2, decide_eq_true (by omega), by omega⟩)
  have HT : Hid (Tab w) := hT
  clear hT hb hm
  rcases hout with h1 | ⟨h1, h2⟩ | ⟨h1, h2, h3, h4⟩
  all_goals
    go_enter Tryd.func5, Tryd.ntmps5
    go_wp2_with fail
    refine (awake_any w HT.out).mono ?_
    rintro e w' ⟨rfl, hf⟩
    go_wp2_with fail
    go_ret
    exact ⟨by first | rfl | trivial, hf⟩

set_option maxRecDepth 100000 in
set_option maxHeartbeats 8000000 in
theorem treads_goodI (a0 : Option Addr) (cap0 : Nat) (bs : List Nat) (n : Nat) (w : World) (hT : Tab w) (hsrc : Src w (.slice a0 bs.length cap0) bs) (hlen : bs.length ≤ 60) (hn : n ≤ 8 * bs.length) :
    Calls Tryd.prog 5 #[.slice a0 bs.length cap0, .int .i64 (n : Int), .bool true] w fun e w' => e = .returned (.bool true) ∧ Fr [] w w' := by
  have hsz := hT.lt
  have HT : Hid (Tab w) := hT
  have h256 : ∀ x ∈ bs, x < 256 := by obtain ⟨_, _, _, _, _, _, h⟩ := hsrc; exact h
  have H256 : Hid (∀ x ∈ bs, x < 256) := h256
  clear hT h256
  have hrun := run_str hsrc
  have HSRC : Hid (Src w (.slice a0 bs.length cap0) bs) := hsrc
  clear hsrc
  have d1 : decide (60 < (bs.length : Int)) = false := decide_eq_false (by omega)
  have d2 : decide ((n : Int) < 0) = false := decide_eq_false (by omega)
  have d3 : decide (8 * (bs.length : Int) < (n : Int)) = false := decide_eq_false (by omega)
  have hn480 : n ≤ 480 := by omega
  have HNB : Hid (nbs n ≤ bs.length) := nbs_le hn
  have HTX : Hid (∀ w : World, Calls Tryd.prog 30 #[.string (str bs), .int .i64 (n : Int)] w fun e w' => e = .returned (.string (txt (unpack bs n))) ∧ w = w') := fun w => text_any bs n w H256.out hn (by omega)
  obtain ⟨T, hTT⟩ : ∃ T, T = unpack bs n := ⟨_, rfl⟩
  have HTL : Hid (T.length = n) := by show _ = _; rw [hTT]; simp
  rw [← hTT] at HTX
  have HTT : Hid (T = unpack bs n) := hTT
  clear hTT
  go_enter Tryd.func5, Tryd.ntmps5
  go_wp2_with fail
  refine (HTX.out w).mono ?_
  rintro e w' ⟨rfl, rfl⟩
  clear hrun
  go_wp2_with fail
  refine (newReader_ok _ bs n w HSRC.out HNB.out (by omega)).mono ?_
  rintro e w1 ⟨q, h, rfl, hr1, hq, hh, hf1⟩
  rw [← HTT.out] at hr1
  have hz1 := hf1.size
  have hl1 := hr1.lt
  clear HNB
  go_wp2_with fail
  refine (tnewI_any w1).mono ?_
  rintro e w2 ⟨x, rfl, hx2, hxz, hf2⟩
  have hr2 := hr1.kept hf2 (by simp) (by simp)
  have hF2 : Fr [] w w2 := hf1.trans hf2 (by simp)
  have hz2 := hf2.size
  have hxl := hx2.lt
  clear hr1 hf1 hf2
  go_wp2_with fail
  refine (tnewU_any w2).mono ?_
  rintro e w3 ⟨y, rfl, hy3, hyz, hf3⟩
  have hr3 := hr2.kept hf3 (by simp) (by simp)
  have hx3 := hx2.kept hf3 (by simp)
  have hF3 : Fr [] w w3 := hF2.trans hf3 (by simp)
  have hz3 := hf3.size
  have hyl := hy3.lt
  clear hr2 hx2 hF2 hf3
  obtain ⟨B, hB⟩ : ∃ B, w3.heap.size = B := ⟨_, rfl⟩
  have hord : w.heap.size ≤ B ∧ w.heap.size ≤ q ∧ w.heap.size ≤ h ∧ w.heap.size ≤ x ∧ w.heap.size ≤ y ∧ q < B ∧ h < B ∧ x < B ∧ y < B ∧ x ≠ y ∧ x ≠ q ∧ x ≠ h ∧ y ≠ q ∧ y ≠ h ∧ q ≠ h := by
    have := hr3.1
    omega
  have HB3 : Hid (B ≤ w3.heap.size) := by show _ ≤ _; omega
  clear hq hh hxz hyz hz1 hl1 hz2 hxl hz3 hyl hB
  obtain ⟨hB0, hq0, hh0, hx0, hy0, hqB, hhB, hxB, hyB, hxy, hxq, hxh, hyq, hyh, hqh⟩ := hord
  have htx : (ByteArray.mk #[]) = txt [] := rfl
  clear htx
  go_wp2_with fail
  go_loopw [7, 12, 13] (fun t l c wr => ∃ (k pos : Nat) (z : Nat → Nat), t = .string (txt (T.drop pos)) ∧ c = .int .i64 (k : Int) ∧ (∀ j, z j < 18446744073709551616) ∧ k ≤ pos ∧ pos ≤ n ∧ Rd wr q h T pos n false ∧ TrI wr x (trow z k) ∧ TrU wr y t0 ∧ VRow B wr l k z ∧ B ≤ wr.heap.size ∧ Fr [] w wr) (fun _ _ c _ => n + 1 - (intOf c).toNat)
  case atStart => exact ⟨0, 0, fun _ => 0, rfl, rfl, fun _ => show (0 : Nat) < 18446744073709551616 by decide, by omega, by omega, hr3, hx3, hy3, .inl ⟨rfl, rfl⟩, HB3.out, hF3⟩
  case round =>
    clear hr3 hx3 hy3 hF3 HB3
    obtain ⟨k, pos, z, rfl, rfl, hz, hkp, hpn, hrk, hxk, hyk, hvk, hBk, hfr⟩ := hrel
    obtain ⟨kk, hkk⟩ := lead_is T pos n hpn
    have HKK : Hid (LeadIs T pos n kk) := hkk
    have hk8 : kk ≤ 8 := hkk.1
    have dk : decide ((k : Int) ≤ (n : Int)) = true := decide_eq_true (by omega)
    have HZ : Hid (∀ j, z j < 18446744073709551616) := hz
    have HVK : Hid (VRow B wr u12 k z) := hvk
    have HX : Hid (TrI wr x (trow z k)) := hxk
    have HY : Hid (TrU wr y t0) := hyk
    have HR : Hid (Rd wr q h T pos n false) := hrk
    have HF : Hid (Fr [] w wr) := hfr
    have HN : Hid ((trow z k).n = k) := trow_n z k
    have HOK : Hid ((trow z k).ok) := trow_ok hz k
    clear hkk hz hvk hxk hyk hrk hfr
    go_wp2_with fail
    refine (tgetI_any wr x q h (trow z k) T pos n false kk (HT.out.kept HF.out (by simp)) (by omega) (by omega) (by omega) (by omega) HX.out HR.out (by rw [HTL.out]; omega) HKK.out HOK.out (by rw [HN.out]; omega)).mono ?_
    rintro e w5 ⟨v, er, rfl, hf5, hcs⟩
    have HV5 : Hid (VRow B w5 u12 k z) := HVK.out.kept hf5 (by simp; omega)
    have HO5 : Hid (TrU w5 y t0) := HY.out.kept hf5 (by simp; omega)
    have HF5 : Hid (Fr [] w w5) := HF.out.trans hf5 (by simp; omega)
    have hB5 : B ≤ w5.heap.size := Nat.le_trans hBk hf5.size
    obtain ⟨ao, cap, bb, hvl, hnum⟩ := HV5.out.nums
    have HNUM : Hid (Nums w5 ao k bb 0 z) := hnum
    obtain ⟨R, hR⟩ : ∃ R, R = T.drop pos := ⟨_, rfl⟩
    have HRD : Hid (R = T.drop pos) := hR
    have HRL : Hid (R.length = n - pos) := by show _ = _; rw [hR, List.length_drop, HTL.out]
    rw [← hR]
    clear HVK HX HY HR HF hf5 hBk hnum hR
    rcases hcs with ⟨rfl, hv, hx5, hfit, htake, hr5⟩ | ⟨rfl, rfl, hx5, hlt, pos', hr5⟩ | ⟨rfl, rfl, hx5, hfit, hr5⟩
    · obtain ⟨M, hM⟩ : ∃ M, M = tbits true (trow z k) v := ⟨_, rfl⟩
      obtain ⟨LM, hLM⟩ : ∃ LM, LM = M.length := ⟨_, rfl⟩
      obtain ⟨LR, hLR⟩ : ∃ LR, LR = n - pos := ⟨_, rfl⟩
      have hMp : 1 ≤ LM := by rw [hLM, hM]; exact tbits_pos _ _ _
      rw [← hM, ← hLM] at hfit htake hr5
      have hMR : LM ≤ LR := by omega
      have HMT : Hid (M = (T.drop pos).take LM) := htake.symm
      have hzR : (txt R).size = LR := by rw [txt_size, HRL.out, hLR]
      have hzM : (txt M).size = LM := by rw [txt_size, hLM]
      have hLR5 : LR ≤ 480 := by omega
      have hxx : (txt R).extract 0 LM = txt M := by rw [txt_take, HRD.out, HMT.out]
      have hyy : (txt R).extract LM LR = txt (T.drop (pos + LM)) := by
        have := txt_drop R LM (by rw [HRL.out]; omega)
        rw [hzR, HRD.out, List.drop_drop] at this
        exact HRD.out ▸ this
      have HLEN : Hid (LR = n - pos) := hLR
      have HM : Hid (M = tbits true (trow z k) v) := hM
      have HX5 : Hid (TrI w5 x (tnext (trow z k) v)) := hx5
      have HR5 : Hid (Rd w5 q h T (pos + LM) n false) := hr5
      have HV : Hid (v < 18446744073709551616) := hv
      have dgt : decide ((LR : Int) < (LM : Int)) = false := decide_eq_false (by omega)
      have dgt2 : decide (LR < LM) = false := decide_eq_false (by omega)
      have i1 : (0 : Int) ≤ (LM : Int) := by omega
      have i2 : (LM : Int) ≤ (LR : Int) := by omega
      have HPUT : Hid (∀ wx, Fr [] w5 wx → Calls Tryd.prog 11 #[.slice ao k cap, .int .u64 ((v : Nat) : Int), .int .i64 1] wx fun e w' => e = .returned (.string (txt M)) ∧ Fr [] w5 w') := fun wx hx => by
        have := rput_any ao k cap bb 0 z v 1 wx (HNUM.out.kept hx (by simp)) (by omega) HZ.out HV.out (.inr rfl)
        rw [HM.out]
        exact this.mono fun e w' ⟨a, b⟩ => ⟨a, hx.trans b (by simp)⟩
      have qv : IntKind.u64.wrap (sg v) = (v : Int) := wrapU_sg hv
      subst hvl
      clear hM hLM hLR htake hx5 hr5 hv
      go_wp2_with fail
      refine (HPUT.out w5 (Fr.refl _ _)).mono ?_
      rintro e w6 ⟨rfl, hf6⟩
      have HX6 : Hid (TrI w6 x (tnext (trow z k) v)) := HX5.out.kept hf6 (by simp)
      have HO6 : Hid (TrU w6 y t0) := HO5.out.kept hf6 (by simp)
      have HR6 : Hid (Rd w6 q h T (pos + LM) n false) := HR5.out.kept hf6 (by simp) (by simp)
      have HV6 : Hid (VRow B w6 (.slice ao k cap) k z) := HV5.out.kept hf6 (by simp)
      have HF6 : Hid (Fr [] w w6) := HF5.out.trans hf6 (by simp)
      have hB6 : B ≤ w6.heap.size := Nat.le_trans hB5 hf6.size
      clear HX5 HO5 HR5 HV5 HF5 hf6 HPUT hB5
      go_wp2_with fail
      go_upto_region 24 with fail
      go_cut [7, 12] from 135 to 142 (fun ct cl wx => ct = .string (txt (T.drop (pos + LM))) ∧ ∃ G, VRow B wx cl (k + 1) (upd z k v) ∧ B ≤ G ∧ Fr [G] w6 wx)
      case first =>
        have HCA : Hid ((w6.alloc (.cells #[.int .u64 ((v : Nat) : Int)] 31)).cell? ⟨w6.heap.size, 0, none⟩ = some (.int .u64 ((v : Nat) : Int))) := by
          show _ = _
          rw [World.cell?_alloc_at _ _ _ _ rfl]; rfl
        go_region_law (first
          | (refine step_append_v rfl _ _ rfl (B := B) (v := .slice ao k cap) (k := k) (z := z) (X := v) (g := w6.heap.size) (c := 1) rfl rfl (by simp; omega) (HV6.out.kept (((Fr.refl [] _).alloc _).drew) (by simp)) HCA.out (by omega) ?_
             intro v3 w7 G hv3 hG hf7
             have HV7 : Hid (VRow B w7 v3 (k + 1) (upd z k v)) := hv3
             have HF7 : Hid (Fr [G] w6 w7) := (((Fr.refl [G] w6).alloc _).drew).trans hf7 (by simp)
             clear hv3 hf7))
        all_goals (go_wp2_with fail; go_meet; exact ⟨rfl, G, HV7.out, hG, HF7.out⟩)
      case rest =>
        obtain ⟨rfl, G, hv7, hG, hf7⟩ := hcut
        have hqG : q ≠ G := by omega
        have hhG : h ≠ G := by omega
        have HX7 : Hid (TrI wc x (tnext (trow z k) v)) := HX6.out.kept hf7 (by simp; omega)
        have HO7 : Hid (TrU wc y t0) := HO6.out.kept hf7 (by simp; omega)
        have HR7 : Hid (Rd wc q h T (pos + LM) n false) := HR6.out.kept hf7 (by simp; omega) (by simp; omega)
        have HF7 : Hid (Fr [] w wc) := HF6.out.trans hf7 (by simp; omega)
        have HV7 : Hid (VRow B wc u12 (k + 1) (upd z k v)) := hv7
        have hB7 : B ≤ wc.heap.size := Nat.le_trans hB6 hf7.size
        have hzL : (txt (T.drop (pos + LM))).size = n - (pos + LM) := by rw [txt_size, List.length_drop, HTL.out]
        obtain ⟨RR, hRR⟩ : ∃ RR, RR = T.drop (pos + LM) := ⟨_, rfl⟩
        have HRR : Hid (RR = T.drop (pos + LM)) := hRR
        rw [← hRR] at hzL ⊢
        obtain ⟨P2, hP2⟩ : ∃ P2, P2 = pos + LM := ⟨_, rfl⟩
        have HP2 : Hid (P2 = pos + LM) := hP2
        rw [← hP2] at hzL HR7 hfit
        have hP3 : k + 1 ≤ P2 := by omega
        clear HX6 HO6 HR6 HV6 HF6 hf7 hv7 hB6 hRR hP2 hxx hyy hzR hzM i1 i2 hqG hhG
        go_wp2_with fail
        refine (left_any wc q h T P2 n false HR7.out (by rw [HTL.out]; omega)).mono ?_
        rintro e w8 ⟨rfl, hf8⟩
        go_wp2_with fail
        go_roundw
        case rel => exact ⟨k + 1, P2, upd z k v, by rw [HRR.out, HP2.out], by go_num, upd_lt HZ.out HV.out, hP3, hfit, HR7.out.kept hf8 (by simp) (by simp), (by rw [upd_next]; exact HX7.out.kept hf8 (by simp)), HO7.out.kept hf8 (by simp), HV7.out.kept hf8 (by simp), Nat.le_trans hB7 hf8.size, HF7.out.trans hf8 (by simp)⟩
        case measure => simp [intOf]; omega
    · have hzR : (txt R).size ≤ 480 := by rw [txt_size, HRL.out]; omega
      have HRP : Hid (∀ w : World, Calls Tryd.prog 32 #[.string (txt R)] w fun e w' => e = .returned (.tuple #[.int .i64 (-1), .string ⟨#[]⟩]) ∧ Fr [] w w') := fun w =>
        rparse_any R w kk _ _ (by rw [HRL.out]; omega) (by rw [HRD.out]; exact lead_drop HTL.out hpn HKK.out) (.inr ⟨by rw [HRL.out]; omega, rfl, rfl⟩)
      have HX5 : Hid (TrI w5 x (trow z k)) := hx5
      subst hvl
      clear hx5 hr5 HKK
      rw [sg_zero]
      go_wp2_with fail
      refine (HRP.out w5).mono ?_
      rintro e w6 ⟨rfl, hf6⟩
      have HX6 : Hid (TrI w6 x (trow z k)) := HX5.out.kept hf6 (by simp)
      have HO6 : Hid (TrU w6 y t0) := HO5.out.kept hf6 (by simp)
      have HF6 : Hid (Fr [] w w6) := HF5.out.trans hf6 (by simp)
      clear HX5 HO5 HF5 hf6 HRP
      go_wp2_with fail
      refine (tlenI_any w6 x _ HX6.out).mono ?_
      rintro e w7 ⟨rfl, rfl⟩
      rw [HN.out]
      go_wp2_with fail
      refine (tlenU_any w6 y _ HO6.out).mono ?_
      rintro e w7 ⟨rfl, rfl⟩
      rw [show t0.n = 0 from rfl]
      go_wp2_with fail
      refine (awake_any w6 (HT.out.kept HF6.out (by simp))).mono ?_
      rintro e w8 ⟨rfl, hf8⟩
      go_wp2_with fail
      go_ret
      exact ⟨by first | rfl | trivial, HF6.out.trans hf8 (by simp)⟩
    · have hzR : (txt R).size ≤ 480 := by rw [txt_size, HRL.out]; omega
      have HRP : Hid (∀ w : World, Calls Tryd.prog 32 #[.string (txt R)] w fun e w' => e = .returned (.tuple #[.int .i64 ((fore kk + bh kk : Nat) : Int), .string (txt ((R.drop (fore kk)).take (bh kk)))]) ∧ Fr [] w w') := fun w =>
        rparse_any R w kk _ _ (by rw [HRL.out]; omega) (by rw [HRD.out]; exact lead_drop HTL.out hpn HKK.out) (.inl ⟨by rw [HRL.out]; omega, rfl, rfl⟩)
      have HX5 : Hid (TrI w5 x (trow z k)) := hx5
      obtain ⟨U, hU⟩ : ∃ U, U = fore kk + bh kk := ⟨_, rfl⟩
      have du : decide ((U : Int) < 0) = false := decide_eq_false (by omega)
      have dv : decide (0 ≤ (U : Int)) = true := decide_eq_true (by omega)
      rw [← hU] at HRP
      generalize (R.drop (fore kk)).take (bh kk) = BH at *
      clear hU
      subst hvl
      clear hx5 hr5 HKK hfit
      rw [sg_zero]
      go_wp2_with fail
      refine (HRP.out w5).mono ?_
      rintro e w6 ⟨rfl, hf6⟩
      have HX6 : Hid (TrI w6 x (trow z k)) := HX5.out.kept hf6 (by simp)
      have HO6 : Hid (TrU w6 y t0) := HO5.out.kept hf6 (by simp)
      have HF6 : Hid (Fr [] w w6) := HF5.out.trans hf6 (by simp)
      clear HX5 HO5 HF5 hf6 HRP
      go_wp2_with fail
      refine (tlenI_any w6 x _ HX6.out).mono ?_
      rintro e w7 ⟨rfl, rfl⟩
      rw [HN.out]
      go_wp2_with fail
      refine (tlenU_any w6 y _ HO6.out).mono ?_
      rintro e w7 ⟨rfl, rfl⟩
      rw [show t0.n = 0 from rfl]
      go_wp2_with fail
      refine (awake_any w6 (HT.out.kept HF6.out (by simp))).mono ?_
      rintro e w8 ⟨rfl, hf8⟩
      go_wp2_with fail
      go_ret
      exact ⟨by first | rfl | trivial, HF6.out.trans hf8 (by simp)⟩

set_option maxRecDepth 100000 in
set_option maxHeartbeats 8000000 in
theorem treads_goodU (a0 : Option Addr) (cap0 : Nat) (bs : List Nat) (n : Nat) (w : World) (hT : Tab w) (hsrc : Src w (.slice a0 bs.length cap0) bs) (hlen : bs.length ≤ 60) (hn : n ≤ 8 * bs.length) :
    Calls Tryd.prog 5 #[.slice a0 bs.length cap0, .int .i64 (n : Int), .bool false] w fun e w' => e = .returned (.bool true) ∧ Fr [] w w' := by
  have hsz := hT.lt
  have HT : Hid (Tab w) := hT
  have h256 : ∀ x ∈ bs, x < 256 := by obtain ⟨_, _, _, _, _, _, h⟩ := hsrc; exact h
  have H256 : Hid (∀ x ∈ bs, x < 256) := h256
  clear hT h256
  have hrun := run_str hsrc
  have HSRC : Hid (Src w (.slice a0 bs.length cap0) bs) := hsrc
  clear hsrc
  have d1 : decide (60 < (bs.length : Int)) = false := decide_eq_false (by omega)
  have d2 : decide ((n : Int) < 0) = false := decide_eq_false (by omega)
  have d3 : decide (8 * (bs.length : Int) < (n : Int)) = false := decide_eq_false (by omega)
  have hn480 : n ≤ 480 := by omega
  have HNB : Hid (nbs n ≤ bs.length) := nbs_le hn
  have HTX : Hid (∀ w : World, Calls Tryd.prog 30 #[.string (str bs), .int .i64 (n : Int)] w fun e w' => e = .returned (.string (txt (unpack bs n))) ∧ w = w') := fun w => text_any bs n w H256.out hn (by omega)
  obtain ⟨T, hTT⟩ : ∃ T, T = unpack bs n := ⟨_, rfl⟩
  have HTL : Hid (T.length = n) := by show _ = _; rw [hTT]; simp
  rw [← hTT] at HTX
  have HTT : Hid (T = unpack bs n) := hTT
  clear hTT
  go_enter Tryd.func5, Tryd.ntmps5
  go_wp2_with fail
  refine (HTX.out w).mono ?_
  rintro e w' ⟨rfl, rfl⟩
  clear hrun
  go_wp2_with fail
  refine (newReader_ok _ bs n w HSRC.out HNB.out (by omega)).mono ?_
  rintro e w1 ⟨q, h, rfl, hr1, hq, hh, hf1⟩
  rw [← HTT.out] at hr1
  have hz1 := hf1.size
  have hl1 := hr1.lt
  clear HNB
  go_wp2_with fail
  refine (tnewI_any w1).mono ?_
  rintro e w2 ⟨x, rfl, hx2, hxz, hf2⟩
  have hr2 := hr1.kept hf2 (by simp) (by simp)
  have hF2 : Fr [] w w2 := hf1.trans hf2 (by simp)
  have hz2 := hf2.size
  have hxl := hx2.lt
  clear hr1 hf1 hf2
  go_wp2_with fail
  refine (tnewU_any w2).mono ?_
  rintro e w3 ⟨y, rfl, hy3, hyz, hf3⟩
  have hr3 := hr2.kept hf3 (by simp) (by simp)
  have hx3 := hx2.kept hf3 (by simp)
  have hF3 : Fr [] w w3 := hF2.trans hf3 (by simp)
  have hz3 := hf3.size
  have hyl := hy3.lt
  clear hr2 hx2 hF2 hf3
  obtain ⟨B, hB⟩ : ∃ B, w3.heap.size = B := ⟨_, rfl⟩
  have hord : w.heap.size ≤ B ∧ w.heap.size ≤ q ∧ w.heap.size ≤ h ∧ w.heap.size ≤ x ∧ w.heap.size ≤ y ∧ q < B ∧ h < B ∧ x < B ∧ y < B ∧ x ≠ y ∧ x ≠ q ∧ x ≠ h ∧ y ≠ q ∧ y ≠ h ∧ q ≠ h := by
    have := hr3.1
    omega
  have HB3 : Hid (B ≤ w3.heap.size) := by show _ ≤ _; omega
  clear hq hh hxz hyz hz1 hl1 hz2 hxl hz3 hyl hB
  obtain ⟨hB0, hq0, hh0, hx0, hy0, hqB, hhB, hxB, hyB, hxy, hxq, hxh, hyq, hyh, hqh⟩ := hord
  have htx : (ByteArray.mk #[]) = txt [] := rfl
  clear htx
  go_wp2_with fail
  go_loopw [7, 12, 13] (fun t l c wr => ∃ (k pos : Nat) (z : Nat → Nat), t = .string (txt (T.drop pos)) ∧ c = .int .i64 (k : Int) ∧ (∀ j, z j < 18446744073709551616) ∧ k ≤ pos ∧ pos ≤ n ∧ Rd wr q h T pos n false ∧ TrI wr x t0 ∧ TrU wr y (trow z k) ∧ VRow B wr l k z ∧ B ≤ wr.heap.size ∧ Fr [] w wr) (fun _ _ c _ => n + 1 - (intOf c).toNat)
  case atStart => exact ⟨0, 0, fun _ => 0, rfl, rfl, fun _ => show (0 : Nat) < 18446744073709551616 by decide, by omega, by omega, hr3, hx3, hy3, .inl ⟨rfl, rfl⟩, HB3.out, hF3⟩
  case round =>
    clear hr3 hx3 hy3 hF3 HB3
    obtain ⟨k, pos, z, rfl, rfl, hz, hkp, hpn, hrk, hxk, hyk, hvk, hBk, hfr⟩ := hrel
    obtain ⟨kk, hkk⟩ := lead_is T pos n hpn
    have HKK : Hid (LeadIs T pos n kk) := hkk
    have hk8 : kk ≤ 8 := hkk.1
    have dk : decide ((k : Int) ≤ (n : Int)) = true := decide_eq_true (by omega)
    have HZ : Hid (∀ j, z j < 18446744073709551616) := hz
    have HVK : Hid (VRow B wr u12 k z) := hvk
    have HX : Hid (TrI wr x t0) := hxk
    have HY : Hid (TrU wr y (trow z k)) := hyk
    have HR : Hid (Rd wr q h T pos n false) := hrk
    have HF : Hid (Fr [] w wr) := hfr
    have HN : Hid ((trow z k).n = k) := trow_n z k
    have HOK : Hid ((trow z k).ok) := trow_ok hz k
    clear hkk hz hvk hxk hyk hrk hfr
    go_wp2_with fail
    refine (tgetU_any wr y q h (trow z k) T pos n false kk (HT.out.kept HF.out (by simp)) (by omega) (by omega) (by omega) (by omega) HY.out HR.out (by rw [HTL.out]; omega) HKK.out HOK.out (by rw [HN.out]; omega)).mono ?_
    rintro e w5 ⟨v, er, rfl, hf5, hcs⟩
    have HV5 : Hid (VRow B w5 u12 k z) := HVK.out.kept hf5 (by simp; omega)
    have HO5 : Hid (TrI w5 x t0) := HX.out.kept hf5 (by simp; omega)
    have HF5 : Hid (Fr [] w w5) := HF.out.trans hf5 (by simp; omega)
    have hB5 : B ≤ w5.heap.size := Nat.le_trans hBk hf5.size
    obtain ⟨ao, cap, bb, hvl, hnum⟩ := HV5.out.nums
    have HNUM : Hid (Nums w5 ao k bb 0 z) := hnum
    obtain ⟨R, hR⟩ : ∃ R, R = T.drop pos := ⟨_, rfl⟩
    have HRD : Hid (R = T.drop pos) := hR
    have HRL : Hid (R.length = n - pos) := by show _ = _; rw [hR, List.length_drop, HTL.out]
    rw [← hR]
    clear HVK HX HY HR HF hf5 hBk hnum hR
    rcases hcs with ⟨rfl, hv, hx5, hfit, htake, hr5⟩ | ⟨rfl, rfl, hx5, hlt, pos', hr5⟩ | ⟨rfl, rfl, hx5, hfit, hr5⟩
    · obtain ⟨M, hM⟩ : ∃ M, M = tbits false (trow z k) v := ⟨_, rfl⟩
      obtain ⟨LM, hLM⟩ : ∃ LM, LM = M.length := ⟨_, rfl⟩
      obtain ⟨LR, hLR⟩ : ∃ LR, LR = n - pos := ⟨_, rfl⟩
      have hMp : 1 ≤ LM := by rw [hLM, hM]; exact tbits_pos _ _ _
      rw [← hM, ← hLM] at hfit htake hr5
      have hMR : LM ≤ LR := by omega
      have HMT : Hid (M = (T.drop pos).take LM) := htake.symm
      have hzR : (txt R).size = LR := by rw [txt_size, HRL.out, hLR]
      have hzM : (txt M).size = LM := by rw [txt_size, hLM]
      have hLR5 : LR ≤ 480 := by omega
      have hxx : (txt R).extract 0 LM = txt M := by rw [txt_take, HRD.out, HMT.out]
      have hyy : (txt R).extract LM LR = txt (T.drop (pos + LM)) := by
        have := txt_drop R LM (by rw [HRL.out]; omega)
        rw [hzR, HRD.out, List.drop_drop] at this
        exact HRD.out ▸ this
      have HLEN : Hid (LR = n - pos) := hLR
      have HM : Hid (M = tbits false (trow z k) v) := hM
      have HX5 : Hid (TrU w5 y (tnext (trow z k) v)) := hx5
      have HR5 : Hid (Rd w5 q h T (pos + LM) n false) := hr5
      have HV : Hid (v < 18446744073709551616) := hv
      have dgt : decide ((LR : Int) < (LM : Int)) = false := decide_eq_false (by omega)
      have dgt2 : decide (LR < LM) = false := decide_eq_false (by omega)
      have i1 : (0 : Int) ≤ (LM : Int) := by omega
      have i2 : (LM : Int) ≤ (LR : Int) := by omega
      have HPUT : Hid (∀ wx, Fr [] w5 wx → Calls Tryd.prog 11 #[.slice ao k cap, .int .u64 ((v : Nat) : Int), .int .i64 0] wx fun e w' => e = .returned (.string (txt M)) ∧ Fr [] w5 w') := fun wx hx => by
        have := rput_any ao k cap bb 0 z v 0 wx (HNUM.out.kept hx (by simp)) (by omega) HZ.out HV.out (.inl rfl)
        rw [HM.out]
        exact this.mono fun e w' ⟨a, b⟩ => ⟨a, hx.trans b (by simp)⟩
      
      subst hvl
      clear hM hLM hLR htake hx5 hr5 hv
      go_wp2_with fail
      refine (HPUT.out w5 (Fr.refl _ _)).mono ?_
      rintro e w6 ⟨rfl, hf6⟩
      have HX6 : Hid (TrU w6 y (tnext (trow z k) v)) := HX5.out.kept hf6 (by simp)
      have HO6 : Hid (TrI w6 x t0) := HO5.out.kept hf6 (by simp)
      have HR6 : Hid (Rd w6 q h T (pos + LM) n false) := HR5.out.kept hf6 (by simp) (by simp)
      have HV6 : Hid (VRow B w6 (.slice ao k cap) k z) := HV5.out.kept hf6 (by simp)
      have HF6 : Hid (Fr [] w w6) := HF5.out.trans hf6 (by simp)
      have hB6 : B ≤ w6.heap.size := Nat.le_trans hB5 hf6.size
      clear HX5 HO5 HR5 HV5 HF5 hf6 HPUT hB5
      go_wp2_with fail
      go_upto_region 24 with fail
      go_cut [7, 12] from 135 to 142 (fun ct cl wx => ct = .string (txt (T.drop (pos + LM))) ∧ ∃ G, VRow B wx cl (k + 1) (upd z k v) ∧ B ≤ G ∧ Fr [G] w6 wx)
      case first =>
        have HCA : Hid ((w6.alloc (.cells #[.int .u64 ((v : Nat) : Int)] 31)).cell? ⟨w6.heap.size, 0, none⟩ = some (.int .u64 ((v : Nat) : Int))) := by
          show _ = _
          rw [World.cell?_alloc_at _ _ _ _ rfl]; rfl
        go_region_law (first
          | (refine step_append_v rfl _ _ rfl (B := B) (v := .slice ao k cap) (k := k) (z := z) (X := v) (g := w6.heap.size) (c := 1) rfl rfl (by simp; omega) (HV6.out.kept (((Fr.refl [] _).alloc _).drew) (by simp)) HCA.out (by omega) ?_
             intro v3 w7 G hv3 hG hf7
             have HV7 : Hid (VRow B w7 v3 (k + 1) (upd z k v)) := hv3
             have HF7 : Hid (Fr [G] w6 w7) := (((Fr.refl [G] w6).alloc _).drew).trans hf7 (by simp)
             clear hv3 hf7))
        all_goals (go_wp2_with fail; go_meet; exact ⟨rfl, G, HV7.out, hG, HF7.out⟩)
      case rest =>
        obtain ⟨rfl, G, hv7, hG, hf7⟩ := hcut
        have hqG : q ≠ G := by omega
        have hhG : h ≠ G := by omega
        have HX7 : Hid (TrU wc y (tnext (trow z k) v)) := HX6.out.kept hf7 (by simp; omega)
        have HO7 : Hid (TrI wc x t0) := HO6.out.kept hf7 (by simp; omega)
        have HR7 : Hid (Rd wc q h T (pos + LM) n false) := HR6.out.kept hf7 (by simp; omega) (by simp; omega)
        have HF7 : Hid (Fr [] w wc) := HF6.out.trans hf7 (by simp; omega)
        have HV7 : Hid (VRow B wc u12 (k + 1) (upd z k v)) := hv7
        have hB7 : B ≤ wc.heap.size := Nat.le_trans hB6 hf7.size
        have hzL : (txt (T.drop (pos + LM))).size = n - (pos + LM) := by rw [txt_size, List.length_drop, HTL.out]
        obtain ⟨RR, hRR⟩ : ∃ RR, RR = T.drop (pos + LM) := ⟨_, rfl⟩
        have HRR : Hid (RR = T.drop (pos + LM)) := hRR
        rw [← hRR] at hzL ⊢
        obtain ⟨P2, hP2⟩ : ∃ P2, P2 = pos + LM := ⟨_, rfl⟩
        have HP2 : Hid (P2 = pos + LM) := hP2
        rw [← hP2] at hzL HR7 hfit
        have hP3 : k + 1 ≤ P2 := by omega
        clear HX6 HO6 HR6 HV6 HF6 hf7 hv7 hB6 hRR hP2 hxx hyy hzR hzM i1 i2 hqG hhG
        go_wp2_with fail
        refine (left_any wc q h T P2 n false HR7.out (by rw [HTL.out]; omega)).mono ?_
        rintro e w8 ⟨rfl, hf8⟩
        go_wp2_with fail
        go_roundw
        case rel => exact ⟨k + 1, P2, upd z k v, by rw [HRR.out, HP2.out], by go_num, upd_lt HZ.out HV.out, hP3, hfit, HR7.out.kept hf8 (by simp) (by simp), HO7.out.kept hf8 (by simp), (by rw [upd_next]; exact HX7.out.kept hf8 (by simp)), HV7.out.kept hf8 (by simp), Nat.le_trans hB7 hf8.size, HF7.out.trans hf8 (by simp)⟩
        case measure => simp [intOf]; omega
    · have hzR : (txt R).size ≤ 480 := by rw [txt_size, HRL.out]; omega
      have HRP : Hid (∀ w : World, Calls Tryd.prog 32 #[.string (txt R)] w fun e w' => e = .returned (.tuple #[.int .i64 (-1), .string ⟨#[]⟩]) ∧ Fr [] w w') := fun w =>
        rparse_any R w kk _ _ (by rw [HRL.out]; omega) (by rw [HRD.out]; exact lead_drop HTL.out hpn HKK.out) (.inr ⟨by rw [HRL.out]; omega, rfl, rfl⟩)
      have HX5 : Hid (TrU w5 y (trow z k)) := hx5
      subst hvl
      clear hx5 hr5 HKK
      
      go_wp2_with fail
      refine (HRP.out w5).mono ?_
      rintro e w6 ⟨rfl, hf6⟩
      have HX6 : Hid (TrU w6 y (trow z k)) := HX5.out.kept hf6 (by simp)
      have HO6 : Hid (TrI w6 x t0) := HO5.out.kept hf6 (by simp)
      have HF6 : Hid (Fr [] w w6) := HF5.out.trans hf6 (by simp)
      clear HX5 HO5 HF5 hf6 HRP
      go_wp2_with fail
      refine (tlenI_any w6 x _ HO6.out).mono ?_
      rintro e w7 ⟨rfl, rfl⟩
      rw [show t0.n = 0 from rfl]
      go_wp2_with fail
      refine (tlenU_any w6 y _ HX6.out).mono ?_
      rintro e w7 ⟨rfl, rfl⟩
      rw [HN.out]
      go_wp2_with fail
      refine (awake_any w6 (HT.out.kept HF6.out (by simp))).mono ?_
      rintro e w8 ⟨rfl, hf8⟩
      go_wp2_with fail
      go_ret
      exact ⟨by first | rfl | trivial, HF6.out.trans hf8 (by simp)⟩
    · have hzR : (txt R).size ≤ 480 := by rw [txt_size, HRL.out]; omega
      have HRP : Hid (∀ w : World, Calls Tryd.prog 32 #[.string (txt R)] w fun e w' => e = .returned (.tuple #[.int .i64 ((fore kk + bh kk : Nat) : Int), .string (txt ((R.drop (fore kk)).take (bh kk)))]) ∧ Fr [] w w') := fun w =>
        rparse_any R w kk _ _ (by rw [HRL.out]; omega) (by rw [HRD.out]; exact lead_drop HTL.out hpn HKK.out) (.inl ⟨by rw [HRL.out]; omega, rfl, rfl⟩)
      have HX5 : Hid (TrU w5 y (trow z k)) := hx5
      obtain ⟨U, hU⟩ : ∃ U, U = fore kk + bh kk := ⟨_, rfl⟩
      have du : decide ((U : Int) < 0) = false := decide_eq_false (by omega)
      have dv : decide (0 ≤ (U : Int)) = true := decide_eq_true (by omega)
      rw [← hU] at HRP
      generalize (R.drop (fore kk)).take (bh kk) = BH at *
      clear hU
      subst hvl
      clear hx5 hr5 HKK hfit
      
      go_wp2_with fail
      refine (HRP.out w5).mono ?_
      rintro e w6 ⟨rfl, hf6⟩
      have HX6 : Hid (TrU w6 y (trow z k)) := HX5.out.kept hf6 (by simp)
      have HO6 : Hid (TrI w6 x t0) := HO5.out.kept hf6 (by simp)
      have HF6 : Hid (Fr [] w w6) := HF5.out.trans hf6 (by simp)
      clear HX5 HO5 HF5 hf6 HRP
      go_wp2_with fail
      refine (tlenI_any w6 x _ HO6.out).mono ?_
      rintro e w7 ⟨rfl, rfl⟩
      rw [show t0.n = 0 from rfl]
      go_wp2_with fail
      refine (tlenU_any w6 y _ HX6.out).mono ?_
      rintro e w7 ⟨rfl, rfl⟩
      rw [HN.out]
      go_wp2_with fail
      refine (awake_any w6 (HT.out.kept HF6.out (by simp))).mono ?_
      rintro e w8 ⟨rfl, hf8⟩
      go_wp2_with fail
      go_ret
      exact ⟨by first | rfl | trivial, HF6.out.trans hf8 (by simp)⟩

theorem treads_walk (a0 : Option Addr) (len0 cap0 : Nat) (z0 : List Int) (a1 : Int) (s : Bool) (w : World) (hT : Tab w) (w0 : IsRow .u8 w a0 len0 cap0 z0) (w1 : (Lit.int .i64 a1).wf = true) :
    Calls Tryd.prog 5 #[.slice a0 len0 cap0, .int .i64 a1, .bool s] w fun e w' => e = .returned (.bool true) ∧ Fr [] w w' := by
  obtain ⟨bs, hbl, hsrc⟩ := w0.src
  subst hbl
  by_cases hbad : 60 < bs.length ∨ a1 < 0 ∨ 8 * (bs.length : Int) < a1
  · refine treads_bad a0 bs.length cap0 a1 s w hT hbad ?_
    obtain ⟨ao, cap, e, h1, h2, _⟩ := hsrc
    omega
  · obtain ⟨n, rfl⟩ := Int.eq_ofNat_of_zero_le (show 0 ≤ a1 by omega)
    cases s with
    | true => exact treads_goodI a0 cap0 bs n w hT hsrc (by omega) (by omega)
    | false => exact treads_goodU a0 cap0 bs n w hT hsrc (by omega) (by omega)
end Go.Proofs.YtmoodonemcpgnaaDoor

