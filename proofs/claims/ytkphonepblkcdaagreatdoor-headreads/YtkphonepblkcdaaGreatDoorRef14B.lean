/-
  The document's bits of spans, of a head.
-/
import Derived.Test.YtkphonepblkcdaaGreatDoorRef14W
import Derived.Test.YtkphonepblkcdaaGreatDoorRef12P
import Derived.Test.YtkphonepblkcdaaGreatDoorHdPut2
namespace Go.Proofs.YtkphonepblkcdaaGreatDoor
open Go.RowKit Mem Spans Bits Groups Thrs
set_option linter.unusedSimpArgs false
set_option linter.unusedVariables false
set_option maxRecDepth 100000

/-- Texts of bits, one behind the other. -/
theorem addT {a b c : List Bool} (hc : a ++ b = c) (h : c.length ≤ 9223372036854775807) (w : World) : (Op.stringOp .add (txt a) (txt b)).run Tryz.prog w = .ok (.string (txt c)) w := by
  have := run_string_add_sum (P := Tryz.prog) w (txt a) (txt b) (by rw [txt_size, txt_size]; rw [← hc, List.length_append] at h; omega)
  rw [this, txt_append, hc]
theorem txt_five : (⟨#[48, 48, 48, 48, 48]⟩ : ByteArray) = txt (numBits 0 5) := by decide
theorem addF {a c : List Bool} (hc : a ++ numBits 0 5 = c) (h : c.length ≤ 9223372036854775807) (w : World) : (Op.stringOp .add (txt a) ⟨#[48, 48, 48, 48, 48]⟩).run Tryz.prog w = .ok (.string (txt c)) w := by
  rw [txt_five]; exact addT hc h w

set_option maxHeartbeats 4000000 in
theorem lspans_any (v : Value) (L : List Sp) (w : World) (hS : SSrc w v L) (hl : L.length ≤ 1000000) :
    Calls Tryz.prog 52 #[v] w fun e w' => e = .returned (.string (txt (sdb L))) ∧ Fr [] w w' := by
  have HLU : Hid (∀ W (V : Nat), V < 18446744073709551616 → Calls Tryz.prog 82 #[.int .u64 (V : Int)] W fun e w' => e = .returned (.string (txt (ubits V))) ∧ Fr [] W w') := fun W V hV => U_any V W hV
  have HLS : Hid (∀ W (o : Int), in64 o → Calls Tryz.prog 50 #[.int .i64 o] W fun e w' => e = .returned (.string (txt (sbits o))) ∧ Fr [] W w') := fun W o ho => S_any o W ho.1 ho.2
  obtain ⟨ao, cap, rfl, hcap, hmax, h64, b, off, ha, hc⟩ := hS
  have HC : Hid (∀ j s, L[j]? = some s → w.cell? ⟨b, off + j * 2, none⟩ = some (.int .i64 s.1) ∧ w.cell? ⟨b, off + j * 2 + 1, none⟩ = some (.int .i64 s.2)) := hc
  have H64 : Hid (∀ s ∈ L, in64 s.1 ∧ in64 s.2) := h64
  have HA : Hid (0 < L.length → ao = some ⟨b, off, none⟩) := ha
  have hwL : IntKind.u64.wrap ((L.length : Nat) : Int) = ((L.length : Nat) : Int) := wrapU_nat (by omega)
  have hml : L.length ≤ 9223372036854775807 := by omega
  clear ha hc h64 hcap hmax
  go_enter Tryz.func52, Tryz.ntmps52
  go_wp2_with fail
  refine (HLU.out w L.length (by omega)).mono ?_
  rintro e w1 ⟨rfl, hf1⟩
  have HF1 : Hid (Fr [] w w1) := hf1
  clear hf1 hwL
  go_wp2
  go_loopw [3, 4] (fun n i wr => ∃ (k : Nat), k ≤ L.length ∧ i = .int .i64 (k : Int) ∧ n = .string (txt (ubits L.length ++ spb (L.take k))) ∧ Fr [] w wr) (fun _ i _ => L.length - (intOf i).toNat)
  case atStart => exact ⟨0, by omega, rfl, by simp [spb], HF1.out⟩
  case round =>
    obtain ⟨k, hk, rfl, rfl, hf⟩ := hrel
    have HF : Hid (Fr [] w wr) := hf
    clear hf HF1
    by_cases hlt : k < L.length
    · obtain rfl := HA.out (by omega)
      obtain ⟨s, hs⟩ := at_lt hlt
      have HI1 : Hid (in64 s.1) := (H64.out s (List.mem_of_getElem? hs)).1
      have L0 : ∀ wx, Fr [] wr wx → wx.cell? ⟨b, off + k * 2, none⟩ = some (.int .i64 s.1) := fun wx hx => (HF.out.trans hx (by simp)).cell_some (HC.out k s hs).1 (by simp)
      have L1 : ∀ wx, Fr [] wr wx → wx.cell? ⟨b, off + k * 2 + 1, none⟩ = some (.int .i64 s.2) := fun wx hx => (HF.out.trans hx (by simp)).cell_some (HC.out k s hs).2 (by simp)
      have h1 := spb_le (L.take k)
      have h2 := ubits_le L.length
      have h3 := ubits_le (tw s.2)
      have h4 := sbits_le s.1
      rw [List.length_take] at h1
      have HT : Hid (spb (L.take (k + 1)) = spb (L.take k) ++ (ubits (tw s.2) ++ sbits s.1)) := by rw [Hid, take_at hs, spb_append, spb_one]
      clear hs
      obtain ⟨o, n⟩ := s
      have hwn : IntKind.u64.wrap n = ((tw n : Nat) : Int) := wrap_tw n
      simp only at L0 L1 HT h3 h4 HI1
      have HP1 : Hid (∀ wx, Fr [] wr wx → Calls Tryz.prog 82 #[.int .u64 ((tw n : Nat) : Int)] wx fun e w' => e = .returned (.string (txt (ubits (tw n)))) ∧ Fr [] wr w') := by
        intro wx hx
        refine (HLU.out wx (tw n) (tw_lt n)).mono ?_
        rintro e w' ⟨rfl, h⟩
        exact ⟨rfl, hx.trans h (by simp)⟩
      have HP2 : Hid (∀ wx, Fr [] wr wx → Calls Tryz.prog 50 #[.int .i64 o] wx fun e w' => e = .returned (.string (txt (sbits o))) ∧ Fr [] wr w') := by
        intro wx hx
        refine (HLS.out wx o HI1.out).mono ?_
        rintro e w' ⟨rfl, h⟩
        exact ⟨rfl, hx.trans h (by simp)⟩
      obtain ⟨US, hUS⟩ : ∃ US, ubits (tw n) ++ sbits o = US := ⟨_, rfl⟩
      have hUl : US.length ≤ 144 := by rw [← hUS, List.length_append]; omega
      rw [hUS] at HT
      generalize hY : ubits L.length ++ spb (L.take k) = Y at *
      have hYl : Y.length ≤ 144 * L.length + 72 := by rw [← hY, List.length_append]; omega
      obtain ⟨Z, hZ⟩ : ∃ Z, Y ++ US = Z := ⟨_, rfl⟩
      have HZ : Hid (Z = ubits L.length ++ spb (L.take (k + 1))) := by rw [Hid, ← hZ, ← hY, HT.out, List.append_assoc]
      have a1 := addT hUS (by omega)
      have a2 := addT hZ (by rw [← hZ, List.length_append]; omega)
      clear hY hYl hZ hUS hUl HT h1 h2 h3 h4 H64 HC HA HI1 HLU HLS
      generalize ubits (tw n) = UU at *
      generalize sbits o = SS at *
      have F0 : Fr [] wr wr.drew := (Fr.refl _ _).drew
      go_wp2_with fail
      go_region_held3 (fun w' => w'.cell? ⟨b, off + k * 2, none⟩ = some (.int .i64 o) ∧ w'.cell? ⟨b, off + k * 2 + 1, none⟩ = some (.int .i64 n)) (go_keep) (first
        | (go_at_call 82; with_reducible refine (HP1.out _ F0).mono ?_; rintro e wa ⟨rfl, hfa⟩)
        | (go_at_call 50; with_reducible refine (HP2.out _ hfa).mono ?_; rintro e wb ⟨rfl, hfb⟩))
      all_goals (go_wp2)
      all_goals (go_roundw)
      case rel => exact ⟨k + 1, by omega, by go_num, by rw [HZ.out], HF.out.trans hfb (by simp)⟩
      case measure => simp [intOf]; omega
    · have HE : Hid (ubits L.length ++ spb (L.take k) = sdb L) := by
        rw [Hid, List.take_of_length_le (by omega)]
        rfl
      rw [HE.out]
      go_wp2
      go_ret
      exact ⟨rfl, HF.out⟩

set_option maxHeartbeats 8000000 in
theorem lbits14_any (u : Value) (h : Hd) (w : World) (hH : HdSrc w u h) (hl : h.P.length ≤ 1000000 ∧ h.N.length ≤ 1000000) :
    Calls Tryz.prog 19 #[u] w fun e w' => e = .returned (.string (txt (hbits h))) ∧ Fr [] w w' := by
  obtain ⟨po, pc, no, nc, rfl, hin, hsp, hsn⟩ := hH
  have HSP : Hid (∀ W, Fr [] w W → SSrc W (.slice po h.P.length pc) h.P ∧ SSrc W (.slice no h.N.length nc) h.N) := fun W f => ⟨hsp.kept f, hsn.kept f⟩
  have HIN : Hid (in64 h.s ∧ h.z < 18446744073709551616) := ⟨hin.2.2.1, hin.2.2.2⟩
  have HBT : Hid (hbits h = numBits (tw h.h) 2 ++ numBits (tw h.v) 1 ++ numBits 0 5 ++ sbits h.s ++ tbits h.z ++ sdb h.P ++ sdb h.N) := rfl
  have hbl := hbits_le h
  clear hin hsp hsn
  generalize hbits h = HB at *
  obtain ⟨hv, hh, hs, hz, P, N⟩ := h
  simp only at HSP HIN HBT hbl hl ⊢
  have HL : Hid (P.length ≤ 1000000 ∧ N.length ≤ 1000000) := hl
  have hw1 : IntKind.u64.wrap hh = ((tw hh : Nat) : Int) := wrap_tw hh
  have hw2 : IntKind.u64.wrap hv = ((tw hv : Nat) : Int) := wrap_tw hv
  have HN2 : Hid (∀ wx, Calls Tryz.prog 49 #[.int .u64 ((tw hh : Nat) : Int), .int .i64 2] wx fun e w' => e = .returned (.string (txt (numBits (tw hh) 2))) ∧ wx = w') := fun wx => number_any (tw hh) 2 wx (tw_lt hh) (by omega)
  have HN1 : Hid (∀ wx, Calls Tryz.prog 49 #[.int .u64 ((tw hv : Nat) : Int), .int .i64 1] wx fun e w' => e = .returned (.string (txt (numBits (tw hv) 1))) ∧ wx = w') := fun wx => number_any (tw hv) 1 wx (tw_lt hv) (by omega)
  go_enter Tryz.func19, Tryz.ntmps19
  have HF0 : Hid (Fr [] w (w.alloc (.cells #[.int .i64 hv, .int .i64 hh, .int .i64 hs, .int .u64 (hz : Int), .slice po P.length pc, .slice no N.length nc] 32))) := (Fr.refl _ _).alloc _
  have HS0 : Hid (Six' 32 (w.alloc (.cells #[.int .i64 hv, .int .i64 hh, .int .i64 hs, .int .u64 (hz : Int), .slice po P.length pc, .slice no N.length nc] 32)) w.heap.size #[.int .i64 hv, .int .i64 hh, .int .i64 hs, .int .u64 (hz : Int), .slice po P.length pc, .slice no N.length nc]) := heap_alloc_new _ _
  go_upto_region 1 with fail
  generalize (w.alloc (.cells #[.int .i64 hv, .int .i64 hh, .int .i64 hs, .int .u64 (hz : Int), .slice po P.length pc, .slice no N.length nc] 32)) = w1 at *
  have L0 : ∀ W, Fr [] w1 W → W.cell? ⟨w.heap.size, 0, none⟩ = some (.int .i64 hv) := fun W f => f.cell_some (HS0.out.cell 0 rfl) List.not_mem_nil
  have L1 : ∀ W, Fr [] w1 W → W.cell? ⟨w.heap.size, 1, none⟩ = some (.int .i64 hh) := fun W f => f.cell_some (HS0.out.cell 1 rfl) List.not_mem_nil
  have L2 : ∀ W, Fr [] w1 W → W.cell? ⟨w.heap.size, 2, none⟩ = some (.int .i64 hs) := fun W f => f.cell_some (HS0.out.cell 2 rfl) List.not_mem_nil
  have L3 : ∀ W, Fr [] w1 W → W.cell? ⟨w.heap.size, 3, none⟩ = some (.int .u64 (hz : Int)) := fun W f => f.cell_some (HS0.out.cell 3 rfl) List.not_mem_nil
  have L4 : ∀ W, Fr [] w1 W → W.cell? ⟨w.heap.size, 4, none⟩ = some (.slice po P.length pc) := fun W f => f.cell_some (HS0.out.cell 4 rfl) List.not_mem_nil
  have L5 : ∀ W, Fr [] w1 W → W.cell? ⟨w.heap.size, 5, none⟩ = some (.slice no N.length nc) := fun W f => f.cell_some (HS0.out.cell 5 rfl) List.not_mem_nil
  have HP1 : Hid (∀ wx, Fr [] w1 wx → Calls Tryz.prog 50 #[.int .i64 hs] wx fun e w' => e = .returned (.string (txt (sbits hs))) ∧ Fr [] w1 w') := by
    intro wx hx
    refine (S_any hs wx HIN.out.1.1 HIN.out.1.2).mono ?_
    rintro e w' ⟨rfl, h⟩
    exact ⟨rfl, hx.trans h (by simp)⟩
  have HP2 : Hid (∀ wx, Calls Tryz.prog 51 #[.int .u64 (hz : Int)] wx fun e w' => e = .returned (.string (txt (tbits hz))) ∧ wx = w') := fun wx => rBits_any hz wx HIN.out.2
  have HP3 : Hid (∀ wx, Fr [] w1 wx → Calls Tryz.prog 52 #[.slice po P.length pc] wx fun e w' => e = .returned (.string (txt (sdb P))) ∧ Fr [] w1 w') := by
    intro wx hx
    refine (lspans_any _ P wx (HSP.out wx (HF0.out.trans hx (by simp))).1 HL.out.1).mono ?_
    rintro e w' ⟨rfl, h⟩
    exact ⟨rfl, hx.trans h (by simp)⟩
  have HP4 : Hid (∀ wx, Fr [] w1 wx → Calls Tryz.prog 52 #[.slice no N.length nc] wx fun e w' => e = .returned (.string (txt (sdb N))) ∧ Fr [] w1 w') := by
    intro wx hx
    refine (lspans_any _ N wx (HSP.out wx (HF0.out.trans hx (by simp))).2 HL.out.2).mono ?_
    rintro e w' ⟨rfl, h⟩
    exact ⟨rfl, hx.trans h (by simp)⟩
  obtain ⟨X1, hX1⟩ : ∃ X, numBits (tw hh) 2 ++ numBits (tw hv) 1 = X := ⟨_, rfl⟩
  obtain ⟨X2, hX2⟩ : ∃ X, X1 ++ numBits 0 5 = X := ⟨_, rfl⟩
  obtain ⟨X3, hX3⟩ : ∃ X, X2 ++ sbits hs = X := ⟨_, rfl⟩
  obtain ⟨X4, hX4⟩ : ∃ X, X3 ++ tbits hz = X := ⟨_, rfl⟩
  obtain ⟨X5, hX5⟩ : ∃ X, X4 ++ sdb P = X := ⟨_, rfl⟩
  have hX6 : X5 ++ sdb N = HB := by rw [HBT.out, ← hX5, ← hX4, ← hX3, ← hX2, ← hX1]
  have g6 : HB.length = X5.length + (sdb N).length := by rw [← hX6, List.length_append]
  have g5 : X5.length = X4.length + (sdb P).length := by rw [← hX5, List.length_append]
  have g4 : X4.length = X3.length + (tbits hz).length := by rw [← hX4, List.length_append]
  have g3 : X3.length = X2.length + (sbits hs).length := by rw [← hX3, List.length_append]
  have g2 : X2.length = X1.length + (numBits 0 5).length := by rw [← hX2, List.length_append]
  have a1 := addT hX1 (by omega)
  have a2 := addF hX2 (by omega)
  have a3 := addT hX3 (by omega)
  have a4 := addT hX4 (by omega)
  have a5 := addT hX5 (by omega)
  have a6 := addT hX6 (by omega)
  clear hX1 hX2 hX3 hX4 hX5 hX6 g2 g3 g4 g5 g6 hbl HBT hl HSP HIN HL
  generalize numBits (tw hh) 2 = B1 at *
  generalize numBits (tw hv) 1 = B2 at *
  generalize sbits hs = B3 at *
  generalize tbits hz = B4 at *
  generalize sdb P = B5 at *
  generalize sdb N = B6 at *
  have F0 : Fr [] w1 w1.drew := (Fr.refl _ _).drew
  go_region_held3 (fun w' => w'.cell? ⟨w.heap.size, 0, none⟩ = some (.int .i64 hv) ∧ w'.cell? ⟨w.heap.size, 1, none⟩ = some (.int .i64 hh) ∧ w'.cell? ⟨w.heap.size, 2, none⟩ = some (.int .i64 hs) ∧ w'.cell? ⟨w.heap.size, 3, none⟩ = some (.int .u64 (hz : Int)) ∧ w'.cell? ⟨w.heap.size, 4, none⟩ = some (.slice po P.length pc) ∧ w'.cell? ⟨w.heap.size, 5, none⟩ = some (.slice no N.length nc)) (go_keep) (first
    | (go_at_call 49; with_reducible refine (HN2.out _).mono ?_; rintro e wa ⟨rfl, rfl⟩)
    | (go_at_call 49; with_reducible refine (HN1.out _).mono ?_; rintro e wb ⟨rfl, rfl⟩)
    | (go_at_call 50; with_reducible refine (HP1.out _ F0).mono ?_; rintro e wc ⟨rfl, hfc⟩)
    | (go_at_call 51; with_reducible refine (HP2.out _).mono ?_; rintro e wd ⟨rfl, rfl⟩)
    | (go_at_call 52; with_reducible refine (HP3.out _ hfc).mono ?_; rintro e we ⟨rfl, hfe⟩)
    | (go_at_call 52; with_reducible refine (HP4.out _ hfe).mono ?_; rintro e wf ⟨rfl, hff⟩))
  all_goals (go_wp2)
  all_goals (go_ret)
  all_goals exact ⟨rfl, HF0.out.trans hff (by simp)⟩
end Go.Proofs.YtkphonepblkcdaaGreatDoor
