/-
  What the statements of layer 14 share: bits (a writer's bits as a text), and awake (a fixed answer): true, and nothing is turned that was there.
-/
import Derived.Test.YtkphonepblkcdaaGreatDoorRefTxt
import Derived.Test.YtkphonepblkcdaaGreatDoorHdHead
import Derived.Test.YtkphonepblkcdaaGreatDoorHdPut2
import Derived.Test.YtkphonepblkcdaaGreatDoorHdPure
namespace Go.Proofs.YtkphonepblkcdaaGreatDoor
open Go.RowKit Mem Spans Bits Groups Thrs
set_option linter.unusedSimpArgs false
set_option linter.unusedVariables false
set_option maxRecDepth 100000

set_option maxHeartbeats 1000000 in
theorem lbits_any (w : World) (p g : Nat) (l : List Bool) (h : Wr w p g l) (hl : l.length ≤ 1000000) :
    Calls Tryz.prog 20 #[.pointer (some ⟨p, 0, none⟩)] w fun e w' => e = .returned (.string (txt l)) ∧ Fr [] w w' := by
  have hnb : nbs l.length ≤ 125001 := by unfold nbs; omega
  have h8 : l.length ≤ 8 * nbs l.length := by unfold nbs; omega
  have HU : Hid (unpack (pack l) l.length = l) := unpack_pack l
  have HPL : Hid ((pack l).length = nbs l.length) := pack_length l
  go_enter Tryz.func20, Tryz.ntmps20
  go_wp2_with fail
  refine (bytes_any w p g l h (by omega)).mono ?_
  rintro e w1 ⟨g1, rfl, hg1, hz1, hf1⟩
  have hlt : ∀ x ∈ pack l, x < 256 := packN_lt _ _
  have hsrc : Src w1 (.slice (some ⟨g1, 0, none⟩) (nbs l.length) (nbs l.length)) (pack l) := Wr.src (Row.made hg1 (by unfold maxLen; omega) (by simp))
  have hrun := run_str hsrc
  have hw1 := h.kept hf1 (by simp) (by simp)
  have hzs : (str (pack l)).size = nbs l.length := by rw [str_size]; exact HPL.out
  clear hsrc hg1 h
  have d0 : decide ((l.length : Int) < 0) = false := decide_eq_false (by omega)
  have d1 : decide (8 * ((str (pack l)).size : Int) < (l.length : Int)) = false := decide_eq_false (by omega)
  have hzb : (str (pack l)).size ≤ 125001 := by omega
  have HZS : Hid ((str (pack l)).size = nbs l.length) := hzs
  clear hzs
  go_wp2_with fail
  refine (len_any w1 p g l hw1).mono ?_
  rintro e w2 ⟨rfl, rfl⟩
  go_wp2_with fail
  refine (len_any w1 p g l hw1).mono ?_
  rintro e w2 ⟨rfl, rfl⟩
  go_wp2_with fail
  refine (len_any w1 p g l hw1).mono ?_
  rintro e w2 ⟨rfl, rfl⟩
  go_wp2_with fail
  refine (text_any (pack l) l.length w1 hlt (by rw [HPL.out]; exact h8) (by rw [HPL.out]; omega)).mono ?_
  rintro e w2 ⟨rfl, rfl⟩
  rw [HU.out]
  go_wp2_with fail
  go_ret
  exact ⟨by first | rfl | trivial, hf1⟩

theorem rest_whole (l : List Bool) : rest l 0 l.length = l := by unfold rest; rw [List.take_length, List.drop_zero]
/-- The fixed answer's head, and one whose schema is none. -/
def aHd : Hd := ⟨1, 3, 3, 0, [(-2, 2)], []⟩
def bHd : Hd := ⟨0, 0, 9, 0, [], []⟩
theorem aHd_ok : (hce aHd).1 = 0 := by decide +kernel
theorem bHd_no : (hce bHd).1 = 21 := by decide +kernel
theorem bHd_at : hce bHd = (21, nmSchema) := by
  unfold hce bHd
  rw [if_neg (by decide), if_neg (by decide), if_pos (by decide)]
theorem noHd_ok : (hce noHd).1 = 0 := by decide +kernel
theorem noHd_len : (hbits noHd).length = 19 := by decide +kernel
theorem aHd_len : (hbits aHd).length ≤ 1000 := by decide +kernel
theorem aHd_in : ∀ s ∈ aHd.P, in64 s.1 ∧ in64 s.2 := by
  intro s hs
  rw [show aHd.P = [(-2, 2)] from rfl] at hs
  rw [List.mem_singleton.1 hs]
  unfold in64; omega
theorem aHd_hin : HdIn aHd := by unfold HdIn in64 aHd; simp only; omega
theorem bHd_hin : HdIn bHd := by unfold HdIn in64 bHd; simp only; omega
theorem noHd_hin : HdIn noHd := by unfold HdIn in64 noHd; simp only; omega
theorem noHd_is : (if (hce noHd).1 = 0 then (hbits noHd).length else 0 : Nat) = 19 := by rw [if_pos noHd_ok, noHd_len]
theorem at_schema (b1 b2 : Nat) : atRes nmSchema [⟨b1, 21, nmSchema, 0⟩, ⟨b2, 21, ByteArray.empty, 0⟩] = .tuple #[.int .i64 0, .bool true] := by simp [atRes, atOf]

set_option maxHeartbeats 4000000 in
theorem awake14_any (sa : Addr) (w : World) (hE : Env sa w) (hT : Tab w) (hw : 2 ≤ w.heap.size) : Calls Tryz.prog 7 #[] w fun e w' => e = .returned (.bool true) ∧ Fr [] w w' := by
  have HE : Hid (∀ W, Fr [] w W → Env sa W) := fun W f => hE.kept0 f
  have HT : Hid (∀ W, Fr [] w W → Tab W) := fun W f => hT.kept f (by simp)
  have HTL : Hid (0 < w.heap.size ∧ 2 ≤ w.heap.size) := ⟨hT.lt, hw⟩
  clear hE hT hw
  go_enter Tryz.func7, Tryz.ntmps7
  go_wp2_with fail
  refine (newWriter_ok _ [] 0 w (Src.nil w) (by decide) (by decide)).mono ?_
  rintro e w1 ⟨p, g, rfl, hw1, hp, hg, hf1⟩
  have HW1 : Hid (Wr w1 p g []) := hw1
  have HPG : Hid (w.heap.size ≤ p ∧ w.heap.size ≤ g ∧ p < w1.heap.size ∧ g < w1.heap.size ∧ w.heap.size ≤ w1.heap.size) := ⟨hp, hg, hw1.lt.1, hw1.lt.2, hf1.size⟩
  have HF1 : Hid (Fr [] w w1) := hf1
  clear hw1 hp hg hf1
  have HA : Hid (SOwn 64 w1.heap.size (w1.alloc (.cells #[.int .i64 (-2), .int .i64 2] 64)) (.slice (some ⟨w1.heap.size, 0, none⟩) 1 1) [(-2, 2)]) := lit_sp 64 w1 [(-2, 2)] (Nat.le_refl _) (by simp) (by unfold maxLen; simp)
  have HB : Hid (Six ((w1.alloc (.cells #[.int .i64 (-2), .int .i64 2] 64)).alloc (.cells #[.int .i64 1, .int .i64 3, .int .i64 3, .int .u64 0, .slice (some ⟨w1.heap.size, 0, none⟩) 1 1, .slice none 0 0] 25)) (w1.heap.size + 1) #[.int .i64 1, .int .i64 3, .int .i64 3, .int .u64 0, .slice (some ⟨w1.heap.size, 0, none⟩) 1 1, .slice none 0 0]) := by
    have := Six.new (w1.alloc (.cells #[.int .i64 (-2), .int .i64 2] 64)) #[.int .i64 1, .int .i64 3, .int .i64 3, .int .u64 0, .slice (some ⟨w1.heap.size, 0, none⟩) 1 1, .slice none 0 0]
    rwa [World.size_alloc] at this
  have HF2 : Hid (Fr [] w1 ((w1.alloc (.cells #[.int .i64 (-2), .int .i64 2] 64)).alloc (.cells #[.int .i64 1, .int .i64 3, .int .i64 3, .int .u64 0, .slice (some ⟨w1.heap.size, 0, none⟩) 1 1, .slice none 0 0] 25))) := ((Fr.refl [] _).alloc _).alloc _
  have HA2 : Hid (SOwn 64 w1.heap.size ((w1.alloc (.cells #[.int .i64 (-2), .int .i64 2] 64)).alloc (.cells #[.int .i64 1, .int .i64 3, .int .i64 3, .int .u64 0, .slice (some ⟨w1.heap.size, 0, none⟩) 1 1, .slice none 0 0] 25)) (.slice (some ⟨w1.heap.size, 0, none⟩) 1 1) [(-2, 2)]) := HA.out.kept ((Fr.refl [] _).alloc _)
  clear HA
  go_wp2_with fail
  generalize (w1.alloc (.cells #[.int .i64 (-2), .int .i64 2] 64)).alloc _ = wA at *
  generalize hBB : w1.heap.size = BB at *
  have HBA : Hid (BB + 1 < wA.heap.size) := HB.out.lt
  have HWA : Hid (Wr wA p g []) := HW1.out.kept HF2.out (by simp) (by simp)
  have HFA : Hid (Fr [] w wA) := HF1.out.trans HF2.out (by simp)
  have HSA : Hid (∀ W, Fr [p, g] wA W → HdSrc W (.agg #[.int .i64 1, .int .i64 3, .int .i64 3, .int .u64 0, .slice (some ⟨BB, 0, none⟩) 1 1, .slice none 0 0]) aHd) := by
    intro W f
    refine ⟨some ⟨BB, 0, none⟩, 1, none, 0, rfl, aHd_hin, ?_, SSrc.nil W⟩
    exact (HA2.out.keptR f (by have := HPG.out; intro y hy; simp at hy; omega)).src aHd_in
  refine (hdPut_ok sa wA p g [] _ aHd (HE.out _ HFA.out) (by have := HPG.out; have := HTL.out; omega) (HT.out _ HFA.out) (by have := HPG.out; have := HTL.out; omega) (by have := HPG.out; have := HTL.out; omega) HWA.out HSA.out aHd_ok (by simp)).mono ?_
  rintro e w2 ⟨rfl, g2, hw2, hg2, hf2⟩
  rw [List.nil_append] at hw2
  have HW2 : Hid (Wr w2 p g2 (hbits aHd)) := hw2
  have HS2 : Hid (∀ W, Fr [] w2 W → HdSrc W (.agg #[.int .i64 1, .int .i64 3, .int .i64 3, .int .u64 0, .slice (some ⟨BB, 0, none⟩) 1 1, .slice none 0 0]) aHd) := fun W f => HSA.out W (hf2.trans f (by simp))
  have HC2 : Hid (Six w2 (BB + 1) #[.int .i64 1, .int .i64 3, .int .i64 3, .int .u64 0, .slice (some ⟨BB, 0, none⟩) 1 1, .slice none 0 0]) := HB.out.kept hf2 (by have := HPG.out; simp; omega)
  have HF2' : Hid (Fr [] w w2) := HFA.out.trans hf2 (by have := HPG.out; simp; omega)
  clear hw2 hg2 hf2 HSA HWA HB HA2 HW1 HF2 HBA HF1
  have hll := aHd_len
  have HLL : Hid ((hbits aHd).length ≤ 1000) := hll
  have HRH : Hid (rdH (rest (hbits aHd) 0 (hbits aHd).length) = ⟨aHd, (hbits aHd).length, 0, nmNeg, 0⟩) := by
    have := rdH_put aHd [] aHd_ok
    rw [List.append_nil] at this
    rw [Hid, rest_whole, this]
  have HLE : Hid ((if (hce aHd).1 = 0 then (hbits aHd).length else 0 : Nat) = (hbits aHd).length) := if_pos aHd_ok
  clear hll
  generalize hLq : hbits aHd = L at *
  have HLQ : Hid (hbits aHd = L) := hLq
  clear hLq
  go_wp2_with fail
  refine (bytes_any w2 p g2 L HW2.out (by have := HLL.out; omega)).mono ?_
  rintro e w3 ⟨g3, rfl, hg3, hz3, hf3⟩
  have HX3 : Hid (Fr [] w2 w3) := hf3
  have HW3 : Hid (Wr w3 p g2 L) := HW2.out.kept hf3 (by simp) (by simp)
  have HSR : Hid (Src w3 (.slice (some ⟨g3, 0, none⟩) (nbs L.length) (nbs L.length)) (pack L)) := Wr.src (Row.made hg3 (by have := HLL.out; unfold maxLen nbs; omega) (by simp))
  clear hg3 hz3 hf3
  go_wp2_with fail
  refine (len_any w3 p g2 L HW3.out).mono ?_
  rintro e w4 ⟨rfl, rfl⟩
  go_wp2_with fail
  refine (newReader_ok _ (pack L) L.length w3 HSR.out (by simp) (by have := HLL.out; omega)).mono ?_
  rintro e w4 ⟨q, hq, rfl, hr4, hqz, hhz, hf4⟩
  rw [unpack_pack] at hr4
  have HR4 : Hid (Rd w4 q hq L 0 L.length false) := hr4
  have HX4 : Hid (Fr [] w2 w4) := HX3.out.trans hf4 (by simp)
  have HQZ : Hid (w2.heap.size ≤ q ∧ w.heap.size ≤ q) := ⟨Nat.le_trans HX3.out.size hqz, Nat.le_trans HF2'.out.size (Nat.le_trans HX3.out.size hqz)⟩
  have HW4 : Hid (Wr w4 p g2 L) := HW3.out.kept hf4 (by simp) (by simp)
  have HQN : Hid (p < q ∧ g2 < q) := by have := HW3.out.lt; exact ⟨by omega, by omega⟩
  clear hr4 hqz hhz hf4 HSR HW3 HX3 HW2
  have HF4 : Hid (Fr [] w w4) := HF2'.out.trans HX4.out (by simp)
  go_wp2_with fail
  refine (hdGet_any sa w4 q hq L 0 L.length false (HE.out _ HF4.out) (by have := HQZ.out; have := HTL.out; omega) (HT.out _ HF4.out) (by have := HQZ.out; have := HTL.out; omega) HR4.out (by have := HLL.out; omega)).mono ?_
  rintro e w5 ⟨u, v, rfl, hgt⟩
  rw [HRH.out] at hgt
  obtain ⟨hv, _, ho, hf5⟩ := hgt
  obtain rfl := hv.nil
  obtain ⟨⟨po, pc, no, nc, rfl, hin, ho1, ho2, ho3, ho4⟩, _⟩ := ho rfl
  have HX5 : Hid (Fr [] w2 w5) := HX4.out.trans hf5 (by have := HQZ.out; simp; omega)
  have HO5 : Hid (∀ W, Fr [] w5 W → HdSrc W (.agg #[.int .i64 1, .int .i64 3, .int .i64 3, .int .u64 0, .slice po 1 pc, .slice no 0 nc]) aHd) := fun W f => ⟨po, pc, no, nc, rfl, hin, (ho1.src ho3).kept f, (ho2.src ho4).kept f⟩
  have HW5 : Hid (Wr w5 p g2 L) := HW4.out.kept hf5 (by have := HQN.out; simp; omega) (by have := HQN.out; simp; omega)
  clear hv ho hf5 hin ho1 ho2 ho3 ho4 HR4 HX4 HW4 HF4 HRH
  rw [show (aHd.v : Int) = 1 from rfl, show (aHd.h : Int) = 3 from rfl, show (aHd.s : Int) = 3 from rfl, show ((aHd.z : Nat) : Int) = 0 from rfl, show aHd.P.length = 1 from rfl, show aHd.N.length = 0 from rfl]
  have HX : Hid (Six (w5.alloc (.cells #[.int .i64 1, .int .i64 3, .int .i64 3, .int .u64 0, .slice po 1 pc, .slice no 0 nc] 25)) w5.heap.size #[.int .i64 1, .int .i64 3, .int .i64 3, .int .u64 0, .slice po 1 pc, .slice no 0 nc]) := Six.new _ _
  have HX6 : Hid (Fr [] w5 (w5.alloc (.cells #[.int .i64 1, .int .i64 3, .int .i64 3, .int .u64 0, .slice po 1 pc, .slice no 0 nc] 25))) := (Fr.refl [] _).alloc _
  go_wp2_with fail
  generalize w5.alloc _ = w6 at *
  generalize w5.heap.size = XX at *
  have HF6 : Hid (Fr [] w2 w6) := HX5.out.trans HX6.out (by simp)
  have HG6 : Hid (Fr [] w w6) := HF2'.out.trans HF6.out (by simp)
  refine (hdCheck_any sa _ bHd w6 (HE.out _ HG6.out) ⟨none, 0, none, 0, rfl, bHd_hin, SSrc.nil w6, SSrc.nil w6⟩).mono ?_
  rintro e w7 ⟨k, rfl, hk, hf7⟩
  rw [bHd_at] at hk
  rcases hk with ⟨h0, _⟩ | ⟨_, b1, b2, hkv, hch⟩
  · exact absurd h0 (by decide)
  subst hkv
  have HCH : Hid (∀ W, Fr [] w7 W → Chain W .nilIface [⟨b1, 21, nmSchema, 0⟩, ⟨b2, 21, ByteArray.empty, 0⟩] (errOf b1)) := fun W f => hch.kept0 f
  have HF7 : Hid (Fr [] w6 w7) := hf7
  have HG7 : Hid (Fr [] w w7) := HG6.out.trans hf7 (by simp)
  clear hch hf7
  go_wp2_with fail
  refine (at_chain sa .nilIface _ _ nmSchema w7 (HE.out _ HG7.out) (last_nil sa) (HCH.out w7 (Fr.refl _ _)) (by have := HTL.out; have := HG7.out.size; omega)).mono ?_
  rintro e w8 ⟨rfl, hf8⟩
  rw [at_schema]
  have HF8 : Hid (Fr [] w7 w8) := hf8
  clear hf8
  have L0 : ∀ W, Fr [] w6 W → W.cell? ⟨XX, 0, none⟩ = some (.int .i64 1) := hd_cells HX.out List.not_mem_nil 0 _ rfl
  have L1 : ∀ W, Fr [] w6 W → W.cell? ⟨XX, 1, none⟩ = some (.int .i64 3) := hd_cells HX.out List.not_mem_nil 1 _ rfl
  have L2 : ∀ W, Fr [] w6 W → W.cell? ⟨XX, 2, none⟩ = some (.int .i64 3) := hd_cells HX.out List.not_mem_nil 2 _ rfl
  have L3 : ∀ W, Fr [] w6 W → W.cell? ⟨XX, 3, none⟩ = some (.int .u64 0) := hd_cells HX.out List.not_mem_nil 3 _ rfl
  have L4 : ∀ W, Fr [] w6 W → W.cell? ⟨XX, 4, none⟩ = some (.slice po 1 pc) := hd_cells HX.out List.not_mem_nil 4 _ rfl
  have L5 : ∀ W, Fr [] w6 W → W.cell? ⟨XX, 5, none⟩ = some (.slice no 0 nc) := hd_cells HX.out List.not_mem_nil 5 _ rfl
  have M0 : ∀ W, Fr [] w2 W → W.cell? ⟨BB + 1, 0, none⟩ = some (.int .i64 1) := hd_cells HC2.out List.not_mem_nil 0 _ rfl
  have M1 : ∀ W, Fr [] w2 W → W.cell? ⟨BB + 1, 1, none⟩ = some (.int .i64 3) := hd_cells HC2.out List.not_mem_nil 1 _ rfl
  have M2 : ∀ W, Fr [] w2 W → W.cell? ⟨BB + 1, 2, none⟩ = some (.int .i64 3) := hd_cells HC2.out List.not_mem_nil 2 _ rfl
  have M3 : ∀ W, Fr [] w2 W → W.cell? ⟨BB + 1, 3, none⟩ = some (.int .u64 0) := hd_cells HC2.out List.not_mem_nil 3 _ rfl
  have M4 : ∀ W, Fr [] w2 W → W.cell? ⟨BB + 1, 4, none⟩ = some (.slice (some ⟨BB, 0, none⟩) 1 1) := hd_cells HC2.out List.not_mem_nil 4 _ rfl
  have M5 : ∀ W, Fr [] w2 W → W.cell? ⟨BB + 1, 5, none⟩ = some (.slice none 0 0) := hd_cells HC2.out List.not_mem_nil 5 _ rfl
  have HL : Hid (∀ W, Fr [] w6 W → (W.cell? ⟨XX, 0, none⟩ = some (.int .i64 1) ∧ W.cell? ⟨XX, 1, none⟩ = some (.int .i64 3) ∧ W.cell? ⟨XX, 2, none⟩ = some (.int .i64 3) ∧ W.cell? ⟨XX, 3, none⟩ = some (.int .u64 0) ∧ W.cell? ⟨XX, 4, none⟩ = some (.slice po 1 pc) ∧ W.cell? ⟨XX, 5, none⟩ = some (.slice no 0 nc)) ∧
      (W.cell? ⟨BB + 1, 0, none⟩ = some (.int .i64 1) ∧ W.cell? ⟨BB + 1, 1, none⟩ = some (.int .i64 3) ∧ W.cell? ⟨BB + 1, 2, none⟩ = some (.int .i64 3) ∧ W.cell? ⟨BB + 1, 3, none⟩ = some (.int .u64 0) ∧ W.cell? ⟨BB + 1, 4, none⟩ = some (.slice (some ⟨BB, 0, none⟩) 1 1) ∧ W.cell? ⟨BB + 1, 5, none⟩ = some (.slice none 0 0))) := fun W f =>
    have f2 := HF6.out.trans f (by simp)
    ⟨⟨L0 W f, L1 W f, L2 W f, L3 W f, L4 W f, L5 W f⟩, M0 W f2, M1 W f2, M2 W f2, M3 W f2, M4 W f2, M5 W f2⟩
  clear L0 L1 L2 L3 L4 L5 M0 M1 M2 M3 M4 M5
  have HF68 : Hid (Fr [] w6 w8) := HF7.out.trans HF8.out (by simp)
  have HW8 : Hid (Wr w8 p g2 L) := (HW5.out.kept HX6.out (by simp) (by simp)).kept HF68.out (by simp) (by simp)
  obtain ⟨⟨c0, c1, c2, c3, c4, c5⟩, d0, d1, d2, d3, d4, d5⟩ := HL.out w8 HF68.out
  go_wp2_with fail
  refine (hdEqual_any _ _ aHd aHd w8 (HO5.out w8 (HX6.out.trans HF68.out (by simp))) (HS2.out w8 (HF6.out.trans HF68.out (by simp)))).mono ?_
  rintro e w9 ⟨rfl, hf9⟩
  rw [hdq_self]
  have HF69 : Hid (Fr [] w6 w9) := HF68.out.trans hf9 (by simp)
  have HV9 : Hid (Fr [] w8 w9) := hf9
  have HW9 : Hid (Wr w9 p g2 L) := HW8.out.kept hf9 (by simp) (by simp)
  clear hf9 c0 c1 c2 c3 c4 c5 d0 d1 d2 d3 d4 d5
  obtain ⟨-, d0, d1, d2, d3, d4, d5⟩ := HL.out w9 HF69.out
  have HG9 : Hid (Fr [] w w9) := HG6.out.trans HF69.out (by simp)
  go_wp2_with fail
  refine (hdLen_any sa w9 _ aHd (HE.out _ HG9.out) (HT.out _ HG9.out) (HS2.out w9 (HF6.out.trans HF69.out (by simp)))).mono ?_
  rintro e w10 ⟨rfl, hf10⟩
  rw [HLQ.out, HLE.out]
  have HF610 : Hid (Fr [] w6 w10) := HF69.out.trans hf10 (by simp)
  have HV10 : Hid (Fr [] w9 w10) := hf10
  have HW10 : Hid (Wr w10 p g2 L) := HW9.out.kept hf10 (by simp) (by simp)
  have HG10 : Hid (Fr [] w w10) := HG6.out.trans HF610.out (by simp)
  clear hf10 d0 d1 d2 d3 d4 d5
  go_wp2_with fail
  refine (len_any w10 p g2 L HW10.out).mono ?_
  rintro e w11 ⟨rfl, rfl⟩
  go_wp2_with fail
  refine (hdLen_any sa w10 _ noHd (HE.out _ HG10.out) (HT.out _ HG10.out) ⟨none, 0, none, 0, rfl, noHd_hin, SSrc.nil w10, SSrc.nil w10⟩).mono ?_
  rintro e w11 ⟨rfl, hf11⟩
  rw [noHd_is]
  have HG11 : Hid (Fr [] w w11) := HG10.out.trans hf11 (by simp)
  have HC11 : Hid (Chain w11 .nilIface [⟨b1, 21, nmSchema, 0⟩, ⟨b2, 21, ByteArray.empty, 0⟩] (errOf b1)) := by
    exact HCH.out w11 (HF8.out.trans ((HV9.out.trans HV10.out (by simp)).trans hf11 (by simp)) (by simp))
  clear hf11
  go_wp2_with fail
  refine (code_chain sa .nilIface _ _ w11 (HE.out _ HG11.out) (last_nil sa) HC11.out).mono ?_
  rintro e w12 ⟨rfl, hf12⟩
  rw [show codeOf .nilIface [⟨b1, 21, nmSchema, 0⟩, ⟨b2, 21, ByteArray.empty, 0⟩] = 21 from rfl]
  have HG12 : Hid (Fr [] w w12) := HG11.out.trans hf12 (by simp)
  clear hf12
  go_wp2_with fail
  go_ret
  exact ⟨rfl, HG12.out⟩
end Go.Proofs.YtkphonepblkcdaaGreatDoor
