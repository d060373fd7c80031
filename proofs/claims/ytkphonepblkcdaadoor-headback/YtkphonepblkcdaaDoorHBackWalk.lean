/-
  The walk of tidepolelaw14.HeadBack: it returns true, whatever it is given, and writes nothing that was there.
-/
import Derived.Test.YtkphonepblkcdaaDoorLaw14
import Derived.Test.YtkphonepblkcdaaDoorLaid14
import Derived.Test.YtkphonepblkcdaaDoorRBit
namespace Go.Proofs.YtkphonepblkcdaaDoor
open Go.RowKit Mem Spans Bits Groups Thrs
set_option linter.unusedSimpArgs false
set_option linter.unusedVariables false
set_option maxRecDepth 100000

/-- The law's premises on its input, all but the good case: the fixed answer alone. -/
def BadIn (len : Nat) (n : Int) : Prop := 150 < len ∨ n < 0 ∨ 8 * (len : Int) < n
def noSa : Addr := ⟨0, 0, none⟩
theorem LaidW.env {W : World} (h : LaidW W) : Env noSa W := ⟨h.1⟩
theorem LaidW.aw {W : World} (h : LaidW W) : ∀ wx, Fr [] W wx → Calls Tryd.prog 4 #[] wx fun e w' => e = .returned (.bool true) ∧ Fr [] W w' := by
  intro wx f
  refine (awake14_any noSa wx (h.env.kept0 f) (h.2.1.kept f (by simp)) (Nat.le_trans h.2.2 f.size)).mono ?_
  rintro e w' ⟨rfl, h2⟩
  exact ⟨rfl, f.trans h2 (by simp)⟩
theorem HdOwn.keptR {B : Nat} {w w' : World} {u : Value} {h : Hd} {S : List Nat} (k : HdOwn B w u h) (f : Fr S w w') (hs : ∀ y ∈ S, y < B) : HdOwn B w' u h := by
  obtain ⟨po, pc, no, nc, h1, h2, h3, h4, h5, h6⟩ := k
  exact ⟨po, pc, no, nc, h1, h2, h3.keptR f hs, h4.keptR f hs, h5, h6⟩
theorem txt_take (t : List Bool) (a : Nat) : (txt t).extract 0 a = txt (t.take a) := by
  apply ByteArray.ext
  simp [txt, List.map_take]

set_option maxHeartbeats 2000000 in
theorem back_bad (a0 : Option Addr) (len0 cap0 : Nat) (a1 : Int) (w : World) (hL : LaidW w) (hb : BadIn len0 a1) (hm : len0 ≤ maxLen) :
    Calls Tryd.prog 3 #[.slice a0 len0 cap0, .int .i64 a1] w fun e w' => e = .returned (.bool true) ∧ Fr [] w w' := by
  have hout : (decide (150 < (len0 : Int)) = true) ∨ (decide (150 < (len0 : Int)) = false ∧ decide (a1 < 0) = true) ∨ (decide (150 < (len0 : Int)) = false ∧ decide (a1 < 0) = false ∧ decide (8 * (len0 : Int) < a1) = true ∧ len0 ≤ 150) := by
    unfold BadIn at hb
    simp only [decide_eq_true_eq, decide_eq_false_iff_not]
    omega
  have HAW : Hid (∀ wx, Fr [] w wx → Calls Tryd.prog 4 #[] wx fun e w' => e = .returned (.bool true) ∧ Fr [] w w') := hL.aw
  clear hb hm hL
  rcases hout with h1 | ⟨h1, h2⟩ | ⟨h1, h2, h3, h4⟩
  all_goals
    go_enter Tryd.func3, Tryd.ntmps3
    go_wp2_with fail
    refine (HAW.out w (Fr.refl _ _)).mono ?_
    rintro e w' ⟨rfl, hf⟩
    go_wp2_with fail
    go_ret
    exact ⟨by first | rfl | trivial, hf⟩

set_option maxHeartbeats 4000000 in
theorem back_good (a0 : Option Addr) (cap0 : Nat) (bs : List Nat) (n : Nat) (w : World) (hL : LaidW w) (hsrc : Src w (.slice a0 bs.length cap0) bs) (hlen : bs.length ≤ 150) (hn : n ≤ 8 * bs.length) :
    Calls Tryd.prog 3 #[.slice a0 bs.length cap0, .int .i64 (n : Int)] w fun e w' => e = .returned (.bool true) ∧ Fr [] w w' := by
  have H256 : Hid (∀ x ∈ bs, x < 256) := by obtain ⟨_, _, _, _, _, _, h⟩ := hsrc; exact h
  have HRUN : Hid (∀ wx, Fr [] w wx → (convert 22 9 (.slice a0 bs.length cap0)).run Tryd.prog wx = .ok (.string (str bs)) wx) := fun wx hx => run_str (hsrc.kept hx (by simp))
  have HSRC : Hid (Src w (.slice a0 bs.length cap0) bs) := hsrc
  have HLW : Hid (LaidW w) := hL
  clear hsrc hL
  have d1 : decide (150 < (bs.length : Int)) = false := decide_eq_false (by omega)
  have d2 : decide ((n : Int) < 0) = false := decide_eq_false (by omega)
  have d3 : decide (8 * (bs.length : Int) < (n : Int)) = false := decide_eq_false (by omega)
  have HNN : Hid (n ≤ 1200 ∧ nbs n ≤ bs.length) := ⟨by omega, nbs_le hn⟩
  have HTX : Hid (∀ w : World, Calls Tryd.prog 13 #[.string (str bs), .int .i64 (n : Int)] w fun e w' => e = .returned (.string (txt (unpack bs n))) ∧ w = w') := fun w => text_any bs n w H256.out hn (by omega)
  obtain ⟨T, hTT⟩ : ∃ T, T = unpack bs n := ⟨_, rfl⟩
  have HTL : Hid (T.length = n) := by rw [Hid, hTT]; simp
  rw [← hTT] at HTX
  have HTT : Hid (T = unpack bs n) := hTT
  have HAW : Hid (∀ wx, Fr [] w wx → Calls Tryd.prog 4 #[] wx fun e w' => e = .returned (.bool true) ∧ Fr [] w w') := HLW.out.aw
  clear hTT
  go_enter Tryd.func3, Tryd.ntmps3
  go_wp2_with fail
  refine (newReader_ok _ bs n w HSRC.out HNN.out.2 (by have := HNN.out; omega)).mono ?_
  rintro e w1 ⟨q, h, rfl, hr1, hq, hh, hf1⟩
  rw [← HTT.out] at hr1
  have HR1 : Hid (Rd w1 q h T 0 n false) := hr1
  have HF1 : Hid (Fr [] w w1) := hf1
  clear hr1 hf1
  go_wp2_with fail
  refine (newWriter_ok _ [] 0 w1 (Src.nil w1) (by decide) (by decide)).mono ?_
  rintro e w2 ⟨p, g, rfl, hw2, hp, hg, hf2⟩
  have HW2 : Hid (Wr w2 p g []) := hw2
  have HR2 : Hid (Rd w2 q h T 0 n false) := HR1.out.kept hf2 (by simp) (by simp)
  have HF2 : Hid (Fr [] w w2) := HF1.out.trans hf2 (by simp)
  have HO : Hid (w.heap.size ≤ q ∧ w.heap.size ≤ h ∧ w.heap.size ≤ p ∧ w.heap.size ≤ g ∧ q < p ∧ q < g ∧ h < p ∧ h < g ∧ p < w2.heap.size ∧ g < w2.heap.size) := by
    have := HR1.out.lt
    have := hw2.lt
    have := HF1.out.size
    rw [Hid]; omega
  clear hw2 hp hg hf2 HR1 HF1 hq hh
  go_wp2_with fail
  have hLx := HLW.out
  refine (hdGet_any noSa w2 q h T 0 n false (hLx.env.kept0 HF2.out) (by have := HO.out; have := hLx.2.2; omega) (hLx.2.1.kept HF2.out (by simp)) (by have := HO.out; have := hLx.2.1.lt; omega) HR2.out (by rw [HTL.out]; have := HNN.out; omega)).mono ?_
  rintro e w3 ⟨u, v, rfl, hgt⟩
  have hrest : rest T 0 n = T := by have := rest_whole T; rwa [HTL.out] at this
  rw [hrest] at hgt
  have HB : Hid ((rdH T).e = 0 → T.take (rdH T).u = hbits (rdH T).h ∧ (rdH T).u ≤ T.length ∧ (hce (rdH T).h).1 = 0) := rdH_back
  clear hrest hLx
  generalize rdH T = G at *
  obtain ⟨hv, hz, ho, hf3⟩ := hgt
  have HF3 : Hid (Fr [] w w3) := HF2.out.trans hf3 (by have := HO.out; simp; omega)
  have HW3 : Hid (Wr w3 p g []) := HW2.out.kept hf3 (by have := HO.out; simp; omega) (by have := HO.out; simp; omega)
  clear hf3 HW2 HR2
  by_cases h0 : G.e = 0
  case neg =>
    obtain ⟨bq, rfl⟩ := hv.some h0
    obtain rfl := hz h0
    have HF4 : Hid (Fr [] w (w3.alloc (.cells #[.int .i64 0, .int .i64 0, .int .i64 0, .int .u64 0, .slice none 0 0, .slice none 0 0] 34))) := HF3.out.alloc _
    clear hv hz ho h0 HB
    go_wp2_with fail
    refine (HAW.out _ HF4.out).mono ?_
    rintro e w4 ⟨rfl, hf⟩
    go_wp2_with fail
    go_ret
    exact ⟨rfl, hf⟩
  rw [h0] at hv
  obtain rfl := hv.nil
  obtain ⟨hown, hrd⟩ := ho h0
  obtain ⟨hb1, hb2, hb3⟩ := HB.out h0
  rw [Nat.zero_add] at hrd
  have HR3 : Hid (Rd w3 q h T G.u n false) := hrd
  have HBK : Hid (T.take G.u = hbits G.h ∧ G.u ≤ T.length ∧ (hce G.h).1 = 0) := ⟨hb1, hb2, hb3⟩
  clear hv hz ho h0 HB hb1 hb2 hb3 hrd
  obtain ⟨po, pc, no, nc, rfl, hin, ho1, ho2, ho3, ho4⟩ := hown
  have HOW : Hid (HdOwn w2.heap.size w3 (.agg #[.int .i64 G.h.v, .int .i64 G.h.h, .int .i64 G.h.s, .int .u64 (G.h.z : Int), .slice po G.h.P.length pc, .slice no G.h.N.length nc]) G.h) := ⟨po, pc, no, nc, rfl, hin, ho1, ho2, ho3, ho4⟩
  clear hin ho1 ho2 ho3 ho4
  generalize G.u = U at *
  generalize G.h = H at *
  have HX : Hid (Six (w3.alloc (.cells #[.int .i64 H.v, .int .i64 H.h, .int .i64 H.s, .int .u64 (H.z : Int), .slice po H.P.length pc, .slice no H.N.length nc] 34)) w3.heap.size #[.int .i64 H.v, .int .i64 H.h, .int .i64 H.s, .int .u64 (H.z : Int), .slice po H.P.length pc, .slice no H.N.length nc]) := Six.new _ _
  have HX4 : Hid (Fr [] w3 (w3.alloc (.cells #[.int .i64 H.v, .int .i64 H.h, .int .i64 H.s, .int .u64 (H.z : Int), .slice po H.P.length pc, .slice no H.N.length nc] 34))) := (Fr.refl [] _).alloc _
  have HXL : Hid (p < w3.heap.size ∧ g < w3.heap.size ∧ q < w3.heap.size ∧ h < w3.heap.size) := by have := HW3.out.lt; have := HR3.out.lt; rw [Hid]; omega
  go_upto_region 8 with fail
  generalize w3.alloc _ = w4 at *
  generalize w3.heap.size = XX at *
  have HF4 : Hid (Fr [] w w4) := HF3.out.trans HX4.out (by simp)
  have HW4 : Hid (Wr w4 p g []) := HW3.out.kept HX4.out (by simp) (by simp)
  have HR4 : Hid (Rd w4 q h T U n false) := HR3.out.kept HX4.out (by simp) (by simp)
  have HO4 : Hid (HdOwn w2.heap.size w4 (.agg #[.int .i64 H.v, .int .i64 H.h, .int .i64 H.s, .int .u64 (H.z : Int), .slice po H.P.length pc, .slice no H.N.length nc]) H) := HOW.out.keptR HX4.out (by simp)
  clear HX4 HF3 HW3 HR3 HOW
  have HKB : Hid (XX ∉ [p, g]) := by have := HXL.out; rw [Hid]; simp; omega
  have L0 : ∀ W, Fr [p, g] w4 W → W.cell? ⟨XX, 0, none⟩ = some (.int .i64 H.v) := hd_cells HX.out HKB.out 0 _ rfl
  have L1 : ∀ W, Fr [p, g] w4 W → W.cell? ⟨XX, 1, none⟩ = some (.int .i64 H.h) := hd_cells HX.out HKB.out 1 _ rfl
  have L2 : ∀ W, Fr [p, g] w4 W → W.cell? ⟨XX, 2, none⟩ = some (.int .i64 H.s) := hd_cells HX.out HKB.out 2 _ rfl
  have L3 : ∀ W, Fr [p, g] w4 W → W.cell? ⟨XX, 3, none⟩ = some (.int .u64 (H.z : Int)) := hd_cells HX.out HKB.out 3 _ rfl
  have L4 : ∀ W, Fr [p, g] w4 W → W.cell? ⟨XX, 4, none⟩ = some (.slice po H.P.length pc) := hd_cells HX.out HKB.out 4 _ rfl
  have L5 : ∀ W, Fr [p, g] w4 W → W.cell? ⟨XX, 5, none⟩ = some (.slice no H.N.length nc) := hd_cells HX.out HKB.out 5 _ rfl
  have HL : Hid (∀ W, Fr [p, g] w4 W → W.cell? ⟨XX, 0, none⟩ = some (.int .i64 H.v) ∧ W.cell? ⟨XX, 1, none⟩ = some (.int .i64 H.h) ∧ W.cell? ⟨XX, 2, none⟩ = some (.int .i64 H.s) ∧ W.cell? ⟨XX, 3, none⟩ = some (.int .u64 (H.z : Int)) ∧ W.cell? ⟨XX, 4, none⟩ = some (.slice po H.P.length pc) ∧ W.cell? ⟨XX, 5, none⟩ = some (.slice no H.N.length nc)) := fun W f => ⟨L0 W f, L1 W f, L2 W f, L3 W f, L4 W f, L5 W f⟩
  clear L0 L1 L2 L3 L4 L5
  have hLx := HLW.out
  have HEN : Hid (∀ W, Fr [] w W → Env noSa W ∧ Tab W) := fun W f => ⟨hLx.env.kept0 f, hLx.2.1.kept f (by simp)⟩
  have HGL : Hid (2 ≤ w.heap.size ∧ 0 < w.heap.size) := ⟨hLx.2.2, hLx.2.1.lt⟩
  clear hLx
  obtain ⟨c0, c1, c2, c3, c4, c5⟩ := HL.out w4 (Fr.refl _ _)
  go_wp2_with fail
  refine (hdCheck_any noSa _ H w4 (HEN.out _ HF4.out).1 HO4.out.src).mono ?_
  rintro e w5 ⟨v, rfl, hv, hf5⟩
  rw [HBK.out.2.2] at hv
  obtain rfl := hv.nil
  have HF5 : Hid (Fr [] w w5) := HF4.out.trans hf5 (by simp)
  have HW5 : Hid (Wr w5 p g []) := HW4.out.kept hf5 (by simp) (by simp)
  have HR5 : Hid (Rd w5 q h T U n false) := HR4.out.kept hf5 (by simp) (by simp)
  have HX5 : Hid (Fr [p, g] w4 w5) := hf5.nil
  have HO5 : Hid (∀ W, Fr [p, g] w5 W → HdSrc W (.agg #[.int .i64 H.v, .int .i64 H.h, .int .i64 H.s, .int .u64 (H.z : Int), .slice po H.P.length pc, .slice no H.N.length nc]) H) := fun W f => ((HO4.out.keptR hf5 (by simp)).keptR f (by have := HO.out; intro y hy; simp at hy; omega)).src
  clear hv hf5 HW4 HR4 HO4 c0 c1 c2 c3 c4 c5
  obtain ⟨c0, c1, c2, c3, c4, c5⟩ := HL.out w5 HX5.out
  go_wp2_with fail
  refine (hdPut_ok noSa w5 p g [] _ H (HEN.out _ HF5.out).1 (by have := HO.out; have := HGL.out; omega) (HEN.out _ HF5.out).2 (by have := HO.out; have := HGL.out; omega) (by have := HO.out; have := HGL.out; omega) HW5.out HO5.out HBK.out.2.2 (by simp)).mono ?_
  rintro e w6 ⟨rfl, g6, hw6, hg6, hf6⟩
  rw [List.nil_append] at hw6
  have HW6 : Hid (Wr w6 p g6 (hbits H)) := hw6
  have HR6 : Hid (Rd w6 q h T U n false) := HR5.out.kept hf6 (by have := HO.out; simp; omega) (by have := HO.out; simp; omega)
  have HF6 : Hid (Fr [] w w6) := HF5.out.trans hf6 (by have := HO.out; simp; omega)
  clear hw6 hg6 hf6 HW5 HR5 HO5 c0 c1 c2 c3 c4 c5 HL HX HX5
  have HUL : Hid ((hbits H).length = U) := by rw [Hid, ← HBK.out.1, List.length_take]; have := HBK.out.2.1; omega
  have HEX : Hid ((txt T).extract 0 U = txt (hbits H)) := by rw [Hid, txt_take, HBK.out.1]
  have HUB : Hid (U ≤ (txt T).size ∧ U ≤ 1200) := by have h1 := HBK.out.2.1; have h2 := HTL.out; have h3 := HNN.out; rw [Hid, txt_size]; omega
  generalize hbits H = B at *
  clear HBK
  go_wp2_with fail
  refine (len_any w6 p g6 B HW6.out).mono ?_
  rintro e w7 ⟨rfl, rfl⟩
  rw [HUL.out]
  go_wp2_with fail
  refine (pos_any w6 q h T U n false HR6.out).mono ?_
  rintro e w7 ⟨rfl, rfl⟩
  have F0 : Fr [] w6 w6.drew := (Fr.refl _ _).drew
  have HP1 : Hid (∀ wx, Fr [] w6 wx → Calls Tryd.prog 12 #[.pointer (some ⟨p, 0, none⟩)] wx fun e w' => e = .returned (.string (txt B)) ∧ Fr [] w6 w') := by
    intro wx hx
    refine (lbits_any wx p g6 B (HW6.out.kept hx (by simp) (by simp)) (by rw [HUL.out]; have := HUB.out; omega)).mono ?_
    rintro e w' ⟨rfl, h⟩
    exact ⟨rfl, hx.trans h (by simp)⟩
  have HP2 : Hid (∀ wx, Fr [] w6 wx → Calls Tryd.prog 10 #[.pointer (some ⟨p, 0, none⟩)] wx fun e w' => e = .returned (.int .i64 (U : Int)) ∧ wx = w') := by
    intro wx hx
    refine (len_any wx p g6 B (HW6.out.kept hx (by simp) (by simp))).mono ?_
    rintro e w' ⟨rfl, rfl⟩
    exact ⟨by rw [HUL.out], rfl⟩
  have HP3 : Hid (∀ wx, Fr [] w6 wx → Calls Tryd.prog 4 #[] wx fun e w' => e = .returned (.bool true) ∧ Fr [] w w') := fun wx hx => HAW.out wx (HF6.out.trans hx (by simp))
  have hrun : ∀ wx, Fr [] w6 wx → (convert 22 9 (.slice a0 bs.length cap0)).run Tryd.prog wx = .ok (.string (str bs)) wx := fun wx hx => HRUN.out wx (HF6.out.trans hx (by simp))
  have hex := HEX.out
  have hub : (U : Int) ≤ ((txt T).size : Int) := by have := HUB.out; omega
  have hub2 : U ≤ (txt T).size := HUB.out.1
  have hsz : (txt T).size ≤ 1200 := by rw [txt_size, HTL.out]; exact HNN.out.1
  clear HUL HEX HUB d1 d2 d3 hlen hn
  go_wp2_with fail
  go_region_with (first
    | (go_at_call 12; with_reducible refine (HP1.out _ ?_).mono ?_; (first | assumption | exact F0); rintro e wa ⟨rfl, hfa⟩)
    | (go_at_call 13; with_reducible refine (HTX.out _).mono ?_; rintro e wb ⟨rfl, rfl⟩)
    | (go_at_call 10; with_reducible refine (HP2.out _ ?_).mono ?_; (first | assumption | exact F0); rintro e wc ⟨rfl, rfl⟩)
    | (go_at_call 4; with_reducible refine (HP3.out _ ?_).mono ?_; (first | assumption | exact F0); rintro e wd ⟨rfl, hfd⟩))
  all_goals (go_wp2_with fail)
  all_goals (go_ret)
  all_goals exact ⟨by first | rfl | trivial, hfd⟩

theorem back_walk (a0 : Option Addr) (len0 cap0 : Nat) (z0 : List Int) (a1 : Int) (w : World) (hL : LaidW w) (w0 : IsRow .u8 w a0 len0 cap0 z0) (w1 : (Lit.int .i64 a1).wf = true) :
    Calls Tryd.prog 3 #[.slice a0 len0 cap0, .int .i64 a1] w fun e w' => e = .returned (.bool true) ∧ Fr [] w w' := by
  obtain ⟨bs, hbl, hsrc⟩ := w0.src
  subst hbl
  by_cases hbad : 150 < bs.length ∨ a1 < 0 ∨ 8 * (bs.length : Int) < a1
  · refine back_bad a0 bs.length cap0 a1 w hL hbad ?_
    obtain ⟨ao, cap, e, h1, h2, _⟩ := hsrc
    omega
  · obtain ⟨n, rfl⟩ := Int.eq_ofNat_of_zero_le (show 0 ≤ a1 by omega)
    exact back_good a0 cap0 bs n w hL hsrc (by omega) (by omega)
end Go.Proofs.YtkphonepblkcdaaDoor
