/-
  The document's side of a head.
-/
import Derived.Test.YtkphonepblkcdaaGreatDoorRef14W
import Derived.Test.YtkphonepblkcdaaGreatDoorRef14A
import Derived.Test.YtkphonepblkcdaaGreatDoorHdSide
namespace Go.Proofs.YtkphonepblkcdaaGreatDoor
open Go.RowKit Mem Spans Bits Groups Thrs
set_option linter.unusedSimpArgs false
set_option linter.unusedVariables false
set_option maxRecDepth 100000

theorem side_res {fn : Func} {p u v : Tmp} (h : fn.results = #[.tmp u, .tmp v, .cell p 35]) (tmps : Array Value) (w : World) (g : Nat) (c : Int) (nm : ByteArray) (n : Int)
    (hp : tmps.getD p undef = .pointer (some ⟨g, 0, none⟩)) (hg : WrB w g c nm n) : (results fn tmps).run Tryz.prog w = .ok (.tuple #[tmps.getD u undef, tmps.getD v undef, wrV c nm n]) w := by
  have hl := run_loadVar_row (P := Tryz.prog) w g 35 35 #[.int .i64 c, .string nm, .int .i64 n] (0, 0) _ hg Tryz.underlying35 rfl Tryz.sizeOfWrong
  have hp' : tmps[p]?.getD undef = .pointer (some ⟨g, 0, none⟩) := by simpa using hp
  simp [results, h, hp', asAddr, hl, wrV]
theorem FrB {w w3 w4 : World} {o : Obj} {B : Nat} (h : Fr [] w w3) (hB : w.heap.size ≤ B) (k : Below B (w3.alloc o) w4) : Fr [] w w4 :=
  have h' := h.alloc o
  ⟨k.os.trans h'.os, k.tape.trans h'.tape, k.output.trans h'.output, Nat.le_trans h'.size k.size, fun x hx hn => (k.block x (Nat.lt_of_lt_of_le hx hB)).trans (h'.block x hx hn)⟩
theorem WrB.below {B : Nat} {w w' : World} {b : Nat} {c n : Int} {p : ByteArray} (h : WrB w b c p n) (f : Below B w w') (hb : b < B) : WrB w' b c p n := (f.block b hb).trans h

/-- What the document tells of a side. -/
def LSide (t : List Bool) (nm : ByteArray) (w w' : World) (u X v : Value) : Prop :=
  (rde t ≠ 0 → u = .slice none 0 0 ∧ X = .string ⟨#[]⟩ ∧ v = wrV (rde t) nm ((rdL t).1.length : Nat)) ∧
  (rde t = 0 → SOwn 115 w.heap.size w' u (rdL t).1 ∧ X = .string (txt (t.drop (rdL t).2.1)) ∧ v = wrV 0 ⟨#[]⟩ 0)

theorem info_refspan14 : ∃ i, Tryz.prog.info? 115 = some i ∧ i.zero = some (.agg #[.int .i64 0, .int .i64 0]) ∧ i.size = 2 ∧ i.bytes = 16 := info_refspan

set_option maxHeartbeats 8000000 in
theorem lside_any (t : List Bool) (nm : ByteArray) (w : World) (ht : t.length ≤ 1048576) :
    Calls Tryz.prog 61 #[.string (txt t), .string nm] w fun e w' => ∃ u X v, e = .returned (.tuple #[u, X, v]) ∧ LSide t nm w w' u X v ∧ Fr [] w w' := by
  have HWH : Hid (∀ W (r : List Bool), r.length ≤ 1048576 → Calls Tryz.prog 87 #[.string (txt r)] W fun e w' => e = .returned (.tuple #[.int .u64 ((rdU r).1 : Int), .int .i64 ((rdU r).2.1 : Int), .int .i64 (rdU r).2.2]) ∧ Fr [] W w') := fun W r hr => lwhole_any r W hr
  have HSG : Hid (∀ W (r : List Bool), r.length ≤ 1048576 → Calls Tryz.prog 59 #[.string (txt r)] W fun e w' => e = .returned (.tuple #[.int .i64 (rdS r).1, .int .i64 ((rdS r).2.1 : Int), .int .i64 (rdS r).2.2]) ∧ Fr [] W w') := fun W r hr => lsigned_any r W hr
  have HTL : Hid (t.length ≤ 1048576) := ht
  obtain ⟨i0, hi, hz0, hz1, hz2⟩ := info_refspan14
  have HI : Hid (Tryz.prog.info? 115 = some i0 ∧ i0.zero = some (.agg #[.int .i64 0, .int .i64 0]) ∧ i0.size = 2 ∧ i0.bytes = 16) := ⟨hi, hz0, hz1, hz2⟩
  clear hi hz0 hz1 hz2 ht
  have HCU : Hid (Calls Tryz.prog 87 #[.string (txt t)] (w.alloc (.cells #[.int .i64 0, .string ⟨#[]⟩, .int .i64 0] 35)) fun e w' => e = .returned (.tuple #[.int .u64 ((rdU t).1 : Int), .int .i64 ((rdU t).2.1 : Int), .int .i64 (rdU t).2.2]) ∧ Fr [] (w.alloc (.cells #[.int .i64 0, .string ⟨#[]⟩, .int .i64 0] 35)) w') := HWH.out _ t HTL.out
  have HE : Hid (rdL t = if (rdU t).2.2 ≠ 0 then ([], 0, (rdU t).2.2) else if 1024 < (rdU t).1 then ([], 0, 12)
    else ((rdN (rdU t).1 (t.drop (rdU t).2.1)).1, (rdU t).2.1 + (rdN (rdU t).1 (t.drop (rdU t).2.1)).2.1, (rdN (rdU t).1 (t.drop (rdU t).2.1)).2.2)) := rfl
  have HRE : Hid (rde t = if (rdL t).2.2 ≠ 0 then (rdL t).2.2 else sce (rdL t).1) := rfl
  have HUB : Hid ((rdU t).2.2 = 0 → (rdU t).2.1 ≤ t.length) := fun h => (rdU_back h).2
  have HLI : Hid (∀ s ∈ (rdL t).1, in64 s.1 ∧ in64 s.2) := rdL_in _
  unfold LSide
  generalize rde t = RE at *
  generalize rdL t = LL at *
  generalize rdU t = RU at *
  obtain ⟨V, U, E⟩ := RU
  try simp only at HE HCU HUB
  go_enter Tryz.func61, Tryz.ntmps61
  have HB0 : Hid (WrB (w.alloc (.cells #[.int .i64 0, .string ⟨#[]⟩, .int .i64 0] 35)) w.heap.size 0 ⟨#[]⟩ 0) := WrB.new _ _ _ _
  have HF0 : Hid (Fr [] w (w.alloc (.cells #[.int .i64 0, .string ⟨#[]⟩, .int .i64 0] 35))) := (Fr.refl _ _).alloc _
  go_wp2_with fail
  generalize (w.alloc (.cells #[.int .i64 0, .string ⟨#[]⟩, .int .i64 0] 35)) = w0 at *
  generalize hBB : w.heap.size = BB at *
  have HBB : Hid (w.heap.size = BB) := hBB
  have HBL : Hid (BB < w0.heap.size) := lt_of_heap HB0.out
  clear hBB
  refine HCU.out.mono ?_
  rintro e w1 ⟨rfl, hf1⟩
  have HF1 : Hid (Fr [] w w1) := HF0.out.trans hf1 (by simp)
  have HB1 : Hid (WrB w1 BB 0 ⟨#[]⟩ 0) := HB0.out.kept hf1 (by simp)
  have HZ1 : Hid (w0.heap.size ≤ w1.heap.size) := hf1.size
  clear hf1 HCU HB0
  by_cases hE : E = 0
  case neg =>
    have HP : Hid (LL = ([], 0, E)) := by rw [Hid, HE.out, if_pos hE]
    have HR : Hid (RE = E) := by rw [Hid, HRE.out, HP.out, if_pos hE]
    have HNE : Hid (¬ E = 0) := hE
    have hEb : (E == 0) = false := beq_eq_false_iff_ne.2 hE
    have hb := HB1.out
    have d0 : w1.cell? ⟨BB, 0, none⟩ = some (.int .i64 0) := by rw [cell_at hb]; rfl
    have d1 : w1.cell? ⟨BB, 1, none⟩ = some (.string ⟨#[]⟩) := by rw [cell_at hb]; rfl
    have d2 : w1.cell? ⟨BB, 2, none⟩ = some (.int .i64 0) := by rw [cell_at hb]; rfl
    have f0 := frozen_at hb 0
    have f1 := frozen_at hb 1
    have f2 := frozen_at hb 2
    have HBX : Hid (WrB w1 BB 0 ⟨#[]⟩ 0) := hb
    clear hb
    go_wp2_with fail
    refine bodyPost_ret (side_res rfl _ _ BB E nm 0 rfl (HBX.out.set E nm 0)) rfl ?_
    have hff : Fr [BB] w1 (set3 w1 BB (.int .i64 E) (.string nm) (.int .i64 0)) := set3_fr (Fr.refl [BB] w1) (.inl (by simp)) _ _ _
    have hfw : Fr [] w (set3 w1 BB (.int .i64 E) (.string nm) (.int .i64 0)) := HF1.out.trans hff (by have := HBB.out; simp; omega)
    exact ⟨_, _, _, rfl, ⟨fun _ => ⟨rfl, rfl, by rw [HR.out, HP.out]; rfl⟩, fun hh => by rw [HR.out] at hh; exact absurd hh HNE.out⟩, hfw⟩
  subst hE
  by_cases hV : 1024 < V
  · have HP : Hid (LL = ([], 0, 12)) := by rw [Hid, HE.out, if_neg (by simp), if_pos hV]
    have HR : Hid (RE = 12) := by rw [Hid, HRE.out, HP.out, if_pos (by decide)]
    have dV : decide ((1024 : Int) < (V : Int)) = true := decide_eq_true (by omega)
    have hb := HB1.out
    have d0 : w1.cell? ⟨BB, 0, none⟩ = some (.int .i64 0) := by rw [cell_at hb]; rfl
    have d1 : w1.cell? ⟨BB, 1, none⟩ = some (.string ⟨#[]⟩) := by rw [cell_at hb]; rfl
    have d2 : w1.cell? ⟨BB, 2, none⟩ = some (.int .i64 0) := by rw [cell_at hb]; rfl
    have f0 := frozen_at hb 0
    have f1 := frozen_at hb 1
    have f2 := frozen_at hb 2
    have HBX : Hid (WrB w1 BB 0 ⟨#[]⟩ 0) := hb
    clear hb
    go_wp2_with fail
    refine bodyPost_ret (side_res rfl _ _ BB 12 nm 0 rfl (HBX.out.set 12 nm 0)) rfl ?_
    have hff : Fr [BB] w1 (set3 w1 BB (.int .i64 12) (.string nm) (.int .i64 0)) := set3_fr (Fr.refl [BB] w1) (.inl (by simp)) _ _ _
    have hfw : Fr [] w (set3 w1 BB (.int .i64 12) (.string nm) (.int .i64 0)) := HF1.out.trans hff (by have := HBB.out; simp; omega)
    exact ⟨_, _, _, rfl, ⟨fun _ => ⟨rfl, rfl, by rw [HR.out, HP.out]; rfl⟩, fun hh => by rw [HR.out] at hh; exact absurd hh (by decide)⟩, hfw⟩
  have HE2 : Hid (LL = ((rdN V (t.drop U)).1, U + (rdN V (t.drop U)).2.1, (rdN V (t.drop U)).2.2)) := by rw [Hid, HE.out, if_neg (by simp), if_neg hV]
  have hV2 : V ≤ 1024 := by omega
  have hUt : U ≤ t.length := HUB.out rfl
  have dV : decide ((1024 : Int) < (V : Int)) = false := decide_eq_false (by omega)
  have hszt : (txt t).size = t.length := txt_size t
  have hxx : (txt t).extract U t.length = txt (t.drop U) := by have h1 := txtH_drop t U; rwa [txt_size] at h1
  have hUi : (U : Int) ≤ (t.length : Int) := by omega
  have hwV : wrap64 (V : Int) = (V : Int) := by unfold wrap64; omega
  have htl := HTL.out
  clear HE hV HUB
  go_wp2
  clear hxx hszt hUi
  go_loopw [0, 10, 11] (fun s u i wr => ∃ (k D : Nat) (a : List Sp), k ≤ V ∧ i = .int .i64 (k : Int) ∧ a.length = k ∧ SOwn 115 w0.heap.size wr u a ∧ Fr [] w wr ∧ WrB wr BB 0 ⟨#[]⟩ 0 ∧ w0.heap.size ≤ wr.heap.size ∧ s = .string (txt (t.drop (U + D)))
    ∧ LL = (a ++ (rdN (V - k) (t.drop (U + D))).1, U + (D + (rdN (V - k) (t.drop (U + D))).2.1), (rdN (V - k) (t.drop (U + D))).2.2)) (fun _ _ i _ => V - (intOf i).toNat)
  case atStart => exact ⟨0, 0, [], by omega, rfl, rfl, .inl ⟨rfl, rfl⟩, HF1.out, HB1.out, HZ1.out, rfl, by rw [HE2.out]; simp⟩
  case round =>
  obtain ⟨k, D, a, hk, rfl, ha, hso, hfr, hwb, hz, rfl, hLL⟩ := hrel
  have HF : Hid (Fr [] w wr) := hfr
  have HS : Hid (SOwn 115 w0.heap.size wr u10 a) := hso
  have HB : Hid (WrB wr BB 0 ⟨#[]⟩ 0) := hwb
  have HZ : Hid (w0.heap.size ≤ wr.heap.size) := hz
  have HLL : Hid (LL = (a ++ (rdN (V - k) (t.drop (U + D))).1, U + (D + (rdN (V - k) (t.drop (U + D))).2.1), (rdN (V - k) (t.drop (U + D))).2.2)) := hLL
  have HAL : Hid (a.length = k) := ha
  clear hfr hso hwb hz hLL ha HE2 HF1 HB1 HZ1
  by_cases hlt : k < V
  · have HN : Hid (rdN (V - k) (t.drop (U + D)) = if (rdP (t.drop (U + D))).2.2 ≠ 0 then ([], 0, (rdP (t.drop (U + D))).2.2)
      else ((rdP (t.drop (U + D))).1 :: (rdN (V - (k + 1)) (t.drop (U + (D + (rdP (t.drop (U + D))).2.1)))).1, (rdP (t.drop (U + D))).2.1 + (rdN (V - (k + 1)) (t.drop (U + (D + (rdP (t.drop (U + D))).2.1)))).2.1, (rdN (V - (k + 1)) (t.drop (U + (D + (rdP (t.drop (U + D))).2.1)))).2.2)) := by
      have e : t.drop (U + (D + (rdP (t.drop (U + D))).2.1)) = (t.drop (U + D)).drop (rdP (t.drop (U + D))).2.1 := by rw [List.drop_drop, Nat.add_assoc]
      rw [Hid, e, show V - k = (V - (k + 1)) + 1 from by omega]
      rfl
    obtain ⟨R, hR⟩ : ∃ R, t.drop (U + D) = R := ⟨_, rfl⟩
    have hRl : R.length ≤ 1048576 := by rw [← hR, List.length_drop]; omega
    have HRD : Hid (∀ x, t.drop (U + (D + x)) = R.drop x) := fun x => by rw [← hR, List.drop_drop, Nat.add_assoc]
    rw [hR] at HN HLL
    rw [hR]
    have HPE : Hid (rdP R = if (rdU R).2.2 ≠ 0 then ((0, 0), 0, (rdU R).2.2) else if 4096 < (rdU R).1 then ((0, 0), 0, 20)
      else if (rdS (R.drop (rdU R).2.1)).2.2 ≠ 0 then ((0, 0), 0, (rdS (R.drop (rdU R).2.1)).2.2)
      else (((rdS (R.drop (rdU R).2.1)).1, ((rdU R).1 : Int)), (rdU R).2.1 + (rdS (R.drop (rdU R).2.1)).2.1, 0)) := rfl
    have HRB : Hid ((rdU R).2.2 = 0 → (rdU R).2.1 ≤ R.length) := fun h => (rdU_back h).2
    have HCW : Hid (Calls Tryz.prog 87 #[.string (txt R)] wr fun e w' => e = .returned (.tuple #[.int .u64 ((rdU R).1 : Int), .int .i64 ((rdU R).2.1 : Int), .int .i64 (rdU R).2.2]) ∧ Fr [] wr w') := HWH.out _ R hRl
    have HER : Hid (∀ E3, (rdP R).2.2 = E3 → E3 ≠ 0 → LL = (a, U + D, E3) ∧ RE = E3) := by
      intro E3 h1 h2
      have e1 : LL = (a, U + D, E3) := by rw [HLL.out, HN.out, h1, if_pos h2]; simp
      exact ⟨e1, by rw [HRE.out, e1, if_pos h2]⟩
    have HOK : Hid ((rdP R).2.2 = 0 → LL = ((a ++ [(rdP R).1]) ++ (rdN (V - (k + 1)) (t.drop (U + (D + (rdP R).2.1)))).1, U + (D + (rdP R).2.1 + (rdN (V - (k + 1)) (t.drop (U + (D + (rdP R).2.1)))).2.1), (rdN (V - (k + 1)) (t.drop (U + (D + (rdP R).2.1)))).2.2)) := by
      intro h1
      rw [HLL.out, HN.out, if_neg (by simpa using h1)]
      simp [Nat.add_assoc]
    clear HN HLL hR
    generalize rdU R = RU at *
    obtain ⟨V2, U2, E2⟩ := RU
    try simp only at HPE HCW HRB
    go_wp2_with fail
    refine HCW.out.mono ?_
    rintro e w2 ⟨rfl, hf2⟩
    have HF2 : Hid (Fr [] w w2) := HF.out.trans hf2 (by simp)
    have HS2 : Hid (SOwn 115 w0.heap.size w2 u10 a) := HS.out.kept hf2
    have HB2 : Hid (WrB w2 BB 0 ⟨#[]⟩ 0) := HB.out.kept hf2 (by simp)
    have HZ2 : Hid (w0.heap.size ≤ w2.heap.size) := Nat.le_trans HZ.out hf2.size
    clear hf2 HCW HF HS HB HZ
    by_cases h2 : E2 = 0
    case neg =>
      have hX := HER.out E2 (by rw [HPE.out, if_pos h2]) h2
      have HX : Hid (LL = (a, U + D, E2) ∧ RE = E2) := hX
      have HNE : Hid (¬ E2 = 0) := h2
      have hEb : (E2 == 0) = false := beq_eq_false_iff_ne.2 h2
      clear hX
      have hb := HB2.out
      have d0 : w2.cell? ⟨BB, 0, none⟩ = some (.int .i64 0) := by rw [cell_at hb]; rfl
      have d1 : w2.cell? ⟨BB, 1, none⟩ = some (.string ⟨#[]⟩) := by rw [cell_at hb]; rfl
      have d2 : w2.cell? ⟨BB, 2, none⟩ = some (.int .i64 0) := by rw [cell_at hb]; rfl
      have f0 := frozen_at hb 0
      have f1 := frozen_at hb 1
      have f2 := frozen_at hb 2
      have HBX : Hid (WrB w2 BB 0 ⟨#[]⟩ 0) := hb
      clear hb
      go_wp2_with fail
      refine bodyPost_ret (side_res rfl _ _ BB E2 nm (k : Int) rfl (HBX.out.set E2 nm (k : Int))) rfl ?_
      have hff : Fr [BB] w2 (set3 w2 BB (.int .i64 E2) (.string nm) (.int .i64 (k : Int))) := set3_fr (Fr.refl [BB] w2) (.inl (by simp)) _ _ _
      have hfw : Fr [] w (set3 w2 BB (.int .i64 E2) (.string nm) (.int .i64 (k : Int))) := HF2.out.trans hff (by have := HBB.out; simp; omega)
      exact ⟨_, _, _, rfl, ⟨fun _ => ⟨rfl, rfl, by rw [HX.out.2, HX.out.1, HAL.out]⟩, fun hh => by rw [HX.out.2] at hh; exact absurd hh HNE.out⟩, hfw⟩
    subst h2
    have hU2 : U2 ≤ R.length := HRB.out rfl
    by_cases h4 : 4096 < V2
    · have hX := HER.out 20 (by rw [HPE.out, if_neg (by simp), if_pos h4]) (by decide)
      have HX : Hid (LL = (a, U + D, 20) ∧ RE = 20) := hX
      have HNE : Hid (¬ (20 : Int) = 0) := show ¬ (20 : Int) = 0 by decide
      have d4 : decide ((4096 : Int) < (V2 : Int)) = true := decide_eq_true (by omega)
      clear hX
      have hb := HB2.out
      have d0 : w2.cell? ⟨BB, 0, none⟩ = some (.int .i64 0) := by rw [cell_at hb]; rfl
      have d1 : w2.cell? ⟨BB, 1, none⟩ = some (.string ⟨#[]⟩) := by rw [cell_at hb]; rfl
      have d2 : w2.cell? ⟨BB, 2, none⟩ = some (.int .i64 0) := by rw [cell_at hb]; rfl
      have f0 := frozen_at hb 0
      have f1 := frozen_at hb 1
      have f2 := frozen_at hb 2
      have HBX : Hid (WrB w2 BB 0 ⟨#[]⟩ 0) := hb
      clear hb
      go_wp2_with fail
      refine bodyPost_ret (side_res rfl _ _ BB 20 nm (k : Int) rfl (HBX.out.set 20 nm (k : Int))) rfl ?_
      have hff : Fr [BB] w2 (set3 w2 BB (.int .i64 20) (.string nm) (.int .i64 (k : Int))) := set3_fr (Fr.refl [BB] w2) (.inl (by simp)) _ _ _
      have hfw : Fr [] w (set3 w2 BB (.int .i64 20) (.string nm) (.int .i64 (k : Int))) := HF2.out.trans hff (by have := HBB.out; simp; omega)
      exact ⟨_, _, _, rfl, ⟨fun _ => ⟨rfl, rfl, by rw [HX.out.2, HX.out.1, HAL.out]⟩, fun hh => by rw [HX.out.2] at hh; exact absurd hh HNE.out⟩, hfw⟩
    have d4 : decide ((4096 : Int) < (V2 : Int)) = false := decide_eq_false (by omega)
    have HPE2 : Hid (rdP R = if (rdS (R.drop U2)).2.2 ≠ 0 then ((0, 0), 0, (rdS (R.drop U2)).2.2) else (((rdS (R.drop U2)).1, (V2 : Int)), U2 + (rdS (R.drop U2)).2.1, 0)) := by
      rw [Hid, HPE.out, if_neg (by simp), if_neg h4]
    have HCS : Hid (Calls Tryz.prog 59 #[.string (txt (R.drop U2))] w2 fun e w' => e = .returned (.tuple #[.int .i64 (rdS (R.drop U2)).1, .int .i64 ((rdS (R.drop U2)).2.1 : Int), .int .i64 (rdS (R.drop U2)).2.2]) ∧ Fr [] w2 w') := HSG.out _ _ (by rw [List.length_drop]; omega)
    have HSB : Hid ((rdS (R.drop U2)).2.2 = 0 → (rdS (R.drop U2)).2.1 ≤ (R.drop U2).length) := fun h => (rdS_back h).2
    have hszR : (txt R).size = R.length := txt_size R
    have hxR : (txt R).extract U2 R.length = txt (R.drop U2) := by have h1 := txtH_drop R U2; rwa [txt_size] at h1
    have hUi2 : (U2 : Int) ≤ (R.length : Int) := by omega
    have hwV2 : wrap64 (V2 : Int) = (V2 : Int) := by unfold wrap64; omega
    clear HPE HRB
    have HDR : Hid (∀ y, (R.drop U2).drop y = R.drop (U2 + y)) := fun y => by rw [List.drop_drop]
    generalize hR2 : R.drop U2 = R2 at *
    have hR2l : R2.length ≤ 1048576 := by rw [← hR2, List.length_drop]; omega
    clear hR2
    generalize rdS R2 = RS at *
    obtain ⟨o, U3, E3⟩ := RS
    try simp only at HPE2 HCS HSB
    go_wp2_with fail
    refine HCS.out.mono ?_
    rintro e w3 ⟨rfl, hf3⟩
    have HF3 : Hid (Fr [] w w3) := HF2.out.trans hf3 (by simp)
    have HS3 : Hid (SOwn 115 w0.heap.size w3 u10 a) := HS2.out.kept hf3
    have HB3 : Hid (WrB w3 BB 0 ⟨#[]⟩ 0) := HB2.out.kept hf3 (by simp)
    have HZ3 : Hid (w0.heap.size ≤ w3.heap.size) := Nat.le_trans HZ2.out hf3.size
    clear hf3 HCS HF2 HS2 HB2 HZ2 hszR hxR hUi2
    by_cases h3 : E3 = 0
    case neg =>
      have hX := HER.out E3 (by rw [HPE2.out, if_pos h3]) h3
      have HX : Hid (LL = (a, U + D, E3) ∧ RE = E3) := hX
      have HNE : Hid (¬ E3 = 0) := h3
      have hEb : (E3 == 0) = false := beq_eq_false_iff_ne.2 h3
      clear hX
      have hb := HB3.out
      have d0 : w3.cell? ⟨BB, 0, none⟩ = some (.int .i64 0) := by rw [cell_at hb]; rfl
      have d1 : w3.cell? ⟨BB, 1, none⟩ = some (.string ⟨#[]⟩) := by rw [cell_at hb]; rfl
      have d2 : w3.cell? ⟨BB, 2, none⟩ = some (.int .i64 0) := by rw [cell_at hb]; rfl
      have f0 := frozen_at hb 0
      have f1 := frozen_at hb 1
      have f2 := frozen_at hb 2
      have HBX : Hid (WrB w3 BB 0 ⟨#[]⟩ 0) := hb
      clear hb
      go_wp2_with fail
      refine bodyPost_ret (side_res rfl _ _ BB E3 nm (k : Int) rfl (HBX.out.set E3 nm (k : Int))) rfl ?_
      have hff : Fr [BB] w3 (set3 w3 BB (.int .i64 E3) (.string nm) (.int .i64 (k : Int))) := set3_fr (Fr.refl [BB] w3) (.inl (by simp)) _ _ _
      have hfw : Fr [] w (set3 w3 BB (.int .i64 E3) (.string nm) (.int .i64 (k : Int))) := HF3.out.trans hff (by have := HBB.out; simp; omega)
      exact ⟨_, _, _, rfl, ⟨fun _ => ⟨rfl, rfl, by rw [HX.out.2, HX.out.1, HAL.out]⟩, fun hh => by rw [HX.out.2] at hh; exact absurd hh HNE.out⟩, hfw⟩
    subst h3
    have HPP : Hid (rdP R = ((o, (V2 : Int)), U2 + U3, 0)) := by rw [Hid, HPE2.out, if_neg (by simp)]
    have hL2 := HOK.out (by rw [HPP.out])
    rw [HPP.out] at hL2
    simp only at hL2
    have HL2 : Hid (LL = ((a ++ [(o, (V2 : Int))]) ++ (rdN (V - (k + 1)) (t.drop (U + (D + (U2 + U3))))).1, U + (D + (U2 + U3) + (rdN (V - (k + 1)) (t.drop (U + (D + (U2 + U3))))).2.1), (rdN (V - (k + 1)) (t.drop (U + (D + (U2 + U3))))).2.2)) := hL2
    have HTX : Hid (R2.drop U3 = t.drop (U + (D + (U2 + U3)))) := by rw [Hid, HDR.out, HRD.out]
    have hU3 : U3 ≤ R2.length := HSB.out rfl
    have hszR : (txt R2).size = R2.length := txt_size R2
    have hxR : (txt R2).extract U3 R2.length = txt (t.drop (U + (D + (U2 + U3)))) := by have h1 := txtH_drop R2 U3; rw [txt_size] at h1; rw [h1, HTX.out]
    have hUi3 : (U3 : Int) ≤ (R2.length : Int) := by omega
    have HL : Hid (a.length ≤ 1000000) := by have := HAL.out; rw [Hid]; omega
    clear hL2 HPP HPE2 HER HOK HDR HRD HSB HTX
    go_wp2_with (at_builtin; refine wpList_append_sp _ rfl _ _ 30 rfl Tryz.underlying30 HI.out.1 HI.out.2.1 HI.out.2.2.1 HI.out.2.2.2 (B := w0.heap.size) (s := (o, (V2 : Int))) (by have := HZ3.out; simp; omega) rfl rfl (HS3.out.kept ((Fr.refl [] _).alloc _)) (lit_sp' 115 w3 [(o, (V2 : Int))] rfl HZ3.out (by simp) (by unfold maxLen; simp)) HL.out ?_; intro v3 w4 ho3 hb3)
    go_roundw
    case rel =>
      exact ⟨k + 1, D + (U2 + U3), a ++ [(o, (V2 : Int))], by omega, by go_num, by have := HAL.out; simp; omega, ho3, FrB HF3.out (by have := HBL.out; have := HBB.out; omega) hb3, (HB3.out.kept ((Fr.refl [] _).alloc _) (by simp)).below hb3 HBL.out, by have := HZ3.out; have := hb3.size; simp at this; omega, rfl, HL2.out⟩
    case measure => simp [intOf]; omega
  have hkV : V - k = 0 := by omega
  have HLK : Hid (LL = (a, U + D, 0)) := by rw [Hid, HLL.out, hkV]; simp [rdN]
  have HRS : Hid (RE = sce a) := by rw [Hid, HRE.out, HLK.out, if_neg (by simp)]
  have hke : k = V := by omega
  subst hke
  have HIN : Hid (∀ s ∈ a, in64 s.1 ∧ in64 s.2) := by have := HLI.out; rw [HLK.out] at this; exact this
  clear HLL hkV hlt
  go_wp2_with fail
  refine (lsides_any _ a wr (HS.out.src HIN.out)).mono ?_
  rintro e w2 ⟨rfl, hf2⟩
  rw [← HRS.out]
  have HF2 : Hid (Fr [] w w2) := HF.out.trans hf2 (by simp)
  have HS2 : Hid (SOwn 115 w0.heap.size w2 u10 a) := HS.out.kept hf2
  have HB2 : Hid (WrB w2 BB 0 ⟨#[]⟩ 0) := HB.out.kept hf2 (by simp)
  clear hf2 HF HS HB
  by_cases hRE : RE = 0
  case neg =>
    have HNE : Hid (¬ RE = 0) := hRE
    have hEb : (RE == 0) = false := beq_eq_false_iff_ne.2 hRE
    clear hRE
    have hb := HB2.out
    have d0 : w2.cell? ⟨BB, 0, none⟩ = some (.int .i64 0) := by rw [cell_at hb]; rfl
    have d1 : w2.cell? ⟨BB, 1, none⟩ = some (.string ⟨#[]⟩) := by rw [cell_at hb]; rfl
    have d2 : w2.cell? ⟨BB, 2, none⟩ = some (.int .i64 0) := by rw [cell_at hb]; rfl
    have f0 := frozen_at hb 0
    have f1 := frozen_at hb 1
    have f2 := frozen_at hb 2
    have HBX : Hid (WrB w2 BB 0 ⟨#[]⟩ 0) := hb
    clear hb
    go_wp2_with fail
    refine bodyPost_ret (side_res rfl _ _ BB RE nm (k : Int) rfl (HBX.out.set RE nm (k : Int))) rfl ?_
    have hff : Fr [BB] w2 (set3 w2 BB (.int .i64 RE) (.string nm) (.int .i64 (k : Int))) := set3_fr (Fr.refl [BB] w2) (.inl (by simp)) _ _ _
    have hfw : Fr [] w (set3 w2 BB (.int .i64 RE) (.string nm) (.int .i64 (k : Int))) := HF2.out.trans hff (by have := HBB.out; simp; omega)
    exact ⟨_, _, _, rfl, ⟨fun _ => ⟨rfl, rfl, by rw [HLK.out, HAL.out]⟩, fun hh => absurd hh HNE.out⟩, hfw⟩
  have HZE : Hid (RE = 0) := hRE
  rw [hRE]
  clear hRE
  have hb := HB2.out
  have d0 : w2.cell? ⟨BB, 0, none⟩ = some (.int .i64 0) := by rw [cell_at hb]; rfl
  have d1 : w2.cell? ⟨BB, 1, none⟩ = some (.string ⟨#[]⟩) := by rw [cell_at hb]; rfl
  have d2 : w2.cell? ⟨BB, 2, none⟩ = some (.int .i64 0) := by rw [cell_at hb]; rfl
  have f0 := frozen_at hb 0
  have f1 := frozen_at hb 1
  have f2 := frozen_at hb 2
  have HBX : Hid (WrB w2 BB 0 ⟨#[]⟩ 0) := hb
  clear hb
  go_wp2_with fail
  refine bodyPost_ret (side_res rfl _ _ BB 0 ⟨#[]⟩ 0 rfl (HBX.out.set 0 ⟨#[]⟩ 0)) rfl ?_
  have hff : Fr [BB] w2 (set3 w2 BB (.int .i64 0) (.string ⟨#[]⟩) (.int .i64 0)) := set3_fr (Fr.refl [BB] w2) (.inl (by simp)) _ _ _
  have hfw : Fr [] w (set3 w2 BB (.int .i64 0) (.string ⟨#[]⟩) (.int .i64 0)) := HF2.out.trans hff (by have := HBB.out; simp; omega)
  have hso : SOwn 115 w0.heap.size (set3 w2 BB (.int .i64 0) (.string ⟨#[]⟩) (.int .i64 0)) u10 a := HS2.out.keptR hff (by have := HBL.out; simp; omega)
  exact ⟨_, _, _, rfl, ⟨fun hh => absurd HZE.out hh, fun _ => ⟨by rw [HLK.out]; exact hso.mono (by have := HBL.out; have := HBB.out; omega), by rw [HLK.out]; rfl, rfl⟩⟩, hfw⟩
end Go.Proofs.YtkphonepblkcdaaGreatDoor
