/-
  The document's Parse of a head.
-/
import Derived.Test.YtkphonepblkcdaaGreatDoorRef14S
import Derived.Test.YtkphonepblkcdaaGreatDoorRef14B
import Derived.Test.YtkphonepblkcdaaGreatDoorLawC14
namespace Go.Proofs.YtkphonepblkcdaaGreatDoor
open Go.RowKit Mem Spans Bits Groups Thrs
set_option linter.unusedSimpArgs false
set_option linter.unusedVariables false
set_option maxRecDepth 100000

theorem parse_res {fn : Func} {p u q : Tmp} (h : fn.results = #[.cell p 32, .tmp u, .cell q 35]) (tmps : Array Value) (w : World) (g b : Nat) (a0 a1 a2 a3 a4 a5 : Value) (c : Int) (nm : ByteArray) (n : Int)
    (hp : tmps.getD p undef = .pointer (some ⟨g, 0, none⟩)) (hq : tmps.getD q undef = .pointer (some ⟨b, 0, none⟩)) (hg : Six' 32 w g #[a0, a1, a2, a3, a4, a5]) (hb : WrB w b c nm n) : (results fn tmps).run Tryz.prog w = .ok (.tuple #[.agg #[a0, a1, a2, a3, a4, a5], tmps.getD u undef, wrV c nm n]) w := by
  have hl := run_loadVar_row (P := Tryz.prog) w g 32 32 #[a0, a1, a2, a3, a4, a5] (0, 0) _ hg Tryz.underlying32 rfl Tryz.sizeOfRHead
  have hm := run_loadVar_row (P := Tryz.prog) w b 35 35 #[.int .i64 c, .string nm, .int .i64 n] (0, 0) _ hb Tryz.underlying35 rfl Tryz.sizeOfWrong
  have hp' : tmps[p]?.getD undef = .pointer (some ⟨g, 0, none⟩) := by simpa using hp
  have hq' : tmps[q]?.getD undef = .pointer (some ⟨b, 0, none⟩) := by simpa using hq
  simp [results, h, hp', hq', asAddr, hl, hm, wrV]
/-- What the document tells of bits that a head may begin. -/
def LParse (t : List Bool) (G : Got) (w w' : World) (u X v : Value) : Prop :=
  (G.e ≠ 0 → u = .agg #[.int .i64 0, .int .i64 0, .int .i64 0, .int .u64 0, .slice none 0 0, .slice none 0 0] ∧ X = .string ⟨#[]⟩ ∧ v = wrV G.e G.p G.n) ∧
  (G.e = 0 → HdSrc w' u G.h ∧ X = .string (txt (t.drop G.u)) ∧ v = wrV 0 ⟨#[]⟩ 0)
theorem Six'.drew {t : TypeId} {w : World} {b : Nat} {cs : Array Value} (h : Six' t w b cs) : Six' t w.drew b cs := h
theorem WrB.drew {w : World} {b : Nat} {c n : Int} {p : ByteArray} (h : WrB w b c p n) : WrB w.drew b c p n := h
theorem SOwn_keptW {B : Nat} {w w' : World} {v : Value} {l : List Sp} {b : Nat} {c n : Int} {p : ByteArray} (h : SOwn 115 B w v l) (f : Fr [b] w w') (k : WrB w b c p n) : SOwn 115 B w' v l := by
  rcases h with h | ⟨gg, g1, g2, g3⟩
  · exact .inl h
  · refine .inr ⟨gg, g1, g2, g3.kept f ?_⟩
    intro hm
    rw [List.mem_singleton.1 hm] at g3
    obtain ⟨_, cap, cur, _, g4, _⟩ := g3
    unfold WrB at k
    rw [k] at g4
    simp at g4
theorem SOwn_keptH {B : Nat} {w w' : World} {v : Value} {l : List Sp} {b : Nat} {cs : Array Value} (h : SOwn 115 B w v l) (f : Fr [b] w w') (k : Six' 32 w b cs) : SOwn 115 B w' v l := by
  rcases h with h | ⟨gg, g1, g2, g3⟩
  · exact .inl h
  · refine .inr ⟨gg, g1, g2, g3.kept f ?_⟩
    intro hm
    rw [List.mem_singleton.1 hm] at g3
    obtain ⟨_, cap, cur, _, g4, _⟩ := g3
    unfold Six' at k
    rw [k] at g4
    simp at g4
theorem txtH_mid (t : List Bool) (a b : Nat) : (txt t).extract a (a + b) = txt ((t.drop a).take b) := by
  apply ByteArray.ext
  simp [txt, List.map_take, List.map_drop]
theorem five_zero {t : List Bool} (h : 8 ≤ t.length) : val ((t.drop 3).take 5) = 0 ↔ (t.drop 3).take 5 = numBits 0 5 := by
  constructor
  · intro e
    have := numBits_val ((t.drop 3).take 5)
    rw [e, show ((t.drop 3).take 5).length = 5 from by simp; omega] at this
    exact this.symm
  · intro e
    rw [e]
    decide

set_option maxHeartbeats 4000000 in
theorem lparse14_any (t : List Bool) (w : World) (ht : t.length ≤ 1048576) :
    Calls Tryz.prog 26 #[.string (txt t)] w fun e w' => ∃ u X v, e = .returned (.tuple #[u, X, v]) ∧ LParse t (rdH t) w w' u X v ∧ Fr [] w w' := by
  have HSG : Hid (∀ W (r : List Bool), r.length ≤ 1048576 → Calls Tryz.prog 59 #[.string (txt r)] W fun e w' => e = .returned (.tuple #[.int .i64 (rdS r).1, .int .i64 ((rdS r).2.1 : Int), .int .i64 (rdS r).2.2]) ∧ Fr [] W w') := fun W r hr => lsigned_any r W hr
  have HSD : Hid (∀ W (r : List Bool) nm, r.length ≤ 1048576 → Calls Tryz.prog 61 #[.string (txt r), .string nm] W fun e w' => ∃ u X v, e = .returned (.tuple #[u, X, v]) ∧ LSide r nm W w' u X v ∧ Fr [] W w') := fun W r nm hr => lside_any r nm W hr
  have HTL : Hid (t.length ≤ 1048576) := ht
  have HG1 : Hid (∀ e, rdf t = e → e ≠ 0 → rdH t = wrg e nmFlags 0) := fun e h1 h2 => by rw [rdH_no (by rw [h1]; exact h2), h1]
  have HG2 : Hid (rdf t = 0 → rdH t = gSch (val ((t.drop 2).take 1) : Nat) (val (t.take 2) : Nat) (t.drop 8) 8) := rdH_ok
  have HVV : Hid (∀ W (l : List Bool), l.length ≤ 64 → Calls Tryz.prog 58 #[.string (txt l)] W fun e w' => e = .returned (.int .u64 ((val l : Nat) : Int)) ∧ W = w') := fun W l hl => value_any l W hl
  have hszt : (txt t).size = t.length := txt_size t
  unfold LParse
  generalize rdH t = G at *
  go_enter Tryz.func26, Tryz.ntmps26
  have HS0 : Hid (Six' 32 ((w.alloc (.cells #[.int .i64 0, .int .i64 0, .int .i64 0, .int .u64 0, .slice none 0 0, .slice none 0 0] 32)).alloc (.cells #[.int .i64 0, .string ⟨#[]⟩, .int .i64 0] 35)) w.heap.size #[.int .i64 0, .int .i64 0, .int .i64 0, .int .u64 0, .slice none 0 0, .slice none 0 0]) := by
    unfold Six'
    rw [Hid, Below.heap_alloc _ _ _ (by simp)]
    exact heap_alloc_new _ _
  have HB0 : Hid (WrB ((w.alloc (.cells #[.int .i64 0, .int .i64 0, .int .i64 0, .int .u64 0, .slice none 0 0, .slice none 0 0] 32)).alloc (.cells #[.int .i64 0, .string ⟨#[]⟩, .int .i64 0] 35)) (w.heap.size + 1) 0 ⟨#[]⟩ 0) := by
    have := WrB.new (w.alloc (.cells #[.int .i64 0, .int .i64 0, .int .i64 0, .int .u64 0, .slice none 0 0, .slice none 0 0] 32)) 0 ⟨#[]⟩ 0
    rwa [World.size_alloc] at this
  have HF0 : Hid (Fr [] w ((w.alloc (.cells #[.int .i64 0, .int .i64 0, .int .i64 0, .int .u64 0, .slice none 0 0, .slice none 0 0] 32)).alloc (.cells #[.int .i64 0, .string ⟨#[]⟩, .int .i64 0] 35))) := ((Fr.refl _ _).alloc _).alloc _
  go_upto_region 1 with fail
  generalize ((w.alloc (.cells #[.int .i64 0, .int .i64 0, .int .i64 0, .int .u64 0, .slice none 0 0, .slice none 0 0] 32)).alloc (.cells #[.int .i64 0, .string ⟨#[]⟩, .int .i64 0] 35)) = w0 at *
  generalize hBB : w.heap.size = BB at *
  have HBB : Hid (w.heap.size = BB) := hBB
  have HBL : Hid (BB + 1 < w0.heap.size) := lt_of_heap HB0.out
  clear hBB
  by_cases h8 : t.length < 8
  · have HNE : Hid (¬ (16 : Int) = 0) := show ¬ (16 : Int) = 0 by decide
    have d8 : decide ((t.length : Int) < 8) = true := decide_eq_true (by omega)
    have hs := HS0.out
    have hb := HB0.out
    have c0 : w0.cell? ⟨BB, 0, none⟩ = some (.int .i64 0) := hs.cell 0 rfl
    have fc0 := hs.frozen 0
    have c1 : w0.cell? ⟨BB, 1, none⟩ = some (.int .i64 0) := hs.cell 1 rfl
    have fc1 := hs.frozen 1
    have c2 : w0.cell? ⟨BB, 2, none⟩ = some (.int .i64 0) := hs.cell 2 rfl
    have fc2 := hs.frozen 2
    have c3 : w0.cell? ⟨BB, 3, none⟩ = some (.int .u64 0) := hs.cell 3 rfl
    have fc3 := hs.frozen 3
    have c4 : w0.cell? ⟨BB, 4, none⟩ = some (.slice none 0 0) := hs.cell 4 rfl
    have fc4 := hs.frozen 4
    have c5 : w0.cell? ⟨BB, 5, none⟩ = some (.slice none 0 0) := hs.cell 5 rfl
    have fc5 := hs.frozen 5
    have d0 : w0.cell? ⟨BB + 1, 0, none⟩ = some (.int .i64 0) := by rw [cell_at hb]; rfl
    have fd0 := frozen_at hb 0
    have d1 : w0.cell? ⟨BB + 1, 1, none⟩ = some (.string ⟨#[]⟩) := by rw [cell_at hb]; rfl
    have fd1 := frozen_at hb 1
    have d2 : w0.cell? ⟨BB + 1, 2, none⟩ = some (.int .i64 0) := by rw [cell_at hb]; rfl
    have fd2 := frozen_at hb 2
    have HSX : Hid (Six' 32 w0 BB #[.int .i64 0, .int .i64 0, .int .i64 0, .int .u64 0, .slice none 0 0, .slice none 0 0]) := hs
    have HBX : Hid (WrB w0 (BB + 1) 0 ⟨#[]⟩ 0) := hb
    clear hs hb
    go_wp2_with fail
    have H6 : Hid (Six' 32 (set3 (set6 w0 BB (.int .i64 0) (.int .i64 0) (.int .i64 0) (.int .u64 0) (.slice none 0 0) (.slice none 0 0)) (BB + 1) (.int .i64 16) (.string nmFlags) (.int .i64 0)) BB #[.int .i64 0, .int .i64 0, .int .i64 0, .int .u64 0, .slice none 0 0, .slice none 0 0]) := ((set6_any HSX.out _ _ _ _ _ _).kept (set3_fr (Fr.refl [BB + 1] _) (.inl (by simp)) _ _ _) (by simp))
    have H3 : Hid (WrB (set3 (set6 w0 BB (.int .i64 0) (.int .i64 0) (.int .i64 0) (.int .u64 0) (.slice none 0 0) (.slice none 0 0)) (BB + 1) (.int .i64 16) (.string nmFlags) (.int .i64 0)) (BB + 1) 16 nmFlags 0) := ((HBX.out.kept (set6_fr (Fr.refl [BB] _) (.inl (by simp)) _ _ _ _ _ _) (by simp)).set 16 nmFlags 0)
    have HFW : Hid (Fr [] w (set3 (set6 w0 BB (.int .i64 0) (.int .i64 0) (.int .i64 0) (.int .u64 0) (.slice none 0 0) (.slice none 0 0)) (BB + 1) (.int .i64 16) (.string nmFlags) (.int .i64 0))) := (set3_fr (set6_fr HF0.out (.inr (by have := HBB.out; omega)) _ _ _ _ _ _) (.inr (by have := HBB.out; omega)) _ _ _)
    refine bodyPost_ret (parse_res rfl _ _ BB (BB + 1) (.int .i64 0) (.int .i64 0) (.int .i64 0) (.int .u64 0) (.slice none 0 0) (.slice none 0 0) 16 nmFlags 0 rfl rfl H6.out H3.out) rfl ?_
    have hge := HG1.out 16 (by unfold rdf; rw [if_pos h8]) (by decide)
    exact ⟨_, _, _, rfl, ⟨fun _ => ⟨rfl, rfl, by rw [hge]; rfl⟩, fun hh => by rw [hge] at hh; exact absurd hh HNE.out⟩, HFW.out⟩
  have d8 : decide ((t.length : Int) < 8) = false := decide_eq_false (by omega)
  have d8b : decide (t.length < 8) = false := decide_eq_false h8
  have h8le : 8 ≤ t.length := by omega
  have hx5 : (txt t).extract 3 8 = txt ((t.drop 3).take 5) := txtH_mid t 3 5
  by_cases h5 : (t.drop 3).take 5 = numBits 0 5
  case neg =>
    have HNE : Hid (¬ (10 : Int) = 0) := show ¬ (10 : Int) = 0 by decide
    have hnb : ((txt ((t.drop 3).take 5)).toList == [48, 48, 48, 48, 48]) = false := by
      have h1 := txtH_ne h5
      rwa [← txt_five, show (⟨#[48, 48, 48, 48, 48]⟩ : ByteArray).toList = [48, 48, 48, 48, 48] from by rw [ByteArray.toList_eq]] at h1
    have hs := HS0.out
    have hb := HB0.out
    have c0 : w0.cell? ⟨BB, 0, none⟩ = some (.int .i64 0) := hs.cell 0 rfl
    have fc0 := hs.frozen 0
    have c1 : w0.cell? ⟨BB, 1, none⟩ = some (.int .i64 0) := hs.cell 1 rfl
    have fc1 := hs.frozen 1
    have c2 : w0.cell? ⟨BB, 2, none⟩ = some (.int .i64 0) := hs.cell 2 rfl
    have fc2 := hs.frozen 2
    have c3 : w0.cell? ⟨BB, 3, none⟩ = some (.int .u64 0) := hs.cell 3 rfl
    have fc3 := hs.frozen 3
    have c4 : w0.cell? ⟨BB, 4, none⟩ = some (.slice none 0 0) := hs.cell 4 rfl
    have fc4 := hs.frozen 4
    have c5 : w0.cell? ⟨BB, 5, none⟩ = some (.slice none 0 0) := hs.cell 5 rfl
    have fc5 := hs.frozen 5
    have d0 : w0.cell? ⟨BB + 1, 0, none⟩ = some (.int .i64 0) := by rw [cell_at hb]; rfl
    have fd0 := frozen_at hb 0
    have d1 : w0.cell? ⟨BB + 1, 1, none⟩ = some (.string ⟨#[]⟩) := by rw [cell_at hb]; rfl
    have fd1 := frozen_at hb 1
    have d2 : w0.cell? ⟨BB + 1, 2, none⟩ = some (.int .i64 0) := by rw [cell_at hb]; rfl
    have fd2 := frozen_at hb 2
    have HSX : Hid (Six' 32 w0 BB #[.int .i64 0, .int .i64 0, .int .i64 0, .int .u64 0, .slice none 0 0, .slice none 0 0]) := hs
    have HBX : Hid (WrB w0 (BB + 1) 0 ⟨#[]⟩ 0) := hb
    clear hs hb
    go_wp2_with fail
    have H6 : Hid (Six' 32 (set3 (set6 w0 BB (.int .i64 0) (.int .i64 0) (.int .i64 0) (.int .u64 0) (.slice none 0 0) (.slice none 0 0)) (BB + 1) (.int .i64 10) (.string nmFlags) (.int .i64 0)) BB #[.int .i64 0, .int .i64 0, .int .i64 0, .int .u64 0, .slice none 0 0, .slice none 0 0]) := ((set6_any HSX.out _ _ _ _ _ _).kept (set3_fr (Fr.refl [BB + 1] _) (.inl (by simp)) _ _ _) (by simp))
    have H3 : Hid (WrB (set3 (set6 w0 BB (.int .i64 0) (.int .i64 0) (.int .i64 0) (.int .u64 0) (.slice none 0 0) (.slice none 0 0)) (BB + 1) (.int .i64 10) (.string nmFlags) (.int .i64 0)) (BB + 1) 10 nmFlags 0) := ((HBX.out.kept (set6_fr (Fr.refl [BB] _) (.inl (by simp)) _ _ _ _ _ _) (by simp)).set 10 nmFlags 0)
    have HFW : Hid (Fr [] w (set3 (set6 w0 BB (.int .i64 0) (.int .i64 0) (.int .i64 0) (.int .u64 0) (.slice none 0 0) (.slice none 0 0)) (BB + 1) (.int .i64 10) (.string nmFlags) (.int .i64 0))) := (set3_fr (set6_fr HF0.out (.inr (by have := HBB.out; omega)) _ _ _ _ _ _) (.inr (by have := HBB.out; omega)) _ _ _)
    refine bodyPost_ret (parse_res rfl _ _ BB (BB + 1) (.int .i64 0) (.int .i64 0) (.int .i64 0) (.int .u64 0) (.slice none 0 0) (.slice none 0 0) 10 nmFlags 0 rfl rfl H6.out H3.out) rfl ?_
    have hge := HG1.out 10 (by unfold rdf; rw [if_neg h8, if_pos (fun e => h5 ((five_zero h8le).1 e))]) (by decide)
    exact ⟨_, _, _, rfl, ⟨fun _ => ⟨rfl, rfl, by rw [hge]; rfl⟩, fun hh => by rw [hge] at hh; exact absurd hh HNE.out⟩, HFW.out⟩
  have HG3 := HG2.out (by unfold rdf; rw [if_neg h8, if_neg (by rw [(five_zero h8le).2 h5]; simp)])
  have HG3' : Hid (G = gSch (val ((t.drop 2).take 1) : Nat) (val (t.take 2) : Nat) (t.drop 8) 8) := HG3
  rw [h5, ← txt_five] at hx5
  have hx2 : (txt t).extract 0 2 = txt (t.take 2) := txtH_take t 2
  have hx3 : (txt t).extract 2 3 = txt ((t.drop 2).take 1) := txtH_mid t 2 1
  have HV2 : Hid (∀ W, Calls Tryz.prog 58 #[.string (txt (t.take 2))] W fun e w' => e = .returned (.int .u64 ((val (t.take 2) : Nat) : Int)) ∧ W = w') := fun W => HVV.out W _ (by simp; omega)
  have HV1 : Hid (∀ W, Calls Tryz.prog 58 #[.string (txt ((t.drop 2).take 1))] W fun e w' => e = .returned (.int .u64 ((val ((t.drop 2).take 1) : Nat) : Int)) ∧ W = w') := fun W => HVV.out W _ (by simp; omega)
  have b2 : val (t.take 2) < 4 := val_take_lt t 0 2
  have b1 : val ((t.drop 2).take 1) < 2 := val_take_lt t 2 1
  clear HG1 HG2 HG3 h5 HVV h8
  generalize t.take 2 = T2 at *
  generalize (t.drop 2).take 1 = T1 at *
  generalize val T2 = V2 at *
  generalize val T1 = V1 at *
  have q2 : wrap64 (V2 : Int) = (V2 : Int) := by unfold wrap64; omega
  have q1 : wrap64 (V1 : Int) = (V1 : Int) := by unfold wrap64; omega
  have r2 : IntKind.i64.wrap (V2 : Int) = (V2 : Int) := by rw [IntKind.wrap_i64]; omega
  have r1 : IntKind.i64.wrap (V1 : Int) = (V1 : Int) := by rw [IntKind.wrap_i64]; omega
  have HA : Hid (Six' 32 (w0.alloc (.cells #[.int .i64 (V1 : Int), .int .i64 (V2 : Int), .int .i64 0, .int .u64 0, .slice none 0 0, .slice none 0 0] 32)).drew w0.heap.size #[.int .i64 (V1 : Int), .int .i64 (V2 : Int), .int .i64 0, .int .u64 0, .slice none 0 0, .slice none 0 0] ∧ Fr [] w0 (w0.alloc (.cells #[.int .i64 (V1 : Int), .int .i64 (V2 : Int), .int .i64 0, .int .u64 0, .slice none 0 0, .slice none 0 0] 32)).drew) := ⟨heap_alloc_new _ _, ((Fr.refl [] w0).alloc _).drew⟩
  have g2 : (2 : Int) ≤ (t.length : Int) := by omega
  have g3 : (3 : Int) ≤ (t.length : Int) := by omega
  have g2n : 2 ≤ t.length := by omega
  have g3n : 3 ≤ t.length := by omega
  go_upto_region 5 with fail
  go_cut [5] from 23 to 31 (fun c5 wx => c5 = .pointer (some ⟨w0.heap.size, 0, none⟩) ∧ wx = (w0.alloc (.cells #[.int .i64 (V1 : Int), .int .i64 (V2 : Int), .int .i64 0, .int .u64 0, .slice none 0 0, .slice none 0 0] 32)).drew)
  case first =>
    go_region_held3 (fun _ => True) (exact trivial) (first
      | (go_at_call 58; with_reducible refine (HV2.out _).mono ?_; rintro e wa ⟨rfl, rfl⟩)
      | (go_at_call 58; with_reducible refine (HV1.out _).mono ?_; rintro e wb ⟨rfl, rfl⟩))
    all_goals (go_wp2_with fail)
    all_goals (go_meet)
    all_goals exact ⟨rfl, rfl⟩
  case rest =>
  obtain ⟨rfl, rfl⟩ := hcut
  have HVB : Hid (V1 < 2 ∧ V2 < 4) := ⟨b1, b2⟩
  have HX1 : Hid (Fr [] w0 (w0.alloc _).drew) := HA.out.2
  have HH1 : Hid (Six' 32 (w0.alloc _).drew w0.heap.size _) := HA.out.1
  clear g2 g3 g2n g3n HA HV1 HV2 hx2 hx3 hx5 q1 q2 r1 r2 b1 b2
  generalize (w0.alloc _).drew = w1 at *
  have HLH : Hid (BB + 1 < w0.heap.size) := HBL.out
  have HHL : Hid (w0.heap.size < w1.heap.size) := lt_of_heap HH1.out
  generalize w0.heap.size = HH at *
  have HS1 : Hid (Six' 32 w1 BB #[.int .i64 0, .int .i64 0, .int .i64 0, .int .u64 0, .slice none 0 0, .slice none 0 0]) := HS0.out.kept HX1.out (by simp)
  have HB1 : Hid (WrB w1 (BB + 1) 0 ⟨#[]⟩ 0) := HB0.out.kept HX1.out (by simp)
  have HF1 : Hid (Fr [] w w1) := HF0.out.trans HX1.out (by simp)
  clear HX1 HS0 HB0 HF0 HBL
  have hx8 : (txt t).extract 8 t.length = txt (t.drop 8) := by have h1 := txtH_drop t 8; rwa [txt_size] at h1
  obtain ⟨R1, hR1⟩ : ∃ R, t.drop 8 = R := ⟨_, rfl⟩
  have HQ1 : Hid (t.drop 8 = R1) := hR1
  have hR1l : R1.length ≤ 1048576 := by have := HTL.out; rw [← hR1, List.length_drop]; omega
  rw [hR1] at hx8 HG3'
  clear hR1
  have HCS : Hid (∀ W, Calls Tryz.prog 59 #[.string (txt R1)] W fun e w' => e = .returned (.tuple #[.int .i64 (rdS R1).1, .int .i64 ((rdS R1).2.1 : Int), .int .i64 (rdS R1).2.2]) ∧ Fr [] W w') := fun W => HSG.out W R1 hR1l
  have HSE : Hid (rdsE R1 = if (rdS R1).2.2 ≠ 0 then (rdS R1).2.2 else if (rdS R1).1 < -4 ∨ 8 < (rdS R1).1 then 21 else 0) := rfl
  have HSB : Hid ((rdS R1).2.2 = 0 → (rdS R1).2.1 ≤ R1.length) := fun h => (rdS_back h).2
  have HGN : Hid (∀ e, rdsE R1 = e → e ≠ 0 → G = wrg e nmSchema 0) := fun e h1 h2 => by rw [HG3'.out, gSch_no (by rw [h1]; exact h2), h1]
  have HGY : Hid (rdsE R1 = 0 → G = gZero (V1 : Int) (V2 : Int) (rdS R1).1 (R1.drop (rdS R1).2.1) (8 + (rdS R1).2.1)) := fun e => by rw [HG3'.out, gSch_ok e]
  clear HG3' HSG
  generalize rdsE R1 = SE at *
  generalize rdS R1 = RS at *
  obtain ⟨S, U1, E1⟩ := RS
  try simp only at HCS HSE HSB HGY
  have h8i : (8 : Int) ≤ (t.length : Int) := by omega
  go_wp2_with fail
  refine (HCS.out _).mono ?_
  rintro e w2 ⟨rfl, hf2⟩
  have HS2 : Hid (Six' 32 w2 BB #[.int .i64 0, .int .i64 0, .int .i64 0, .int .u64 0, .slice none 0 0, .slice none 0 0]) := HS1.out.kept hf2 (by simp)
  have HB2 : Hid (WrB w2 (BB + 1) 0 ⟨#[]⟩ 0) := HB1.out.kept hf2 (by simp)
  have HH2 : Hid (Six' 32 w2 HH #[.int .i64 (V1 : Int), .int .i64 (V2 : Int), .int .i64 0, .int .u64 0, .slice none 0 0, .slice none 0 0]) := HH1.out.kept hf2 (by simp)
  have HF2 : Hid (Fr [] w w2) := HF1.out.trans hf2 (by simp)
  have HHL2 : Hid (HH < w2.heap.size) := lt_of_heap HH2.out
  clear hf2 HS1 HB1 HH1 HF1 HCS HHL h8i hx8
  by_cases h1 : E1 = 0
  case neg =>
    have HNE : Hid (¬ E1 = 0) := h1
    have hEb : (E1 == 0) = false := beq_eq_false_iff_ne.2 h1
    have hs := HS2.out
    have hb := HB2.out
    have c0 : w2.cell? ⟨BB, 0, none⟩ = some (.int .i64 0) := hs.cell 0 rfl
    have fc0 := hs.frozen 0
    have c1 : w2.cell? ⟨BB, 1, none⟩ = some (.int .i64 0) := hs.cell 1 rfl
    have fc1 := hs.frozen 1
    have c2 : w2.cell? ⟨BB, 2, none⟩ = some (.int .i64 0) := hs.cell 2 rfl
    have fc2 := hs.frozen 2
    have c3 : w2.cell? ⟨BB, 3, none⟩ = some (.int .u64 0) := hs.cell 3 rfl
    have fc3 := hs.frozen 3
    have c4 : w2.cell? ⟨BB, 4, none⟩ = some (.slice none 0 0) := hs.cell 4 rfl
    have fc4 := hs.frozen 4
    have c5 : w2.cell? ⟨BB, 5, none⟩ = some (.slice none 0 0) := hs.cell 5 rfl
    have fc5 := hs.frozen 5
    have d0 : w2.cell? ⟨BB + 1, 0, none⟩ = some (.int .i64 0) := by rw [cell_at hb]; rfl
    have fd0 := frozen_at hb 0
    have d1 : w2.cell? ⟨BB + 1, 1, none⟩ = some (.string ⟨#[]⟩) := by rw [cell_at hb]; rfl
    have fd1 := frozen_at hb 1
    have d2 : w2.cell? ⟨BB + 1, 2, none⟩ = some (.int .i64 0) := by rw [cell_at hb]; rfl
    have fd2 := frozen_at hb 2
    have HSX : Hid (Six' 32 w2 BB #[.int .i64 0, .int .i64 0, .int .i64 0, .int .u64 0, .slice none 0 0, .slice none 0 0]) := hs
    have HBX : Hid (WrB w2 (BB + 1) 0 ⟨#[]⟩ 0) := hb
    clear hs hb
    go_wp2_with fail
    have H6 : Hid (Six' 32 (set3 (set6 w2 BB (.int .i64 0) (.int .i64 0) (.int .i64 0) (.int .u64 0) (.slice none 0 0) (.slice none 0 0)) (BB + 1) (.int .i64 E1) (.string nmSchema) (.int .i64 0)) BB #[.int .i64 0, .int .i64 0, .int .i64 0, .int .u64 0, .slice none 0 0, .slice none 0 0]) := ((set6_any HSX.out _ _ _ _ _ _).kept (set3_fr (Fr.refl [BB + 1] _) (.inl (by simp)) _ _ _) (by simp))
    have H3 : Hid (WrB (set3 (set6 w2 BB (.int .i64 0) (.int .i64 0) (.int .i64 0) (.int .u64 0) (.slice none 0 0) (.slice none 0 0)) (BB + 1) (.int .i64 E1) (.string nmSchema) (.int .i64 0)) (BB + 1) E1 nmSchema 0) := ((HBX.out.kept (set6_fr (Fr.refl [BB] _) (.inl (by simp)) _ _ _ _ _ _) (by simp)).set E1 nmSchema 0)
    have HFW : Hid (Fr [] w (set3 (set6 w2 BB (.int .i64 0) (.int .i64 0) (.int .i64 0) (.int .u64 0) (.slice none 0 0) (.slice none 0 0)) (BB + 1) (.int .i64 E1) (.string nmSchema) (.int .i64 0))) := (set3_fr (set6_fr HF2.out (.inr (by have := HBB.out; omega)) _ _ _ _ _ _) (.inr (by have := HBB.out; omega)) _ _ _)
    refine bodyPost_ret (parse_res rfl _ _ BB (BB + 1) (.int .i64 0) (.int .i64 0) (.int .i64 0) (.int .u64 0) (.slice none 0 0) (.slice none 0 0) E1 nmSchema 0 rfl rfl H6.out H3.out) rfl ?_
    have hge := HGN.out E1 (by rw [HSE.out, if_pos HNE.out]) HNE.out
    exact ⟨_, _, _, rfl, ⟨fun _ => ⟨rfl, rfl, by rw [hge]; rfl⟩, fun hh => by rw [hge] at hh; exact absurd hh HNE.out⟩, HFW.out⟩
  subst h1
  have HSE2 : Hid (SE = if S < -4 ∨ 8 < S then 21 else 0) := by rw [Hid, HSE.out, if_neg (by simp)]
  have hU1 : U1 ≤ R1.length := HSB.out rfl
  clear HSE HSB
  go_wp2_with fail
  refine (lheadS_any S w2).mono ?_
  rintro e w3 ⟨rfl, rfl⟩
  by_cases h2 : S < -4 ∨ 8 < S
  · have HNE : Hid (¬ (21 : Int) = 0) := show ¬ (21 : Int) = 0 by decide
    rw [if_pos h2]
    have hs := HS2.out
    have hb := HB2.out
    have c0 : w2.cell? ⟨BB, 0, none⟩ = some (.int .i64 0) := hs.cell 0 rfl
    have fc0 := hs.frozen 0
    have c1 : w2.cell? ⟨BB, 1, none⟩ = some (.int .i64 0) := hs.cell 1 rfl
    have fc1 := hs.frozen 1
    have c2 : w2.cell? ⟨BB, 2, none⟩ = some (.int .i64 0) := hs.cell 2 rfl
    have fc2 := hs.frozen 2
    have c3 : w2.cell? ⟨BB, 3, none⟩ = some (.int .u64 0) := hs.cell 3 rfl
    have fc3 := hs.frozen 3
    have c4 : w2.cell? ⟨BB, 4, none⟩ = some (.slice none 0 0) := hs.cell 4 rfl
    have fc4 := hs.frozen 4
    have c5 : w2.cell? ⟨BB, 5, none⟩ = some (.slice none 0 0) := hs.cell 5 rfl
    have fc5 := hs.frozen 5
    have d0 : w2.cell? ⟨BB + 1, 0, none⟩ = some (.int .i64 0) := by rw [cell_at hb]; rfl
    have fd0 := frozen_at hb 0
    have d1 : w2.cell? ⟨BB + 1, 1, none⟩ = some (.string ⟨#[]⟩) := by rw [cell_at hb]; rfl
    have fd1 := frozen_at hb 1
    have d2 : w2.cell? ⟨BB + 1, 2, none⟩ = some (.int .i64 0) := by rw [cell_at hb]; rfl
    have fd2 := frozen_at hb 2
    have HSX : Hid (Six' 32 w2 BB #[.int .i64 0, .int .i64 0, .int .i64 0, .int .u64 0, .slice none 0 0, .slice none 0 0]) := hs
    have HBX : Hid (WrB w2 (BB + 1) 0 ⟨#[]⟩ 0) := hb
    clear hs hb
    go_wp2_with fail
    have H6 : Hid (Six' 32 (set3 (set6 w2 BB (.int .i64 0) (.int .i64 0) (.int .i64 0) (.int .u64 0) (.slice none 0 0) (.slice none 0 0)) (BB + 1) (.int .i64 21) (.string nmSchema) (.int .i64 0)) BB #[.int .i64 0, .int .i64 0, .int .i64 0, .int .u64 0, .slice none 0 0, .slice none 0 0]) := ((set6_any HSX.out _ _ _ _ _ _).kept (set3_fr (Fr.refl [BB + 1] _) (.inl (by simp)) _ _ _) (by simp))
    have H3 : Hid (WrB (set3 (set6 w2 BB (.int .i64 0) (.int .i64 0) (.int .i64 0) (.int .u64 0) (.slice none 0 0) (.slice none 0 0)) (BB + 1) (.int .i64 21) (.string nmSchema) (.int .i64 0)) (BB + 1) 21 nmSchema 0) := ((HBX.out.kept (set6_fr (Fr.refl [BB] _) (.inl (by simp)) _ _ _ _ _ _) (by simp)).set 21 nmSchema 0)
    have HFW : Hid (Fr [] w (set3 (set6 w2 BB (.int .i64 0) (.int .i64 0) (.int .i64 0) (.int .u64 0) (.slice none 0 0) (.slice none 0 0)) (BB + 1) (.int .i64 21) (.string nmSchema) (.int .i64 0))) := (set3_fr (set6_fr HF2.out (.inr (by have := HBB.out; omega)) _ _ _ _ _ _) (.inr (by have := HBB.out; omega)) _ _ _)
    refine bodyPost_ret (parse_res rfl _ _ BB (BB + 1) (.int .i64 0) (.int .i64 0) (.int .i64 0) (.int .u64 0) (.slice none 0 0) (.slice none 0 0) 21 nmSchema 0 rfl rfl H6.out H3.out) rfl ?_
    have hge := HGN.out 21 (by rw [HSE2.out, if_pos h2]) (by decide)
    exact ⟨_, _, _, rfl, ⟨fun _ => ⟨rfl, rfl, by rw [hge]; rfl⟩, fun hh => by rw [hge] at hh; exact absurd hh HNE.out⟩, HFW.out⟩
  rw [if_neg h2]
  have hSB : -4 ≤ S ∧ S ≤ 8 := by omega
  have HSIN : Hid (-4 ≤ S ∧ S ≤ 8) := hSB
  have HG5 := HGY.out (by rw [HSE2.out, if_neg h2])
  have HG5' : Hid (G = gZero (V1 : Int) (V2 : Int) S (R1.drop U1) (8 + U1)) := HG5
  clear HG5 HGY HGN HSE2 h2 hSB
  have hszR : (txt R1).size = R1.length := txt_size R1
  have hxR : (txt R1).extract U1 R1.length = txt (R1.drop U1) := by have h1 := txtH_drop R1 U1; rwa [txt_size] at h1
  have hUi : (U1 : Int) ≤ (R1.length : Int) := by omega
  have HQ2 : Hid (t.drop (8 + U1) = R1.drop U1) := by rw [Hid, ← HQ1.out, List.drop_drop]
  generalize hR2 : R1.drop U1 = R2 at *
  have hR2l : R2.length ≤ 1048576 := by rw [← hR2, List.length_drop]; omega
  clear hR2
  obtain ⟨z, f, u2, hT⟩ : ∃ z f u2, tgt R2 0 R2.length = (z, f, u2) := ⟨_, _, _, rfl⟩
  have HCZ : Hid (∀ W, Calls Tryz.prog 60 #[.string (txt R2)] W fun e w' => e = .returned (.tuple #[.int .u64 (z : Int), .int .i64 (if f = 0 then (u2 : Int) else 0), .int .i64 (f : Int)]) ∧ W = w') := fun W => rParse_any R2 W z f u2 hR2l hT
  have HZB : Hid (z < 18446744073709551616) := by have h1 := tgt_lt R2 0 R2.length; rw [hT] at h1; exact h1
  have HUB : Hid (f = 0 → u2 ≤ R2.length) := fun h => by have h1 := (tgt_back (t := R2) (by rw [hT]; exact h)).2.1; rw [hT] at h1; exact h1
  have HGN : Hid (¬ (f : Int) = 0 → G = wrg (f : Int) nmZero 0) := fun e => by rw [HG5'.out, gZero_no (by rw [hT]; simpa using e), hT]
  have HGY : Hid (f = 0 → G = gPos (V1 : Int) (V2 : Int) S z (R2.drop u2) (8 + U1 + u2)) := fun e => by rw [HG5'.out, gZero_ok (by rw [hT]; exact e), hT]
  clear hT HG5'
  have hh := HH2.out
  have k2 : w2.cell? ⟨HH, 2, none⟩ = some (.int .i64 0) := hh.cell 2 rfl
  have fk2 := hh.frozen 2
  have HH3 : Hid (Six' 32 (w2.setCell ⟨HH, 2, none⟩ (.int .i64 S)) HH #[.int .i64 (V1 : Int), .int .i64 (V2 : Int), .int .i64 S, .int .u64 0, .slice none 0 0, .slice none 0 0]) := by
    unfold Six' at hh
    unfold Hid Six'
    simp [World.setCell, Array.getElem?_modify, hh]
  have HX3 : Hid (Fr [HH] w2 (w2.setCell ⟨HH, 2, none⟩ (.int .i64 S))) := (Fr.refl [HH] _).setCell _ _ (.inl (by simp))
  clear hh HH2
  go_upto_region 14 with fail
  clear k2 fk2 hszR hxR hUi
  generalize w2.setCell ⟨HH, 2, none⟩ (.int .i64 S) = w3 at *
  have HS3 : Hid (Six' 32 w3 BB #[.int .i64 0, .int .i64 0, .int .i64 0, .int .u64 0, .slice none 0 0, .slice none 0 0]) := HS2.out.kept HX3.out (by have := HLH.out; simp; omega)
  have HB3 : Hid (WrB w3 (BB + 1) 0 ⟨#[]⟩ 0) := HB2.out.kept HX3.out (by have := HLH.out; simp; omega)
  have HF3 : Hid (Fr [] w w3) := HF2.out.trans HX3.out (by have := HLH.out; have := HBB.out; simp; omega)
  have HHL3 : Hid (HH < w3.heap.size) := lt_of_heap HH3.out
  clear HS2 HB2 HF2 HX3 HHL2
  go_wp2_with fail
  refine (HCZ.out w3).mono ?_
  rintro e w4 ⟨rfl, rfl⟩
  by_cases h3 : f = 0
  case neg =>
    have HNE : Hid (¬ (f : Int) = 0) := show ¬ (f : Int) = 0 by omega
    have h3i : ¬ (f : Int) = 0 := by omega
    have hEb : ((f : Int) == 0) = false := beq_eq_false_iff_ne.2 h3i
    rw [if_neg h3]
    have hs := HS3.out
    have hb := HB3.out
    have c0 : w3.cell? ⟨BB, 0, none⟩ = some (.int .i64 0) := hs.cell 0 rfl
    have fc0 := hs.frozen 0
    have c1 : w3.cell? ⟨BB, 1, none⟩ = some (.int .i64 0) := hs.cell 1 rfl
    have fc1 := hs.frozen 1
    have c2 : w3.cell? ⟨BB, 2, none⟩ = some (.int .i64 0) := hs.cell 2 rfl
    have fc2 := hs.frozen 2
    have c3 : w3.cell? ⟨BB, 3, none⟩ = some (.int .u64 0) := hs.cell 3 rfl
    have fc3 := hs.frozen 3
    have c4 : w3.cell? ⟨BB, 4, none⟩ = some (.slice none 0 0) := hs.cell 4 rfl
    have fc4 := hs.frozen 4
    have c5 : w3.cell? ⟨BB, 5, none⟩ = some (.slice none 0 0) := hs.cell 5 rfl
    have fc5 := hs.frozen 5
    have d0 : w3.cell? ⟨BB + 1, 0, none⟩ = some (.int .i64 0) := by rw [cell_at hb]; rfl
    have fd0 := frozen_at hb 0
    have d1 : w3.cell? ⟨BB + 1, 1, none⟩ = some (.string ⟨#[]⟩) := by rw [cell_at hb]; rfl
    have fd1 := frozen_at hb 1
    have d2 : w3.cell? ⟨BB + 1, 2, none⟩ = some (.int .i64 0) := by rw [cell_at hb]; rfl
    have fd2 := frozen_at hb 2
    have HSX : Hid (Six' 32 w3 BB #[.int .i64 0, .int .i64 0, .int .i64 0, .int .u64 0, .slice none 0 0, .slice none 0 0]) := hs
    have HBX : Hid (WrB w3 (BB + 1) 0 ⟨#[]⟩ 0) := hb
    clear hs hb
    go_wp2_with fail
    have H6 : Hid (Six' 32 (set3 (set6 w3 BB (.int .i64 0) (.int .i64 0) (.int .i64 0) (.int .u64 0) (.slice none 0 0) (.slice none 0 0)) (BB + 1) (.int .i64 (f : Int)) (.string nmZero) (.int .i64 0)) BB #[.int .i64 0, .int .i64 0, .int .i64 0, .int .u64 0, .slice none 0 0, .slice none 0 0]) := ((set6_any HSX.out _ _ _ _ _ _).kept (set3_fr (Fr.refl [BB + 1] _) (.inl (by simp)) _ _ _) (by simp))
    have H3 : Hid (WrB (set3 (set6 w3 BB (.int .i64 0) (.int .i64 0) (.int .i64 0) (.int .u64 0) (.slice none 0 0) (.slice none 0 0)) (BB + 1) (.int .i64 (f : Int)) (.string nmZero) (.int .i64 0)) (BB + 1) (f : Int) nmZero 0) := ((HBX.out.kept (set6_fr (Fr.refl [BB] _) (.inl (by simp)) _ _ _ _ _ _) (by simp)).set (f : Int) nmZero 0)
    have HFW : Hid (Fr [] w (set3 (set6 w3 BB (.int .i64 0) (.int .i64 0) (.int .i64 0) (.int .u64 0) (.slice none 0 0) (.slice none 0 0)) (BB + 1) (.int .i64 (f : Int)) (.string nmZero) (.int .i64 0))) := (set3_fr (set6_fr HF3.out (.inr (by have := HBB.out; omega)) _ _ _ _ _ _) (.inr (by have := HBB.out; omega)) _ _ _)
    refine bodyPost_ret (parse_res rfl _ _ BB (BB + 1) (.int .i64 0) (.int .i64 0) (.int .i64 0) (.int .u64 0) (.slice none 0 0) (.slice none 0 0) (f : Int) nmZero 0 rfl rfl H6.out H3.out) rfl ?_
    have hge := HGN.out HNE.out
    exact ⟨_, _, _, rfl, ⟨fun _ => ⟨rfl, rfl, by rw [hge]; rfl⟩, fun hh => by rw [hge] at hh; exact absurd hh HNE.out⟩, HFW.out⟩
  subst h3
  rw [if_pos rfl]
  have hu2 : u2 ≤ R2.length := HUB.out rfl
  have HG7 := HGY.out rfl
  have HG7' : Hid (G = gPos (V1 : Int) (V2 : Int) S z (R2.drop u2) (8 + U1 + u2)) := HG7
  clear HG7 HGY HGN HUB HCZ
  have hszR : (txt R2).size = R2.length := txt_size R2
  have hxR : (txt R2).extract u2 R2.length = txt (R2.drop u2) := by have h1 := txtH_drop R2 u2; rwa [txt_size] at h1
  have hUi : (u2 : Int) ≤ (R2.length : Int) := by omega
  have HQ3 : Hid (t.drop (8 + U1 + u2) = R2.drop u2) := by rw [Hid, ← List.drop_drop, HQ2.out]
  generalize hR3 : R2.drop u2 = R3 at *
  have hR3l : R3.length ≤ 1048576 := by rw [← hR3, List.length_drop]; omega
  clear hR3 HQ1 HQ2
  generalize 8 + U1 + u2 = Q3 at *
  have hh := HH3.out
  have k3 : w3.cell? ⟨HH, 3, none⟩ = some (.int .u64 0) := hh.cell 3 rfl
  have fk3 := hh.frozen 3
  have HH4 : Hid (Six' 32 (w3.setCell ⟨HH, 3, none⟩ (.int .u64 (z : Int))) HH #[.int .i64 (V1 : Int), .int .i64 (V2 : Int), .int .i64 S, .int .u64 (z : Int), .slice none 0 0, .slice none 0 0]) := by
    unfold Six' at hh
    unfold Hid Six'
    simp [World.setCell, Array.getElem?_modify, hh]
  have HX4 : Hid (Fr [HH] w3 (w3.setCell ⟨HH, 3, none⟩ (.int .u64 (z : Int)))) := (Fr.refl [HH] _).setCell _ _ (.inl (by simp))
  clear hh HH3
  go_upto_region 18 with fail
  clear k3 fk3
  generalize w3.setCell ⟨HH, 3, none⟩ (.int .u64 (z : Int)) = w4 at *
  have HS4 : Hid (Six' 32 w4 BB #[.int .i64 0, .int .i64 0, .int .i64 0, .int .u64 0, .slice none 0 0, .slice none 0 0]) := HS3.out.kept HX4.out (by have := HLH.out; simp; omega)
  have HB4 : Hid (WrB w4 (BB + 1) 0 ⟨#[]⟩ 0) := HB3.out.kept HX4.out (by have := HLH.out; simp; omega)
  have HF4 : Hid (Fr [] w w4) := HF3.out.trans HX4.out (by have := HLH.out; have := HBB.out; simp; omega)
  have HHL4 : Hid (HH < w4.heap.size) := lt_of_heap HH4.out
  clear HS3 HB3 HF3 HX4 HHL3
  have HGN : Hid (¬ rde R3 = 0 → G = wrg (rde R3) nmPos (rdL R3).1.length) := fun e => by rw [HG7'.out, gPos_no e]
  have HGY : Hid (rde R3 = 0 → G = gNeg (V1 : Int) (V2 : Int) S z (rdL R3).1 (R3.drop (rdL R3).2.1) (Q3 + (rdL R3).2.1)) := fun e => by rw [HG7'.out, gPos_ok e]
  have HPB : Hid (rde R3 = 0 → (rdL R3).2.1 ≤ R3.length) := fun e => (rde_back e).2.1
  have HLI : Hid (∀ s ∈ (rdL R3).1, in64 s.1 ∧ in64 s.2) := rdL_in _
  clear HG7'
  go_wp2_with fail
  refine (HSD.out w4 R3 nmPos hR3l).mono ?_
  rintro e w5 ⟨u, X, v, rfl, hsd, hf5⟩
  have HS5 : Hid (Six' 32 w5 BB #[.int .i64 0, .int .i64 0, .int .i64 0, .int .u64 0, .slice none 0 0, .slice none 0 0]) := HS4.out.kept hf5 (by simp)
  have HB5 : Hid (WrB w5 (BB + 1) 0 ⟨#[]⟩ 0) := HB4.out.kept hf5 (by simp)
  have HH5 : Hid (Six' 32 w5 HH #[.int .i64 (V1 : Int), .int .i64 (V2 : Int), .int .i64 S, .int .u64 (z : Int), .slice none 0 0, .slice none 0 0]) := HH4.out.kept hf5 (by simp)
  have HF5 : Hid (Fr [] w w5) := HF4.out.trans hf5 (by simp)
  have HZ5 : Hid (HH < w4.heap.size ∧ w4.heap.size ≤ w5.heap.size) := ⟨HHL4.out, hf5.size⟩
  clear hf5 HS4 HB4 HH4 HF4 HHL4 hszR hxR hUi
  by_cases h4 : rde R3 = 0
  case neg =>
    obtain ⟨rfl, rfl, rfl⟩ := hsd.1 h4
    have HNE : Hid (¬ rde R3 = 0) := h4
    have hge0 := HGN.out h4
    have HGE : Hid (G = wrg (rde R3) nmPos (rdL R3).1.length) := hge0
    clear hsd hge0 HGN HGY HPB HLI h4
    generalize rde R3 = C at *
    generalize (rdL R3).1.length = K at *
    have hEb : (C == 0) = false := beq_eq_false_iff_ne.2 HNE.out
    have hEc : (C != 0) = true := bne_iff_ne.2 HNE.out
    unfold wrV
    have HWB : Hid (WrB (w5.alloc (.cells #[.int .i64 C, .string nmPos, .int .i64 (K : Int)] 35)) w5.heap.size C nmPos (K : Int)) := WrB.new _ _ _ _
    have HX6 : Hid (Fr [] w5 (w5.alloc (.cells #[.int .i64 C, .string nmPos, .int .i64 (K : Int)] 35))) := (Fr.refl [] _).alloc _
    go_upto_region 19 with fail
    generalize w5.alloc _ = w6 at *
    generalize w5.heap.size = WB at *
    have HS6 : Hid (Six' 32 w6 BB #[.int .i64 0, .int .i64 0, .int .i64 0, .int .u64 0, .slice none 0 0, .slice none 0 0]) := HS5.out.kept HX6.out (by simp)
    have HB6 : Hid (WrB w6 (BB + 1) 0 ⟨#[]⟩ 0) := HB5.out.kept HX6.out (by simp)
    have HF6 : Hid (Fr [] w w6) := HF5.out.trans HX6.out (by simp)
    have hWB : BB + 1 < WB := by have := HLH.out; have := HZ5.out; omega
    have hs := HS6.out
    have hb := HB6.out
    have c0 : w6.cell? ⟨BB, 0, none⟩ = some (.int .i64 0) := hs.cell 0 rfl
    have fc0 := hs.frozen 0
    have c1 : w6.cell? ⟨BB, 1, none⟩ = some (.int .i64 0) := hs.cell 1 rfl
    have fc1 := hs.frozen 1
    have c2 : w6.cell? ⟨BB, 2, none⟩ = some (.int .i64 0) := hs.cell 2 rfl
    have fc2 := hs.frozen 2
    have c3 : w6.cell? ⟨BB, 3, none⟩ = some (.int .u64 0) := hs.cell 3 rfl
    have fc3 := hs.frozen 3
    have c4 : w6.cell? ⟨BB, 4, none⟩ = some (.slice none 0 0) := hs.cell 4 rfl
    have fc4 := hs.frozen 4
    have c5 : w6.cell? ⟨BB, 5, none⟩ = some (.slice none 0 0) := hs.cell 5 rfl
    have fc5 := hs.frozen 5
    have d0 : w6.cell? ⟨BB + 1, 0, none⟩ = some (.int .i64 0) := by rw [cell_at hb]; rfl
    have fd0 := frozen_at hb 0
    have d1 : w6.cell? ⟨BB + 1, 1, none⟩ = some (.string ⟨#[]⟩) := by rw [cell_at hb]; rfl
    have fd1 := frozen_at hb 1
    have d2 : w6.cell? ⟨BB + 1, 2, none⟩ = some (.int .i64 0) := by rw [cell_at hb]; rfl
    have fd2 := frozen_at hb 2
    have HSX : Hid (Six' 32 w6 BB #[.int .i64 0, .int .i64 0, .int .i64 0, .int .u64 0, .slice none 0 0, .slice none 0 0]) := hs
    have HBX : Hid (WrB w6 (BB + 1) 0 ⟨#[]⟩ 0) := hb
    clear hs hb
    have e0 : w6.cell? ⟨WB, 0, none⟩ = some (.int .i64 C) := by rw [cell_at HWB.out]; rfl
    have e1 : w6.cell? ⟨WB, 1, none⟩ = some (.string nmPos) := by rw [cell_at HWB.out]; rfl
    have e2 : w6.cell? ⟨WB, 2, none⟩ = some (.int .i64 (K : Int)) := by rw [cell_at HWB.out]; rfl
    go_wp2_with fail
    go_region
    go_wp2_with fail
    have H6 : Hid (Six' 32 (set3 (set6 w6 BB (.int .i64 0) (.int .i64 0) (.int .i64 0) (.int .u64 0) (.slice none 0 0) (.slice none 0 0)) (BB + 1) (.int .i64 C) (.string nmPos) (.int .i64 (K : Int))).drew BB #[.int .i64 0, .int .i64 0, .int .i64 0, .int .u64 0, .slice none 0 0, .slice none 0 0]) := Six'.drew ((set6_any HSX.out _ _ _ _ _ _).kept (set3_fr (Fr.refl [BB + 1] _) (.inl (by simp)) _ _ _) (by simp))
    have H3 : Hid (WrB (set3 (set6 w6 BB (.int .i64 0) (.int .i64 0) (.int .i64 0) (.int .u64 0) (.slice none 0 0) (.slice none 0 0)) (BB + 1) (.int .i64 C) (.string nmPos) (.int .i64 (K : Int))).drew (BB + 1) C nmPos (K : Int)) := WrB.drew ((HBX.out.kept (set6_fr (Fr.refl [BB] _) (.inl (by simp)) _ _ _ _ _ _) (by simp)).set C nmPos (K : Int))
    have HFW : Hid (Fr [] w (set3 (set6 w6 BB (.int .i64 0) (.int .i64 0) (.int .i64 0) (.int .u64 0) (.slice none 0 0) (.slice none 0 0)) (BB + 1) (.int .i64 C) (.string nmPos) (.int .i64 (K : Int))).drew) := Fr.drew (set3_fr (set6_fr HF6.out (.inr (by have := HBB.out; omega)) _ _ _ _ _ _) (.inr (by have := HBB.out; omega)) _ _ _)
    refine bodyPost_ret (parse_res rfl _ _ BB (BB + 1) (.int .i64 0) (.int .i64 0) (.int .i64 0) (.int .u64 0) (.slice none 0 0) (.slice none 0 0) C nmPos (K : Int) rfl rfl H6.out H3.out) rfl ?_
    have hge := HGE.out
    exact ⟨_, _, _, rfl, ⟨fun _ => ⟨rfl, rfl, by rw [hge]; rfl⟩, fun hh => by rw [hge] at hh; exact absurd hh HNE.out⟩, HFW.out⟩
  have hsd2 := hsd.2 h4
  obtain ⟨hso, rfl, rfl⟩ := hsd2
  have HG8 := HGY.out h4
  have hpb := HPB.out h4
  have HPO : Hid (SOwn 115 w4.heap.size w5 u (rdL R3).1) := hso
  have HG8' : Hid (G = gNeg (V1 : Int) (V2 : Int) S z (rdL R3).1 (R3.drop (rdL R3).2.1) (Q3 + (rdL R3).2.1)) := HG8
  have HQ4 : Hid (t.drop (Q3 + (rdL R3).2.1) = R3.drop (rdL R3).2.1) := by rw [Hid, ← List.drop_drop, HQ3.out]
  clear hsd hso HG8 HGY HGN HPB h4
  generalize (rdL R3).2.1 = u3 at *
  generalize (rdL R3).1 = P at *
  have hR4l0 : (R3.drop u3).length ≤ 1048576 := by rw [List.length_drop]; omega
  generalize R3.drop u3 = R4 at *
  generalize Q3 + u3 = Q4 at *
  obtain ⟨po, pc, rfl⟩ := HPO.out.valR
  unfold wrV
  have HWB : Hid (WrB (w5.alloc (.cells #[.int .i64 0, .string ⟨#[]⟩, .int .i64 0] 35)) w5.heap.size 0 ⟨#[]⟩ 0) := WrB.new _ _ _ _
  have HX6 : Hid (Fr [] w5 (w5.alloc (.cells #[.int .i64 0, .string ⟨#[]⟩, .int .i64 0] 35))) := (Fr.refl [] _).alloc _
  go_upto_region 19 with fail
  generalize w5.alloc _ = w6 at *
  generalize hWBq : w5.heap.size = WB at *
  have HS6 : Hid (Six' 32 w6 BB #[.int .i64 0, .int .i64 0, .int .i64 0, .int .u64 0, .slice none 0 0, .slice none 0 0]) := HS5.out.kept HX6.out (by simp)
  have HB6 : Hid (WrB w6 (BB + 1) 0 ⟨#[]⟩ 0) := HB5.out.kept HX6.out (by simp)
  have HH6 : Hid (Six' 32 w6 HH #[.int .i64 (V1 : Int), .int .i64 (V2 : Int), .int .i64 S, .int .u64 (z : Int), .slice none 0 0, .slice none 0 0]) := HH5.out.kept HX6.out (by simp)
  have HF6 : Hid (Fr [] w w6) := HF5.out.trans HX6.out (by simp)
  have HP6 : Hid (SOwn 115 w4.heap.size w6 (.slice po P.length pc) P) := HPO.out.kept HX6.out
  have HORD : Hid (BB + 1 < HH ∧ HH < w4.heap.size ∧ w4.heap.size ≤ WB ∧ WB < w6.heap.size) := ⟨HLH.out, HZ5.out.1, HZ5.out.2, lt_of_heap HWB.out⟩
  have HGN : Hid (¬ rde R4 = 0 → G = wrg (rde R4) nmNeg (rdL R4).1.length) := fun e => by rw [HG8'.out, gNeg_no e]
  have HGY : Hid (rde R4 = 0 → G = ⟨⟨(V1 : Int), (V2 : Int), S, z, P, (rdL R4).1⟩, Q4 + (rdL R4).2.1, 0, nmNeg, 0⟩) := fun e => by rw [HG8'.out, gNeg_ok e]
  have HLJ : Hid (∀ s ∈ (rdL R4).1, in64 s.1 ∧ in64 s.2) := rdL_in _
  have HNB : Hid (rde R4 = 0 → (rdL R4).2.1 ≤ R4.length) := fun e => (rde_back e).2.1
  have e0 : w6.cell? ⟨WB, 0, none⟩ = some (.int .i64 0) := by rw [cell_at HWB.out]; rfl
  clear HS5 HB5 HH5 HF5 HPO HX6 HZ5 HG8' hWBq
  go_wp2_with fail
  refine (HSD.out w6 R4 nmNeg hR4l0).mono ?_
  rintro e w7 ⟨u, X, v, rfl, hsd, hf7⟩
  have HS7 : Hid (Six' 32 w7 BB #[.int .i64 0, .int .i64 0, .int .i64 0, .int .u64 0, .slice none 0 0, .slice none 0 0]) := HS6.out.kept hf7 (by simp)
  have HB7 : Hid (WrB w7 (BB + 1) 0 ⟨#[]⟩ 0) := HB6.out.kept hf7 (by simp)
  have HH7 : Hid (Six' 32 w7 HH #[.int .i64 (V1 : Int), .int .i64 (V2 : Int), .int .i64 S, .int .u64 (z : Int), .slice none 0 0, .slice none 0 0]) := HH6.out.kept hf7 (by simp)
  have HW7 : Hid (WrB w7 WB 0 ⟨#[]⟩ 0) := HWB.out.kept hf7 (by simp)
  have HF7 : Hid (Fr [] w w7) := HF6.out.trans hf7 (by simp)
  have HP7 : Hid (SOwn 115 w4.heap.size w7 (.slice po P.length pc) P) := HP6.out.kept hf7
  clear hf7 HS6 HB6 HH6 HWB HF6 HP6 e0 HSD
  have hwb := HW7.out
  have e0 : w7.cell? ⟨WB, 0, none⟩ = some (.int .i64 0) := by rw [cell_at hwb]; rfl
  have e1 : w7.cell? ⟨WB, 1, none⟩ = some (.string ⟨#[]⟩) := by rw [cell_at hwb]; rfl
  have e2 : w7.cell? ⟨WB, 2, none⟩ = some (.int .i64 0) := by rw [cell_at hwb]; rfl
  have fe0 := frozen_at hwb 0
  have fe1 := frozen_at hwb 1
  have fe2 := frozen_at hwb 2
  clear hwb
  by_cases h5 : rde R4 = 0
  case neg =>
    obtain ⟨rfl, rfl, rfl⟩ := hsd.1 h5
    have HNE : Hid (¬ rde R4 = 0) := h5
    have HGE : Hid (G = wrg (rde R4) nmNeg (rdL R4).1.length) := HGN.out h5
    clear hsd HGN HGY HNB HLJ h5
    generalize rde R4 = C at *
    generalize (rdL R4).1.length = K at *
    have hEb : (C == 0) = false := beq_eq_false_iff_ne.2 HNE.out
    have hEc : (C != 0) = true := bne_iff_ne.2 HNE.out
    unfold wrV
    have HW8 : Hid (WrB (((w7.setCell ⟨WB, 0, none⟩ (.int .i64 C)).setCell ⟨WB, 1, none⟩ (.string nmNeg)).setCell ⟨WB, 2, none⟩ (.int .i64 (K : Int))) WB C nmNeg (K : Int)) := HW7.out.set _ _ _
    have HX8 : Hid (Fr [WB] w7 (((w7.setCell ⟨WB, 0, none⟩ (.int .i64 C)).setCell ⟨WB, 1, none⟩ (.string nmNeg)).setCell ⟨WB, 2, none⟩ (.int .i64 (K : Int)))) := set3_fr (Fr.refl [WB] _) (.inl (by simp)) _ _ _
    go_upto_region 22 with fail
    clear e0 e1 e2 fe0 fe1 fe2
    generalize ((w7.setCell ⟨WB, 0, none⟩ (.int .i64 C)).setCell ⟨WB, 1, none⟩ (.string nmNeg)).setCell ⟨WB, 2, none⟩ (.int .i64 (K : Int)) = w8 at *
    have HS8 : Hid (Six' 32 w8 BB #[.int .i64 0, .int .i64 0, .int .i64 0, .int .u64 0, .slice none 0 0, .slice none 0 0]) := HS7.out.kept HX8.out (by have := HORD.out; simp; omega)
    have HB8 : Hid (WrB w8 (BB + 1) 0 ⟨#[]⟩ 0) := HB7.out.kept HX8.out (by have := HORD.out; simp; omega)
    have HF8 : Hid (Fr [] w w8) := HF7.out.trans HX8.out (by have := HORD.out; have := HBB.out; simp; omega)
    have hWB : BB + 1 < WB := by have := HORD.out; omega
    have hs := HS8.out
    have hb := HB8.out
    have c0 : w8.cell? ⟨BB, 0, none⟩ = some (.int .i64 0) := hs.cell 0 rfl
    have fc0 := hs.frozen 0
    have c1 : w8.cell? ⟨BB, 1, none⟩ = some (.int .i64 0) := hs.cell 1 rfl
    have fc1 := hs.frozen 1
    have c2 : w8.cell? ⟨BB, 2, none⟩ = some (.int .i64 0) := hs.cell 2 rfl
    have fc2 := hs.frozen 2
    have c3 : w8.cell? ⟨BB, 3, none⟩ = some (.int .u64 0) := hs.cell 3 rfl
    have fc3 := hs.frozen 3
    have c4 : w8.cell? ⟨BB, 4, none⟩ = some (.slice none 0 0) := hs.cell 4 rfl
    have fc4 := hs.frozen 4
    have c5 : w8.cell? ⟨BB, 5, none⟩ = some (.slice none 0 0) := hs.cell 5 rfl
    have fc5 := hs.frozen 5
    have d0 : w8.cell? ⟨BB + 1, 0, none⟩ = some (.int .i64 0) := by rw [cell_at hb]; rfl
    have fd0 := frozen_at hb 0
    have d1 : w8.cell? ⟨BB + 1, 1, none⟩ = some (.string ⟨#[]⟩) := by rw [cell_at hb]; rfl
    have fd1 := frozen_at hb 1
    have d2 : w8.cell? ⟨BB + 1, 2, none⟩ = some (.int .i64 0) := by rw [cell_at hb]; rfl
    have fd2 := frozen_at hb 2
    have HSX : Hid (Six' 32 w8 BB #[.int .i64 0, .int .i64 0, .int .i64 0, .int .u64 0, .slice none 0 0, .slice none 0 0]) := hs
    have HBX : Hid (WrB w8 (BB + 1) 0 ⟨#[]⟩ 0) := hb
    clear hs hb
    have e0 : w8.cell? ⟨WB, 0, none⟩ = some (.int .i64 C) := by rw [cell_at HW8.out]; rfl
    have e1 : w8.cell? ⟨WB, 1, none⟩ = some (.string nmNeg) := by rw [cell_at HW8.out]; rfl
    have e2 : w8.cell? ⟨WB, 2, none⟩ = some (.int .i64 (K : Int)) := by rw [cell_at HW8.out]; rfl
    go_wp2_with fail
    go_region
    go_wp2_with fail
    have H6 : Hid (Six' 32 (set3 (set6 w8 BB (.int .i64 0) (.int .i64 0) (.int .i64 0) (.int .u64 0) (.slice none 0 0) (.slice none 0 0)) (BB + 1) (.int .i64 C) (.string nmNeg) (.int .i64 (K : Int))).drew BB #[.int .i64 0, .int .i64 0, .int .i64 0, .int .u64 0, .slice none 0 0, .slice none 0 0]) := Six'.drew ((set6_any HSX.out _ _ _ _ _ _).kept (set3_fr (Fr.refl [BB + 1] _) (.inl (by simp)) _ _ _) (by simp))
    have H3 : Hid (WrB (set3 (set6 w8 BB (.int .i64 0) (.int .i64 0) (.int .i64 0) (.int .u64 0) (.slice none 0 0) (.slice none 0 0)) (BB + 1) (.int .i64 C) (.string nmNeg) (.int .i64 (K : Int))).drew (BB + 1) C nmNeg (K : Int)) := WrB.drew ((HBX.out.kept (set6_fr (Fr.refl [BB] _) (.inl (by simp)) _ _ _ _ _ _) (by simp)).set C nmNeg (K : Int))
    have HFW : Hid (Fr [] w (set3 (set6 w8 BB (.int .i64 0) (.int .i64 0) (.int .i64 0) (.int .u64 0) (.slice none 0 0) (.slice none 0 0)) (BB + 1) (.int .i64 C) (.string nmNeg) (.int .i64 (K : Int))).drew) := Fr.drew (set3_fr (set6_fr HF8.out (.inr (by have := HBB.out; omega)) _ _ _ _ _ _) (.inr (by have := HBB.out; omega)) _ _ _)
    refine bodyPost_ret (parse_res rfl _ _ BB (BB + 1) (.int .i64 0) (.int .i64 0) (.int .i64 0) (.int .u64 0) (.slice none 0 0) (.slice none 0 0) C nmNeg (K : Int) rfl rfl H6.out H3.out) rfl ?_
    have hge := HGE.out
    exact ⟨_, _, _, rfl, ⟨fun _ => ⟨rfl, rfl, by rw [hge]; rfl⟩, fun hh => by rw [hge] at hh; exact absurd hh HNE.out⟩, HFW.out⟩
  obtain ⟨hso, rfl, rfl⟩ := hsd.2 h5
  have HGE : Hid (G = ⟨⟨(V1 : Int), (V2 : Int), S, z, P, (rdL R4).1⟩, Q4 + (rdL R4).2.1, 0, nmNeg, 0⟩) := HGY.out h5
  have HNO : Hid (SOwn 115 w6.heap.size w7 u (rdL R4).1) := hso
  have HQ5 : Hid (t.drop (Q4 + (rdL R4).2.1) = R4.drop (rdL R4).2.1) := by rw [Hid, ← List.drop_drop, HQ4.out]
  clear hsd hso HGN HGY HNB h5
  generalize (rdL R4).2.1 = u4 at *
  generalize (rdL R4).1 = N at *
  generalize R4.drop u4 = R5 at *
  generalize Q4 + u4 = Q5 at *
  obtain ⟨no, nc, rfl⟩ := HNO.out.valR
  unfold wrV
  have HW8 : Hid (WrB (((w7.setCell ⟨WB, 0, none⟩ (.int .i64 0)).setCell ⟨WB, 1, none⟩ (.string ⟨#[]⟩)).setCell ⟨WB, 2, none⟩ (.int .i64 0)) WB 0 ⟨#[]⟩ 0) := HW7.out.set _ _ _
  have HX8 : Hid (Fr [WB] w7 (((w7.setCell ⟨WB, 0, none⟩ (.int .i64 0)).setCell ⟨WB, 1, none⟩ (.string ⟨#[]⟩)).setCell ⟨WB, 2, none⟩ (.int .i64 0))) := set3_fr (Fr.refl [WB] _) (.inl (by simp)) _ _ _
  go_upto_region 22 with fail
  clear e0 e1 e2 fe0 fe1 fe2
  generalize ((w7.setCell ⟨WB, 0, none⟩ (.int .i64 0)).setCell ⟨WB, 1, none⟩ (.string ⟨#[]⟩)).setCell ⟨WB, 2, none⟩ (.int .i64 0) = w8 at *
  have HS8 : Hid (Six' 32 w8 BB #[.int .i64 0, .int .i64 0, .int .i64 0, .int .u64 0, .slice none 0 0, .slice none 0 0]) := HS7.out.kept HX8.out (by have := HORD.out; simp; omega)
  have HB8 : Hid (WrB w8 (BB + 1) 0 ⟨#[]⟩ 0) := HB7.out.kept HX8.out (by have := HORD.out; simp; omega)
  have HH8 : Hid (Six' 32 w8 HH #[.int .i64 (V1 : Int), .int .i64 (V2 : Int), .int .i64 S, .int .u64 (z : Int), .slice none 0 0, .slice none 0 0]) := HH7.out.kept HX8.out (by have := HORD.out; simp; omega)
  have HF8 : Hid (Fr [] w w8) := HF7.out.trans HX8.out (by have := HORD.out; have := HBB.out; simp; omega)
  have HP8 : Hid (SOwn 115 w4.heap.size w8 (.slice po P.length pc) P) := SOwn_keptW HP7.out HX8.out HW7.out
  have HN8 : Hid (SOwn 115 w6.heap.size w8 (.slice no N.length nc) N) := SOwn_keptW HNO.out HX8.out HW7.out
  clear HS7 HB7 HH7 HW7 HF7 HP7 HNO HX8
  have hh := HH8.out
  have k4 : w8.cell? ⟨HH, 4, none⟩ = some (.slice none 0 0) := hh.cell 4 rfl
  have k5 : w8.cell? ⟨HH, 5, none⟩ = some (.slice none 0 0) := hh.cell 5 rfl
  have fk4 := hh.frozen 4
  have fk5 := hh.frozen 5
  have e0 : w8.cell? ⟨WB, 0, none⟩ = some (.int .i64 0) := by rw [cell_at HW8.out]; rfl
  have HH9 : Hid (Six' 32 ((w8.setCell ⟨HH, 4, none⟩ (.slice po P.length pc)).setCell ⟨HH, 5, none⟩ (.slice no N.length nc)) HH #[.int .i64 (V1 : Int), .int .i64 (V2 : Int), .int .i64 S, .int .u64 (z : Int), .slice po P.length pc, .slice no N.length nc]) := by
    unfold Six' at hh
    unfold Hid Six'
    simp [World.setCell, Array.getElem?_modify, hh]
  have HX9 : Hid (Fr [HH] w8 ((w8.setCell ⟨HH, 4, none⟩ (.slice po P.length pc)).setCell ⟨HH, 5, none⟩ (.slice no N.length nc))) := ((Fr.refl [HH] _).setCell _ _ (.inl (by simp))).setCell _ _ (.inl (by simp))
  have HHB : Hid (Six' 32 w8 HH #[.int .i64 (V1 : Int), .int .i64 (V2 : Int), .int .i64 S, .int .u64 (z : Int), .slice none 0 0, .slice none 0 0]) := hh
  clear hh HH8
  go_upto_region 25 with fail
  clear k4 k5 fk4 fk5 e0
  generalize (w8.setCell ⟨HH, 4, none⟩ (.slice po P.length pc)).setCell ⟨HH, 5, none⟩ (.slice no N.length nc) = w9 at *
  have HS9 : Hid (Six' 32 w9 BB #[.int .i64 0, .int .i64 0, .int .i64 0, .int .u64 0, .slice none 0 0, .slice none 0 0]) := HS8.out.kept HX9.out (by have := HORD.out; simp; omega)
  have HB9 : Hid (WrB w9 (BB + 1) 0 ⟨#[]⟩ 0) := HB8.out.kept HX9.out (by have := HORD.out; simp; omega)
  have HW9 : Hid (WrB w9 WB 0 ⟨#[]⟩ 0) := HW8.out.kept HX9.out (by have := HORD.out; simp; omega)
  have HF9 : Hid (Fr [] w w9) := HF8.out.trans HX9.out (by have := HORD.out; have := HBB.out; simp; omega)
  have HP9 : Hid (SOwn 115 w4.heap.size w9 (.slice po P.length pc) P) := SOwn_keptH HP8.out HX9.out HHB.out
  have HN9 : Hid (SOwn 115 w6.heap.size w9 (.slice no N.length nc) N) := SOwn_keptH HN8.out HX9.out HHB.out
  clear HP8 HN8 HX9 HHB HS8 HB8 HW8 HF8
  have hs := HS9.out
  have hb := HB9.out
  have hh := HH9.out
  have hw := HW9.out
  have c0 : w9.cell? ⟨BB, 0, none⟩ = some (.int .i64 0) := hs.cell 0 rfl
  have fc0 := hs.frozen 0
  have c1 : w9.cell? ⟨BB, 1, none⟩ = some (.int .i64 0) := hs.cell 1 rfl
  have fc1 := hs.frozen 1
  have c2 : w9.cell? ⟨BB, 2, none⟩ = some (.int .i64 0) := hs.cell 2 rfl
  have fc2 := hs.frozen 2
  have c3 : w9.cell? ⟨BB, 3, none⟩ = some (.int .u64 0) := hs.cell 3 rfl
  have fc3 := hs.frozen 3
  have c4 : w9.cell? ⟨BB, 4, none⟩ = some (.slice none 0 0) := hs.cell 4 rfl
  have fc4 := hs.frozen 4
  have c5 : w9.cell? ⟨BB, 5, none⟩ = some (.slice none 0 0) := hs.cell 5 rfl
  have fc5 := hs.frozen 5
  have k0 : w9.cell? ⟨HH, 0, none⟩ = some (.int .i64 (V1 : Int)) := hh.cell 0 rfl
  have k1 : w9.cell? ⟨HH, 1, none⟩ = some (.int .i64 (V2 : Int)) := hh.cell 1 rfl
  have k2 : w9.cell? ⟨HH, 2, none⟩ = some (.int .i64 S) := hh.cell 2 rfl
  have k3 : w9.cell? ⟨HH, 3, none⟩ = some (.int .u64 (z : Int)) := hh.cell 3 rfl
  have k4 : w9.cell? ⟨HH, 4, none⟩ = some (.slice po P.length pc) := hh.cell 4 rfl
  have k5 : w9.cell? ⟨HH, 5, none⟩ = some (.slice no N.length nc) := hh.cell 5 rfl
  have d0 : w9.cell? ⟨BB + 1, 0, none⟩ = some (.int .i64 0) := by rw [cell_at hb]; rfl
  have fd0 := frozen_at hb 0
  have e0 : w9.cell? ⟨WB, 0, none⟩ = some (.int .i64 0) := by rw [cell_at hw]; rfl
  have d1 : w9.cell? ⟨BB + 1, 1, none⟩ = some (.string ⟨#[]⟩) := by rw [cell_at hb]; rfl
  have fd1 := frozen_at hb 1
  have e1 : w9.cell? ⟨WB, 1, none⟩ = some (.string ⟨#[]⟩) := by rw [cell_at hw]; rfl
  have d2 : w9.cell? ⟨BB + 1, 2, none⟩ = some (.int .i64 0) := by rw [cell_at hb]; rfl
  have fd2 := frozen_at hb 2
  have e2 : w9.cell? ⟨WB, 2, none⟩ = some (.int .i64 0) := by rw [cell_at hw]; rfl
  clear hs hb hh hw
  have hWB : BB + 1 < WB := by have := HORD.out; omega
  have hHB : BB + 1 < HH := HLH.out
  go_wp2_with fail
  go_region
  go_wp2_with fail
  have H6 : Hid (Six' 32 (set3 (set6 w9 BB (.int .i64 (V1 : Int)) (.int .i64 (V2 : Int)) (.int .i64 S) (.int .u64 (z : Int)) (.slice po P.length pc) (.slice no N.length nc)) (BB + 1) (.int .i64 0) (.string ⟨#[]⟩) (.int .i64 0)).drew BB #[.int .i64 (V1 : Int), .int .i64 (V2 : Int), .int .i64 S, .int .u64 (z : Int), .slice po P.length pc, .slice no N.length nc]) := Six'.drew ((set6_any HS9.out _ _ _ _ _ _).kept (set3_fr (Fr.refl [BB + 1] _) (.inl (by simp)) _ _ _) (by simp))
  have H3 : Hid (WrB (set3 (set6 w9 BB (.int .i64 (V1 : Int)) (.int .i64 (V2 : Int)) (.int .i64 S) (.int .u64 (z : Int)) (.slice po P.length pc) (.slice no N.length nc)) (BB + 1) (.int .i64 0) (.string ⟨#[]⟩) (.int .i64 0)).drew (BB + 1) 0 ⟨#[]⟩ 0) := WrB.drew ((HB9.out.kept (set6_fr (Fr.refl [BB] _) (.inl (by simp)) _ _ _ _ _ _) (by simp)).set 0 ⟨#[]⟩ 0)
  have HX : Hid (Fr [BB, BB + 1] w9 (set3 (set6 w9 BB (.int .i64 (V1 : Int)) (.int .i64 (V2 : Int)) (.int .i64 S) (.int .u64 (z : Int)) (.slice po P.length pc) (.slice no N.length nc)) (BB + 1) (.int .i64 0) (.string ⟨#[]⟩) (.int .i64 0)).drew) := Fr.drew (set3_fr (set6_fr (Fr.refl [BB, BB + 1] w9) (.inl (by simp)) _ _ _ _ _ _) (.inl (by simp)) _ _ _)
  have HFW : Hid (Fr [] w (set3 (set6 w9 BB (.int .i64 (V1 : Int)) (.int .i64 (V2 : Int)) (.int .i64 S) (.int .u64 (z : Int)) (.slice po P.length pc) (.slice no N.length nc)) (BB + 1) (.int .i64 0) (.string ⟨#[]⟩) (.int .i64 0)).drew) := HF9.out.trans HX.out (by have := HBB.out; simp; omega)
  have HPF : Hid (SSrc (set3 (set6 w9 BB (.int .i64 (V1 : Int)) (.int .i64 (V2 : Int)) (.int .i64 S) (.int .u64 (z : Int)) (.slice po P.length pc) (.slice no N.length nc)) (BB + 1) (.int .i64 0) (.string ⟨#[]⟩) (.int .i64 0)).drew (.slice po P.length pc) P) := (HP9.out.keptR HX.out (by have := HORD.out; intro y hy; simp at hy; omega)).src HLI.out
  have HNF : Hid (SSrc (set3 (set6 w9 BB (.int .i64 (V1 : Int)) (.int .i64 (V2 : Int)) (.int .i64 S) (.int .u64 (z : Int)) (.slice po P.length pc) (.slice no N.length nc)) (BB + 1) (.int .i64 0) (.string ⟨#[]⟩) (.int .i64 0)).drew (.slice no N.length nc) N) := (HN9.out.keptR HX.out (by have := HORD.out; intro y hy; simp at hy; omega)).src HLJ.out
  refine bodyPost_ret (parse_res rfl _ _ BB (BB + 1) (.int .i64 (V1 : Int)) (.int .i64 (V2 : Int)) (.int .i64 S) (.int .u64 (z : Int)) (.slice po P.length pc) (.slice no N.length nc) 0 ⟨#[]⟩ 0 rfl rfl H6.out H3.out) rfl ?_
  have hge := HGE.out
  refine ⟨_, _, _, rfl, ⟨fun hh => by rw [hge] at hh; exact absurd rfl hh, fun _ => ?_⟩, HFW.out⟩
  rw [hge]
  refine ⟨⟨po, pc, no, nc, rfl, ?_, HPF.out, HNF.out⟩, ?_, rfl⟩
  · have h1 := HVB.out
    have h2 := HSIN.out
    have h3 := HZB.out
    exact ⟨by unfold in64; simp only; omega, by unfold in64; simp only; omega, by unfold in64; simp only; omega, h3⟩
  · simp only
    rw [HQ5.out]
    rfl
end Go.Proofs.YtkphonepblkcdaaGreatDoor
