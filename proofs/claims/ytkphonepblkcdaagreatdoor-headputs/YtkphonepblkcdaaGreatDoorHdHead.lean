/-
  Package head: Get.
-/
import Derived.Test.YtkphonepblkcdaaGreatDoorHdFlags
namespace Go.Proofs.YtkphonepblkcdaaGreatDoor
open Go.RowKit Mem Spans Bits Groups Thrs
set_option linter.unusedSimpArgs false
set_option linter.unusedVariables false
set_option maxRecDepth 100000

/-- A head whose slices are rows from block B on. -/
def HdOwn (B : Nat) (w : World) (u : Value) (h : Hd) : Prop := ∃ po pc no nc, u = .agg #[.int .i64 h.v, .int .i64 h.h, .int .i64 h.s, .int .u64 (h.z : Int), .slice po h.P.length pc, .slice no h.N.length nc] ∧ HdIn h ∧
  SOwn 64 B w (.slice po h.P.length pc) h.P ∧ SOwn 64 B w (.slice no h.N.length nc) h.N ∧ (∀ s ∈ h.P, in64 s.1 ∧ in64 s.2) ∧ (∀ s ∈ h.N, in64 s.1 ∧ in64 s.2)
theorem HdOwn.src {B : Nat} {w : World} {u : Value} {h : Hd} (k : HdOwn B w u h) : HdSrc w u h := by
  obtain ⟨po, pc, no, nc, h1, h2, h3, h4, h5, h6⟩ := k
  exact ⟨po, pc, no, nc, h1, h2, h3.src h5, h4.src h6⟩
theorem SOwn.valR {e : TypeId} {B : Nat} {w : World} {v : Value} {l : List Sp} (h : SOwn e B w v l) : ∃ ao c, v = .slice ao l.length c := by
  rcases h with ⟨rfl, rfl⟩ | ⟨g, _, _, h⟩
  · exact ⟨none, 0, rfl⟩
  · obtain ⟨c, hc⟩ := h.val
    exact ⟨_, c, hc⟩
theorem rdf_err (t : List Bool) : rdf t = 0 ∨ rdf t = 16 ∨ rdf t = 10 := by
  unfold rdf
  split
  · simp
  · split <;> simp

/-- What the reading of a head tells. -/
def Gets (w : World) (p g : Nat) (l : List Bool) (pos lim : Nat) (sh : Bool) (G : Got) (w' : World) (u v : Value) : Prop :=
  IsErr w' v G.e G.p G.n ∧ (G.e ≠ 0 → u = .agg #[.int .i64 0, .int .i64 0, .int .i64 0, .int .u64 0, .slice none 0 0, .slice none 0 0]) ∧ (G.e = 0 → HdOwn w.heap.size w' u G.h ∧ Rd w' p g l (pos + G.u) lim sh) ∧ Fr [p] w w'

theorem tgt_lt (t : List Bool) (pos lim : Nat) : (tgt t pos lim).1 < 18446744073709551616 := by
  have h8 := val_take_lt t pos 8
  have h64 := val_take_lt t (pos + 8) 64
  unfold tgt
  repeat' split
  all_goals simp only
  all_goals omega

set_option maxHeartbeats 8000000 in
theorem hdGet_any (sa : Addr) (w : World) (p g : Nat) (l : List Bool) (pos lim : Nat) (sh : Bool) (hE : Env sa w) (hw : 2 ≤ p) (hT : Tab w) (hp : 0 < p) (h : Rd w p g l pos lim sh) (hb : l.length ≤ 4294967296) :
    Calls Tryz.prog 24 #[.pointer (some ⟨p, 0, none⟩)] w fun e w' => ∃ u v, e = .returned (.tuple #[u, v]) ∧ Gets w p g l pos lim sh (rdH (rest l pos lim)) w' u v := by
  have hpw := h.lt.1
  have hgw := h.lt.2
  have HEK : Hid (∀ W, Fr [p] w W → Env sa W) := fun W k => hE.kept k (by simpa using hw)
  have HTK : Hid (∀ W, Fr [p] w W → Tab W) := fun W f => hT.kept f (by simp; omega)
  have HQF : Hid (∀ W, Fr [p] w W → Rd W p g l pos lim sh → Calls Tryz.prog 54 #[.pointer (some ⟨p, 0, none⟩)] W fun e w' => ∃ x y v, e = .returned (.tuple #[.agg #[.int .i64 x, .int .i64 y, .int .i64 0, .int .u64 0, .slice none 0 0, .slice none 0 0], v]) ∧ Flags W p g l pos lim sh w' x y v ∧ Fr [p] W w') := fun W f hr => getFlags_any sa W p g l pos lim sh (HEK.out W f) hw hr hb
  have HQS : Hid (∀ W q, Fr [p] w W → Rd W p g l q lim sh → Calls Tryz.prog 55 #[.pointer (some ⟨p, 0, none⟩)] W fun e w' => ∃ x v, e = .returned (.tuple #[.int .i64 x, v]) ∧ IsErr w' v (rdsE (rest l q lim)) nmSchema 0 ∧ (rdsE (rest l q lim) = 0 → x = (rdS (rest l q lim)).1 ∧ Rd w' p g l (q + (rdS (rest l q lim)).2.1) lim sh) ∧ Fr [p] W w') := fun W q f hr => getSchema_any sa W p g l q lim sh (HEK.out W f) hw (HTK.out W f) hp hr hb
  have HQZ : Hid (∀ W q v f u, Fr [p] w W → Rd W p g l q lim sh → tgt (rest l q lim) 0 (rest l q lim).length = (v, f, u) → Calls Tryz.prog 56 #[.pointer (some ⟨p, 0, none⟩)] W fun e w' => ∃ y, e = .returned (.tuple #[.int .u64 (v : Int), y]) ∧ IsErr w' y (f : Int) nmZero 0 ∧ Rd w' p g l (q + u) lim sh ∧ Fr [p] W w') := fun W q v f u k hr ht => getZero_any sa W p g l q lim sh v f u (HEK.out W k) hw hr hb ht
  have HQD : Hid (∀ W q nm, Fr [p] w W → Rd W p g l q lim sh → Calls Tryz.prog 57 #[.pointer (some ⟨p, 0, none⟩), .string nm] W fun e w' => ∃ u v, e = .returned (.tuple #[u, v]) ∧ (∃ ao n c, u = .slice ao n c) ∧ Side W p g l q lim sh nm w' u v ∧ Fr [p] W w') := fun W q nm f hr => getSide_any sa W p g l q lim sh nm (HEK.out W f) hw (HTK.out W f) hp hr hb
  have HR0 : Hid (Rd (w.alloc (.cells #[.int .i64 0, .int .i64 0, .int .i64 0, .int .u64 0, .slice none 0 0, .slice none 0 0] 25)) p g l pos lim sh) := h.kept ((Fr.refl [] w).alloc _) (by simp) (by simp)
  have HF0 : Hid (Fr [p] w (w.alloc (.cells #[.int .i64 0, .int .i64 0, .int .i64 0, .int .u64 0, .slice none 0 0, .slice none 0 0] 25))) := (Fr.refl [p] w).alloc _
  have HS0 : Hid (Six (w.alloc (.cells #[.int .i64 0, .int .i64 0, .int .i64 0, .int .u64 0, .slice none 0 0, .slice none 0 0] 25)) w.heap.size #[.int .i64 0, .int .i64 0, .int .i64 0, .int .u64 0, .slice none 0 0, .slice none 0 0]) := Six.new _ _
  have HG : Hid (rdH (rest l pos lim) = rdH (rest l pos lim)) := rfl
  have HT0 : Hid (∀ q a, (rest l q lim).drop a = rest l (q + a) lim) := fun q a => rest_drop l q lim a
  have HGZ : Hid (∀ n : Nat, rdf (rest l pos lim) = rdf (rest l pos lim)) := fun _ => rfl
  unfold Gets
  have HG1 : Hid (rdf (rest l pos lim) ≠ 0 → rdH (rest l pos lim) = wrg (rdf (rest l pos lim)) nmFlags 0) := fun e => rdH_no e
  have HG2 : Hid (rdf (rest l pos lim) = 0 → rdH (rest l pos lim) = gSch (val (((rest l pos lim).drop 2).take 1) : Nat) (val ((rest l pos lim).take 2) : Nat) (rest l (pos + 8) lim) 8) := fun e => by rw [rdH_ok e, rest_drop l pos lim 8]
  have HVB : Hid (val (((rest l pos lim).drop 2).take 1) < 2 ∧ val ((rest l pos lim).take 2) < 4) := ⟨val_take_lt _ 2 1, val_take_lt (rest l pos lim) 0 2⟩
  clear hE hT h HG HGZ
  generalize rdH (rest l pos lim) = G at *
  go_enter Tryz.func24, Tryz.ntmps24
  go_wp2_with fail
  generalize (w.alloc (.cells #[.int .i64 0, .int .i64 0, .int .i64 0, .int .u64 0, .slice none 0 0, .slice none 0 0] 25)) = w1 at *
  generalize hRR : w.heap.size = RR at *
  have HRR : Hid (w.heap.size = RR) := hRR
  have HPG : Hid (p < RR ∧ g < RR ∧ 2 ≤ p) := ⟨hpw, hgw, hw⟩
  clear hRR hpw hgw hw hb hp HEK HTK
  refine (HQF.out _ HF0.out HR0.out).mono ?_
  rintro e w2 ⟨x, y, v, rfl, hfl, hf⟩
  have HFL : Hid (Flags w1 p g l pos lim sh w2 x y v) := hfl
  have HS2 : Hid (Six w2 RR #[.int .i64 0, .int .i64 0, .int .i64 0, .int .u64 0, .slice none 0 0, .slice none 0 0]) := HS0.out.kept hf (by have := HPG.out; simp; omega)
  have HF2 : Hid (Fr [p] w w2) := HF0.out.trans hf (by simp)
  clear hfl hf HQF HS0 HF0 HR0
  have HA : Hid (Six (w2.alloc (.cells #[.int .i64 x, .int .i64 y, .int .i64 0, .int .u64 0, .slice none 0 0, .slice none 0 0] 25)) w2.heap.size #[.int .i64 x, .int .i64 y, .int .i64 0, .int .u64 0, .slice none 0 0, .slice none 0 0] ∧ Six (w2.alloc (.cells #[.int .i64 x, .int .i64 y, .int .i64 0, .int .u64 0, .slice none 0 0, .slice none 0 0] 25)) RR #[.int .i64 0, .int .i64 0, .int .i64 0, .int .u64 0, .slice none 0 0, .slice none 0 0] ∧ Fr [] w2 (w2.alloc (.cells #[.int .i64 x, .int .i64 y, .int .i64 0, .int .u64 0, .slice none 0 0, .slice none 0 0] 25))) :=
    ⟨Six.new _ _, HS2.out.kept ((Fr.refl [] _).alloc _) (by simp), (Fr.refl [] _).alloc _⟩
  have HRL : Hid (RR < w2.heap.size) := HS2.out.lt
  go_upto_region 2 with fail
  have HH3 : Hid (Six (w2.alloc _) w2.heap.size _) := HA.out.1
  have HS3 : Hid (Six (w2.alloc _) RR _) := HA.out.2.1
  have HFA : Hid (Fr [] w2 (w2.alloc _)) := HA.out.2.2
  clear HA HS2
  generalize w2.alloc _ = w3 at *
  generalize w2.heap.size = HH at *
  have HF3 : Hid (Fr [p] w w3) := HF2.out.trans HFA.out (by simp)
  have HE3 : Hid (IsErr w3 v (rdf (rest l pos lim)) nmFlags 0) := HFL.out.1.kept HFA.out
  by_cases he : rdf (rest l pos lim) = 0
  case neg =>
    have HNE : Hid (¬ rdf (rest l pos lim) = 0) := he
    clear he HFL HFA
    obtain ⟨bq, rfl⟩ := HE3.out.some HNE.out
    have hs := HS3.out
    have c0 : w3.cell? ⟨RR, 0, none⟩ = some (.int .i64 0) := hs.cell 0 rfl
    have fc0 := hs.frozen 0
    have c1 : w3.cell? ⟨RR, 1, none⟩ = some (.int .i64 0) := hs.cell 1 rfl
    have fc1 := hs.frozen 1
    have c2 : w3.cell? ⟨RR, 2, none⟩ = some (.int .i64 0) := hs.cell 2 rfl
    have fc2 := hs.frozen 2
    have c3 : w3.cell? ⟨RR, 3, none⟩ = some (.int .u64 0) := hs.cell 3 rfl
    have fc3 := hs.frozen 3
    have c4 : w3.cell? ⟨RR, 4, none⟩ = some (.slice none 0 0) := hs.cell 4 rfl
    have fc4 := hs.frozen 4
    have c5 : w3.cell? ⟨RR, 5, none⟩ = some (.slice none 0 0) := hs.cell 5 rfl
    have fc5 := hs.frozen 5
    clear hs
    go_wp2_with fail
    refine bodyPost_ret (hd_res rfl _ _ RR (.int .i64 0) (.int .i64 0) (.int .i64 0) (.int .u64 0) (.slice none 0 0) (.slice none 0 0) rfl (set6_six HS3.out _ _ _ _ _ _)) rfl ?_
    have hff : Fr [RR] w3 (set6 w3 RR (.int .i64 0) (.int .i64 0) (.int .i64 0) (.int .u64 0) (.slice none 0 0) (.slice none 0 0)) := set6_fr (Fr.refl [RR] w3) (.inl (by simp)) _ _ _ _ _ _
    have hge := HG1.out HNE.out
    refine ⟨_, _, rfl, ?_, fun _ => rfl, fun hh => ?_, HF3.out.trans hff (by have := HRR.out; simp; omega)⟩
    · rw [hge]; exact HE3.out.keptH hff (by intro x hx; rw [List.mem_singleton.1 hx]; exact ⟨_, HS3.out⟩)
    · rw [hge] at hh; exact absurd hh HNE.out
  obtain ⟨hx, hy, hrd⟩ := HFL.out.2.2 he
  have HR3 : Hid (Rd w3 p g l (pos + 8) lim sh) := hrd.kept HFA.out (by simp) (by simp)
  have HXY : Hid (0 ≤ x ∧ x < 2 ∧ 0 ≤ y ∧ y < 4) := by have := HVB.out; rw [Hid, hx, hy]; omega
  have HG3 : Hid (G = gSch x y (rest l (pos + 8) lim) 8) := by rw [Hid, HG2.out he, hx, hy]
  rw [he] at HE3
  obtain rfl := HE3.out.nil
  clear he hx hy hrd HFL HFA HG1 HG2 HE3 HVB
  go_wp2_with fail
  refine (HQS.out _ (pos + 8) HF3.out HR3.out).mono ?_
  rintro e w4 ⟨s, v, rfl, hv, hok, hf⟩
  have HV : Hid (IsErr w4 v (rdsE (rest l (pos + 8) lim)) nmSchema 0) := hv
  have HOK : Hid (rdsE (rest l (pos + 8) lim) = 0 → s = (rdS (rest l (pos + 8) lim)).1 ∧ Rd w4 p g l (pos + 8 + (rdS (rest l (pos + 8) lim)).2.1) lim sh) := hok
  have HSR : Hid (rdsE (rest l (pos + 8) lim) = if (rdS (rest l (pos + 8) lim)).2.2 ≠ 0 then (rdS (rest l (pos + 8) lim)).2.2 else if (rdS (rest l (pos + 8) lim)).1 < -4 ∨ 8 < (rdS (rest l (pos + 8) lim)).1 then 21 else 0) := rfl
  have HGN : Hid (rdsE (rest l (pos + 8) lim) ≠ 0 → G = wrg (rdsE (rest l (pos + 8) lim)) nmSchema 0) := fun e => by rw [HG3.out, gSch_no e]
  have HGY : Hid (rdsE (rest l (pos + 8) lim) = 0 → G = gZero x y (rdS (rest l (pos + 8) lim)).1 (rest l (pos + 8 + (rdS (rest l (pos + 8) lim)).2.1) lim) (8 + (rdS (rest l (pos + 8) lim)).2.1)) := fun e => by rw [HG3.out, gSch_ok e, rest_drop]
  clear hv hok HG3
  have hs : Six w4 RR #[.int .i64 0, .int .i64 0, .int .i64 0, .int .u64 0, .slice none 0 0, .slice none 0 0] := HS3.out.kept hf (by have := HPG.out; simp; omega)
  have hh : Six w4 HH #[.int .i64 x, .int .i64 y, .int .i64 0, .int .u64 0, .slice none 0 0, .slice none 0 0] := HH3.out.kept hf (by have := HPG.out; have := HRL.out; simp; omega)
  have HF4 : Hid (Fr [p] w w4) := HF3.out.trans hf (by simp)
  have d2 : w4.cell? ⟨HH, 2, none⟩ = some (.int .i64 0) := hh.cell 2 rfl
  have fd2 := hh.frozen 2
  have HS5 : Hid (Six (w4.setCell ⟨HH, 2, none⟩ (.int .i64 s)) RR #[.int .i64 0, .int .i64 0, .int .i64 0, .int .u64 0, .slice none 0 0, .slice none 0 0]) := hs.other (by have := HRL.out; omega)
  have HH5 : Hid (Six (w4.setCell ⟨HH, 2, none⟩ (.int .i64 s)) HH #[.int .i64 x, .int .i64 y, .int .i64 s, .int .u64 0, .slice none 0 0, .slice none 0 0]) := hh.set 2 (.int .i64 s)
  have HX5 : Hid (Fr [HH] w4 (w4.setCell ⟨HH, 2, none⟩ (.int .i64 s))) := (Fr.refl [HH] _).setCell _ _ (.inl (by simp))
  have HK4 : Hid (Six w4 HH #[.int .i64 x, .int .i64 y, .int .i64 0, .int .u64 0, .slice none 0 0, .slice none 0 0]) := hh
  clear hs hh HS3 HH3
  go_upto_region 5 with fail
  clear d2 fd2
  generalize w4.setCell ⟨HH, 2, none⟩ (.int .i64 s) = w5 at *
  have HF5 : Hid (Fr [p] w w5) := HF4.out.trans HX5.out (by have := HRR.out; have := HRL.out; simp; omega)
  have HE5 : Hid (IsErr w5 v (rdsE (rest l (pos + 8) lim)) nmSchema (0)) := HV.out.keptH HX5.out (by intro x hx; rw [List.mem_singleton.1 hx]; exact ⟨_, HK4.out⟩)
  clear HK4
  by_cases he : rdsE (rest l (pos + 8) lim) = 0
  case neg =>
    have HNE : Hid (¬ rdsE (rest l (pos + 8) lim) = 0) := he
    clear he
    obtain ⟨bq, rfl⟩ := HE5.out.some HNE.out
    have hs := HS5.out
    have c0 : w5.cell? ⟨RR, 0, none⟩ = some (.int .i64 0) := hs.cell 0 rfl
    have fc0 := hs.frozen 0
    have c1 : w5.cell? ⟨RR, 1, none⟩ = some (.int .i64 0) := hs.cell 1 rfl
    have fc1 := hs.frozen 1
    have c2 : w5.cell? ⟨RR, 2, none⟩ = some (.int .i64 0) := hs.cell 2 rfl
    have fc2 := hs.frozen 2
    have c3 : w5.cell? ⟨RR, 3, none⟩ = some (.int .u64 0) := hs.cell 3 rfl
    have fc3 := hs.frozen 3
    have c4 : w5.cell? ⟨RR, 4, none⟩ = some (.slice none 0 0) := hs.cell 4 rfl
    have fc4 := hs.frozen 4
    have c5 : w5.cell? ⟨RR, 5, none⟩ = some (.slice none 0 0) := hs.cell 5 rfl
    have fc5 := hs.frozen 5
    clear hs
    go_wp2_with fail
    refine bodyPost_ret (hd_res rfl _ _ RR (.int .i64 0) (.int .i64 0) (.int .i64 0) (.int .u64 0) (.slice none 0 0) (.slice none 0 0) rfl (set6_six HS5.out _ _ _ _ _ _)) rfl ?_
    have hff : Fr [RR] w5 (set6 w5 RR (.int .i64 0) (.int .i64 0) (.int .i64 0) (.int .u64 0) (.slice none 0 0) (.slice none 0 0)) := set6_fr (Fr.refl [RR] w5) (.inl (by simp)) _ _ _ _ _ _
    have hge := HGN.out HNE.out
    refine ⟨_, _, rfl, ?_, fun _ => rfl, fun hh => ?_, HF5.out.trans hff (by have := HRR.out; simp; omega)⟩
    · rw [hge]; exact HE5.out.keptH hff (by intro x hx; rw [List.mem_singleton.1 hx]; exact ⟨_, HS5.out⟩)
    · rw [hge] at hh; exact absurd hh HNE.out
  obtain ⟨hx, hrd⟩ := HOK.out he
  have HG5 := HGY.out he
  rw [he] at HSR
  have HSB : Hid (-4 ≤ s ∧ s ≤ 8) := by
    have h1 := HSR.out
    by_cases h2 : (rdS (rest l (pos + 8) lim)).2.2 = 0
    · rw [if_neg (by simpa using h2)] at h1
      by_cases h3 : (rdS (rest l (pos + 8) lim)).1 < -4 ∨ 8 < (rdS (rest l (pos + 8) lim)).1
      · rw [if_pos h3] at h1; exact absurd h1 (by decide)
      · rw [Hid, hx]; omega
    · rw [if_pos h2] at h1; exact absurd h1.symm h2
  rw [← hx] at HG5
  clear hx HSR HOK HGN HGY
  generalize (rdS (rest l (pos + 8) lim)).2.1 = u1 at *
  have HR5 : Hid (Rd w5 p g l (pos + (8 + u1)) lim sh) := by rw [Hid, ← Nat.add_assoc]; exact hrd.kept HX5.out (by have := HPG.out; have := HRL.out; simp; omega) (by have := HPG.out; have := HRL.out; simp; omega)
  have HG5' : Hid (G = gZero x y s (rest l (pos + (8 + u1)) lim) (8 + u1)) := by rw [Hid, ← Nat.add_assoc]; exact HG5
  clear HG5 hrd
  rw [he] at HE5
  obtain rfl := HE5.out.nil
  clear he HE5 HX5 HV
  generalize 8 + u1 = q1 at *
  obtain ⟨z, f, u2, hT⟩ : ∃ z f u2, tgt (rest l (pos + q1) lim) 0 (rest l (pos + q1) lim).length = (z, f, u2) := ⟨_, _, _, rfl⟩
  have HTG : Hid (tgt (rest l (pos + q1) lim) 0 (rest l (pos + q1) lim).length = (z, f, u2)) := hT
  have HGN : Hid (¬ (f : Int) = 0 → G = wrg (f : Int) nmZero 0) := fun e => by rw [HG5'.out, gZero_no (by rw [hT]; simpa using e), hT]
  have HGY : Hid ((f : Int) = 0 → G = gPos x y s z (rest l (pos + q1 + u2) lim) (q1 + u2)) := fun e => by rw [HG5'.out, gZero_ok (by rw [hT]; simpa using e), hT, rest_drop]
  have HZB : Hid (z < 18446744073709551616) := by have h1 := tgt_lt (rest l (pos + q1) lim) 0 (rest l (pos + q1) lim).length; rw [hT] at h1; exact h1
  clear hT HG5'
  go_wp2_with fail
  refine (HQZ.out _ (pos + q1) z f u2 HF5.out HR5.out HTG.out).mono ?_
  rintro e w6 ⟨v, rfl, hv, hrd, hf⟩
  have HV : Hid (IsErr w6 v (f : Int) nmZero 0) := hv
  have HRX : Hid (Rd w6 p g l (pos + q1 + u2) lim sh) := hrd
  clear hv hrd
  have hs : Six w6 RR #[.int .i64 0, .int .i64 0, .int .i64 0, .int .u64 0, .slice none 0 0, .slice none 0 0] := HS5.out.kept hf (by have := HPG.out; simp; omega)
  have hh : Six w6 HH #[.int .i64 x, .int .i64 y, .int .i64 s, .int .u64 0, .slice none 0 0, .slice none 0 0] := HH5.out.kept hf (by have := HPG.out; have := HRL.out; simp; omega)
  have HF6 : Hid (Fr [p] w w6) := HF5.out.trans hf (by simp)
  have d3 : w6.cell? ⟨HH, 3, none⟩ = some (.int .u64 0) := hh.cell 3 rfl
  have fd3 := hh.frozen 3
  have HS7 : Hid (Six (w6.setCell ⟨HH, 3, none⟩ (.int .u64 (z : Int))) RR #[.int .i64 0, .int .i64 0, .int .i64 0, .int .u64 0, .slice none 0 0, .slice none 0 0]) := hs.other (by have := HRL.out; omega)
  have HH7 : Hid (Six (w6.setCell ⟨HH, 3, none⟩ (.int .u64 (z : Int))) HH #[.int .i64 x, .int .i64 y, .int .i64 s, .int .u64 (z : Int), .slice none 0 0, .slice none 0 0]) := hh.set 3 (.int .u64 (z : Int))
  have HX7 : Hid (Fr [HH] w6 (w6.setCell ⟨HH, 3, none⟩ (.int .u64 (z : Int)))) := (Fr.refl [HH] _).setCell _ _ (.inl (by simp))
  have HK6 : Hid (Six w6 HH #[.int .i64 x, .int .i64 y, .int .i64 s, .int .u64 0, .slice none 0 0, .slice none 0 0]) := hh
  clear hs hh HS5 HH5
  go_upto_region 8 with fail
  clear d3 fd3
  generalize w6.setCell ⟨HH, 3, none⟩ (.int .u64 (z : Int)) = w7 at *
  have HF7 : Hid (Fr [p] w w7) := HF6.out.trans HX7.out (by have := HRR.out; have := HRL.out; simp; omega)
  have HE7 : Hid (IsErr w7 v ((f : Int)) nmZero (0)) := HV.out.keptH HX7.out (by intro x hx; rw [List.mem_singleton.1 hx]; exact ⟨_, HK6.out⟩)
  clear HK6
  by_cases he : (f : Int) = 0
  case neg =>
    have HNE : Hid (¬ (f : Int) = 0) := he
    clear he
    obtain ⟨bq, rfl⟩ := HE7.out.some HNE.out
    have hs := HS7.out
    have c0 : w7.cell? ⟨RR, 0, none⟩ = some (.int .i64 0) := hs.cell 0 rfl
    have fc0 := hs.frozen 0
    have c1 : w7.cell? ⟨RR, 1, none⟩ = some (.int .i64 0) := hs.cell 1 rfl
    have fc1 := hs.frozen 1
    have c2 : w7.cell? ⟨RR, 2, none⟩ = some (.int .i64 0) := hs.cell 2 rfl
    have fc2 := hs.frozen 2
    have c3 : w7.cell? ⟨RR, 3, none⟩ = some (.int .u64 0) := hs.cell 3 rfl
    have fc3 := hs.frozen 3
    have c4 : w7.cell? ⟨RR, 4, none⟩ = some (.slice none 0 0) := hs.cell 4 rfl
    have fc4 := hs.frozen 4
    have c5 : w7.cell? ⟨RR, 5, none⟩ = some (.slice none 0 0) := hs.cell 5 rfl
    have fc5 := hs.frozen 5
    clear hs
    go_wp2_with fail
    refine bodyPost_ret (hd_res rfl _ _ RR (.int .i64 0) (.int .i64 0) (.int .i64 0) (.int .u64 0) (.slice none 0 0) (.slice none 0 0) rfl (set6_six HS7.out _ _ _ _ _ _)) rfl ?_
    have hff : Fr [RR] w7 (set6 w7 RR (.int .i64 0) (.int .i64 0) (.int .i64 0) (.int .u64 0) (.slice none 0 0) (.slice none 0 0)) := set6_fr (Fr.refl [RR] w7) (.inl (by simp)) _ _ _ _ _ _
    have hge := HGN.out HNE.out
    refine ⟨_, _, rfl, ?_, fun _ => rfl, fun hh => ?_, HF7.out.trans hff (by have := HRR.out; simp; omega)⟩
    · rw [hge]; exact HE7.out.keptH hff (by intro x hx; rw [List.mem_singleton.1 hx]; exact ⟨_, HS7.out⟩)
    · rw [hge] at hh; exact absurd hh HNE.out
  have HG7 : Hid (G = gPos x y s z (rest l (pos + (q1 + u2)) lim) (q1 + u2)) := by rw [Hid, ← Nat.add_assoc]; exact HGY.out he
  have HR7 : Hid (Rd w7 p g l (pos + (q1 + u2)) lim sh) := by rw [Hid, ← Nat.add_assoc]; exact HRX.out.kept HX7.out (by have := HPG.out; have := HRL.out; simp; omega) (by have := HPG.out; have := HRL.out; simp; omega)
  rw [he] at HE7
  obtain rfl := HE7.out.nil
  clear he HE7 HX7 HV HGY HGN HRX HTG
  generalize q1 + u2 = q2 at *
  have HGN : Hid (¬ rde (rest l (pos + q2) lim) = 0 → G = wrg (rde (rest l (pos + q2) lim)) nmPos (rdL (rest l (pos + q2) lim)).1.length) := fun e => by rw [HG7.out, gPos_no e]
  have HGY : Hid (rde (rest l (pos + q2) lim) = 0 → G = gNeg x y s z (rdL (rest l (pos + q2) lim)).1 (rest l (pos + q2 + (rdL (rest l (pos + q2) lim)).2.1) lim) (q2 + (rdL (rest l (pos + q2) lim)).2.1)) := fun e => by rw [HG7.out, gPos_ok e, rest_drop]
  have HLI : Hid (∀ s ∈ (rdL (rest l (pos + q2) lim)).1, in64 s.1 ∧ in64 s.2) := rdL_in _
  have HLT : Hid (HH < w7.heap.size) := HH7.out.lt
  clear HG7
  go_wp2_with fail
  refine (HQD.out _ (pos + q2) nmPos HF7.out HR7.out).mono ?_
  rintro e w8 ⟨u, v, rfl, hsl, hsd, hf⟩
  obtain ⟨so1, sn1, sc1, rfl⟩ := hsl
  have HV : Hid (IsErr w8 v (rde (rest l (pos + q2) lim)) nmPos ((rdL (rest l (pos + q2) lim)).1.length : Nat)) := by
    by_cases e : rde (rest l (pos + q2) lim) = 0
    · rw [Hid, e]; exact .inl ⟨rfl, (hsd.1 e).1⟩
    · exact hsd.2 e
  have HOK : Hid (rde (rest l (pos + q2) lim) = 0 → SOwn 64 w7.heap.size w8 (.slice so1 sn1 sc1) (rdL (rest l (pos + q2) lim)).1 ∧ Rd w8 p g l (pos + q2 + (rdL (rest l (pos + q2) lim)).2.1) lim sh) := fun e => (hsd.1 e).2
  clear hsd
  have hs : Six w8 RR #[.int .i64 0, .int .i64 0, .int .i64 0, .int .u64 0, .slice none 0 0, .slice none 0 0] := HS7.out.kept hf (by have := HPG.out; simp; omega)
  have hh : Six w8 HH #[.int .i64 x, .int .i64 y, .int .i64 s, .int .u64 (z : Int), .slice none 0 0, .slice none 0 0] := HH7.out.kept hf (by have := HPG.out; have := HRL.out; simp; omega)
  have HF8 : Hid (Fr [p] w w8) := HF7.out.trans hf (by simp)
  have d4 : w8.cell? ⟨HH, 4, none⟩ = some (.slice none 0 0) := hh.cell 4 rfl
  have fd4 := hh.frozen 4
  have HS9 : Hid (Six (w8.setCell ⟨HH, 4, none⟩ (.slice so1 sn1 sc1)) RR #[.int .i64 0, .int .i64 0, .int .i64 0, .int .u64 0, .slice none 0 0, .slice none 0 0]) := hs.other (by have := HRL.out; omega)
  have HH9 : Hid (Six (w8.setCell ⟨HH, 4, none⟩ (.slice so1 sn1 sc1)) HH #[.int .i64 x, .int .i64 y, .int .i64 s, .int .u64 (z : Int), .slice so1 sn1 sc1, .slice none 0 0]) := hh.set 4 (.slice so1 sn1 sc1)
  have HX9 : Hid (Fr [HH] w8 (w8.setCell ⟨HH, 4, none⟩ (.slice so1 sn1 sc1))) := (Fr.refl [HH] _).setCell _ _ (.inl (by simp))
  have HK8 : Hid (Six w8 HH #[.int .i64 x, .int .i64 y, .int .i64 s, .int .u64 (z : Int), .slice none 0 0, .slice none 0 0]) := hh
  clear hs hh HS7 HH7
  go_upto_region 11 with fail
  clear d4 fd4
  generalize w8.setCell ⟨HH, 4, none⟩ (.slice so1 sn1 sc1) = w9 at *
  have HF9 : Hid (Fr [p] w w9) := HF8.out.trans HX9.out (by have := HRR.out; have := HRL.out; simp; omega)
  have HE9 : Hid (IsErr w9 v (rde (rest l (pos + q2) lim)) nmPos (((rdL (rest l (pos + q2) lim)).1.length : Nat))) := HV.out.keptH HX9.out (by intro x hx; rw [List.mem_singleton.1 hx]; exact ⟨_, HK8.out⟩)
  clear HK8
  by_cases he : rde (rest l (pos + q2) lim) = 0
  case neg =>
    have HNE : Hid (¬ rde (rest l (pos + q2) lim) = 0) := he
    clear he
    obtain ⟨bq, rfl⟩ := HE9.out.some HNE.out
    have hs := HS9.out
    have c0 : w9.cell? ⟨RR, 0, none⟩ = some (.int .i64 0) := hs.cell 0 rfl
    have fc0 := hs.frozen 0
    have c1 : w9.cell? ⟨RR, 1, none⟩ = some (.int .i64 0) := hs.cell 1 rfl
    have fc1 := hs.frozen 1
    have c2 : w9.cell? ⟨RR, 2, none⟩ = some (.int .i64 0) := hs.cell 2 rfl
    have fc2 := hs.frozen 2
    have c3 : w9.cell? ⟨RR, 3, none⟩ = some (.int .u64 0) := hs.cell 3 rfl
    have fc3 := hs.frozen 3
    have c4 : w9.cell? ⟨RR, 4, none⟩ = some (.slice none 0 0) := hs.cell 4 rfl
    have fc4 := hs.frozen 4
    have c5 : w9.cell? ⟨RR, 5, none⟩ = some (.slice none 0 0) := hs.cell 5 rfl
    have fc5 := hs.frozen 5
    clear hs
    go_wp2_with fail
    refine bodyPost_ret (hd_res rfl _ _ RR (.int .i64 0) (.int .i64 0) (.int .i64 0) (.int .u64 0) (.slice none 0 0) (.slice none 0 0) rfl (set6_six HS9.out _ _ _ _ _ _)) rfl ?_
    have hff : Fr [RR] w9 (set6 w9 RR (.int .i64 0) (.int .i64 0) (.int .i64 0) (.int .u64 0) (.slice none 0 0) (.slice none 0 0)) := set6_fr (Fr.refl [RR] w9) (.inl (by simp)) _ _ _ _ _ _
    have hge := HGN.out HNE.out
    refine ⟨_, _, rfl, ?_, fun _ => rfl, fun hh => ?_, HF9.out.trans hff (by have := HRR.out; simp; omega)⟩
    · rw [hge]; exact HE9.out.keptH hff (by intro x hx; rw [List.mem_singleton.1 hx]; exact ⟨_, HS9.out⟩)
    · rw [hge] at hh; exact absurd hh HNE.out
  obtain ⟨hso, hrd⟩ := HOK.out he
  have hso2 : SOwn 64 HH w9 (.slice so1 sn1 sc1) (rdL (rest l (pos + q2) lim)).1 := ((hso.keptR HX9.out (by have := HLT.out; simp; omega)).mono (by have := HLT.out; omega))
  have hsn : sn1 = (rdL (rest l (pos + q2) lim)).1.length := by obtain ⟨_, _, hv⟩ := hso.valR; simp only [Value.slice.injEq] at hv; exact hv.2.1
  have HG9 := HGY.out he
  have HP9 : Hid (SOwn 64 HH w9 (.slice so1 sn1 sc1) (rdL (rest l (pos + q2) lim)).1) := hso2
  have HSN : Hid (sn1 = (rdL (rest l (pos + q2) lim)).1.length) := hsn
  clear hso hso2 hsn HOK HGY HGN
  generalize (rdL (rest l (pos + q2) lim)).2.1 = u3 at *
  generalize (rdL (rest l (pos + q2) lim)).1 = P at *
  have HR9 : Hid (Rd w9 p g l (pos + (q2 + u3)) lim sh) := by rw [Hid, ← Nat.add_assoc]; exact hrd.kept HX9.out (by have := HPG.out; have := HRL.out; simp; omega) (by have := HPG.out; have := HRL.out; simp; omega)
  have HG9' : Hid (G = gNeg x y s z P (rest l (pos + (q2 + u3)) lim) (q2 + u3)) := by rw [Hid, ← Nat.add_assoc]; exact HG9
  clear HG9 hrd
  rw [he] at HE9
  obtain rfl := HE9.out.nil
  clear he HE9 HX9 HV
  generalize q2 + u3 = q3 at *
  have HGN : Hid (¬ rde (rest l (pos + q3) lim) = 0 → G = wrg (rde (rest l (pos + q3) lim)) nmNeg (rdL (rest l (pos + q3) lim)).1.length) := fun e => by rw [HG9'.out, gNeg_no e]
  have HGY : Hid (rde (rest l (pos + q3) lim) = 0 → G = ⟨⟨x, y, s, z, P, (rdL (rest l (pos + q3) lim)).1⟩, q3 + (rdL (rest l (pos + q3) lim)).2.1, 0, nmNeg, 0⟩) := fun e => by rw [HG9'.out, gNeg_ok e]
  have HLJ : Hid (∀ s ∈ (rdL (rest l (pos + q3) lim)).1, in64 s.1 ∧ in64 s.2) := rdL_in _
  have HLU : Hid (HH < w9.heap.size) := HH9.out.lt
  clear HG9'
  go_wp2_with fail
  refine (HQD.out _ (pos + q3) nmNeg HF9.out HR9.out).mono ?_
  rintro e w10 ⟨u, v, rfl, hsl, hsd, hf⟩
  have HP10 : Hid (SOwn 64 HH w10 (.slice so1 sn1 sc1) P) := HP9.out.keptR hf (by have := HPG.out; have := HRL.out; simp; omega)
  clear HP9
  obtain ⟨so2, sn2, sc2, rfl⟩ := hsl
  have HV : Hid (IsErr w10 v (rde (rest l (pos + q3) lim)) nmNeg ((rdL (rest l (pos + q3) lim)).1.length : Nat)) := by
    by_cases e : rde (rest l (pos + q3) lim) = 0
    · rw [Hid, e]; exact .inl ⟨rfl, (hsd.1 e).1⟩
    · exact hsd.2 e
  have HOK : Hid (rde (rest l (pos + q3) lim) = 0 → SOwn 64 w9.heap.size w10 (.slice so2 sn2 sc2) (rdL (rest l (pos + q3) lim)).1 ∧ Rd w10 p g l (pos + q3 + (rdL (rest l (pos + q3) lim)).2.1) lim sh) := fun e => (hsd.1 e).2
  clear hsd
  have hs : Six w10 RR #[.int .i64 0, .int .i64 0, .int .i64 0, .int .u64 0, .slice none 0 0, .slice none 0 0] := HS9.out.kept hf (by have := HPG.out; simp; omega)
  have hh : Six w10 HH #[.int .i64 x, .int .i64 y, .int .i64 s, .int .u64 (z : Int), .slice so1 sn1 sc1, .slice none 0 0] := HH9.out.kept hf (by have := HPG.out; have := HRL.out; simp; omega)
  have HF10 : Hid (Fr [p] w w10) := HF9.out.trans hf (by simp)
  have d5 : w10.cell? ⟨HH, 5, none⟩ = some (.slice none 0 0) := hh.cell 5 rfl
  have fd5 := hh.frozen 5
  have HS11 : Hid (Six (w10.setCell ⟨HH, 5, none⟩ (.slice so2 sn2 sc2)) RR #[.int .i64 0, .int .i64 0, .int .i64 0, .int .u64 0, .slice none 0 0, .slice none 0 0]) := hs.other (by have := HRL.out; omega)
  have HH11 : Hid (Six (w10.setCell ⟨HH, 5, none⟩ (.slice so2 sn2 sc2)) HH #[.int .i64 x, .int .i64 y, .int .i64 s, .int .u64 (z : Int), .slice so1 sn1 sc1, .slice so2 sn2 sc2]) := hh.set 5 (.slice so2 sn2 sc2)
  have HX11 : Hid (Fr [HH] w10 (w10.setCell ⟨HH, 5, none⟩ (.slice so2 sn2 sc2))) := (Fr.refl [HH] _).setCell _ _ (.inl (by simp))
  have HK10 : Hid (Six w10 HH #[.int .i64 x, .int .i64 y, .int .i64 s, .int .u64 (z : Int), .slice so1 sn1 sc1, .slice none 0 0]) := hh
  clear hs hh HS9 HH9
  go_upto_region 14 with fail
  clear d5 fd5
  generalize w10.setCell ⟨HH, 5, none⟩ (.slice so2 sn2 sc2) = w11 at *
  have HF11 : Hid (Fr [p] w w11) := HF10.out.trans HX11.out (by have := HRR.out; have := HRL.out; simp; omega)
  have HP11 : Hid (SOwn 64 RR w11 (.slice so1 sn1 sc1) P) := by
    rcases HP10.out with h0 | ⟨gg, g1, g2, g3⟩
    · exact .inl h0
    · refine .inr ⟨gg, by have := HRL.out; omega, g2, g3.kept HX11.out ?_⟩
      intro hm
      rw [List.mem_singleton.1 hm] at g3
      obtain ⟨_, cap, cur, _, g4, _⟩ := g3
      have hk : w10.heap[HH]? = some (.cells _ 25 (0, 0)) := HK10.out
      rw [hk] at g4
      simp at g4
  have HE11 : Hid (IsErr w11 v (rde (rest l (pos + q3) lim)) nmNeg (((rdL (rest l (pos + q3) lim)).1.length : Nat))) := HV.out.keptH HX11.out (by intro x hx; rw [List.mem_singleton.1 hx]; exact ⟨_, HK10.out⟩)
  clear HK10
  by_cases he : rde (rest l (pos + q3) lim) = 0
  case neg =>
    have HNE : Hid (¬ rde (rest l (pos + q3) lim) = 0) := he
    clear he
    obtain ⟨bq, rfl⟩ := HE11.out.some HNE.out
    have hs := HS11.out
    have c0 : w11.cell? ⟨RR, 0, none⟩ = some (.int .i64 0) := hs.cell 0 rfl
    have fc0 := hs.frozen 0
    have c1 : w11.cell? ⟨RR, 1, none⟩ = some (.int .i64 0) := hs.cell 1 rfl
    have fc1 := hs.frozen 1
    have c2 : w11.cell? ⟨RR, 2, none⟩ = some (.int .i64 0) := hs.cell 2 rfl
    have fc2 := hs.frozen 2
    have c3 : w11.cell? ⟨RR, 3, none⟩ = some (.int .u64 0) := hs.cell 3 rfl
    have fc3 := hs.frozen 3
    have c4 : w11.cell? ⟨RR, 4, none⟩ = some (.slice none 0 0) := hs.cell 4 rfl
    have fc4 := hs.frozen 4
    have c5 : w11.cell? ⟨RR, 5, none⟩ = some (.slice none 0 0) := hs.cell 5 rfl
    have fc5 := hs.frozen 5
    clear hs
    go_wp2_with fail
    refine bodyPost_ret (hd_res rfl _ _ RR (.int .i64 0) (.int .i64 0) (.int .i64 0) (.int .u64 0) (.slice none 0 0) (.slice none 0 0) rfl (set6_six HS11.out _ _ _ _ _ _)) rfl ?_
    have hff : Fr [RR] w11 (set6 w11 RR (.int .i64 0) (.int .i64 0) (.int .i64 0) (.int .u64 0) (.slice none 0 0) (.slice none 0 0)) := set6_fr (Fr.refl [RR] w11) (.inl (by simp)) _ _ _ _ _ _
    have hge := HGN.out HNE.out
    refine ⟨_, _, rfl, ?_, fun _ => rfl, fun hh => ?_, HF11.out.trans hff (by have := HRR.out; simp; omega)⟩
    · rw [hge]; exact HE11.out.keptH hff (by intro x hx; rw [List.mem_singleton.1 hx]; exact ⟨_, HS11.out⟩)
    · rw [hge] at hh; exact absurd hh HNE.out
  obtain ⟨hso, hrd⟩ := HOK.out he
  have HN11 : Hid (SOwn 64 RR w11 (.slice so2 sn2 sc2) (rdL (rest l (pos + q3) lim)).1) := ((hso.keptR HX11.out (by have := HLU.out; simp; omega)).mono (by have := HLU.out; have := HRL.out; omega))
  have HSM : Hid (sn2 = (rdL (rest l (pos + q3) lim)).1.length) := by obtain ⟨_, _, hv⟩ := hso.valR; simp only [Value.slice.injEq] at hv; exact hv.2.1
  have HG11 : Hid _ := HGY.out he
  have HRX : Hid (Rd w11 p g l (pos + q3 + (rdL (rest l (pos + q3) lim)).2.1) lim sh) := hrd.kept HX11.out (by have := HPG.out; have := HRL.out; simp; omega) (by have := HPG.out; have := HRL.out; simp; omega)
  clear hso hrd HOK HGY HGN
  generalize (rdL (rest l (pos + q3) lim)).2.1 = u4 at *
  generalize (rdL (rest l (pos + q3) lim)).1 = N at *
  rw [he] at HE11
  obtain rfl := HE11.out.nil
  clear he HE11 HX11 HV HP10
  have hs := HS11.out
  have hh := HH11.out
  have c0 : w11.cell? ⟨RR, 0, none⟩ = some (.int .i64 0) := hs.cell 0 rfl
  have fc0 := hs.frozen 0
  have c1 : w11.cell? ⟨RR, 1, none⟩ = some (.int .i64 0) := hs.cell 1 rfl
  have fc1 := hs.frozen 1
  have c2 : w11.cell? ⟨RR, 2, none⟩ = some (.int .i64 0) := hs.cell 2 rfl
  have fc2 := hs.frozen 2
  have c3 : w11.cell? ⟨RR, 3, none⟩ = some (.int .u64 0) := hs.cell 3 rfl
  have fc3 := hs.frozen 3
  have c4 : w11.cell? ⟨RR, 4, none⟩ = some (.slice none 0 0) := hs.cell 4 rfl
  have fc4 := hs.frozen 4
  have c5 : w11.cell? ⟨RR, 5, none⟩ = some (.slice none 0 0) := hs.cell 5 rfl
  have fc5 := hs.frozen 5
  have d0 : w11.cell? ⟨HH, 0, none⟩ = some (.int .i64 x) := hh.cell 0 rfl
  have fd0 := hh.frozen 0
  have d1 : w11.cell? ⟨HH, 1, none⟩ = some (.int .i64 y) := hh.cell 1 rfl
  have fd1 := hh.frozen 1
  have d2 : w11.cell? ⟨HH, 2, none⟩ = some (.int .i64 s) := hh.cell 2 rfl
  have fd2 := hh.frozen 2
  have d3 : w11.cell? ⟨HH, 3, none⟩ = some (.int .u64 (z : Int)) := hh.cell 3 rfl
  have fd3 := hh.frozen 3
  have d4 : w11.cell? ⟨HH, 4, none⟩ = some (.slice so1 sn1 sc1) := hh.cell 4 rfl
  have fd4 := hh.frozen 4
  have d5 : w11.cell? ⟨HH, 5, none⟩ = some (.slice so2 sn2 sc2) := hh.cell 5 rfl
  have fd5 := hh.frozen 5
  clear hs hh
  go_wp2_with fail
  refine bodyPost_ret (hd_res rfl _ _ RR (.int .i64 x) (.int .i64 y) (.int .i64 s) (.int .u64 (z : Int)) (.slice so1 sn1 sc1) (.slice so2 sn2 sc2) rfl (set6_six HS11.out _ _ _ _ _ _)) rfl ?_
  have hff : Fr [RR] w11 (set6 w11 RR (.int .i64 x) (.int .i64 y) (.int .i64 s) (.int .u64 (z : Int)) (.slice so1 sn1 sc1) (.slice so2 sn2 sc2)) := set6_fr (Fr.refl [RR] w11) (.inl (by simp)) _ _ _ _ _ _
  have hnn : ∀ (v : Value) (L : List Sp), SOwn 64 RR w11 v L → SOwn 64 RR (set6 w11 RR (.int .i64 x) (.int .i64 y) (.int .i64 s) (.int .u64 (z : Int)) (.slice so1 sn1 sc1) (.slice so2 sn2 sc2)) v L := by
    intro v L hv
    rcases hv with h0 | ⟨gg, g1, g2, g3⟩
    · exact .inl h0
    · refine .inr ⟨gg, g1, g2, g3.kept hff ?_⟩
      intro hm
      rw [List.mem_singleton.1 hm] at g3
      obtain ⟨_, cap, cur, _, g4, _⟩ := g3
      have hk : w11.heap[RR]? = some (.cells _ 25 (0, 0)) := HS11.out
      rw [hk] at g4
      simp at g4
  have hge := HG11.out
  have h1 := HSN.out
  have h2 := HSM.out
  subst h1 h2
  have hin : HdIn ⟨x, y, s, z, P, N⟩ := by
    have a1 := HXY.out; have a2 := HSB.out; have a3 := HZB.out
    exact ⟨by unfold in64; simp only; omega, by unfold in64; simp only; omega, by unfold in64; simp only; omega, a3⟩
  refine ⟨_, _, rfl, ?_, fun hh => ?_, fun _ => ⟨?_, ?_⟩, HF11.out.trans hff (by have := HRR.out; simp; omega)⟩
  · rw [hge]; exact .inl ⟨rfl, rfl⟩
  · rw [hge] at hh; exact absurd rfl hh
  · rw [hge]
    exact ⟨so1, sc1, so2, sc2, rfl, hin, by rw [HRR.out]; exact hnn _ _ HP11.out, by rw [HRR.out]; exact hnn _ _ HN11.out, HLI.out, HLJ.out⟩
  · rw [hge]
    have := HRX.out.kept hff (by have := HPG.out; simp; omega) (by have := HPG.out; simp; omega)
    rwa [Nat.add_assoc] at this
end Go.Proofs.YtkphonepblkcdaaGreatDoor
