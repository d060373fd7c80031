/-
  Package head: Put, Len.
-/
import Derived.Test.YtkphonepblkcdaaGreatDoorHdPut
import Derived.Test.YtkphonepblkcdaaGreatDoorHdFlags
namespace Go.Proofs.YtkphonepblkcdaaGreatDoor
open Go.RowKit Mem Spans Bits Groups Thrs
set_option linter.unusedSimpArgs false
set_option linter.unusedVariables false
set_option maxRecDepth 100000

set_option maxHeartbeats 2000000 in
theorem hdPut_no (sa : Addr) (w : World) (p : Nat) (u : Value) (h : Hd) (hE : Env sa w) (hH : HdSrc w u h) (hc : (hce h).1 ≠ 0) :
    Calls Tryz.prog 16 #[.pointer (some ⟨p, 0, none⟩), u] w fun e w' => ∃ v, e = .returned v ∧ IsErr w' v (hce h).1 (hce h).2 0 ∧ Fr [] w w' := by
  have HC : Hid (∀ W, Fr [] w W → Calls Tryz.prog 12 #[u] W fun e w' => ∃ v, e = .returned v ∧ IsErr w' v (hce h).1 (hce h).2 0 ∧ Fr [] W w') := fun W f => hdCheck_any sa u h W (hE.kept0 f) (hH.kept f)
  have HNE : Hid ((hce h).1 ≠ 0) := hc
  obtain ⟨po, pc, no, nc, rfl, _⟩ := hH
  clear hE hc
  generalize (hce h).1 = C at *
  generalize (hce h).2 = M at *
  obtain ⟨hv, hh, hs, hz, P, N⟩ := h
  simp only at HC ⊢
  go_enter Tryz.func16, Tryz.ntmps16
  have HF0 : Hid (Fr [] w (w.alloc (.cells #[.int .i64 hv, .int .i64 hh, .int .i64 hs, .int .u64 (hz : Int), .slice po P.length pc, .slice no N.length nc] 25))) := (Fr.refl _ _).alloc _
  go_wp2_with fail
  refine (HC.out _ HF0.out).mono ?_
  rintro e w1 ⟨v, rfl, hv', hf⟩
  have HV : Hid (IsErr w1 v C M 0) := hv'
  have HF1 : Hid (Fr [] w w1) := HF0.out.trans hf (by simp)
  clear hf hv'
  obtain ⟨bq, rfl⟩ := HV.out.some HNE.out
  go_wp2_with fail
  go_ret
  exact ⟨_, rfl, HV.out, HF1.out⟩

theorem hd_cells {w : World} {B : Nat} {cs : Array Value} {S : List Nat} (h : Six w B cs) (hS : B ∉ S) (i : Nat) (v : Value) (hv : cs[i]? = some v) : ∀ W, Fr S w W → W.cell? ⟨B, i, none⟩ = some v := fun W f => f.cell_some (h.cell i hv) hS

set_option maxHeartbeats 4000000 in
theorem hdPut_ok (sa : Addr) (w : World) (p g : Nat) (l : List Bool) (u : Value) (h : Hd) (hE : Env sa w) (hw : 2 ≤ p) (hT : Tab w) (hp : 0 < p) (hg : 0 < g) (hW : Wr w p g l) (hH : ∀ W, Fr [p, g] w W → HdSrc W u h) (hc : (hce h).1 = 0) (hl : l.length ≤ 1000000) :
    Calls Tryz.prog 16 #[.pointer (some ⟨p, 0, none⟩), u] w fun e w' => e = .returned .nilIface ∧ ∃ g', Wr w' p g' (l ++ hbits h) ∧ (g' = g ∨ w.heap.size ≤ g') ∧ Fr [p, g] w w' := by
  have hplt := hW.lt
  have HC : Hid (∀ W, Fr [] w W → Calls Tryz.prog 12 #[u] W fun e w' => ∃ v, e = .returned v ∧ IsErr w' v (hce h).1 (hce h).2 0 ∧ Fr [] W w') := fun W f => hdCheck_any sa u h W (hE.kept0 f) ((hH w (Fr.refl _ _)).kept f)
  obtain ⟨a1, a2, a3, a4, a5, a6, a7, a8, a9⟩ := hce_zero hc
  have hPl := sce_len a8
  have hNl := sce_len a9
  have HBL : Hid (l.length ≤ 1000000 ∧ h.P.length ≤ 1024 ∧ h.N.length ≤ 1024) := ⟨hl, hPl, hNl⟩
  have HIS : Hid (in64 h.s ∧ h.z < inf) := ⟨by unfold in64; omega, a7⟩
  have HTK : Hid (∀ W, Fr [p, g] w W → Tab W) := fun W f => hT.kept f (by simp; omega)
  have HPP : Hid (∀ W q g' (m : List Bool) (V n : Nat), Wr W p g' m → m.length ≤ 4294967000 → V < 18446744073709551616 → 1 ≤ n → n ≤ 64 → q = (n : Int) → Calls Tryz.prog 42 #[.pointer (some ⟨p, 0, none⟩), .int .u64 (V : Int), .int .i64 q] W fun e w' => e = .returned (.tuple #[]) ∧ ∃ g2, Wr w' p g2 (m ++ numBits V n) ∧ (g2 = g' ∨ W.heap.size ≤ g2) ∧ Fr [p, g'] W w') := by
    intro W q g' m V n hw hm hV h1 h2 hq
    subst hq
    exact put_ok W p g' m V n hw hm hV h1 h2
  have HPS : Hid (∀ W g' (m : List Bool) (o : Int), Fr [p, g] w W → 0 < g' → Wr W p g' m → m.length ≤ 4294966000 → in64 o → Calls Tryz.prog 43 #[.pointer (some ⟨p, 0, none⟩), .int .i64 o] W fun e w' => e = .returned (.tuple #[]) ∧ ∃ g2, Wr w' p g2 (m ++ sbits o) ∧ (g2 = g' ∨ W.heap.size ≤ g2) ∧ Fr [p, g'] W w') := fun W g' m o f hg' hw hm ho => vputS_any W p g' m o (HTK.out W f) hp hg' hw hm ho.1 ho.2
  have HPT : Hid (∀ W g' (m : List Bool) (v : Nat), Wr W p g' m → m.length ≤ 4294966000 → v < inf → Calls Tryz.prog 44 #[.pointer (some ⟨p, 0, none⟩), .int .u64 (v : Int)] W fun e w' => e = .returned (.int .i64 0) ∧ ∃ g2, Wr w' p g2 (m ++ tbits v) ∧ (g2 = g' ∨ W.heap.size ≤ g2) ∧ Fr [p, g'] W w') := fun W g' m v hw hm hv => tput_ok W p g' m v hw hm hv
  have HPD : Hid (∀ W g' (m : List Bool) (x : Value) (L : List Sp), Fr [p, g] w W → 0 < g' → Wr W p g' m → (∀ W', Fr [p, g'] W W' → SSrc W' x L) → m.length + 144 * L.length + 144 ≤ 4294966000 → Calls Tryz.prog 45 #[.pointer (some ⟨p, 0, none⟩), x] W fun e w' => e = .returned (.tuple #[]) ∧ ∃ g2, Wr w' p g2 (m ++ sdb L) ∧ (g2 = g' ∨ W.heap.size ≤ g2) ∧ Fr [p, g'] W w') := fun W g' m x L f hg' hw hS hm => putSide_any W p g' m x L (HTK.out W f) hp hg' hw hS hm
  have HPG : Hid (0 < p ∧ 0 < g ∧ 0 < w.heap.size ∧ p < w.heap.size ∧ g < w.heap.size) := ⟨hp, hg, hT.lt, hplt.1, hplt.2⟩
  have HW00 : Hid (Wr w p g l) := hW
  obtain ⟨po, pc, no, nc, rfl, hin, _⟩ := hH w (Fr.refl _ _)
  have HSP : Hid (∀ W, Fr [p, g] w W → SSrc W (.slice po h.P.length pc) h.P ∧ SSrc W (.slice no h.N.length nc) h.N) := by
    intro W f
    obtain ⟨po', pc', no', nc', he, _, h3, h4⟩ := hH W f
    simp only [Value.agg.injEq, Array.mk.injEq, List.cons.injEq, Value.slice.injEq, true_and, and_true] at he
    obtain ⟨⟨rfl, rfl⟩, rfl, rfl⟩ := he
    exact ⟨h3, h4⟩
  rw [hc] at HC
  clear hE hw hT hp hg hW hH hc hl hplt a1 a2 a3 a4 a5 a6 a7 a8 a9 hPl hNl hin
  have HBT : Hid (hbits h = numBits (tw h.h) 2 ++ numBits (tw h.v) 1 ++ numBits 0 5 ++ sbits h.s ++ tbits h.z ++ sdb h.P ++ sdb h.N) := rfl
  generalize hbits h = HB at *
  generalize (hce h).2 = M at *
  obtain ⟨hv, hh, hs, hz, P, N⟩ := h
  simp only at HC HBL HIS HSP HBT ⊢
  have hw1 : IntKind.u64.wrap hh = ((tw hh : Nat) : Int) := wrap_tw hh
  have hw2 : IntKind.u64.wrap hv = ((tw hv : Nat) : Int) := wrap_tw hv
  go_enter Tryz.func16, Tryz.ntmps16
  have HF0 : Hid (Fr [] w (w.alloc (.cells #[.int .i64 hv, .int .i64 hh, .int .i64 hs, .int .u64 (hz : Int), .slice po P.length pc, .slice no N.length nc] 25))) := (Fr.refl _ _).alloc _
  have HS0 : Hid (Six (w.alloc (.cells #[.int .i64 hv, .int .i64 hh, .int .i64 hs, .int .u64 (hz : Int), .slice po P.length pc, .slice no N.length nc] 25)) w.heap.size #[.int .i64 hv, .int .i64 hh, .int .i64 hs, .int .u64 (hz : Int), .slice po P.length pc, .slice no N.length nc]) := Six.new _ _
  go_wp2_with fail
  refine (HC.out _ HF0.out).mono ?_
  rintro e w1 ⟨v, rfl, hv', hf⟩
  obtain rfl := hv'.nil
  have HF1 : Hid (Fr [p, g] w w1) := (HF0.out.trans hf (by simp)).nil
  have HS1 : Hid (Six w1 w.heap.size #[.int .i64 hv, .int .i64 hh, .int .i64 hs, .int .u64 (hz : Int), .slice po P.length pc, .slice no N.length nc]) := HS0.out.kept hf (by simp)
  obtain ⟨g1, hg1⟩ : ∃ g1 : Nat, g1 = g := ⟨g, rfl⟩
  have HW1 : Hid (Wr w1 p g1 l) := by rw [Hid, hg1]; exact HW00.out.kept (HF0.out.trans hf (by simp)) (by simp) (by simp)
  have HG1 : Hid (g1 = g ∨ w1.heap.size ≤ g1) := .inl hg1
  clear hg1
  have HZ1 : Hid (w.heap.size < w1.heap.size) := HS1.out.lt
  clear hf hv' HW00 HC HF0 HS0
  have HKB : Hid (w.heap.size ∉ [p, g]) := by have := HPG.out; rw [Hid]; simp; omega
  have L0 : ∀ W, Fr [p, g] w1 W → W.cell? ⟨w.heap.size, 0, none⟩ = some (.int .i64 hv) := hd_cells HS1.out HKB.out 0 _ rfl
  have L1 : ∀ W, Fr [p, g] w1 W → W.cell? ⟨w.heap.size, 1, none⟩ = some (.int .i64 hh) := hd_cells HS1.out HKB.out 1 _ rfl
  have L2 : ∀ W, Fr [p, g] w1 W → W.cell? ⟨w.heap.size, 2, none⟩ = some (.int .i64 hs) := hd_cells HS1.out HKB.out 2 _ rfl
  have L3 : ∀ W, Fr [p, g] w1 W → W.cell? ⟨w.heap.size, 3, none⟩ = some (.int .u64 (hz : Int)) := hd_cells HS1.out HKB.out 3 _ rfl
  have L4 : ∀ W, Fr [p, g] w1 W → W.cell? ⟨w.heap.size, 4, none⟩ = some (.slice po P.length pc) := hd_cells HS1.out HKB.out 4 _ rfl
  have L5 : ∀ W, Fr [p, g] w1 W → W.cell? ⟨w.heap.size, 5, none⟩ = some (.slice no N.length nc) := hd_cells HS1.out HKB.out 5 _ rfl
  have HL : Hid (∀ W, Fr [p, g] w1 W → W.cell? ⟨w.heap.size, 0, none⟩ = some (.int .i64 hv) ∧ W.cell? ⟨w.heap.size, 1, none⟩ = some (.int .i64 hh) ∧ W.cell? ⟨w.heap.size, 2, none⟩ = some (.int .i64 hs) ∧ W.cell? ⟨w.heap.size, 3, none⟩ = some (.int .u64 (hz : Int)) ∧ W.cell? ⟨w.heap.size, 4, none⟩ = some (.slice po P.length pc) ∧ W.cell? ⟨w.heap.size, 5, none⟩ = some (.slice no N.length nc)) := fun W f => ⟨L0 W f, L1 W f, L2 W f, L3 W f, L4 W f, L5 W f⟩
  clear L0 L1 L2 L3 L4 L5
  have HX1 : Hid (Fr [p, g] w1 w1) := Fr.refl _ _
  obtain ⟨k0, k1, k2, k3, k4, k5⟩ := HL.out w1 HX1.out
  have HB1 : Hid (0 < g1) := by have h1 := HG1.out; have h2 := HPG.out; have h3 := HZ1.out; rw [Hid]; omega
  go_wp2_with fail
  refine (HPP.out w1 2 g1 _ (tw hh) 2 HW1.out (by have := HBL.out; have := sbits_le hs; have := tbits_le hz; have := sdb_le P; (try simp only [List.length_append, numBits_length]); omega) (tw_lt hh) (by omega) (by omega) rfl).mono ?_
  rintro e w2 ⟨rfl, g2, hw', hg', hf⟩
  have HW2 : Hid (Wr w2 p g2 (l ++ numBits (tw hh) 2)) := hw'
  have HG2 : Hid (g2 = g ∨ w1.heap.size ≤ g2) := by
    rcases hg' with rfl | h2
    · exact HG1.out
    · exact .inr (Nat.le_trans HX1.out.size h2)
  have HX2 : Hid (Fr [p, g] w1 w2) := Mem.Fr.two HX1.out hf HG1.out
  clear hw' hg' hf k0 k1 k2 k3 k4 k5 HW1 HB1
  obtain ⟨k0, k1, k2, k3, k4, k5⟩ := HL.out w2 HX2.out
  have HB2 : Hid (0 < g2) := by have h1 := HG2.out; have h2 := HPG.out; have h3 := HZ1.out; rw [Hid]; omega
  go_wp2_with fail
  refine (HPP.out w2 1 g2 _ (tw hv) 1 HW2.out (by have := HBL.out; have := sbits_le hs; have := tbits_le hz; have := sdb_le P; (try simp only [List.length_append, numBits_length]); omega) (tw_lt hv) (by omega) (by omega) rfl).mono ?_
  rintro e w3 ⟨rfl, g3, hw', hg', hf⟩
  have HW3 : Hid (Wr w3 p g3 (l ++ numBits (tw hh) 2 ++ numBits (tw hv) 1)) := hw'
  have HG3 : Hid (g3 = g ∨ w1.heap.size ≤ g3) := by
    rcases hg' with rfl | h2
    · exact HG2.out
    · exact .inr (Nat.le_trans HX2.out.size h2)
  have HX3 : Hid (Fr [p, g] w1 w3) := Mem.Fr.two HX2.out hf HG2.out
  clear hw' hg' hf k0 k1 k2 k3 k4 k5 HW2 HB2
  obtain ⟨k0, k1, k2, k3, k4, k5⟩ := HL.out w3 HX3.out
  have HB3 : Hid (0 < g3) := by have h1 := HG3.out; have h2 := HPG.out; have h3 := HZ1.out; rw [Hid]; omega
  go_wp2_with fail
  refine (HPP.out w3 5 g3 _ 0 5 HW3.out (by have := HBL.out; have := sbits_le hs; have := tbits_le hz; have := sdb_le P; (try simp only [List.length_append, numBits_length]); omega) (by omega) (by omega) (by omega) rfl).mono ?_
  rintro e w4 ⟨rfl, g4, hw', hg', hf⟩
  have HW4 : Hid (Wr w4 p g4 (l ++ numBits (tw hh) 2 ++ numBits (tw hv) 1 ++ numBits 0 5)) := hw'
  have HG4 : Hid (g4 = g ∨ w1.heap.size ≤ g4) := by
    rcases hg' with rfl | h2
    · exact HG3.out
    · exact .inr (Nat.le_trans HX3.out.size h2)
  have HX4 : Hid (Fr [p, g] w1 w4) := Mem.Fr.two HX3.out hf HG3.out
  clear hw' hg' hf k0 k1 k2 k3 k4 k5 HW3 HB3
  obtain ⟨k0, k1, k2, k3, k4, k5⟩ := HL.out w4 HX4.out
  have HB4 : Hid (0 < g4) := by have h1 := HG4.out; have h2 := HPG.out; have h3 := HZ1.out; rw [Hid]; omega
  go_wp2_with fail
  refine (HPS.out w4 g4 _ hs (HF1.out.trans HX4.out (by simp)) HB4.out HW4.out (by have := HBL.out; have := sbits_le hs; have := tbits_le hz; have := sdb_le P; (try simp only [List.length_append, numBits_length]); omega) HIS.out.1).mono ?_
  rintro e w5 ⟨rfl, g5, hw', hg', hf⟩
  have HW5 : Hid (Wr w5 p g5 (l ++ numBits (tw hh) 2 ++ numBits (tw hv) 1 ++ numBits 0 5 ++ sbits hs)) := hw'
  have HG5 : Hid (g5 = g ∨ w1.heap.size ≤ g5) := by
    rcases hg' with rfl | h2
    · exact HG4.out
    · exact .inr (Nat.le_trans HX4.out.size h2)
  have HX5 : Hid (Fr [p, g] w1 w5) := Mem.Fr.two HX4.out hf HG4.out
  clear hw' hg' hf k0 k1 k2 k3 k4 k5 HW4 HB4
  obtain ⟨k0, k1, k2, k3, k4, k5⟩ := HL.out w5 HX5.out
  have HB5 : Hid (0 < g5) := by have h1 := HG5.out; have h2 := HPG.out; have h3 := HZ1.out; rw [Hid]; omega
  go_wp2_with fail
  refine (HPT.out w5 g5 _ hz HW5.out (by have := HBL.out; have := sbits_le hs; have := tbits_le hz; have := sdb_le P; (try simp only [List.length_append, numBits_length]); omega) HIS.out.2).mono ?_
  rintro e w6 ⟨rfl, g6, hw', hg', hf⟩
  have HW6 : Hid (Wr w6 p g6 (l ++ numBits (tw hh) 2 ++ numBits (tw hv) 1 ++ numBits 0 5 ++ sbits hs ++ tbits hz)) := hw'
  have HG6 : Hid (g6 = g ∨ w1.heap.size ≤ g6) := by
    rcases hg' with rfl | h2
    · exact HG5.out
    · exact .inr (Nat.le_trans HX5.out.size h2)
  have HX6 : Hid (Fr [p, g] w1 w6) := Mem.Fr.two HX5.out hf HG5.out
  clear hw' hg' hf k0 k1 k2 k3 k4 k5 HW5 HB5
  obtain ⟨k0, k1, k2, k3, k4, k5⟩ := HL.out w6 HX6.out
  have HB6 : Hid (0 < g6) := by have h1 := HG6.out; have h2 := HPG.out; have h3 := HZ1.out; rw [Hid]; omega
  go_wp2_with fail
  refine (HPD.out w6 g6 _ _ P (HF1.out.trans HX6.out (by simp)) HB6.out HW6.out (fun W f => (HSP.out W (HF1.out.trans (Mem.Fr.two HX6.out f HG6.out) (by simp))).1) (by have := HBL.out; have := sbits_le hs; have := tbits_le hz; have := sdb_le P; (try simp only [List.length_append, numBits_length]); omega)).mono ?_
  rintro e w7 ⟨rfl, g7, hw', hg', hf⟩
  have HW7 : Hid (Wr w7 p g7 (l ++ numBits (tw hh) 2 ++ numBits (tw hv) 1 ++ numBits 0 5 ++ sbits hs ++ tbits hz ++ sdb P)) := hw'
  have HG7 : Hid (g7 = g ∨ w1.heap.size ≤ g7) := by
    rcases hg' with rfl | h2
    · exact HG6.out
    · exact .inr (Nat.le_trans HX6.out.size h2)
  have HX7 : Hid (Fr [p, g] w1 w7) := Mem.Fr.two HX6.out hf HG6.out
  clear hw' hg' hf k0 k1 k2 k3 k4 k5 HW6 HB6
  obtain ⟨k0, k1, k2, k3, k4, k5⟩ := HL.out w7 HX7.out
  have HB7 : Hid (0 < g7) := by have h1 := HG7.out; have h2 := HPG.out; have h3 := HZ1.out; rw [Hid]; omega
  go_wp2_with fail
  refine (HPD.out w7 g7 _ _ N (HF1.out.trans HX7.out (by simp)) HB7.out HW7.out (fun W f => (HSP.out W (HF1.out.trans (Mem.Fr.two HX7.out f HG7.out) (by simp))).2) (by have := HBL.out; have := sbits_le hs; have := tbits_le hz; have := sdb_le P; (try simp only [List.length_append, numBits_length]); omega)).mono ?_
  rintro e w8 ⟨rfl, g8, hw', hg', hf⟩
  have HW8 : Hid (Wr w8 p g8 (l ++ numBits (tw hh) 2 ++ numBits (tw hv) 1 ++ numBits 0 5 ++ sbits hs ++ tbits hz ++ sdb P ++ sdb N)) := hw'
  have HG8 : Hid (g8 = g ∨ w1.heap.size ≤ g8) := by
    rcases hg' with rfl | h2
    · exact HG7.out
    · exact .inr (Nat.le_trans HX7.out.size h2)
  have HX8 : Hid (Fr [p, g] w1 w8) := Mem.Fr.two HX7.out hf HG7.out
  clear hw' hg' hf k0 k1 k2 k3 k4 k5 HW7 HB7
  go_wp2_with fail
  go_ret
  refine ⟨rfl, g8, ?_, ?_, HF1.out.trans HX8.out (by simp)⟩
  · rw [HBT.out]
    simpa only [List.append_assoc] using HW8.out
  · rcases HG8.out with h1 | h1
    · exact .inl h1
    · exact .inr (by have := HZ1.out; omega)

set_option maxHeartbeats 4000000 in
theorem hdLen_any (sa : Addr) (w : World) (u : Value) (h : Hd) (hE : Env sa w) (hT : Tab w) (hH : HdSrc w u h) :
    Calls Tryz.prog 18 #[u] w fun e w' => e = .returned (.int .i64 ((if (hce h).1 = 0 then (hbits h).length else 0 : Nat) : Int)) ∧ Fr [] w w' := by
  obtain ⟨RR, hRR⟩ : ∃ RR : Nat, RR = if (hce h).1 = 0 then (hbits h).length else 0 := ⟨_, rfl⟩
  rw [← hRR]
  have HRR : Hid (RR = if (hce h).1 = 0 then (hbits h).length else 0) := hRR
  clear hRR
  have HC : Hid (∀ W, Fr [] w W → Calls Tryz.prog 12 #[u] W fun e w' => ∃ v, e = .returned v ∧ IsErr w' v (hce h).1 (hce h).2 0 ∧ Fr [] W w') := fun W f => hdCheck_any sa u h W (hE.kept0 f) (hH.kept f)
  have HTK : Hid (∀ W, Fr [] w W → Tab W) := fun W f => hT.kept f (by simp)
  have HHK : Hid (∀ W, Fr [] w W → HdSrc W u h) := fun W f => hH.kept f
  have HHC : Hid ((hce h).1 = 0 → 0 ≤ h.v ∧ h.v ≤ 1 ∧ 0 ≤ h.h ∧ h.h ≤ 3 ∧ -4 ≤ h.s ∧ h.s ≤ 8 ∧ h.z < inf ∧ sce h.P = 0 ∧ sce h.N = 0) := hce_zero
  obtain ⟨po, pc, no, nc, rfl, hin, hsp, hsn⟩ := hH
  have HSP : Hid (∀ W, Fr [] w W → SSrc W (.slice po h.P.length pc) h.P ∧ SSrc W (.slice no h.N.length nc) h.N) := fun W f => ⟨hsp.kept f, hsn.kept f⟩
  have HZ : Hid (h.z < 18446744073709551616) := hin.2.2.2
  have HBT : Hid ((hbits h).length = 8 + (sbits h.s).length + (tbits h.z).length + (sdb h.P).length + (sdb h.N).length) := by
    rw [Hid]; unfold hbits; simp only [List.length_append, numBits_length]
  clear hE hT hin hsp hsn HHK
  generalize (hbits h).length = HB at *
  generalize (hce h).1 = C at *
  generalize (hce h).2 = M at *
  obtain ⟨hv, hh, hs, hz, P, N⟩ := h
  simp only at HC HHC HSP HBT HZ ⊢
  go_enter Tryz.func18, Tryz.ntmps18
  have HF0 : Hid (Fr [] w (w.alloc (.cells #[.int .i64 hv, .int .i64 hh, .int .i64 hs, .int .u64 (hz : Int), .slice po P.length pc, .slice no N.length nc] 25))) := (Fr.refl _ _).alloc _
  have HS0 : Hid (Six (w.alloc (.cells #[.int .i64 hv, .int .i64 hh, .int .i64 hs, .int .u64 (hz : Int), .slice po P.length pc, .slice no N.length nc] 25)) w.heap.size #[.int .i64 hv, .int .i64 hh, .int .i64 hs, .int .u64 (hz : Int), .slice po P.length pc, .slice no N.length nc]) := Six.new _ _
  go_wp2_with fail
  refine (HC.out _ HF0.out).mono ?_
  rintro e w1 ⟨v, rfl, hv', hf⟩
  have HF1 : Hid (Fr [] w w1) := HF0.out.trans hf (by simp)
  have HS1 : Hid (Six w1 w.heap.size #[.int .i64 hv, .int .i64 hh, .int .i64 hs, .int .u64 (hz : Int), .slice po P.length pc, .slice no N.length nc]) := HS0.out.kept hf (by simp)
  have HV : Hid (IsErr w1 v C M 0) := hv'
  clear hf hv' HC HF0 HS0
  by_cases hC : C = 0
  case neg =>
    have HR : Hid (RR = 0) := by rw [Hid, HRR.out, if_neg hC]
    obtain ⟨bq, rfl⟩ := HV.out.some hC
    clear hC
    go_wp2_with fail
    go_ret
    exact ⟨by rw [HR.out]; rfl, HF1.out⟩
  obtain ⟨a1, a2, a3, a4, a5, a6, a7, a8, a9⟩ := HHC.out hC
  have HRP : Hid (RR = HB) := by rw [Hid, HRR.out, if_pos hC]
  clear HRR
  rw [hC] at HV
  obtain rfl := HV.out.nil
  have hPl := sce_len a8
  have hNl := sce_len a9
  have b1 := sbits_le hs
  have b2 := tbits_le hz
  have b3 := sdb_le P
  have b4 := sdb_le N
  have hbt := HBT.out
  have hln : tln hz = (tbits hz).length := by unfold tln; rw [if_pos a7]
  have his : in64 hs := by unfold in64; omega
  have HP1 : Hid (∀ wx, Fr [] w1 wx → Calls Tryz.prog 46 #[.int .i64 hs] wx fun e w' => e = .returned (.int .i64 ((sbits hs).length : Int)) ∧ Fr [] w1 w') := by
    intro wx hx
    refine (lenS_any hs wx (HTK.out wx (HF1.out.trans hx (by simp))) his.1 his.2).mono ?_
    rintro e w' ⟨rfl, h⟩
    exact ⟨rfl, hx.trans h (by simp)⟩
  have HP2 : Hid (∀ wx, Fr [] w1 wx → Calls Tryz.prog 47 #[.int .u64 (hz : Int)] wx fun e w' => e = .returned (.int .i64 ((tbits hz).length : Int)) ∧ Fr [] w1 w') := by
    intro wx hx
    refine (tlen_any hz wx HZ.out).mono ?_
    rintro e w' ⟨rfl, rfl⟩
    exact ⟨by rw [hln], hx⟩
  have HP3 : Hid (∀ wx, Fr [] w1 wx → Calls Tryz.prog 48 #[.slice po P.length pc] wx fun e w' => e = .returned (.int .i64 ((sdb P).length : Int)) ∧ Fr [] w1 w') := by
    intro wx hx
    refine (lenSide_any wx _ P (HTK.out wx (HF1.out.trans hx (by simp))) (HSP.out wx (HF1.out.trans hx (by simp))).1 (by omega)).mono ?_
    rintro e w' ⟨rfl, h⟩
    exact ⟨rfl, hx.trans h (by simp)⟩
  have HP4 : Hid (∀ wx, Fr [] w1 wx → Calls Tryz.prog 48 #[.slice no N.length nc] wx fun e w' => e = .returned (.int .i64 ((sdb N).length : Int)) ∧ Fr [] w1 w') := by
    intro wx hx
    refine (lenSide_any wx _ N (HTK.out wx (HF1.out.trans hx (by simp))) (HSP.out wx (HF1.out.trans hx (by simp))).2 (by omega)).mono ?_
    rintro e w' ⟨rfl, h⟩
    exact ⟨rfl, hx.trans h (by simp)⟩
  clear HSP HTK HHC HBT HV hln his a1 a2 a3 a4 a5 a6 a7 a8 a9 hC HZ
  generalize (sbits hs).length = S1 at *
  generalize (tbits hz).length = S2 at *
  generalize (sdb P).length = S3 at *
  generalize (sdb N).length = S4 at *
  obtain ⟨X1, hX1⟩ : ∃ X1 : Nat, 8 + S1 = X1 := ⟨_, rfl⟩
  obtain ⟨X2, hX2⟩ : ∃ X2 : Nat, X1 + S2 = X2 := ⟨_, rfl⟩
  obtain ⟨X3, hX3⟩ : ∃ X3 : Nat, X2 + S3 = X3 := ⟨_, rfl⟩
  have hX4 : X3 + S4 = HB := by omega
  have hq1 : 8 + S1 ≤ 1000000000 := by omega
  have hq2 : X1 + S2 ≤ 1000000000 := by omega
  have hq3 : X2 + S3 ≤ 1000000000 := by omega
  have hq4 : X3 + S4 ≤ 1000000000 := by omega
  have q1 : wrap64 (8 + (S1 : Int)) = ((8 + S1 : Nat) : Int) := (sum2 hq1).1
  have r1 : IntKind.i64.wrap (8 + (S1 : Int)) = ((8 + S1 : Nat) : Int) := (sum2 hq1).2
  have q2 := (sum2 hq2).1
  have r2 := (sum2 hq2).2
  have q3 := (sum2 hq3).1
  have r3 := (sum2 hq3).2
  have q4 := (sum2 hq4).1
  have r4 := (sum2 hq4).2
  rw [hX1] at q1 r1
  rw [hX2] at q2 r2
  rw [hX3] at q3 r3
  rw [hX4] at q4 r4
  clear hPl hNl hX1 hX2 hX3 hX4 hq1 hq2 hq3 hq4 b1 b2 b3 b4 hbt
  have L2 : ∀ W, Fr [] w1 W → W.cell? ⟨w.heap.size, 2, none⟩ = some (.int .i64 hs) := hd_cells HS1.out List.not_mem_nil 2 _ rfl
  have L3 : ∀ W, Fr [] w1 W → W.cell? ⟨w.heap.size, 3, none⟩ = some (.int .u64 (hz : Int)) := hd_cells HS1.out List.not_mem_nil 3 _ rfl
  have L4 : ∀ W, Fr [] w1 W → W.cell? ⟨w.heap.size, 4, none⟩ = some (.slice po P.length pc) := hd_cells HS1.out List.not_mem_nil 4 _ rfl
  have L5 : ∀ W, Fr [] w1 W → W.cell? ⟨w.heap.size, 5, none⟩ = some (.slice no N.length nc) := hd_cells HS1.out List.not_mem_nil 5 _ rfl
  have F0 : Fr [] w1 w1.drew := (Fr.refl _ _).drew
  go_wp2_with fail
  go_region_held3 (fun w' => w'.cell? ⟨w.heap.size, 2, none⟩ = some (.int .i64 hs) ∧ w'.cell? ⟨w.heap.size, 3, none⟩ = some (.int .u64 (hz : Int)) ∧ w'.cell? ⟨w.heap.size, 4, none⟩ = some (.slice po P.length pc) ∧ w'.cell? ⟨w.heap.size, 5, none⟩ = some (.slice no N.length nc)) (go_keep) (first
    | (go_at_call 46; with_reducible refine (HP1.out _ F0).mono ?_; rintro e wa ⟨rfl, hfa⟩)
    | (go_at_call 47; with_reducible refine (HP2.out _ hfa).mono ?_; rintro e wb ⟨rfl, hfb⟩)
    | (go_at_call 48; with_reducible refine (HP3.out _ hfb).mono ?_; rintro e wc ⟨rfl, hfc⟩)
    | (go_at_call 48; with_reducible refine (HP4.out _ hfc).mono ?_; rintro e wd ⟨rfl, hfd⟩))
  all_goals (go_wp2)
  all_goals (go_ret)
  all_goals exact ⟨by rw [HRP.out]; rfl, HF1.out.trans hfd (by simp)⟩
end Go.Proofs.YtkphonepblkcdaaGreatDoor
