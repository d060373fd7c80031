/-
  Package head: an error at a place, checkSide, Check, Equal.
-/
import Derived.Test.YtkphonepblkcdaaGreatDoorHeads
import Derived.Test.YtkphonepblkcdaaGreatDoorAt
import Derived.Test.YtkphonepblkcdaaGreatDoorThPow
namespace Go.Proofs.YtkphonepblkcdaaGreatDoor
open Go.RowKit Mem Spans Thrs
set_option linter.unusedSimpArgs false
set_option linter.unusedVariables false
set_option maxRecDepth 100000

/-- A head's cells, its block, a head that lies anywhere. -/
def hdCs (h : Hd) (x y : Value) : Array Value := #[.int .i64 h.v, .int .i64 h.h, .int .i64 h.s, .int .u64 (h.z : Int), x, y]
def Six (w : World) (b : Nat) (cs : Array Value) : Prop := w.heap[b]? = some (.cells cs 25 (0, 0))
theorem Six.kept {w w' : World} {b : Nat} {cs : Array Value} {S : List Nat} (h : Six w b cs) (f : Fr S w w') (hb : b ∉ S) : Six w' b cs := f.heap h hb
theorem Six.new (w : World) (cs : Array Value) : Six (w.alloc (.cells cs 25)) w.heap.size cs := heap_alloc_new _ _
theorem Six.cell {w : World} {b : Nat} {cs : Array Value} (h : Six w b cs) (i : Nat) {v : Value} (hv : cs[i]? = some v) : w.cell? ⟨b, i, none⟩ = some v := by rw [cell_at h]; exact hv
theorem Six.lt {w : World} {b : Nat} {cs : Array Value} (h : Six w b cs) : b < w.heap.size := lt_of_heap h
/-- A head's numbers are in their ranges. -/
def HdIn (h : Hd) : Prop := in64 h.v ∧ in64 h.h ∧ in64 h.s ∧ h.z < 18446744073709551616
/-- A head by value, its slices wherever they lie. -/
def HdSrc (w : World) (u : Value) (h : Hd) : Prop := ∃ po pc no nc, u = .agg #[.int .i64 h.v, .int .i64 h.h, .int .i64 h.s, .int .u64 (h.z : Int), .slice po h.P.length pc, .slice no h.N.length nc] ∧ HdIn h ∧ SSrc w (.slice po h.P.length pc) h.P ∧ SSrc w (.slice no h.N.length nc) h.N
theorem HdSrc.kept {w w' : World} {u : Value} {h : Hd} (k : HdSrc w u h) (f : Fr [] w w') : HdSrc w' u h := by
  obtain ⟨po, pc, no, nc, h1, h2, h3, h4⟩ := k
  exact ⟨po, pc, no, nc, h1, h2, h3.kept f, h4.kept f⟩

/-- An error at a place: nil, or layer 2's Wrap of its New of the code. -/
def IsErr (w : World) (v : Value) (c : Int) (p : ByteArray) (n : Int) : Prop :=
  (c = 0 ∧ v = .nilIface) ∨ (c ≠ 0 ∧ ∃ b1 b2, v = errOf b1 ∧ Chain w .nilIface [⟨b1, c, p, n⟩, ⟨b2, c, ByteArray.empty, 0⟩] v)
theorem IsErr.kept {w w' : World} {v : Value} {c : Int} {p : ByteArray} {n : Int} (h : IsErr w v c p n) (f : Fr [] w w') : IsErr w' v c p n := by
  rcases h with h | ⟨h, b1, b2, h1, h2⟩
  · exact .inl h
  · exact .inr ⟨h, b1, b2, h1, h2.kept0 f⟩

theorem last_nil (sa : Addr) : IsLast sa .nilIface := by first | exact Or.inl rfl | exact rfl

set_option maxHeartbeats 1000000 in
theorem hat_any (sa : Addr) (c : Int) (p : ByteArray) (n : Int) (w : World) (hE : Env sa w) :
    Calls Tryz.prog 35 #[.int .i64 c, .string p, .int .i64 n] w fun e w' => ∃ v, e = .returned v ∧ IsErr w' v c p n ∧ Fr [] w w' := by
  have HE : Hid (Env sa w) := hE
  clear hE
  go_enter Tryz.func35, Tryz.ntmps35
  by_cases hc : c = 0
  · subst hc
    go_wp2_with fail
    refine (new_nil _).mono ?_
    rintro e w1 ⟨rfl, rfl⟩
    go_wp2_with fail
    refine (wrap_nil _ _ _).mono ?_
    rintro e w1 ⟨rfl, rfl⟩
    go_wp2
    go_ret
    exact ⟨_, rfl, .inl ⟨rfl, rfl⟩, Fr.refl _ _⟩
  · have HC : Hid (c ≠ 0) := hc
    clear hc
    go_wp2_with fail
    refine (new_code c _ HC.out).mono ?_
    rintro e w1 ⟨rfl, rfl⟩
    have HN : Hid (Chain (w.alloc (.cells #[.int .i64 c, .string ByteArray.empty, .int .i64 0, .nilIface] 112)) .nilIface [⟨w.heap.size, c, ByteArray.empty, 0⟩] (errOf w.heap.size)) :=
      ⟨rfl, by simp, .nilIface, heap_alloc_new _ _, rfl⟩
    have HF : Hid (Fr [] w (w.alloc (.cells #[.int .i64 c, .string ByteArray.empty, .int .i64 0, .nilIface] 112))) := (Fr.refl _ _).alloc _
    generalize w.alloc (.cells #[.int .i64 c, .string ByteArray.empty, .int .i64 0, .nilIface] 112) = w1 at *
    go_wp2_with fail
    refine (wrap_some sa .nilIface _ _ _ p n w1 (HE.out.kept0 HF.out) (last_nil sa) HN.out).mono ?_
    rintro e w2 ⟨b, rfl, hb, hf, hch⟩
    have HF2 : Hid (Fr [] w w2) := HF.out.trans hf (by simp)
    have HCH : Hid (Chain w2 .nilIface [⟨b, c, p, n⟩, ⟨w.heap.size, c, ByteArray.empty, 0⟩] (errOf b)) := hch
    clear hf hch hb
    go_wp2
    go_ret
    exact ⟨_, rfl, .inr ⟨HC.out, b, _, rfl, HCH.out⟩, HF2.out⟩

set_option maxHeartbeats 1000000 in
theorem checkSide_any (v : Value) (l : List Sp) (w : World) (h : SSrc w v l) :
    Calls Tryz.prog 37 #[v] w fun e w' => e = .returned (.int .i64 (sce l)) ∧ Fr [] w w' := by
  have HS : Hid (SSrc w v l) := h
  clear h
  go_enter Tryz.func37, Tryz.ntmps37
  go_wp2_with fail
  refine (check_any v l _ HS.out).mono ?_
  rintro e w1 ⟨rfl, hf1⟩
  have HF1 : Hid (Fr [] w w1) := hf1
  clear hf1
  by_cases hk : chk l = 0
  · have HK : Hid (chk l = 0) := hk
    rw [hk]
    clear hk
    go_wp2_with fail
    refine (canonical_any v l _ (HS.out.kept HF1.out)).mono ?_
    rintro e w2 ⟨rfl, hf2⟩
    have HF2 : Hid (Fr [] w w2) := HF1.out.trans hf2 (by simp)
    clear hf2
    cases hc : cnn l with
    | true =>
      have HR : Hid (sce l = 0) := sce_zero.2 ⟨HK.out, hc⟩
      clear hc
      go_wp2
      go_ret
      exact ⟨by rw [HR.out]; rfl, HF2.out⟩
    | false =>
      have HR : Hid (sce l = 23) := by unfold Hid sce; rw [if_pos HK.out, if_neg (by simp [hc])]
      clear hc
      go_wp2
      go_ret
      exact ⟨by rw [HR.out]; rfl, HF2.out⟩
  · have HR : Hid (sce l = chk l) := by unfold Hid sce; rw [if_neg hk]
    generalize chk l = K at *
    go_wp2
    go_ret
    exact ⟨by rw [HR.out]; rfl, HF1.out⟩

set_option maxHeartbeats 4000000 in
theorem hdCheck_any (sa : Addr) (u : Value) (h : Hd) (w : World) (hE : Env sa w) (hh : HdSrc w u h) :
    Calls Tryz.prog 12 #[u] w fun e w' => ∃ v, e = .returned v ∧ IsErr w' v (hce h).1 (hce h).2 0 ∧ Fr [] w w' := by
  have HE : Hid (∀ wx, Fr [] w wx → Env sa wx) := fun wx f => hE.kept0 f
  obtain ⟨po, pc, no, nc, rfl, hin, hp, hn⟩ := hh
  have HP : Hid (∀ wx, Fr [] w wx → SSrc wx (.slice po h.P.length pc) h.P) := fun wx f => hp.kept f
  have HN : Hid (∀ wx, Fr [] w wx → SSrc wx (.slice no h.N.length nc) h.N) := fun wx f => hn.kept f
  clear hE hin hp hn
  have HCE : Hid (hce h = if h.v < 0 ∨ 1 < h.v then (25, nmVariant) else if h.h < 0 ∨ 3 < h.h then (26, nmHint) else if h.s < -4 ∨ 8 < h.s then (21, nmSchema)
    else if ¬ h.z < inf then (11, nmZero) else if sce h.P ≠ 0 then (sce h.P, nmPos) else (sce h.N, nmNeg)) := rfl
  obtain ⟨hv, hh, hs, hz, P, N⟩ := h
  simp only at HCE HP HN ⊢
  generalize hX : hce ⟨hv, hh, hs, hz, P, N⟩ = X at *
  clear hX
  go_enter Tryz.func12, Tryz.ntmps12
  have HS0 : Hid (Six (w.alloc (.cells #[.int .i64 hv, .int .i64 hh, .int .i64 hs, .int .u64 (hz : Int), .slice po P.length pc, .slice no N.length nc] 25)) w.heap.size #[.int .i64 hv, .int .i64 hh, .int .i64 hs, .int .u64 (hz : Int), .slice po P.length pc, .slice no N.length nc]) := Six.new _ _
  have HF0 : Hid (Fr [] w (w.alloc (.cells #[.int .i64 hv, .int .i64 hh, .int .i64 hs, .int .u64 (hz : Int), .slice po P.length pc, .slice no N.length nc] 25))) := (Fr.refl [] w).alloc _
  by_cases h1 : hv < 0 ∨ 1 < hv
  · have HX : Hid (X = (25, nmVariant)) := by rw [Hid, HCE.out, if_pos h1]
    have hv0 : (hv != 0) = true := by simp; omega
    have hv1 : (hv != 1) = true := by simp; omega
    clear h1
    go_wp2_with fail
    refine (hat_any sa 25 nmVariant 0 _ (HE.out _ HF0.out)).mono ?_
    rintro e w1 ⟨v, rfl, hv, hf⟩
    have HV : Hid (IsErr w1 v 25 nmVariant 0 ∧ Fr [] w w1) := ⟨hv, HF0.out.trans hf (by simp)⟩
    clear hv hf
    go_wp2
    go_ret
    exact ⟨_, rfl, by rw [HX.out]; exact HV.out.1, HV.out.2⟩
  have hvv : hv = 0 ∨ hv = 1 := by omega
  have HX1 : Hid (X = if hh < 0 ∨ 3 < hh then (26, nmHint) else if hs < -4 ∨ 8 < hs then (21, nmSchema)
    else if ¬ hz < inf then (11, nmZero) else if sce P ≠ 0 then (sce P, nmPos) else (sce N, nmNeg)) := by rw [Hid, HCE.out, if_neg h1]
  clear h1 HCE
  by_cases h2 : hh < 0 ∨ 3 < hh
  · have HX : Hid (X = (26, nmHint)) := by rw [Hid, HX1.out, if_pos h2]
    rcases hvv with rfl | rfl <;> rcases h2 with h2 | h2
    all_goals
      go_wp2_with fail
      refine (hat_any sa 26 nmHint 0 _ (HE.out _ HF0.out)).mono ?_
      rintro e w1 ⟨v, rfl, hv, hf⟩
      have HV : Hid (IsErr w1 v 26 nmHint 0 ∧ Fr [] w w1) := ⟨hv, HF0.out.trans hf (by simp)⟩
      clear hv hf
      go_wp2
      go_ret
      exact ⟨_, rfl, by rw [HX.out]; exact HV.out.1, HV.out.2⟩
  have HX2 : Hid (X = if hs < -4 ∨ 8 < hs then (21, nmSchema)
    else if ¬ hz < inf then (11, nmZero) else if sce P ≠ 0 then (sce P, nmPos) else (sce N, nmNeg)) := by rw [Hid, HX1.out, if_neg h2]
  have h2a : ¬ hh < 0 := by omega
  have h2b : ¬ 3 < hh := by omega
  clear h2 HX1
  by_cases h3 : hs < -4 ∨ 8 < hs
  · have HX : Hid (X = (21, nmSchema)) := by rw [Hid, HX2.out, if_pos h3]
    rcases hvv with rfl | rfl <;> rcases h3 with h3 | h3
    all_goals
      go_wp2_with fail
      refine (hat_any sa 21 nmSchema 0 _ (HE.out _ HF0.out)).mono ?_
      rintro e w1 ⟨v, rfl, hv, hf⟩
      have HV : Hid (IsErr w1 v 21 nmSchema 0 ∧ Fr [] w w1) := ⟨hv, HF0.out.trans hf (by simp)⟩
      clear hv hf
      go_wp2
      go_ret
      exact ⟨_, rfl, by rw [HX.out]; exact HV.out.1, HV.out.2⟩
  have HX3 : Hid (X = if ¬ hz < inf then (11, nmZero) else if sce P ≠ 0 then (sce P, nmPos) else (sce N, nmNeg)) := by rw [Hid, HX2.out, if_neg h3]
  have h3a : ¬ hs < -4 := by omega
  have h3b : ¬ 8 < hs := by omega
  clear h3 HX2
  have L4 : ∀ wx, Fr [] (w.alloc (.cells #[.int .i64 hv, .int .i64 hh, .int .i64 hs, .int .u64 (hz : Int), .slice po P.length pc, .slice no N.length nc] 25)) wx → wx.cell? ⟨w.heap.size, 4, none⟩ = some (.slice po P.length pc) := fun wx hx => hx.cell_some (HS0.out.cell 4 rfl) List.not_mem_nil
  have L5 : ∀ wx, Fr [] (w.alloc (.cells #[.int .i64 hv, .int .i64 hh, .int .i64 hs, .int .u64 (hz : Int), .slice po P.length pc, .slice no N.length nc] 25)) wx → wx.cell? ⟨w.heap.size, 5, none⟩ = some (.slice no N.length nc) := fun wx hx => hx.cell_some (HS0.out.cell 5 rfl) List.not_mem_nil
  have HL : Hid (∀ wx, Fr [] (w.alloc (.cells #[.int .i64 hv, .int .i64 hh, .int .i64 hs, .int .u64 (hz : Int), .slice po P.length pc, .slice no N.length nc] 25)) wx → wx.cell? ⟨w.heap.size, 4, none⟩ = some (.slice po P.length pc) ∧ wx.cell? ⟨w.heap.size, 5, none⟩ = some (.slice no N.length nc)) := fun wx hx => ⟨L4 wx hx, L5 wx hx⟩
  clear L4 L5
  by_cases h4 : hz < inf
  · have HX4 : Hid (X = if sce P ≠ 0 then (sce P, nmPos) else (sce N, nmNeg)) := by rw [Hid, HX3.out, if_neg (by simpa using h4)]
    clear HX3
    have HT : Hid (∀ wx, Calls Tryz.prog 36 #[.int .u64 (hz : Int)] wx fun e w' => e = .returned (.bool true) ∧ wx = w') := by
      intro wx
      refine (thTh_any (hz : Int) wx).mono ?_
      rintro e w' ⟨rfl, rfl⟩
      exact ⟨by rw [decide_eq_true (by unfold inf at h4; omega)], rfl⟩
    clear h4
    rcases hvv with rfl | rfl
    all_goals
      go_wp2_with fail
      refine (HT.out _).mono ?_
      rintro e w1 ⟨rfl, rfl⟩
      have HF1 := HF0
      generalize w.alloc (.cells _ 25) = w1 at *
      have c4 := (HL.out w1 (Fr.refl _ _)).1
      go_wp2_with fail
      refine (checkSide_any _ P _ (HP.out _ HF1.out)).mono ?_
      rintro e w2 ⟨rfl, hf2⟩
      have HF2 : Hid (Fr [] w w2) := HF1.out.trans hf2 (by simp)
      have c5 := (HL.out w2 hf2).2
      clear hf2 c4
      by_cases h5 : sce P = 0
      · have HX5 : Hid (X = (sce N, nmNeg)) := by rw [Hid, HX4.out, if_neg (by simpa using h5)]
        rw [h5]
        clear h5
        go_wp2_with fail
        refine (checkSide_any _ N _ (HN.out _ HF2.out)).mono ?_
        rintro e w3 ⟨rfl, hf3⟩
        have HF3 : Hid (Fr [] w w3) := HF2.out.trans hf3 (by simp)
        clear hf3
        go_wp2_with fail
        refine (hat_any sa _ nmNeg 0 _ (HE.out _ HF3.out)).mono ?_
        rintro e w4 ⟨v, rfl, hv, hf⟩
        have HV : Hid (IsErr w4 v (sce N) nmNeg 0 ∧ Fr [] w w4) := ⟨hv, HF3.out.trans hf (by simp)⟩
        clear hv hf
        go_wp2
        go_ret
        exact ⟨_, rfl, by rw [HX5.out]; exact HV.out.1, HV.out.2⟩
      · have HX5 : Hid (X = (sce P, nmPos)) := by rw [Hid, HX4.out, if_pos h5]
        have HPE : Hid (sce P = sce P) := rfl
        generalize sce P = K at *
        go_wp2_with fail
        refine (hat_any sa K nmPos 0 _ (HE.out _ HF2.out)).mono ?_
        rintro e w4 ⟨v, rfl, hv, hf⟩
        have HV : Hid (IsErr w4 v K nmPos 0 ∧ Fr [] w w4) := ⟨hv, HF2.out.trans hf (by simp)⟩
        clear hv hf
        go_wp2
        go_ret
        exact ⟨_, rfl, by rw [HX5.out]; exact HV.out.1, HV.out.2⟩
  · have HX : Hid (X = (11, nmZero)) := by rw [Hid, HX3.out, if_pos h4]
    have HT : Hid (∀ wx, Calls Tryz.prog 36 #[.int .u64 (hz : Int)] wx fun e w' => e = .returned (.bool false) ∧ wx = w') := by
      intro wx
      refine (thTh_any (hz : Int) wx).mono ?_
      rintro e w' ⟨rfl, rfl⟩
      exact ⟨by rw [decide_eq_false (by unfold inf at h4; omega)], rfl⟩
    clear h4
    rcases hvv with rfl | rfl
    all_goals
      go_wp2_with fail
      refine (HT.out _).mono ?_
      rintro e w1 ⟨rfl, rfl⟩
      go_wp2_with fail
      refine (hat_any sa 11 nmZero 0 _ (HE.out _ HF0.out)).mono ?_
      rintro e w1 ⟨v, rfl, hv, hf⟩
      have HV : Hid (IsErr w1 v 11 nmZero 0 ∧ Fr [] w w1) := ⟨hv, HF0.out.trans hf (by simp)⟩
      clear hv hf
      go_wp2
      go_ret
      exact ⟨_, rfl, by rw [HX.out]; exact HV.out.1, HV.out.2⟩
end Go.Proofs.YtkphonepblkcdaaGreatDoor
