/-
  Package head: what is read: the spans of a side, a side.
-/
import Derived.Test.YtkphonepblkcdaaGreatDoorHdGet
namespace Go.Proofs.YtkphonepblkcdaaGreatDoor
open Go.RowKit Mem Spans Bits Groups Thrs
set_option linter.unusedSimpArgs false
set_option linter.unusedVariables false
set_option maxRecDepth 100000

theorem rdP_in {t : List Bool} : in64 (rdP t).1.1 ∧ in64 (rdP t).1.2 := by
  unfold rdP in64
  split
  · simp
  · split
    · simp
    · split
      · simp
      · have := rdS_in (t.drop (rdU t).2.1)
        have := rdU_lt t
        simp only
        omega
theorem rdN_in (n : Nat) (t : List Bool) : ∀ s ∈ (rdN n t).1, in64 s.1 ∧ in64 s.2 := by
  induction n generalizing t with
  | zero => simp [rdN]
  | succ n ih =>
    unfold rdN
    split
    · simp
    · intro s hs
      rcases List.mem_cons.1 hs with rfl | hs
      · exact rdP_in
      · exact ih _ s hs
theorem rdN_le (n : Nat) (t : List Bool) : (rdN n t).1.length ≤ n := by
  induction n generalizing t with
  | zero => simp [rdN]
  | succ n ih =>
    unfold rdN
    split
    · simp
    · have := ih (t.drop (rdP t).2.1)
      simp only [List.length_cons]
      omega
theorem rdL_in (t : List Bool) : ∀ s ∈ (rdL t).1, in64 s.1 ∧ in64 s.2 := by
  unfold rdL
  split
  · simp
  · split
    · simp
    · exact rdN_in _ _
theorem rdL_le (t : List Bool) : (rdL t).1.length ≤ 1024 := by
  unfold rdL
  split
  · simp
  · split
    · simp
    · have := rdN_le (rdU t).1 (t.drop (rdU t).2.1)
      simp only
      omega

set_option maxHeartbeats 4000000 in
theorem getSpans_any (w : World) (p g : Nat) (l : List Bool) (pos lim : Nat) (sh : Bool) (hT : Tab w) (hp : 0 < p) (h : Rd w p g l pos lim sh) (hb : l.length ≤ 4294967296) :
    Calls Tryz.prog 85 #[.pointer (some ⟨p, 0, none⟩)] w fun e w' => ∃ u, e = .returned (.tuple #[u, .int .i64 (rdL (rest l pos lim)).2.2]) ∧ SOwn 64 w.heap.size w' u (rdL (rest l pos lim)).1 ∧ ((rdL (rest l pos lim)).2.2 = 0 → Rd w' p g l (pos + (rdL (rest l pos lim)).2.1) lim sh) ∧ Fr [p] w w' := by
  have hlt := h.lt
  obtain ⟨i0, hi, hz0, hz1, hz2⟩ := info_span
  have HI : Hid (Tryz.prog.info? 64 = some i0 ∧ i0.zero = some (.agg #[.int .i64 0, .int .i64 0]) ∧ i0.size = 2 ∧ i0.bytes = 16) := ⟨hi, hz0, hz1, hz2⟩
  have HT : Hid (Tab w) := hT
  have HTK : Hid (∀ W, Fr [p] w W → Tab W) := fun W f => hT.kept f (by simp; omega)
  have HCU : Hid (Calls Tryz.prog 99 #[.pointer (some ⟨p, 0, none⟩)] w fun e w' => e = .returned (.tuple #[.int .u64 ((rdU (rest l pos lim)).1 : Int), .int .i64 (rdU (rest l pos lim)).2.2]) ∧ ((rdU (rest l pos lim)).2.2 = 0 → Rd w' p g l (pos + (rdU (rest l pos lim)).2.1) lim sh) ∧ Fr [p] w w') := vgetU_rd w p g l pos lim sh hT hp h hb
  have HE : Hid (rdL (rest l pos lim) = if (rdU (rest l pos lim)).2.2 ≠ 0 then ([], 0, (rdU (rest l pos lim)).2.2)
    else if 1024 < (rdU (rest l pos lim)).1 then ([], 0, 12)
    else ((rdN (rdU (rest l pos lim)).1 (rest l (pos + (rdU (rest l pos lim)).2.1) lim)).1, (rdU (rest l pos lim)).2.1 + (rdN (rdU (rest l pos lim)).1 (rest l (pos + (rdU (rest l pos lim)).2.1) lim)).2.1, (rdN (rdU (rest l pos lim)).1 (rest l (pos + (rdU (rest l pos lim)).2.1) lim)).2.2)) := by
    rw [Hid, ← rest_drop]; rfl
  have hU := rdU_lt (rest l pos lim)
  have HSP : Hid (∀ q W, Fr [p] w W → Rd W p g l q lim sh → Calls Tryz.prog 100 #[.pointer (some ⟨p, 0, none⟩)] W fun e w' => (∃ x y, e = .returned (.tuple #[.agg #[.int .i64 x, .int .i64 y], .int .i64 (rdP (rest l q lim)).2.2]) ∧ ((rdP (rest l q lim)).2.2 = 0 → x = (rdP (rest l q lim)).1.1 ∧ y = (rdP (rest l q lim)).1.2)) ∧ ((rdP (rest l q lim)).2.2 = 0 → Rd w' p g l (q + (rdP (rest l q lim)).2.1) lim sh) ∧ Fr [p] W w') := fun q W f hr => getSpan_any W p g l q lim sh (HTK.out W f) hp hr hb
  have hpw := hlt.1
  have hgw := hlt.2
  clear hT h hi hz0 hz1 hz2 hlt
  generalize rdL (rest l pos lim) = LL at *
  generalize rdU (rest l pos lim) = RU at *
  obtain ⟨V, U, E⟩ := RU
  try simp only at HE HCU hU
  go_enter Tryz.func85, Tryz.ntmps85
  go_wp2_with fail
  refine HCU.out.mono ?_
  rintro e w1 ⟨rfl, hr, hf⟩
  have HRD : Hid (E = 0 → Rd w1 p g l (pos + U) lim sh) := hr
  have HF1 : Hid (Fr [p] w w1) := hf
  clear hr hf HCU
  by_cases hE : E = 0
  · subst hE
    have HR : Hid (Rd w1 p g l (pos + U) lim sh) := HRD.out rfl
    clear HRD
    by_cases hV : 1024 < V
    · have HP : Hid (LL = ([], 0, 12)) := by rw [Hid, HE.out, if_neg (by simp), if_pos hV]
      go_wp2
      go_ret2
      exact ⟨_, by rw [HP.out]; rfl, by rw [HP.out]; exact .inl ⟨rfl, rfl⟩, fun hh => by rw [HP.out] at hh; exact absurd hh (by decide), HF1.out⟩
    · have HE2 : Hid (LL = ((rdN V (rest l (pos + U) lim)).1, U + (rdN V (rest l (pos + U) lim)).2.1, (rdN V (rest l (pos + U) lim)).2.2)) := by rw [Hid, HE.out, if_neg (by simp), if_neg hV]
      have hV2 : V ≤ 1024 := by omega
      clear HE hV
      go_wp2
      go_loopw [6, 20] (fun u i wr => ∃ (k D : Nat) (a : List Sp), k ≤ V ∧ i = .int .u64 (k : Int) ∧ a.length = k ∧ SOwn 64 w.heap.size wr u a ∧ Fr [p] w wr ∧ Rd wr p g l (pos + U + D) lim sh
        ∧ LL = (a ++ (rdN (V - k) (rest l (pos + U + D) lim)).1, U + (D + (rdN (V - k) (rest l (pos + U + D) lim)).2.1), (rdN (V - k) (rest l (pos + U + D) lim)).2.2)) (fun _ i _ => V - (intOf i).toNat)
      case atStart => exact ⟨0, 0, [], by omega, rfl, rfl, .inl ⟨rfl, rfl⟩, HF1.out, HR.out, by rw [HE2.out]; simp⟩
      case round =>
        obtain ⟨k, D, a, hk, rfl, ha, hso, hfr, hrd, hLL⟩ := hrel
        have HF : Hid (Fr [p] w wr) := hfr
        have HS : Hid (SOwn 64 w.heap.size wr u6 a) := hso
        have HRR : Hid (Rd wr p g l (pos + U + D) lim sh) := hrd
        have HLL : Hid (LL = (a ++ (rdN (V - k) (rest l (pos + U + D) lim)).1, U + (D + (rdN (V - k) (rest l (pos + U + D) lim)).2.1), (rdN (V - k) (rest l (pos + U + D) lim)).2.2)) := hLL
        have HAL : Hid (a.length = k) := ha
        clear hfr hso hrd hLL ha
        by_cases hlt : k < V
        · have HN : Hid (rdN (V - k) (rest l (pos + U + D) lim) = if (rdP (rest l (pos + U + D) lim)).2.2 ≠ 0 then ([], 0, (rdP (rest l (pos + U + D) lim)).2.2)
            else ((rdP (rest l (pos + U + D) lim)).1 :: (rdN (V - (k + 1)) (rest l (pos + U + D + (rdP (rest l (pos + U + D) lim)).2.1) lim)).1, (rdP (rest l (pos + U + D) lim)).2.1 + (rdN (V - (k + 1)) (rest l (pos + U + D + (rdP (rest l (pos + U + D) lim)).2.1) lim)).2.1, (rdN (V - (k + 1)) (rest l (pos + U + D + (rdP (rest l (pos + U + D) lim)).2.1) lim)).2.2)) := by
            rw [Hid, show V - k = (V - (k + 1)) + 1 from by omega, ← rest_drop l (pos + U + D) lim]
            rfl
          have HC := HSP.out (pos + U + D) wr HF.out HRR.out
          have HCS : Hid (Calls Tryz.prog 100 #[.pointer (some ⟨p, 0, none⟩)] wr fun e w' => (∃ x y, e = .returned (.tuple #[.agg #[.int .i64 x, .int .i64 y], .int .i64 (rdP (rest l (pos + U + D) lim)).2.2]) ∧ ((rdP (rest l (pos + U + D) lim)).2.2 = 0 → x = (rdP (rest l (pos + U + D) lim)).1.1 ∧ y = (rdP (rest l (pos + U + D) lim)).1.2)) ∧ ((rdP (rest l (pos + U + D) lim)).2.2 = 0 → Rd w' p g l (pos + U + D + (rdP (rest l (pos + U + D) lim)).2.1) lim sh) ∧ Fr [p] wr w') := HC
          clear HC
          generalize rdP (rest l (pos + U + D) lim) = PP at *
          obtain ⟨⟨o, m⟩, d, E2⟩ := PP
          try simp only at HN HCS
          go_wp2_with fail
          refine HCS.out.mono ?_
          rintro e w2 ⟨⟨x, y, rfl, hxy⟩, hr, hf⟩
          have HF2 : Hid (Fr [p] w w2) := HF.out.trans hf (by simp)
          have HS2 : Hid (SOwn 64 w.heap.size w2 u6 a) := HS.out.keptR hf (by simpa using hpw)
          have HRD : Hid (E2 = 0 → Rd w2 p g l (pos + U + D + d) lim sh) := hr
          have HXY : Hid (E2 = 0 → x = o ∧ y = m) := hxy
          clear hr hf hxy HCS HS
          by_cases h2 : E2 = 0
          · subst h2
            obtain ⟨rfl, rfl⟩ := HXY.out rfl
            have HR2 : Hid (Rd w2 p g l (pos + U + D + d) lim sh) := HRD.out rfl
            have HLL2 : Hid (LL = ((a ++ [(x, y)]) ++ (rdN (V - (k + 1)) (rest l (pos + U + (D + d)) lim)).1, U + (D + d + (rdN (V - (k + 1)) (rest l (pos + U + (D + d)) lim)).2.1), (rdN (V - (k + 1)) (rest l (pos + U + (D + d)) lim)).2.2)) := by
              rw [Hid, HLL.out, HN.out, if_neg (by simp), ← Nat.add_assoc (pos + U) D d]
              simp [Nat.add_assoc]
            have HSZ : Hid (w.heap.size ≤ w2.heap.size) := HF2.out.size
            have HL : Hid (a.length ≤ 1000000) := by have := HAL.out; rw [Hid]; omega
            clear HLL HN HXY HRD
            go_wp2_with (at_builtin; refine wpList_append_sp _ rfl _ _ 23 rfl Tryz.underlying23 HI.out.1 HI.out.2.1 HI.out.2.2.1 HI.out.2.2.2 (B := w.heap.size) (s := (x, y)) (by have := HSZ.out; simp; omega) rfl rfl (HS2.out.kept (((Fr.refl [] _).alloc _).alloc _)) (lit_sp' 64 (w2.alloc _) [(x, y)] (World.size_alloc _ _) (by have := HSZ.out; omega) (by simp) (by unfold maxLen; simp)) HL.out ?_; intro v3 w3 ho3 hb3)
            go_roundw
            case rel =>
              have hx := (HR2.out.kept (((Fr.refl [] _).alloc _).alloc _) (by simp) (by simp)).below hb3 hpw hgw
              rw [Nat.add_assoc (pos + U) D d] at hx
              exact ⟨k + 1, D + d, a ++ [(x, y)], by omega, by go_num, by have := HAL.out; simp; omega, ho3, Fr.tailB ((HF2.out.alloc _).alloc _) hb3, hx, HLL2.out⟩
            case measure => simp [intOf]; omega
          · have HNE : Hid (¬ E2 = 0) := h2
            have HLL2 : Hid (LL = (a, U + D, E2)) := by rw [Hid, HLL.out, HN.out, if_pos h2]; simp
            have HF3 : Hid (Fr [p] w (w2.alloc (.cells #[.int .i64 x, .int .i64 y] 64))) := HF2.out.alloc _
            have HS3 : Hid (SOwn 64 w.heap.size (w2.alloc (.cells #[.int .i64 x, .int .i64 y] 64)) u6 a) := HS2.out.kept ((Fr.refl [] _).alloc _)
            clear HLL HN HXY HRD
            go_wp2
            go_ret2
            exact ⟨_, by rw [HLL2.out]; rfl, by rw [HLL2.out]; exact HS3.out, fun hh => by rw [HLL2.out] at hh; exact absurd hh HNE.out, HF3.out⟩
        · have hkV : V - k = 0 := by omega
          have HLL2 : Hid (LL = (a, U + D, 0)) := by rw [Hid, HLL.out, hkV]; simp [rdN]
          clear HLL hkV
          go_wp2
          go_ret2
          exact ⟨_, by rw [HLL2.out]; rfl, by rw [HLL2.out]; exact HS.out, fun _ => by rw [HLL2.out, ← Nat.add_assoc]; exact HRR.out, HF.out⟩
  · have HP : Hid (LL = ([], 0, E)) := by rw [Hid, HE.out, if_pos hE]
    have HNE : Hid (¬ E = 0) := hE
    go_wp2
    go_ret2
    exact ⟨_, by rw [HP.out]; rfl, by rw [HP.out]; exact .inl ⟨rfl, rfl⟩, fun hh => by rw [HP.out] at hh; exact absurd hh HNE.out, HF1.out⟩

/-- What the reading of a side tells. -/
def Side (w : World) (p g : Nat) (l : List Bool) (pos lim : Nat) (sh : Bool) (nm : ByteArray) (w' : World) (u v : Value) : Prop :=
  (rde (rest l pos lim) = 0 → v = .nilIface ∧ SOwn 64 w.heap.size w' u (rdL (rest l pos lim)).1 ∧ Rd w' p g l (pos + (rdL (rest l pos lim)).2.1) lim sh) ∧
  (rde (rest l pos lim) ≠ 0 → IsErr w' v (rde (rest l pos lim)) nm ((rdL (rest l pos lim)).1.length : Nat))

set_option maxHeartbeats 2000000 in
theorem getSide_any (sa : Addr) (w : World) (p g : Nat) (l : List Bool) (pos lim : Nat) (sh : Bool) (nm : ByteArray) (hE : Env sa w) (hw : 2 ≤ p) (hT : Tab w) (hp : 0 < p) (h : Rd w p g l pos lim sh) (hb : l.length ≤ 4294967296) :
    Calls Tryz.prog 57 #[.pointer (some ⟨p, 0, none⟩), .string nm] w fun e w' => ∃ u v, e = .returned (.tuple #[u, v]) ∧ (∃ ao n c, u = .slice ao n c) ∧ Side w p g l pos lim sh nm w' u v ∧ Fr [p] w w' := by
  have hpw := h.lt.1
  have hgw := h.lt.2
  have HEK : Hid (∀ W, Fr [p] w W → Env sa W) := fun W f => hE.kept f (by simpa using hw)
  have HC : Hid (Calls Tryz.prog 85 #[.pointer (some ⟨p, 0, none⟩)] w fun e w' => ∃ u, e = .returned (.tuple #[u, .int .i64 (rdL (rest l pos lim)).2.2]) ∧ SOwn 64 w.heap.size w' u (rdL (rest l pos lim)).1 ∧ ((rdL (rest l pos lim)).2.2 = 0 → Rd w' p g l (pos + (rdL (rest l pos lim)).2.1) lim sh) ∧ Fr [p] w w') := getSpans_any w p g l pos lim sh hT hp h hb
  have HIN : Hid (∀ s ∈ (rdL (rest l pos lim)).1, in64 s.1 ∧ in64 s.2) := rdL_in _
  have HE : Hid (rde (rest l pos lim) = if (rdL (rest l pos lim)).2.2 ≠ 0 then (rdL (rest l pos lim)).2.2 else sce (rdL (rest l pos lim)).1) := rfl
  unfold Side
  clear hE hT h
  generalize rde (rest l pos lim) = RE at *
  generalize rdL (rest l pos lim) = LL at *
  obtain ⟨a, U, E⟩ := LL
  try simp only at HC HIN HE
  simp only
  go_enter Tryz.func57, Tryz.ntmps57
  go_wp2_with fail
  refine HC.out.mono ?_
  rintro e w1 ⟨u, rfl, hso, hr, hf⟩
  have HS : Hid (SOwn 64 w.heap.size w1 u a) := hso
  have HF1 : Hid (Fr [p] w w1) := hf
  have HR : Hid (E = 0 → Rd w1 p g l (pos + U) lim sh) := hr
  clear hso hr hf HC
  obtain ⟨ao, cap, rfl, _⟩ := HS.out.src HIN.out
  by_cases h0 : E = 0
  · subst h0
    have HR1 : Hid (Rd w1 p g l (pos + U) lim sh) := HR.out rfl
    have HE1 : Hid (RE = sce a) := by rw [Hid, HE.out, if_neg (by simp)]
    clear HR HE
    go_wp2_with fail
    refine (checkSide_any _ a w1 (HS.out.src HIN.out)).mono ?_
    rintro e w2 ⟨rfl, hf⟩
    have HF2 : Hid (Fr [p] w w2) := HF1.out.trans hf (by simp)
    have HS2 : Hid (SOwn 64 w.heap.size w2 (.slice ao a.length cap) a) := HS.out.kept hf
    have HR2 : Hid (Rd w2 p g l (pos + U) lim sh) := HR1.out.kept hf (by simp) (by simp)
    clear hf HR1 HS
    rw [← HE1.out]
    by_cases h1 : RE = 0
    · subst h1
      go_wp2
      go_ret2
      exact ⟨_, _, rfl, ⟨_, _, _, rfl⟩, ⟨rfl, HS2.out, HR2.out⟩, HF2.out⟩
    · have HNE : Hid (¬ RE = 0) := h1
      go_wp2_with fail
      refine (hat_any sa RE nm _ w2 (HEK.out _ HF2.out)).mono ?_
      rintro e w3 ⟨v, rfl, hv, hf⟩
      have HV : Hid (IsErr w3 v RE nm (a.length : Nat)) := hv
      have HF3 : Hid (Fr [p] w w3) := HF2.out.trans hf (by simp)
      clear hv hf
      go_wp2
      go_ret2
      exact ⟨_, _, rfl, ⟨_, _, _, rfl⟩, ⟨fun hh => absurd hh HNE.out, fun _ => HV.out⟩, HF3.out⟩
  · have HE1 : Hid (RE = E) := by rw [Hid, HE.out, if_pos h0]
    have HNE : Hid (¬ E = 0) := h0
    go_wp2_with fail
    refine (hat_any sa E nm _ w1 (HEK.out _ HF1.out)).mono ?_
    rintro e w3 ⟨v, rfl, hv, hf⟩
    have HV : Hid (IsErr w3 v E nm (a.length : Nat)) := hv
    have HF3 : Hid (Fr [p] w w3) := HF1.out.trans hf (by simp)
    clear hv hf
    go_wp2
    go_ret2
    exact ⟨_, _, rfl, ⟨_, _, _, rfl⟩, ⟨fun hh => by rw [HE1.out] at hh; exact absurd hh HNE.out, fun _ => by rw [HE1.out]; exact HV.out⟩, HF3.out⟩
end Go.Proofs.YtkphonepblkcdaaGreatDoor
