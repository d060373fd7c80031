/-
  Heads by themselves: what is put is read so; what is read has just its bits, and is right.
-/
import Derived.Test.YtkphonepblkcdaaGreatDoorHdRest
namespace Go.Proofs.YtkphonepblkcdaaGreatDoor
open Bits Spans Groups Thrs
set_option linter.unusedSimpArgs false
set_option linter.unusedVariables false

theorem rdU_put (V : Nat) (c : List Bool) (hV : V < 18446744073709551616) : rdU (ubits V ++ c) = (V, (ubits V).length, 0) := by
  have e : (ubits V).length = fore (gU V) + bh (gU V) := gbits_length _ _
  have hL : LeadIs (ubits V ++ c) 0 (ubits V ++ c).length (gU V) := by
    have := lead_put [] c (gU V) V (ubits V ++ c).length (gU_le V) (by rw [List.length_append, e]; simp)
    simpa [ubits] using this
  have hk := lead_of hL
  have hv : val (((ubits V ++ c).drop (fore (gU V))).take (bh (gU V))) = V := by
    have h1 := val_put [] c (gU V) V
    simp only [List.nil_append, List.length_nil, Nat.zero_add] at h1
    have h2 : ubits V = gbits (gU V) V := rfl
    rw [h2, h1]
    exact Nat.mod_eq_of_lt (gU_lt hV)
  unfold rdU
  rw [hk, if_neg (by rw [List.length_append, e]; omega), hv, if_pos rfl, e]
theorem rdS_put (o : Int) (c : List Bool) (h1 : -9223372036854775808 ≤ o) (h2 : o ≤ 9223372036854775807) : rdS (sbits o ++ c) = (o, (sbits o).length, 0) := by
  have e : (sbits o).length = fore (gS o) + bh (gS o) := gbits_length _ _
  have hL : LeadIs (sbits o ++ c) 0 (sbits o ++ c).length (gS o) := by
    have := lead_put [] c (gS o) (tw o) (sbits o ++ c).length (gS_le o) (by rw [List.length_append, e]; simp)
    simpa [sbits] using this
  have hk := lead_of hL
  have hv : sgn (val (((sbits o ++ c).drop (fore (gS o))).take (bh (gS o)))) (bh (gS o)) = o := by
    have h3 := val_put [] c (gS o) (tw o)
    simp only [List.nil_append, List.length_nil, Nat.zero_add] at h3
    have h4 : sbits o = gbits (gS o) (tw o) := rfl
    rw [h4, h3]
    exact sgn_tw o h1 h2
  unfold rdS
  rw [hk, if_neg (by rw [List.length_append, e]; omega), hv, if_pos rfl, e]
theorem tw_small {n : Int} (h0 : 0 ≤ n) (h1 : n ≤ 4096) : ((tw n : Nat) : Int) = n := by unfold tw; omega
theorem rdP_put (s : Sp) (c : List Bool) (h : 0 ≤ s.2 ∧ s.2 ≤ 4096 ∧ -1048576 ≤ s.1 ∧ s.1 ≤ 2097152) : rdP ((ubits (tw s.2) ++ sbits s.1) ++ c) = (s, (ubits (tw s.2) ++ sbits s.1).length, 0) := by
  obtain ⟨h0, h1, h2, h3⟩ := h
  obtain ⟨o, n⟩ := s
  simp only at h0 h1 h2 h3 ⊢
  have hU : rdU ((ubits (tw n) ++ sbits o) ++ c) = (tw n, (ubits (tw n)).length, 0) := by rw [List.append_assoc]; exact rdU_put _ _ (tw_lt n)
  have hD : ((ubits (tw n) ++ sbits o) ++ c).drop (ubits (tw n)).length = sbits o ++ c := by rw [List.append_assoc]; exact List.drop_left' rfl
  have hS : rdS (sbits o ++ c) = (o, (sbits o).length, 0) := rdS_put o c (by omega) (by omega)
  have ht := tw_small h0 h1
  unfold rdP
  rw [hU]
  simp only
  rw [hD, hS, if_neg (by simp), if_neg (by omega), if_neg (by simp), ht, List.length_append]
theorem spb_cons (s : Sp) (r : List Sp) : spb (s :: r) = (ubits (tw s.2) ++ sbits s.1) ++ spb r := by simp [spb]
theorem rdN_put (L : List Sp) (c : List Bool) (h : ∀ s ∈ L, 0 ≤ s.2 ∧ s.2 ≤ 4096 ∧ -1048576 ≤ s.1 ∧ s.1 ≤ 2097152) : rdN L.length (spb L ++ c) = (L, (spb L).length, 0) := by
  induction L with
  | nil => simp [rdN, spb]
  | cons s r ih =>
    have hP : rdP (spb (s :: r) ++ c) = (s, (ubits (tw s.2) ++ sbits s.1).length, 0) := by rw [spb_cons, List.append_assoc]; exact rdP_put s _ (h s (by simp))
    have hD : (spb (s :: r) ++ c).drop (ubits (tw s.2) ++ sbits s.1).length = spb r ++ c := by rw [spb_cons, List.append_assoc]; exact List.drop_left' rfl
    have hI := ih (fun x hx => h x (by simp [hx]))
    rw [List.length_cons]
    unfold rdN
    rw [hP]
    simp only
    rw [hD, hI, if_neg (by simp), spb_cons]
    simp only [List.length_append]
theorem rdL_put (L : List Sp) (c : List Bool) (hl : L.length ≤ 1024) (h : ∀ s ∈ L, 0 ≤ s.2 ∧ s.2 ≤ 4096 ∧ -1048576 ≤ s.1 ∧ s.1 ≤ 2097152) : rdL (sdb L ++ c) = (L, (sdb L).length, 0) := by
  have hU : rdU (sdb L ++ c) = (L.length, (ubits L.length).length, 0) := by unfold sdb; rw [List.append_assoc]; exact rdU_put _ _ (by omega)
  have hD : (sdb L ++ c).drop (ubits L.length).length = spb L ++ c := by unfold sdb; rw [List.append_assoc]; exact List.drop_left' rfl
  unfold rdL
  rw [hU]
  simp only
  rw [hD, rdN_put L c h, if_neg (by simp), if_neg (by omega)]
  unfold sdb
  rw [List.length_append]
theorem rde_put (L : List Sp) (c : List Bool) (hs : sce L = 0) : rde (sdb L ++ c) = 0 := by
  unfold rde
  rw [rdL_put L c (sce_len hs) (sce_in hs), if_neg (by simp)]
  exact hs
theorem take_all {a c : List Bool} : (a ++ c).drop a.length = c := List.drop_left' rfl

theorem val_bits {V n : Nat} (c : List Bool) (h : V < 2 ^ n) : val ((numBits V n ++ c).take n) = V := by
  rw [List.take_left' (by simp), val_numBits, Nat.mod_eq_of_lt h]
/-- What is put is read so. -/
theorem rdH_put (h : Hd) (c : List Bool) (hc : (hce h).1 = 0) : rdH (hbits h ++ c) = ⟨h, (hbits h).length, 0, nmNeg, 0⟩ := by
  obtain ⟨a1, a2, a3, a4, a5, a6, a7, a8, a9⟩ := hce_zero hc
  obtain ⟨v, hh, s, z, P, N⟩ := h
  simp only at a1 a2 a3 a4 a5 a6 a7 a8 a9
  have t1 : tw hh < 2 ^ 2 := by unfold tw; omega
  have t2 : tw v < 2 ^ 1 := by unfold tw; omega
  have t3 : ((tw hh : Nat) : Int) = hh := tw_small a3 (by omega)
  have t4 : ((tw v : Nat) : Int) = v := tw_small a1 (by omega)
  have e0 : hbits ⟨v, hh, s, z, P, N⟩ ++ c = numBits (tw hh) 2 ++ (numBits (tw v) 1 ++ (numBits 0 5 ++ (sbits s ++ (tbits z ++ (sdb P ++ (sdb N ++ c)))))) := by
    simp [hbits, List.append_assoc]
  have d2 : (numBits (tw hh) 2 ++ (numBits (tw v) 1 ++ (numBits 0 5 ++ (sbits s ++ (tbits z ++ (sdb P ++ (sdb N ++ c))))))).drop 2 = (numBits (tw v) 1 ++ (numBits 0 5 ++ (sbits s ++ (tbits z ++ (sdb P ++ (sdb N ++ c)))))) := List.drop_left' (by simp)
  have d3 : (numBits (tw hh) 2 ++ (numBits (tw v) 1 ++ (numBits 0 5 ++ (sbits s ++ (tbits z ++ (sdb P ++ (sdb N ++ c))))))).drop 3 = numBits 0 5 ++ (sbits s ++ (tbits z ++ (sdb P ++ (sdb N ++ c)))) := by
    rw [show 3 = 2 + 1 from rfl, ← List.drop_drop, d2]
    exact List.drop_left' (by simp)
  have d8 : (numBits (tw hh) 2 ++ (numBits (tw v) 1 ++ (numBits 0 5 ++ (sbits s ++ (tbits z ++ (sdb P ++ (sdb N ++ c))))))).drop 8 = sbits s ++ (tbits z ++ (sdb P ++ (sdb N ++ c))) := by
    rw [show 8 = 3 + 5 from rfl, ← List.drop_drop, d3]
    exact List.drop_left' (by simp)
  have hf : rdf (numBits (tw hh) 2 ++ (numBits (tw v) 1 ++ (numBits 0 5 ++ (sbits s ++ (tbits z ++ (sdb P ++ (sdb N ++ c))))))) = 0 := by
    unfold rdf
    rw [if_neg (by simp; omega), d3, val_bits _ (by decide), if_neg (by simp)]
  have hS := rdS_put s (tbits z ++ (sdb P ++ (sdb N ++ c))) (by omega) (by omega)
  have hE : rdsE (sbits s ++ (tbits z ++ (sdb P ++ (sdb N ++ c)))) = 0 := by
    unfold rdsE
    rw [hS, if_neg (by simp), if_neg (by simp only; omega)]
  have hT : tgt (tbits z ++ (sdb P ++ (sdb N ++ c))) 0 (tbits z ++ (sdb P ++ (sdb N ++ c))).length = (z, 0, (tbits z).length) := by
    have := tgt_put [] (sdb P ++ (sdb N ++ c)) z (tbits z ++ (sdb P ++ (sdb N ++ c))).length a7 (by simp)
    simpa using this
  have hP := rdL_put P (sdb N ++ c) (sce_len a8) (sce_in a8)
  have hN := rdL_put N c (sce_len a9) (sce_in a9)
  rw [e0, rdH_ok hf, d8, d2, val_bits _ t2, val_bits _ t1, t3, t4, gSch_ok hE, hS]
  simp only
  rw [take_all, gZero_ok (by rw [hT]), hT]
  simp only
  rw [take_all, gPos_ok (rde_put P _ a8), hP]
  simp only
  rw [take_all, gNeg_ok (rde_put N _ a9), hN]
  simp only [hbits, List.length_append, numBits_length]

/-! ### What is read has just its bits -/
theorem lead_at (t : List Bool) : LeadIs t 0 t.length (ldn 8 t) := by
  obtain ⟨a1, a2, a3, a4⟩ := ldn_le 8 t
  exact ⟨a1, by omega, fun i hi => by rw [Nat.zero_add]; exact a3 i hi, fun h8 _ => by rw [Nat.zero_add]; exact a4 h8⟩
theorem rdU_back {t : List Bool} (h : (rdU t).2.2 = 0) : t.take (rdU t).2.1 = ubits (rdU t).1 ∧ (rdU t).2.1 ≤ t.length := by
  unfold rdU at h ⊢
  by_cases h1 : t.length < fore (ldn 8 t) + bh (ldn 8 t)
  · rw [if_pos h1] at h; exact absurd h (by decide)
  rw [if_neg h1] at h ⊢
  by_cases h2 : gU (val ((t.drop (fore (ldn 8 t))).take (bh (ldn 8 t)))) = ldn 8 t
  · rw [if_pos h2]
    have := lead_take t 0 t.length (ldn 8 t) (lead_at t) (Nat.le_refl _) (by omega)
    simp only [List.drop_zero, Nat.zero_add] at this
    simp only
    refine ⟨?_, by omega⟩
    rw [this]
    show _ = gbits (gU _) _
    rw [h2]
  · rw [if_neg h2] at h; exact absurd h (by decide)
theorem rdS_back {t : List Bool} (h : (rdS t).2.2 = 0) : t.take (rdS t).2.1 = sbits (rdS t).1 ∧ (rdS t).2.1 ≤ t.length := by
  unfold rdS at h ⊢
  by_cases h1 : t.length < fore (ldn 8 t) + bh (ldn 8 t)
  · rw [if_pos h1] at h; exact absurd h (by decide)
  rw [if_neg h1] at h ⊢
  by_cases h2 : gS (sgn (val ((t.drop (fore (ldn 8 t))).take (bh (ldn 8 t)))) (bh (ldn 8 t))) = ldn 8 t
  · rw [if_pos h2]
    have := lead_take t 0 t.length (ldn 8 t) (lead_at t) (Nat.le_refl _) (by omega)
    simp only [List.drop_zero, Nat.zero_add] at this
    simp only
    refine ⟨?_, by omega⟩
    rw [this]
    show _ = gbits (gS _) _
    rw [h2]
    unfold gbits
    congr 1
    rw [← numBits_mod, ← numBits_mod (tw _), tw_sgn (ldn_le 8 t).1 (behind_lt t (fore (ldn 8 t)) (ldn 8 t) |> fun h => by simpa using behind_lt t (fore (ldn 8 t)) (ldn 8 t))]
    rw [Nat.mod_eq_of_lt (by simpa using behind_lt t (fore (ldn 8 t)) (ldn 8 t))]
  · rw [if_neg h2] at h; exact absurd h (by decide)
theorem take_two {t a b : List Bool} {i j : Nat} (h1 : t.take i = a) (h2 : (t.drop i).take j = b) : t.take (i + j) = a ++ b := by
  rw [List.take_add, h1, h2]
theorem tw_id {n : Nat} (h : n < 18446744073709551616) : tw ((n : Nat) : Int) = n := by unfold tw; omega
theorem rdP_back {t : List Bool} (h : (rdP t).2.2 = 0) : t.take (rdP t).2.1 = ubits (tw (rdP t).1.2) ++ sbits (rdP t).1.1 ∧ (rdP t).2.1 ≤ t.length := by
  unfold rdP at h ⊢
  by_cases h1 : (rdU t).2.2 = 0
  · rw [if_neg (by simpa using h1)] at h ⊢
    by_cases h2 : 4096 < (rdU t).1
    · rw [if_pos h2] at h; exact absurd h (by decide)
    rw [if_neg h2] at h ⊢
    by_cases h3 : (rdS (t.drop (rdU t).2.1)).2.2 = 0
    · rw [if_neg (by simpa using h3)]
      obtain ⟨b1, b2⟩ := rdU_back h1
      obtain ⟨b3, b4⟩ := rdS_back h3
      simp only
      refine ⟨?_, by rw [List.length_drop] at b4; omega⟩
      rw [tw_id (by omega)]
      exact take_two b1 b3
    · rw [if_pos h3] at h; exact absurd h h3
  · rw [if_pos h1] at h; exact absurd h h1
theorem rdN_back (n : Nat) {t : List Bool} (h : (rdN n t).2.2 = 0) : t.take (rdN n t).2.1 = spb (rdN n t).1 ∧ (rdN n t).2.1 ≤ t.length ∧ (rdN n t).1.length = n := by
  induction n generalizing t with
  | zero => simp [rdN, spb]
  | succ n ih =>
    unfold rdN at h ⊢
    by_cases h1 : (rdP t).2.2 = 0
    · rw [if_neg (by simpa using h1)] at h ⊢
      simp only at h ⊢
      obtain ⟨b1, b2⟩ := rdP_back h1
      obtain ⟨b3, b4, b5⟩ := ih h
      refine ⟨?_, by rw [List.length_drop] at b4; omega, by simp [b5]⟩
      rw [spb_cons]
      exact take_two b1 b3
    · rw [if_pos h1] at h; exact absurd h h1
theorem rdL_back {t : List Bool} (h : (rdL t).2.2 = 0) : t.take (rdL t).2.1 = sdb (rdL t).1 ∧ (rdL t).2.1 ≤ t.length := by
  unfold rdL at h ⊢
  by_cases h1 : (rdU t).2.2 = 0
  · rw [if_neg (by simpa using h1)] at h ⊢
    by_cases h2 : 1024 < (rdU t).1
    · rw [if_pos h2] at h; exact absurd h (by decide)
    rw [if_neg h2] at h ⊢
    simp only at h ⊢
    obtain ⟨b1, b2⟩ := rdU_back h1
    obtain ⟨b3, b4, b5⟩ := rdN_back _ h
    refine ⟨?_, by rw [List.length_drop] at b4; omega⟩
    unfold sdb
    rw [b5]
    exact take_two b1 b3
  · rw [if_pos h1] at h; exact absurd h h1
theorem rde_back {t : List Bool} (h : rde t = 0) : t.take (rdL t).2.1 = sdb (rdL t).1 ∧ (rdL t).2.1 ≤ t.length ∧ sce (rdL t).1 = 0 := by
  unfold rde at h
  by_cases h1 : (rdL t).2.2 = 0
  · rw [if_neg (by simpa using h1)] at h
    obtain ⟨b1, b2⟩ := rdL_back h1
    exact ⟨b1, b2, h⟩
  · rw [if_pos h1] at h; exact absurd h h1
theorem val_take_nb (t : List Bool) (n : Nat) (h : n ≤ t.length) : numBits (val (t.take n)) n = t.take n := by
  have := numBits_val (t.take n)
  rwa [List.length_take, Nat.min_eq_left h] at this
theorem tgt_back {t : List Bool} (h : (tgt t 0 t.length).2.1 = 0) : t.take (tgt t 0 t.length).2.2 = tbits (tgt t 0 t.length).1 ∧ (tgt t 0 t.length).2.2 ≤ t.length ∧ (tgt t 0 t.length).1 < inf := by
  unfold tgt at h ⊢
  simp only [Nat.sub_zero, List.drop_zero, Nat.zero_add] at h ⊢
  by_cases h1 : t.length < 8
  · rw [if_pos h1] at h; exact absurd h (by decide)
  rw [if_neg h1] at h ⊢
  have hv := val_take_nb t 8 (by omega)
  have hlt : val (t.take 8) < 2 ^ 8 := Nat.lt_of_lt_of_le (val_lt _) (Nat.pow_le_pow_right (by decide) (by simp; omega))
  by_cases h2 : val (t.take 8) = 0
  · rw [if_pos h2]
    rw [h2] at hv
    refine ⟨?_, by simp only; omega, by simp only; unfold inf; omega⟩
    simp only
    rw [← hv]
    decide +kernel
  rw [if_neg h2] at h ⊢
  by_cases h3 : val (t.take 8) < 255
  · rw [if_pos h3]
    have hp := tby_power (val (t.take 8)) (by omega) (by omega)
    simp only
    refine ⟨?_, by omega, by unfold inf; omega⟩
    unfold tbits
    rw [hp, if_neg (by omega), hv]
  rw [if_neg h3] at h ⊢
  by_cases h4 : t.length - 8 < 64
  · rw [if_pos h4] at h; exact absurd h (by decide)
  rw [if_neg h4] at h ⊢
  have hw := val_take_nb (t.drop 8) 64 (by simp; omega)
  by_cases h5 : inf ≤ val ((t.drop 8).take 64)
  · rw [if_pos h5] at h; exact absurd h (by decide)
  rw [if_neg h5] at h ⊢
  by_cases h6 : tby (val ((t.drop 8).take 64)) = 255
  · rw [if_pos h6]
    simp only
    refine ⟨?_, by omega, by omega⟩
    unfold tbits
    rw [if_pos h6, hw]
    have e8 : val (t.take 8) = 255 := by omega
    rw [e8] at hv
    rw [hv]
    exact take_two (i := 8) (j := 64) rfl rfl
  · rw [if_neg h6] at h; exact absurd h (by decide)
theorem numBits_five : numBits 0 5 = [false, false, false, false, false] := by decide
/-- What is read has just its bits, and is right. -/
theorem rdH_back {t : List Bool} (h : (rdH t).e = 0) : t.take (rdH t).u = hbits (rdH t).h ∧ (rdH t).u ≤ t.length ∧ (hce (rdH t).h).1 = 0 := by
  by_cases h1 : rdf t = 0
  case neg => rw [rdH_no h1] at h; exact absurd h h1
  rw [rdH_ok h1] at h ⊢
  have hl : 8 ≤ t.length ∧ val ((t.drop 3).take 5) = 0 := by
    unfold rdf at h1
    by_cases g1 : t.length < 8
    · rw [if_pos g1] at h1; exact absurd h1 (by decide)
    rw [if_neg g1] at h1
    by_cases g2 : val ((t.drop 3).take 5) = 0
    · exact ⟨by omega, g2⟩
    · rw [if_pos g2] at h1; exact absurd h1 (by decide)
  have n2 := val_take_nb t 2 (by omega)
  have n1 := val_take_nb (t.drop 2) 1 (by simp; omega)
  have n5 := val_take_nb (t.drop 3) 5 (by simp; omega)
  rw [hl.2] at n5
  have v2 : val (t.take 2) < 2 ^ 2 := Nat.lt_of_lt_of_le (val_lt _) (Nat.pow_le_pow_right (by decide) (by simp; omega))
  have v1 : val ((t.drop 2).take 1) < 2 ^ 1 := Nat.lt_of_lt_of_le (val_lt _) (Nat.pow_le_pow_right (by decide) (by simp; omega))
  have b8 : t.take 8 = numBits (val (t.take 2)) 2 ++ numBits (val ((t.drop 2).take 1)) 1 ++ numBits 0 5 := by
    rw [n5, n1, n2]
    exact take_two (i := 3) (j := 5) (take_two (i := 2) (j := 1) rfl rfl) rfl
  generalize val (t.take 2) = V2 at *
  generalize val ((t.drop 2).take 1) = V1 at *
  by_cases h2 : rdsE (t.drop 8) = 0
  case neg => rw [gSch_no h2] at h; exact absurd h h2
  rw [gSch_ok h2] at h ⊢
  have hS : (rdS (t.drop 8)).2.2 = 0 ∧ -4 ≤ (rdS (t.drop 8)).1 ∧ (rdS (t.drop 8)).1 ≤ 8 := by
    unfold rdsE at h2
    by_cases g1 : (rdS (t.drop 8)).2.2 = 0
    · rw [if_neg (by simpa using g1)] at h2
      by_cases g2 : (rdS (t.drop 8)).1 < -4 ∨ 8 < (rdS (t.drop 8)).1
      · rw [if_pos g2] at h2; exact absurd h2 (by decide)
      · exact ⟨g1, by omega, by omega⟩
    · rw [if_pos g1] at h2; exact absurd h2 g1
  obtain ⟨s1, s2⟩ := rdS_back hS.1
  have bS := take_two b8 s1
  rw [List.drop_drop] at h ⊢
  rw [List.length_drop] at s2
  have lS : 8 + (rdS (t.drop 8)).2.1 ≤ t.length := by omega
  have hs := hS.2
  generalize (rdS (t.drop 8)).1 = S at *
  generalize 8 + (rdS (t.drop 8)).2.1 = q1 at *
  clear s1 s2 hS b8 h2
  by_cases h3 : (tgt (t.drop q1) 0 (t.drop q1).length).2.1 = 0
  case neg => rw [gZero_no h3] at h; exact absurd h (by simp only [wrg]; omega)
  rw [gZero_ok h3] at h ⊢
  obtain ⟨z1, z2, z3⟩ := tgt_back h3
  have bZ := take_two bS z1
  rw [List.drop_drop] at h ⊢
  rw [List.length_drop] at z2
  have lZ : q1 + (tgt (t.drop q1) 0 (t.drop q1).length).2.2 ≤ t.length := by rw [List.length_drop]; omega
  generalize (tgt (t.drop q1) 0 (t.drop q1).length).1 = Z at *
  generalize q1 + (tgt (t.drop q1) 0 (t.drop q1).length).2.2 = q2 at *
  clear z1 z2 bS h3
  by_cases h4 : rde (t.drop q2) = 0
  case neg => rw [gPos_no h4] at h; exact absurd h h4
  rw [gPos_ok h4] at h ⊢
  obtain ⟨p1, p2, p3⟩ := rde_back h4
  have bP := take_two bZ p1
  rw [List.drop_drop] at h ⊢
  rw [List.length_drop] at p2
  have lP : q2 + (rdL (t.drop q2)).2.1 ≤ t.length := by omega
  generalize (rdL (t.drop q2)).1 = P at *
  generalize q2 + (rdL (t.drop q2)).2.1 = q3 at *
  clear p1 p2 bZ h4
  by_cases h5 : rde (t.drop q3) = 0
  case neg => rw [gNeg_no h5] at h; exact absurd h h5
  rw [gNeg_ok h5]
  obtain ⟨e1, e2, e3⟩ := rde_back h5
  have bN := take_two bP e1
  rw [List.length_drop] at e2
  simp only
  refine ⟨?_, by omega, hce_right ⟨by simp only; omega, by simp only; omega, by simp only; omega, by simp only; omega, hs.1, hs.2, z3, p3, e3⟩⟩
  rw [bN]
  unfold hbits
  simp only
  rw [tw_id (by omega), tw_id (by omega)]
end Go.Proofs.YtkphonepblkcdaaGreatDoor
