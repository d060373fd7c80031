/-
  Heads by themselves (no program): what is wrong with one, its bits, what bits begin with.
-/
import Derived.Test.YtkphonepblkcdaaGreatDoorGA
import Derived.Test.YtkphonepblkcdaaGreatDoorGroups
import Derived.Test.YtkphonepblkcdaaGreatDoorThrs
namespace Go.Proofs.YtkphonepblkcdaaGreatDoor
open Bits Spans Groups Thrs
set_option linter.unusedSimpArgs false
set_option linter.unusedVariables false

/-- A head: variant, hint, schema, zero threshold, the spans of both sides. -/
structure Hd where
  v : Int
  h : Int
  s : Int
  z : Nat
  P : List Sp
  N : List Sp

/-- What is wrong with a side. -/
def sce (l : List Sp) : Int := if chk l = 0 then (if cnn l = true then 0 else 23) else chk l
def nmVariant : ByteArray := ⟨#[118, 97, 114, 105, 97, 110, 116]⟩
def nmHint : ByteArray := ⟨#[104, 105, 110, 116]⟩
def nmSchema : ByteArray := ⟨#[115, 99, 104, 101, 109, 97]⟩
def nmZero : ByteArray := ⟨#[122, 101, 114, 111]⟩
def nmPos : ByteArray := ⟨#[112, 111, 115]⟩
def nmNeg : ByteArray := ⟨#[110, 101, 103]⟩
def nmFlags : ByteArray := ⟨#[102, 108, 97, 103, 115]⟩
/-- What is wrong with a head, and where. -/
def hce (h : Hd) : Int × ByteArray :=
  if h.v < 0 ∨ 1 < h.v then (25, nmVariant) else if h.h < 0 ∨ 3 < h.h then (26, nmHint) else if h.s < -4 ∨ 8 < h.s then (21, nmSchema)
  else if ¬ h.z < inf then (11, nmZero) else if sce h.P ≠ 0 then (sce h.P, nmPos) else (sce h.N, nmNeg)
theorem sce_zero {l : List Sp} : sce l = 0 ↔ chk l = 0 ∧ cnn l = true := by
  unfold sce
  by_cases h : chk l = 0
  · rw [if_pos h]
    by_cases h2 : cnn l = true
    · simp [h, h2]
    · simp [h, h2]
  · rw [if_neg h]; simp [h]
theorem sce_len {l : List Sp} (h : sce l = 0) : l.length ≤ 1024 := (chk_zero.1 (sce_zero.1 h).1).1
theorem ok_in {f : Bool} {a b : Int} {l : List Sp} (h : ok f a b l) : ∀ s ∈ l, 0 ≤ s.2 ∧ s.2 ≤ 4096 ∧ -1048576 ≤ s.1 ∧ s.1 ≤ 2097152 := by
  induction l generalizing f a b with
  | nil => simp
  | cons x r ih =>
    intro s hs
    obtain ⟨⟨h1, h2, h3, h4⟩, _, _, _, h5⟩ := h
    rcases List.mem_cons.1 hs with rfl | hs
    · refine ⟨h3, h4, ?_, ?_⟩
      · cases f <;> simp [lo] at h1 <;> omega
      · cases f <;> simp [hi] at h2 <;> omega
    · exact ih h5 s hs
theorem sce_in {l : List Sp} (h : sce l = 0) : ∀ s ∈ l, 0 ≤ s.2 ∧ s.2 ≤ 4096 ∧ -1048576 ≤ s.1 ∧ s.1 ≤ 2097152 := ok_in (chk_zero.1 (sce_zero.1 h).1).2
theorem hce_zero {h : Hd} (e : (hce h).1 = 0) : 0 ≤ h.v ∧ h.v ≤ 1 ∧ 0 ≤ h.h ∧ h.h ≤ 3 ∧ -4 ≤ h.s ∧ h.s ≤ 8 ∧ h.z < inf ∧ sce h.P = 0 ∧ sce h.N = 0 := by
  unfold hce at e
  by_cases h1 : h.v < 0 ∨ 1 < h.v
  · rw [if_pos h1] at e; simp at e
  rw [if_neg h1] at e
  by_cases h2 : h.h < 0 ∨ 3 < h.h
  · rw [if_pos h2] at e; simp at e
  rw [if_neg h2] at e
  by_cases h3 : h.s < -4 ∨ 8 < h.s
  · rw [if_pos h3] at e; simp at e
  rw [if_neg h3] at e
  by_cases h4 : h.z < inf
  · rw [if_neg (by simpa using h4)] at e
    by_cases h5 : sce h.P = 0
    · rw [if_neg (by simpa using h5)] at e
      exact ⟨by omega, by omega, by omega, by omega, by omega, by omega, h4, h5, e⟩
    · rw [if_pos h5] at e; exact absurd e h5
  · rw [if_pos h4] at e; simp at e
theorem hce_right {h : Hd} (a : 0 ≤ h.v ∧ h.v ≤ 1 ∧ 0 ≤ h.h ∧ h.h ≤ 3 ∧ -4 ≤ h.s ∧ h.s ≤ 8 ∧ h.z < inf ∧ sce h.P = 0 ∧ sce h.N = 0) : (hce h).1 = 0 := by
  obtain ⟨a1, a2, a3, a4, a5, a6, a7, a8, a9⟩ := a
  unfold hce
  rw [if_neg (by omega), if_neg (by omega), if_neg (by omega), if_neg (by simpa using a7), if_neg (by simpa using a8)]
  exact a9

/-- The bits of a side's spans, of a side, of a head. -/
def spb (l : List Sp) : List Bool := l.flatMap fun s => ubits (tw s.2) ++ sbits s.1
def sdb (l : List Sp) : List Bool := ubits l.length ++ spb l
def hbits (h : Hd) : List Bool := numBits (tw h.h) 2 ++ numBits (tw h.v) 1 ++ numBits 0 5 ++ sbits h.s ++ tbits h.z ++ sdb h.P ++ sdb h.N
theorem ubits_le (v : Nat) : (ubits v).length ≤ 72 := gbits_le _ (gU_le _)
theorem sbits_le (v : Int) : (sbits v).length ≤ 72 := gbits_le _ (gS_le _)
theorem spb_append (l m : List Sp) : spb (l ++ m) = spb l ++ spb m := by simp [spb]
theorem spb_one (s : Sp) : spb [s] = ubits (tw s.2) ++ sbits s.1 := by simp [spb]
theorem spb_le (l : List Sp) : (spb l).length ≤ 144 * l.length := by
  induction l with
  | nil => simp [spb]
  | cons s r ih =>
    have e : spb (s :: r) = (ubits (tw s.2) ++ sbits s.1) ++ spb r := by simp [spb]
    have := ubits_le (tw s.2)
    have := sbits_le s.1
    rw [e]
    simp only [List.length_append, List.length_cons]
    omega
theorem sdb_le (l : List Sp) : (sdb l).length ≤ 144 * l.length + 72 := by
  have := spb_le l
  have := ubits_le l.length
  unfold sdb
  rw [List.length_append]
  omega
theorem hbits_le (h : Hd) : (hbits h).length ≤ 400 + 144 * h.P.length + 144 * h.N.length := by
  have := sdb_le h.P
  have := sdb_le h.N
  have := sbits_le h.s
  have := tbits_le h.z
  unfold hbits
  simp only [List.length_append, numBits_length]
  omega

/-! ### What bits begin with -/
/-- How many ones stand ahead, n at most. -/
def ldn : Nat → List Bool → Nat
  | 0, _ => 0
  | n + 1, true :: r => ldn n r + 1
  | _, _ => 0
theorem ldn_le (n : Nat) (t : List Bool) : ldn n t ≤ n ∧ ldn n t ≤ t.length ∧ (∀ i, i < ldn n t → t.getD i false = true) ∧ (ldn n t < n → t.getD (ldn n t) false = false) := by
  induction n generalizing t with
  | zero => simp [ldn]
  | succ n ih =>
    cases t with
    | nil => simp [ldn]
    | cons b r =>
      cases b
      · simp [ldn]
      · obtain ⟨h1, h2, h3, h4⟩ := ih r
        refine ⟨by simp [ldn]; omega, by simp [ldn]; omega, ?_, ?_⟩
        · intro i hi
          rcases i with _ | i
          · rfl
          · have := h3 i (by simp [ldn] at hi; omega)
            simpa using this
        · intro h
          have := h4 (by simp [ldn] at h; omega)
          simpa [ldn] using this
/-- The number without a sign that bits begin with: it, how many bits it has, the error. -/
def rdU (t : List Bool) : Nat × Nat × Int :=
  if t.length < fore (ldn 8 t) + bh (ldn 8 t) then (0, 0, 16)
  else if gU (val ((t.drop (fore (ldn 8 t))).take (bh (ldn 8 t)))) = ldn 8 t then (val ((t.drop (fore (ldn 8 t))).take (bh (ldn 8 t))), fore (ldn 8 t) + bh (ldn 8 t), 0)
  else (0, 0, 10)
/-- The number with a sign likewise. -/
def rdS (t : List Bool) : Int × Nat × Int :=
  if t.length < fore (ldn 8 t) + bh (ldn 8 t) then (0, 0, 16)
  else if gS (sgn (val ((t.drop (fore (ldn 8 t))).take (bh (ldn 8 t)))) (bh (ldn 8 t))) = ldn 8 t then (sgn (val ((t.drop (fore (ldn 8 t))).take (bh (ldn 8 t)))) (bh (ldn 8 t)), fore (ldn 8 t) + bh (ldn 8 t), 0)
  else (0, 0, 10)
/-- The span that bits begin with. -/
def rdP (t : List Bool) : Sp × Nat × Int :=
  if (rdU t).2.2 ≠ 0 then ((0, 0), 0, (rdU t).2.2)
  else if 4096 < (rdU t).1 then ((0, 0), 0, 20)
  else if (rdS (t.drop (rdU t).2.1)).2.2 ≠ 0 then ((0, 0), 0, (rdS (t.drop (rdU t).2.1)).2.2)
  else (((rdS (t.drop (rdU t).2.1)).1, ((rdU t).1 : Int)), (rdU t).2.1 + (rdS (t.drop (rdU t).2.1)).2.1, 0)
/-- So many spans: those that were read, how many bits they have, the error. -/
def rdN : Nat → List Bool → List Sp × Nat × Int
  | 0, _ => ([], 0, 0)
  | n + 1, t => if (rdP t).2.2 ≠ 0 then ([], 0, (rdP t).2.2)
    else ((rdP t).1 :: (rdN n (t.drop (rdP t).2.1)).1, (rdP t).2.1 + (rdN n (t.drop (rdP t).2.1)).2.1, (rdN n (t.drop (rdP t).2.1)).2.2)
/-- The spans of a side: those that were read, how many bits, the error. -/
def rdL (t : List Bool) : List Sp × Nat × Int :=
  if (rdU t).2.2 ≠ 0 then ([], 0, (rdU t).2.2)
  else if 1024 < (rdU t).1 then ([], 0, 12)
  else ((rdN (rdU t).1 (t.drop (rdU t).2.1)).1, (rdU t).2.1 + (rdN (rdU t).1 (t.drop (rdU t).2.1)).2.1, (rdN (rdU t).1 (t.drop (rdU t).2.1)).2.2)
/-- What is wrong with a side that bits begin with. -/
def rde (t : List Bool) : Int := if (rdL t).2.2 ≠ 0 then (rdL t).2.2 else sce (rdL t).1
/-- What bits begin with: a head, how many bits it has; what is wrong, where, the number there. -/
structure Got where
  h : Hd
  u : Nat
  e : Int
  p : ByteArray
  n : Nat
def noHd : Hd := ⟨0, 0, 0, 0, [], []⟩
def wrg (e : Int) (p : ByteArray) (n : Nat) : Got := ⟨noHd, 0, e, p, n⟩
def gNeg (v h s : Int) (z : Nat) (P : List Sp) (t : List Bool) (u : Nat) : Got :=
  if rde t ≠ 0 then wrg (rde t) nmNeg (rdL t).1.length else ⟨⟨v, h, s, z, P, (rdL t).1⟩, u + (rdL t).2.1, 0, nmNeg, 0⟩
def gPos (v h s : Int) (z : Nat) (t : List Bool) (u : Nat) : Got :=
  if rde t ≠ 0 then wrg (rde t) nmPos (rdL t).1.length else gNeg v h s z (rdL t).1 (t.drop (rdL t).2.1) (u + (rdL t).2.1)
def gZero (v h s : Int) (t : List Bool) (u : Nat) : Got :=
  if (tgt t 0 t.length).2.1 ≠ 0 then wrg ((tgt t 0 t.length).2.1 : Nat) nmZero 0 else gPos v h s (tgt t 0 t.length).1 (t.drop (tgt t 0 t.length).2.2) (u + (tgt t 0 t.length).2.2)
/-- What is wrong with a schema that bits begin with. -/
def rdsE (t : List Bool) : Int := if (rdS t).2.2 ≠ 0 then (rdS t).2.2 else if (rdS t).1 < -4 ∨ 8 < (rdS t).1 then 21 else 0
def gSch (v h : Int) (t : List Bool) (u : Nat) : Got :=
  if rdsE t ≠ 0 then wrg (rdsE t) nmSchema 0 else gZero v h (rdS t).1 (t.drop (rdS t).2.1) (u + (rdS t).2.1)
/-- What is wrong with flags. -/
def rdf (t : List Bool) : Int := if t.length < 8 then 16 else if val ((t.drop 3).take 5) ≠ 0 then 10 else 0
def rdH (t : List Bool) : Got :=
  if rdf t ≠ 0 then wrg (rdf t) nmFlags 0 else gSch (val ((t.drop 2).take 1) : Nat) (val (t.take 2) : Nat) (t.drop 8) 8

theorem gNeg_no {v h s : Int} {z : Nat} {P : List Sp} {t : List Bool} {u : Nat} (e : rde t ≠ 0) : gNeg v h s z P t u = wrg (rde t) nmNeg (rdL t).1.length := by unfold gNeg; rw [if_pos e]
theorem gNeg_ok {v h s : Int} {z : Nat} {P : List Sp} {t : List Bool} {u : Nat} (e : rde t = 0) : gNeg v h s z P t u = ⟨⟨v, h, s, z, P, (rdL t).1⟩, u + (rdL t).2.1, 0, nmNeg, 0⟩ := by unfold gNeg; rw [if_neg (by simpa using e)]
theorem gPos_no {v h s : Int} {z : Nat} {t : List Bool} {u : Nat} (e : rde t ≠ 0) : gPos v h s z t u = wrg (rde t) nmPos (rdL t).1.length := by unfold gPos; rw [if_pos e]
theorem gPos_ok {v h s : Int} {z : Nat} {t : List Bool} {u : Nat} (e : rde t = 0) : gPos v h s z t u = gNeg v h s z (rdL t).1 (t.drop (rdL t).2.1) (u + (rdL t).2.1) := by unfold gPos; rw [if_neg (by simpa using e)]
theorem gZero_no {v h s : Int} {t : List Bool} {u : Nat} (e : (tgt t 0 t.length).2.1 ≠ 0) : gZero v h s t u = wrg ((tgt t 0 t.length).2.1 : Nat) nmZero 0 := by unfold gZero; rw [if_pos e]
theorem gZero_ok {v h s : Int} {t : List Bool} {u : Nat} (e : (tgt t 0 t.length).2.1 = 0) : gZero v h s t u = gPos v h s (tgt t 0 t.length).1 (t.drop (tgt t 0 t.length).2.2) (u + (tgt t 0 t.length).2.2) := by unfold gZero; rw [if_neg (by simpa using e)]
theorem gSch_no {v h : Int} {t : List Bool} {u : Nat} (e : rdsE t ≠ 0) : gSch v h t u = wrg (rdsE t) nmSchema 0 := by unfold gSch; rw [if_pos e]
theorem gSch_ok {v h : Int} {t : List Bool} {u : Nat} (e : rdsE t = 0) : gSch v h t u = gZero v h (rdS t).1 (t.drop (rdS t).2.1) (u + (rdS t).2.1) := by unfold gSch; rw [if_neg (by simpa using e)]
theorem rdH_no {t : List Bool} (e : rdf t ≠ 0) : rdH t = wrg (rdf t) nmFlags 0 := by unfold rdH; rw [if_pos e]
theorem rdH_ok {t : List Bool} (e : rdf t = 0) : rdH t = gSch (val ((t.drop 2).take 1) : Nat) (val (t.take 2) : Nat) (t.drop 8) 8 := by unfold rdH; rw [if_neg (by simpa using e)]
end Go.Proofs.YtkphonepblkcdaaGreatDoor
