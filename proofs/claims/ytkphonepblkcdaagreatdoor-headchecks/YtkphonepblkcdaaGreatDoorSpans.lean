/-
  Spans and places, without any program: a right list, its places, the canonical list of places, runs, unions.
-/
import Derived.WalkKit
namespace Go.Proofs.YtkphonepblkcdaaGreatDoor.Spans
set_option linter.unusedSimpArgs false
set_option linter.unusedVariables false

/-- Offset, Len. -/
abbrev Sp := Int × Int
def lo (f : Bool) : Int := if f then -1048576 else 0
def hi (f : Bool) : Int := if f then 1048576 else 2097152
/-- A span's own numbers are within their limits (f: it is the first one). -/
def bnd (f : Bool) (s : Sp) : Prop := lo f ≤ s.1 ∧ s.1 ≤ hi f ∧ 0 ≤ s.2 ∧ s.2 ≤ 4096
/-- The rest of a list is right: pl places came ahead, the last one ended at bh. -/
def ok (f : Bool) (pl bh : Int) : List Sp → Prop
  | [] => True
  | s :: r => bnd f s ∧ pl + s.2 ≤ 4096 ∧ bh + s.1 ≤ 1048576 ∧ bh + s.1 + s.2 - 1 ≤ 1048576 ∧ ok false (pl + s.2) (bh + s.1 + s.2) r
/-- The same, reckoned. -/
def okB (f : Bool) (pl bh : Int) : List Sp → Bool
  | [] => true
  | s :: r => (decide (lo f ≤ s.1) && decide (s.1 ≤ hi f) && decide (0 ≤ s.2) && decide (s.2 ≤ 4096)) && decide (pl + s.2 ≤ 4096) && decide (bh + s.1 ≤ 1048576) && decide (bh + s.1 + s.2 - 1 ≤ 1048576) && okB false (pl + s.2) (bh + s.1 + s.2) r
theorem okB_iff (f : Bool) (pl bh : Int) (l : List Sp) : okB f pl bh l = true ↔ ok f pl bh l := by
  induction l generalizing f pl bh with
  | nil => simp [okB, ok]
  | cons s r ih => simp [okB, ok, bnd, ih, and_assoc]
/-- Check's answer. -/
def chk (l : List Sp) : Int := if 1024 < l.length then 12 else if okB true 0 0 l = true then 0 else 20
open Classical in
theorem chk_def (l : List Sp) : chk l = if 1024 < l.length then 12 else if ok true 0 0 l then 0 else 20 := by
  unfold chk
  by_cases h : ok true 0 0 l
  · rw [if_pos ((okB_iff _ _ _ _).2 h), if_pos h]
  · rw [if_neg (fun hh => h ((okB_iff _ _ _ _).1 hh)), if_neg h]
theorem chk_zero {l : List Sp} : chk l = 0 ↔ l.length ≤ 1024 ∧ ok true 0 0 l := by
  rw [chk_def]
  split
  · constructor
    · intro h; simp at h
    · intro h; omega
  · split
    · constructor
      · intro _; exact ⟨by omega, by assumption⟩
      · intro _; rfl
    · constructor
      · intro h; simp at h
      · intro h; exact absurd h.2 (by assumption)
theorem chk_cases (l : List Sp) : chk l = 0 ∨ chk l = 12 ∨ chk l = 20 := by
  unfold chk; split
  · simp
  · split <;> simp

/-- n places from a on. -/
def run (a : Int) : Nat → List Int
  | 0 => []
  | n + 1 => a :: run (a + 1) n
/-- All places, the list's first Offset being from a on. -/
def plc (a : Int) : List Sp → List Int
  | [] => []
  | s :: r => run (a + s.1) s.2.toNat ++ plc (a + s.1 + s.2) r
/-- Where a list ends. -/
def bhd (a : Int) : List Sp → Int
  | [] => a
  | s :: r => bhd (a + s.1 + s.2) r
/-- How many places. -/
def cnt : List Sp → Int
  | [] => 0
  | s :: r => s.2 + cnt r
/-- Places rise, from b on. -/
def rises (b : Int) : List Int → Prop
  | [] => True
  | x :: r => b ≤ x ∧ x ≤ 1048576 ∧ rises (x + 1) r
def risesB (b : Int) : List Int → Bool
  | [] => true
  | x :: r => decide (b ≤ x) && decide (x ≤ 1048576) && risesB (x + 1) r
theorem risesB_iff (b : Int) (l : List Int) : risesB b l = true ↔ rises b l := by
  induction l generalizing b with
  | nil => simp [risesB, rises]
  | cons x r ih => simp [risesB, rises, ih, and_assoc]
/-- Runs of places, one behind the other. -/
def rn (prev : Option Int) : List Int → Nat
  | [] => 0
  | x :: r => (if prev = some (x - 1) then 0 else 1) + rn (some x) r
/-- No empty span, none that touches the one ahead. -/
def shp (f : Bool) : List Sp → Prop
  | [] => True
  | s :: r => 0 < s.2 ∧ (f = true ∨ 0 < s.1) ∧ shp false r
def shpB (f : Bool) : List Sp → Bool
  | [] => true
  | s :: r => decide (0 < s.2) && (f || decide (0 < s.1)) && shpB false r
theorem shpB_iff (f : Bool) (l : List Sp) : shpB f l = true ↔ shp f l := by
  induction l generalizing f with
  | nil => simp [shpB, shp]
  | cons s r ih => simp [shpB, shp, ih, and_assoc]
/-- The canonical list of places, the first Offset being from bh on. -/
def rns (bh : Int) : List Int → List Sp
  | [] => []
  | p :: r => match rns (p + 1) r with
    | [] => [(p - bh, 1)]
    | s :: t => if s.1 = 0 then (p - bh, s.2 + 1) :: t else (p - bh, 1) :: s :: t

theorem run_length (a : Int) (n : Nat) : (run a n).length = n := by
  induction n generalizing a with
  | zero => rfl
  | succ n ih => simp [run, ih]
theorem run_snoc (a : Int) (n : Nat) : run a (n + 1) = run a n ++ [a + n] := by
  induction n generalizing a with
  | zero => simp [run]
  | succ n ih =>
    show a :: run (a + 1) (n + 1) = a :: run (a + 1) n ++ [a + ((n + 1 : Nat) : Int)]
    rw [ih (a + 1)]
    simp
    omega
theorem plc_append (a : Int) (l m : List Sp) : plc a (l ++ m) = plc a l ++ plc (bhd a l) m := by
  induction l generalizing a with
  | nil => rfl
  | cons s l ih => simp [plc, bhd, ih]
theorem bhd_append (a : Int) (l m : List Sp) : bhd a (l ++ m) = bhd (bhd a l) m := by
  induction l generalizing a with
  | nil => rfl
  | cons s l ih => simp [bhd, ih]
theorem cnt_append (l m : List Sp) : cnt (l ++ m) = cnt l + cnt m := by
  induction l with
  | nil => simp [cnt]
  | cons s l ih => simp [cnt, ih]; omega
theorem rises_mono {b c : Int} {l : List Int} (h : rises c l) (hb : b ≤ c) : rises b l := by
  cases l with
  | nil => trivial
  | cons x r => exact ⟨by have := h.1; omega, h.2⟩
theorem rises_run {b a : Int} {n : Nat} {l : List Int} (hb : b ≤ a) (ha : 0 < n → a + n - 1 ≤ 1048576) (h : rises (a + n) l) : rises b (run a n ++ l) := by
  induction n generalizing a b with
  | zero => exact rises_mono h (by simp; omega)
  | succ n ih =>
    refine ⟨hb, by have := ha (by omega); omega, ih (by omega) (fun _ => by have := ha (by omega); omega) ?_⟩
    rw [show a + 1 + (n : Int) = a + ((n + 1 : Nat) : Int) from by omega]
    exact h
theorem rises_mem {b : Int} {l : List Int} (h : rises b l) : ∀ x ∈ l, b ≤ x ∧ x ≤ 1048576 := by
  induction l generalizing b with
  | nil => simp
  | cons y r ih =>
    intro x hx
    rcases List.mem_cons.1 hx with rfl | hx
    · exact ⟨h.1, h.2.1⟩
    · have := ih h.2.2 x hx
      have := h.1
      omega
theorem rises_pair {b : Int} {l : List Int} (h : rises b l) : l.Pairwise (· < ·) := by
  induction l generalizing b with
  | nil => exact List.Pairwise.nil
  | cons y r ih =>
    refine List.Pairwise.cons (fun x hx => ?_) (ih h.2.2)
    have := rises_mem h.2.2 x hx
    omega
theorem rises_of {b : Int} {l : List Int} (hp : l.Pairwise (· < ·)) (hm : ∀ x ∈ l, b ≤ x ∧ x ≤ 1048576) : rises b l := by
  induction l generalizing b with
  | nil => trivial
  | cons y r ih =>
    rw [List.pairwise_cons] at hp
    refine ⟨(hm y (by simp)).1, (hm y (by simp)).2, ih hp.2 (fun x hx => ?_)⟩
    have := hp.1 x hx
    have := hm x (by simp [hx])
    omega
theorem ok_rises {f : Bool} {pl bh : Int} {l : List Sp} (h : ok f pl bh l) {b : Int} (hb : b ≤ bh + lo f) : rises b (plc bh l) := by
  induction l generalizing f pl bh b with
  | nil => trivial
  | cons s r ih =>
    obtain ⟨⟨h1, h2, h3, h4⟩, h5, h6, h7, h8⟩ := h
    have e : ((s.2.toNat : Nat) : Int) = s.2 := Int.toNat_of_nonneg h3
    refine rises_run (by omega) (fun _ => by omega) ?_
    rw [e]
    exact ih h8 (by simp [lo])
theorem ok_rising {l : List Sp} (h : ok true 0 0 l) : rises (-1048576) (plc 0 l) := ok_rises h (by simp [lo])
theorem ok_cnt {f : Bool} {pl bh : Int} {l : List Sp} (h : ok f pl bh l) : ((plc bh l).length : Int) = cnt l ∧ (0 ≤ cnt l) ∧ (pl ≤ 4096 → pl + cnt l ≤ 4096) := by
  induction l generalizing f pl bh with
  | nil => simp [plc, cnt]
  | cons s r ih =>
    obtain ⟨⟨h1, h2, h3, h4⟩, h5, h6, h7, h8⟩ := h
    obtain ⟨i1, i2, i3⟩ := ih h8
    have e : ((s.2.toNat : Nat) : Int) = s.2 := Int.toNat_of_nonneg h3
    have := i3 h5
    simp only [plc, cnt, List.length_append, run_length]
    omega
theorem ok_at {f : Bool} {pl bh : Int} {l : List Sp} (h : ok f pl bh l) (j : Nat) (s : Sp) (hj : l[j]? = some s) : 0 ≤ s.2 ∧ s.2 ≤ 4096 ∧ -1048576 ≤ s.1 ∧ s.1 ≤ 2097152 ∧ (0 < j → 0 ≤ s.1) := by
  induction l generalizing f pl bh j with
  | nil => simp at hj
  | cons y r ih =>
    obtain ⟨⟨h1, h2, h3, h4⟩, h5, h6, h7, h8⟩ := h
    cases j with
    | zero =>
      have : y = s := by simpa using hj
      subst this
      refine ⟨h3, h4, ?_, ?_, fun h => by omega⟩
      · cases f <;> simp [lo] at h1 <;> omega
      · cases f <;> simp [hi] at h2 <;> omega
    | succ j =>
      have := ih h8 j (by simpa using hj)
      refine ⟨this.1, this.2.1, this.2.2.1, this.2.2.2.1, fun _ => ?_⟩
      cases j with
      | zero =>
        cases r with
        | nil => simp at hj
        | cons z r =>
          have : z = s := by simpa using hj
          subst this
          simpa [lo] using h8.1.1
      | succ j => exact this.2.2.2.2 (by omega)
/-- Where a right list stands behind its first k spans. -/
theorem ok_drop {l : List Sp} (h : ok true 0 0 l) (k : Nat) : ok (decide (k = 0)) (cnt (l.take k)) (bhd 0 (l.take k)) (l.drop k) := by
  induction k with
  | zero => simpa [cnt, bhd] using h
  | succ k ih =>
    by_cases hk : k < l.length
    · rw [List.drop_eq_getElem_cons hk] at ih
      rw [List.take_succ_eq_append_getElem hk, cnt_append, bhd_append]
      have := ih.2.2.2.2
      simpa [cnt, bhd] using this
    · rw [List.drop_eq_nil_of_le (by omega)]; trivial

theorem rns_head (bh p : Int) (r : List Int) : ∃ n t, rns bh (p :: r) = (p - bh, n) :: t := by
  simp only [rns]
  split
  · exact ⟨_, _, rfl⟩
  · split
    · exact ⟨_, _, rfl⟩
    · exact ⟨_, _, rfl⟩
theorem rns_length (bh p : Int) (r : List Int) : (rns bh (p :: r)).length = 1 + rn (some p) r := by
  induction r generalizing bh p with
  | nil => simp [rns, rn]
  | cons q r ih =>
    obtain ⟨n, t, e⟩ := rns_head (p + 1) q r
    have h := ih (p + 1) q
    rw [e] at h
    have e2 : rns bh (p :: q :: r) = if q - (p + 1) = 0 then (p - bh, n + 1) :: t else (p - bh, 1) :: (q - (p + 1), n) :: t := by
      rw [rns, e]
    rw [e2]
    simp only [rn, List.length_cons] at h ⊢
    by_cases hq : q - (p + 1) = 0
    · rw [if_pos hq, if_pos (by rw [show q - 1 = p from by omega])]
      simp only [List.length_cons]
      omega
    · rw [if_neg hq, if_neg (by simp; omega)]
      simp only [List.length_cons]
      omega
theorem rns_runs (bh : Int) (p : List Int) : (rns bh p).length = rn none p := by
  cases p with
  | nil => rfl
  | cons x r => rw [rns_length]; simp [rn]
theorem rns_places (bh : Int) (p : List Int) : plc bh (rns bh p) = p := by
  induction p generalizing bh with
  | nil => rfl
  | cons x r ih =>
    have h := ih (x + 1)
    simp only [rns]
    cases hc : rns (x + 1) r with
    | nil =>
      rw [hc] at h
      simp only [plc] at h ⊢
      rw [← h]
      simp [run]
      omega
    | cons s t =>
      rw [hc] at h
      by_cases h0 : s.1 = 0
      · simp only [if_pos h0]
        by_cases h2 : 0 ≤ s.2
        · simp only [plc] at h ⊢
          rw [show (s.2 + 1).toNat = s.2.toNat + 1 from by omega, run]
          rw [show bh + (x - bh) = x from by omega, List.cons_append]
          rw [h0] at h
          rw [show x + 1 + 0 = x + 1 from by omega] at h
          rw [show x + (s.2 + 1) = x + 1 + s.2 from by omega, h]
        · exfalso
          -- lengths are never below 1
          have key : ∀ (b : Int) (l : List Int), ∀ y ∈ rns b l, 0 < y.2 := by
            intro b l
            induction l generalizing b with
            | nil => simp [rns]
            | cons z l ihl =>
              have := ihl (z + 1)
              simp only [rns]
              split
              · simp
              · rename_i s' t' e'
                rw [e'] at this
                split
                · intro y hy
                  rcases List.mem_cons.1 hy with rfl | hy
                  · have := this s' (by simp)
                    show 0 < s'.2 + 1
                    omega
                  · exact this y (by simp [hy])
                · intro y hy
                  rcases List.mem_cons.1 hy with rfl | hy
                  · show (0 : Int) < 1
                    omega
                  · exact this y hy
          have := key (x + 1) r s (by rw [hc]; simp)
          omega
      · simp only [if_neg h0]
        rw [plc, show (x - bh, (1 : Int)).2.toNat = 1 from rfl]
        show run (bh + (x - bh)) 1 ++ plc (bh + (x - bh) + 1) (s :: t) = _
        rw [show bh + (x - bh) = x from by omega, h]
        rfl
theorem rns_shape {b : Int} (bh : Int) {p : List Int} (h : rises b p) : shp true (rns bh p) := by
  induction p generalizing bh b with
  | nil => trivial
  | cons x r ih =>
    have hs := ih (x + 1) h.2.2
    simp only [rns]
    cases hc : rns (x + 1) r with
    | nil => exact ⟨by show (0 : Int) < 1; omega, .inl rfl, trivial⟩
    | cons s t =>
      rw [hc] at hs
      by_cases h0 : s.1 = 0
      · simp only [if_pos h0]
        exact ⟨by have := hs.1; show 0 < s.2 + 1; omega, .inl rfl, hs.2.2⟩
      · simp only [if_neg h0]
        refine ⟨by show (0 : Int) < 1; omega, .inl rfl, hs.1, .inr ?_, hs.2.2⟩
        cases r with
        | nil => simp [rns] at hc
        | cons q r =>
          obtain ⟨n, t', e⟩ := rns_head (x + 1) q r
          rw [hc] at e
          have : s = (q - (x + 1), n) := by simpa using (List.cons.inj e).1
          have := h.2.2.1
          subst s
          simp at h0 ⊢
          omega
theorem rns_run (a : Int) (m : Nat) (X : List Int) (h : ∀ s t, rns (a + m) X = s :: t → s.1 ≠ 0) (hm : 0 < m) : rns a (run a m ++ X) = (0, (m : Int)) :: rns (a + m) X := by
  induction m generalizing a with
  | zero => omega
  | succ m ih =>
    show rns a (a :: (run (a + 1) m ++ X)) = _
    by_cases h0 : m = 0
    · subst h0
      simp only [run, List.nil_append, rns]
      have h' : ∀ s t, rns (a + 1) X = s :: t → s.1 ≠ 0 := by simpa using h
      cases hc : rns (a + 1) X with
      | nil => simp [hc]
      | cons s t =>
        simp only [if_neg (h' s t hc)]
        simp [hc]
    · have hI := ih (a + 1) (by rw [show a + 1 + (m : Int) = a + ((m + 1 : Nat) : Int) from by omega]; exact h) (by omega)
      rw [rns, hI]
      simp
      rw [show a + 1 + (m : Int) = a + ((m : Int) + 1) from by omega]
/-- A list without empty spans, none touching the one ahead, is the canonical one of its places. -/
theorem rns_unique {f : Bool} (bh : Int) {l : List Sp} (h : shp f l) : rns bh (plc bh l) = l := by
  induction l generalizing bh f with
  | nil => rfl
  | cons s r ih =>
    obtain ⟨h1, h2, h3⟩ := h
    have hr := ih (bh + s.1 + s.2) h3
    have hX : ∀ u t, rns (bh + s.1 + s.2) (plc (bh + s.1 + s.2) r) = u :: t → u.1 ≠ 0 := by
      intro u t e
      rw [hr] at e
      subst e
      rcases h3.2.1 with h | h
      · cases h
      · omega
    obtain ⟨o, n⟩ := s
    simp only at h1 hr hX ⊢
    obtain ⟨m, rfl⟩ : ∃ m : Nat, n = ((m + 1 : Nat) : Int) := ⟨(n - 1).toNat, by omega⟩
    simp only [plc, Int.toNat_natCast]
    show rns bh ((bh + o) :: (run (bh + o + 1) m ++ plc (bh + o + ((m + 1 : Nat) : Int)) r)) = _
    have e1 : bh + o + 1 + (m : Int) = bh + o + ((m + 1 : Nat) : Int) := by omega
    by_cases h0 : m = 0
    · subst h0
      simp only [run, List.nil_append, rns]
      have e2 : bh + o + ((0 + 1 : Nat) : Int) = bh + o + 1 := by simp
      rw [e2] at hr hX ⊢
      rw [hr]
      cases r with
      | nil => simp; omega
      | cons u t =>
        have := hX u t hr
        simp only [if_neg this]
        simp
        omega
    · have := rns_run (bh + o + 1) m (plc (bh + o + ((m + 1 : Nat) : Int)) r) (by rw [e1]; exact hX) (by omega)
      rw [rns, this, e1, hr]
      simp
      omega
theorem shp_ok {f : Bool} {pl bh b : Int} {l : List Sp} (h : shp f l) (hr : rises b (plc bh l)) (hb : bh + lo f ≤ b) (hb2 : -1048576 ≤ bh) (hb3 : f = true → bh = 0) (hc : pl + cnt l ≤ 4096) (hpl : 0 ≤ pl) : ok f pl bh l := by
  induction l generalizing f pl bh b with
  | nil => trivial
  | cons s r ih =>
    obtain ⟨h1, h2, h3⟩ := h
    obtain ⟨o, n⟩ := s
    simp only at h1 h2
    obtain ⟨m, rfl⟩ : ∃ m : Nat, n = ((m + 1 : Nat) : Int) := ⟨(n - 1).toNat, by omega⟩
    simp only [plc, Int.toNat_natCast] at hr
    have hsplit : ∀ (k : Nat) (c a : Int) (X : List Int), rises c (run a k ++ X) → 0 < k → c ≤ a ∧ a + k - 1 ≤ 1048576 ∧ rises (a + k) X := by
      intro k
      induction k with
      | zero => intro c a X _ h; omega
      | succ k ihk =>
        intro c a X hX _
        obtain ⟨g1, g2, g3⟩ := hX
        by_cases hk : k = 0
        · subst hk
          simp only [run, List.nil_append] at g3
          exact ⟨g1, by simpa using g2, by simpa using g3⟩
        · obtain ⟨i1, i2, i3⟩ := ihk (a + 1) (a + 1) X g3 (by omega)
          refine ⟨g1, by omega, ?_⟩
          rw [show a + ((k + 1 : Nat) : Int) = a + 1 + (k : Int) from by omega]
          exact i3
    obtain ⟨i1, i2, i3⟩ := hsplit (m + 1) b (bh + o) _ hr (by omega)
    have hcn : ∀ (l : List Sp), shp false l → 0 ≤ cnt l := by
      intro l
      induction l with
      | nil => intro _; simp [cnt]
      | cons y l ihl => intro hy; have := ihl hy.2.2; have := hy.1; simp only [cnt]; omega
    have hc0 := hcn r h3
    simp only [cnt] at hc
    have hbo : -1048576 ≤ bh + o := by
      cases f
      · rcases h2 with h | h
        · cases h
        · omega
      · have := hb3 rfl
        simp [lo] at hb
        omega
    refine ⟨⟨?_, ?_, by simp only; omega, by simp only; omega⟩, by simp only; omega, by simp only; omega, by simp only; omega, ih h3 i3 (by simp [lo]) (by simp only; omega) (by simp) (by simp only; omega) (by simp only; omega)⟩
    · cases f <;> simp [lo] at hb ⊢
      · rcases h2 with h | h
        · cases h
        · omega
      · omega
    · cases f <;> simp [hi]
      · omega
      · have := hb3 rfl; omega
theorem cnt_length {f : Bool} {bh : Int} {l : List Sp} (h : shp f l) : cnt l = ((plc bh l).length : Int) := by
  induction l generalizing bh f with
  | nil => simp [cnt, plc]
  | cons s r ih =>
    have := h.1
    simp only [cnt, plc, List.length_append, run_length]
    rw [ih (bh := bh + s.1 + s.2) h.2.2]
    omega
/-- Rising places, not too many of them, have a right canonical list. -/
theorem rns_ok {p : List Int} (h : rises (-1048576) p) (hl : p.length ≤ 4096) : ok true 0 0 (rns 0 p) := by
  refine shp_ok (rns_shape 0 h) (b := -1048576) ?_ (by simp [lo]) (by omega) (fun _ => rfl) ?_ (by omega)
  · rw [rns_places]; exact h
  · rw [cnt_length (bh := 0) (rns_shape 0 h), rns_places]; omega

theorem rn_run (prev : Option Int) (a : Int) (m : Nat) (X : List Int) (hm : 0 < m) : rn prev (run a m ++ X) = (if prev = some (a - 1) then 0 else 1) + rn (some (a + m - 1)) X := by
  induction m generalizing a prev with
  | zero => omega
  | succ m ih =>
    show (if prev = some (a - 1) then 0 else 1) + rn (some a) (run (a + 1) m ++ X) = _
    by_cases h0 : m = 0
    · subst h0
      simp [run]
    · rw [ih (some a) (a + 1) (by omega)]
      rw [if_pos (show some a = some (a + 1 - 1) from by rw [show a + 1 - 1 = a from by omega])]
      rw [show a + 1 + (m : Int) - 1 = a + ((m + 1 : Nat) : Int) - 1 from by omega]
      simp
theorem rn_le (prev : Option Int) (bh : Int) (l : List Sp) : rn prev (plc bh l) ≤ l.length := by
  induction l generalizing prev bh with
  | nil => simp [plc, rn]
  | cons s r ih =>
    simp only [plc, List.length_cons]
    by_cases h0 : s.2.toNat = 0
    · rw [h0]
      have := ih prev (bh + s.1 + s.2)
      simp only [run, List.nil_append]
      omega
    · rw [rn_run _ _ _ _ (by omega)]
      have := ih (some (bh + s.1 + (s.2.toNat : Int) - 1)) (bh + s.1 + s.2)
      split <;> omega
theorem shp_of_runs {f : Bool} (bh : Int) {l : List Sp} (hs : ∀ s ∈ l, 0 ≤ s.2) (ho : ∀ (j : Nat) s, l[j]? = some s → (0 < j ∨ f = false) → 0 ≤ s.1)
    (h : rn (if f then none else some (bh - 1)) (plc bh l) = l.length) : shp f l := by
  induction l generalizing f bh with
  | nil => trivial
  | cons s r ih =>
    have h2 := hs s (by simp)
    simp only [plc, List.length_cons] at h
    by_cases h0 : s.2.toNat = 0
    · rw [h0] at h
      simp only [run, List.nil_append] at h
      have := rn_le (if f then none else some (bh - 1)) (bh + s.1 + s.2) r
      omega
    · rw [rn_run _ _ _ _ (by omega)] at h
      have e : bh + s.1 + (s.2.toNat : Int) - 1 = bh + s.1 + s.2 - 1 := by omega
      rw [e] at h
      have hle := rn_le (some (bh + s.1 + s.2 - 1)) (bh + s.1 + s.2) r
      have hc : ¬ ((if f then none else some (bh - 1)) = some (bh + s.1 - 1)) := by
        intro hc
        rw [if_pos hc] at h
        omega
      rw [if_neg hc] at h
      refine ⟨by omega, ?_, ih (f := false) (bh + s.1 + s.2) (fun y hy => hs y (by simp [hy])) (fun j y hj _ => ho (j + 1) y (by simpa using hj) (.inl (by omega))) (by simp; omega)⟩
      cases f with
      | true => exact .inl rfl
      | false =>
        refine .inr ?_
        have := ho 0 s (by simp) (.inr rfl)
        simp at hc
        omega
/-- A right list is canonical just if it has as many spans as its places have runs. -/
theorem canon_iff {l : List Sp} (h : ok true 0 0 l) : shp true l ↔ rn none (plc 0 l) = l.length := by
  constructor
  · intro hs
    rw [← rns_runs 0, rns_unique 0 hs]
  · intro hr
    refine shp_of_runs 0 (f := true) (fun s hs => ?_) (fun j s hj h0 => ?_) (by simpa using hr)
    · obtain ⟨j, hj⟩ := List.mem_iff_getElem?.1 hs
      exact (ok_at h j s hj).1
    · exact (ok_at h j s hj).2.2.2.2 (by simpa using h0)
/-- No list with the same places is shorter. -/
theorem rns_short (l : List Sp) : (rns 0 (plc 0 l)).length ≤ l.length := by rw [rns_runs]; exact rn_le _ _ _

/-- Two rising lists with the same members are one. -/
theorem rising_ext {l m : List Int} (hl : l.Pairwise (· < ·)) (hm : m.Pairwise (· < ·)) (h : ∀ x, x ∈ l ↔ x ∈ m) : l = m := by
  induction l generalizing m with
  | nil =>
    cases m with
    | nil => rfl
    | cons y r => exact absurd ((h y).2 (by simp)) (by simp)
  | cons x l ih =>
    cases m with
    | nil => exact absurd ((h x).1 (by simp)) (by simp)
    | cons y m =>
      rw [List.pairwise_cons] at hl hm
      have hxy : x = y := by
        have a := (h x).1 (by simp)
        have b := (h y).2 (by simp)
        rcases List.mem_cons.1 a with e | e
        · exact e
        · rcases List.mem_cons.1 b with e' | e'
          · exact e'.symm
          · have := hm.1 x e
            have := hl.1 y e'
            omega
      subst hxy
      congr 1
      refine ih hl.2 hm.2 (fun z => ?_)
      constructor
      · intro hz
        rcases List.mem_cons.1 ((h z).1 (by simp [hz])) with e | e
        · subst e; exact absurd (hl.1 z hz) (by omega)
        · exact e
      · intro hz
        rcases List.mem_cons.1 ((h z).2 (by simp [hz])) with e | e
        · subst e; exact absurd (hm.1 z hz) (by omega)
        · exact e

/-- All of two rising lists, each once (n: enough rounds). -/
def mg : Nat → List Int → List Int → List Int
  | 0, _, _ => []
  | _ + 1, [], [] => []
  | n + 1, x :: a, [] => x :: mg n a []
  | n + 1, [], y :: b => y :: mg n [] b
  | n + 1, x :: a, y :: b => if x < y then x :: mg n a (y :: b) else if y < x then y :: mg n (x :: a) b else x :: mg n a b
theorem mg_nil (n : Nat) : mg n [] [] = [] := by cases n <;> rfl
theorem mg_mem {n : Nat} {a b : List Int} (hn : a.length + b.length ≤ n) (z : Int) : z ∈ mg n a b ↔ z ∈ a ∨ z ∈ b := by
  induction n generalizing a b with
  | zero =>
    have ha : a = [] := List.eq_nil_of_length_eq_zero (by omega)
    have hb : b = [] := List.eq_nil_of_length_eq_zero (by omega)
    subst ha hb
    simp [mg]
  | succ n ih =>
    cases a with
    | nil =>
      cases b with
      | nil => simp [mg]
      | cons y b =>
        have := ih (a := []) (b := b) (by simp at hn ⊢; omega)
        simp [mg, this]
    | cons x a =>
      cases b with
      | nil =>
        have := ih (a := a) (b := []) (by simp at hn ⊢; omega)
        simp [mg, this]
      | cons y b =>
        simp only [mg]
        split
        · have := ih (a := a) (b := y :: b) (by simp at hn ⊢; omega)
          simp [this, or_assoc]
        · split
          · have := ih (a := x :: a) (b := b) (by simp at hn ⊢; omega)
            simp only [List.mem_cons, this]
            constructor
            · rintro (h | (h | h) | h)
              · exact .inr (.inl h)
              · exact .inl (.inl h)
              · exact .inl (.inr h)
              · exact .inr (.inr h)
            · rintro ((h | h) | (h | h))
              · exact .inr (.inl (.inl h))
              · exact .inr (.inl (.inr h))
              · exact .inl h
              · exact .inr (.inr h)
          · have hxy : x = y := by omega
            subst hxy
            have := ih (a := a) (b := b) (by simp at hn ⊢; omega)
            simp only [List.mem_cons, this]
            constructor
            · rintro (h | h | h)
              · exact .inl (.inl h)
              · exact .inl (.inr h)
              · exact .inr (.inr h)
            · rintro ((h | h) | (h | h))
              · exact .inl h
              · exact .inr (.inl h)
              · exact .inl h
              · exact .inr (.inr h)
theorem mg_pair {n : Nat} {a b : List Int} (hn : a.length + b.length ≤ n) (ha : a.Pairwise (· < ·)) (hb : b.Pairwise (· < ·)) : (mg n a b).Pairwise (· < ·) := by
  induction n generalizing a b with
  | zero => simp [mg]
  | succ n ih =>
    cases a with
    | nil =>
      cases b with
      | nil => simp [mg]
      | cons y b =>
        rw [List.pairwise_cons] at hb
        refine List.Pairwise.cons (fun z hz => ?_) (ih (by simp at hn ⊢; omega) ha hb.2)
        rw [mg_mem (by simp at hn ⊢; omega)] at hz
        rcases hz with h | h
        · simp at h
        · exact hb.1 z h
    | cons x a =>
      have ha' := ha
      rw [List.pairwise_cons] at ha
      cases b with
      | nil =>
        refine List.Pairwise.cons (fun z hz => ?_) (ih (by simp at hn ⊢; omega) ha.2 hb)
        rw [mg_mem (by simp at hn ⊢; omega)] at hz
        rcases hz with h | h
        · exact ha.1 z h
        · simp at h
      | cons y b =>
        have hb' := hb
        rw [List.pairwise_cons] at hb
        simp only [mg]
        split
        · refine List.Pairwise.cons (fun z hz => ?_) (ih (by simp at hn ⊢; omega) ha.2 hb')
          rw [mg_mem (by simp at hn ⊢; omega)] at hz
          rcases hz with h | h
          · exact ha.1 z h
          · rcases List.mem_cons.1 h with rfl | h
            · assumption
            · have := hb.1 z h; omega
        · split
          · refine List.Pairwise.cons (fun z hz => ?_) (ih (by simp at hn ⊢; omega) ha' hb.2)
            rw [mg_mem (by simp at hn ⊢; omega)] at hz
            rcases hz with h | h
            · rcases List.mem_cons.1 h with rfl | h
              · assumption
              · have := ha.1 z h; omega
            · exact hb.1 z h
          · have hxy : x = y := by omega
            subst hxy
            refine List.Pairwise.cons (fun z hz => ?_) (ih (by simp at hn ⊢; omega) ha.2 hb.2)
            rw [mg_mem (by simp at hn ⊢; omega)] at hz
            rcases hz with h | h
            · exact ha.1 z h
            · exact hb.1 z h
theorem mg_length {n : Nat} {a b : List Int} : (mg n a b).length ≤ a.length + b.length := by
  induction n generalizing a b with
  | zero => simp [mg]
  | succ n ih =>
    cases a with
    | nil =>
      cases b with
      | nil => simp [mg]
      | cons y b => have := ih (a := []) (b := b); simp [mg] at this ⊢; omega
    | cons x a =>
      cases b with
      | nil => have := ih (a := a) (b := []); simp [mg] at this ⊢; omega
      | cons y b =>
        simp only [mg]
        split
        · have := ih (a := a) (b := y :: b); simp at this ⊢; omega
        · split
          · have := ih (a := x :: a) (b := b); simp at this ⊢; omega
          · have := ih (a := a) (b := b); simp at this ⊢; omega
/-- All of two rising lists, each once. -/
def uni (a b : List Int) : List Int := mg (a.length + b.length) a b
theorem uni_mem (a b : List Int) (z : Int) : z ∈ uni a b ↔ z ∈ a ∨ z ∈ b := mg_mem (Nat.le_refl _) z
theorem uni_pair {a b : List Int} (ha : a.Pairwise (· < ·)) (hb : b.Pairwise (· < ·)) : (uni a b).Pairwise (· < ·) := mg_pair (Nat.le_refl _) ha hb
theorem uni_rises {b0 : Int} {a b : List Int} (ha : rises b0 a) (hb : rises b0 b) : rises b0 (uni a b) :=
  rises_of (uni_pair (rises_pair ha) (rises_pair hb)) (fun x hx => by
    rcases (uni_mem a b x).1 hx with h | h
    · exact rises_mem ha x h
    · exact rises_mem hb x h)
theorem uni_comm {a b : List Int} (ha : a.Pairwise (· < ·)) (hb : b.Pairwise (· < ·)) : uni a b = uni b a :=
  rising_ext (uni_pair ha hb) (uni_pair hb ha) (fun x => by rw [uni_mem, uni_mem, or_comm])
theorem uni_length (a b : List Int) : (uni a b).length ≤ a.length + b.length := mg_length

/-- From's answer. -/
def frm (p : List Int) : Int := if risesB (-1048576) p = true then (if 4096 < p.length then 12 else if 1024 < (rns 0 p).length then 12 else 0) else 11
open Classical in
theorem frm_def (p : List Int) : frm p = if rises (-1048576) p then (if 4096 < p.length then 12 else if 1024 < (rns 0 p).length then 12 else 0) else 11 := by
  unfold frm
  by_cases h : rises (-1048576) p
  · rw [if_pos ((risesB_iff _ _).2 h), if_pos h]
  · rw [if_neg (fun hh => h ((risesB_iff _ _).1 hh)), if_neg h]
end Go.Proofs.YtkphonepblkcdaaGreatDoor.Spans
