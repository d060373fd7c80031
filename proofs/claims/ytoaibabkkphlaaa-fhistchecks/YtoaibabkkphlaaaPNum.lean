/-
  Find, Without.
-/
import Derived.Test.YtoaibabkkphlaaaPMem
import Derived.Test.YtoaibabkkphlaaaNRow
namespace Go.Proofs.Ytoaibabkkphlaaa
open Go.RowKit Mem Spans
set_option linter.unusedSimpArgs false
set_option linter.unusedVariables false
set_option maxRecDepth 100000

theorem Try.infoPair : (Try.prog.info? 141).map (fun i => (i.zero, i.size, i.bytes)) = some (some (.agg #[.int .i64 0, .int .i64 0]), 2, 16) := by kernel_rfl
theorem info_pair : ∃ i, SInfo 141 i := by
  obtain ⟨i, hi, h⟩ := Option.map_eq_some_iff.1 Try.infoPair
  simp only [Prod.mk.injEq] at h
  exact ⟨i, hi, h.1, h.2.1, h.2.2⟩

/-- The number of the first pair with a place (their length: there is none). -/
def fdx : List Sp → Int → Nat
  | [], _ => 0
  | s :: r, p => if s.1 = p then 0 else fdx r p + 1
theorem fdx_le (l : List Sp) (p : Int) : fdx l p ≤ l.length := by
  induction l with
  | nil => simp [fdx]
  | cons s r ih => simp only [fdx, List.length_cons]; split <;> omega
theorem fdx_at {l : List Sp} {p : Int} (h : fdx l p < l.length) : ∃ s, l[fdx l p]? = some s ∧ s.1 = p := by
  induction l with
  | nil => simp [fdx] at h
  | cons s r ih =>
    simp only [fdx] at h ⊢
    split
    · exact ⟨s, by simp, by assumption⟩
    · rename_i hn
      rw [if_neg hn] at h
      obtain ⟨t, h1, h2⟩ := ih (by simpa using h)
      exact ⟨t, by simpa using h1, h2⟩
theorem fdx_lt {l : List Sp} {p : Int} : fdx l p < l.length ↔ p ∈ l.map (fun s => s.1) := by
  induction l with
  | nil => simp [fdx]
  | cons s r ih =>
    simp only [fdx, List.length_cons, List.map_cons, List.mem_cons]
    by_cases h : s.1 = p
    · simp [h]
    · rw [if_neg h, ← ih]
      constructor
      · intro h1; exact .inr (by omega)
      · rintro (h1 | h1)
        · exact absurd h1.symm h
        · omega
def fnv (l : List Sp) (p : Int) : Int := match l[fdx l p]? with | some s => s.2 | none => 0
def fnb (l : List Sp) (p : Int) : Bool := decide (fdx l p < l.length)


/-- Without's list. -/
def wio (l : List Sp) (z : Int) : List Sp := l.filter fun s => !decide (s.2 = z)

set_option maxHeartbeats 2000000 in
theorem without_any (v : Value) (l : List Sp) (z : Int) (w : World) (h : SSrc w v l) (hl : l.length ≤ 1000000) :
    Calls Try.prog 77 #[v, .int .i64 z] w fun e w' => ∃ u, e = .returned u ∧ SOwn 141 w.heap.size w' u (wio l z) ∧ Fr [] w w' := by
  obtain ⟨ao, cap, rfl, hcap, hmax, _, b, off, ha, hc⟩ := h
  have HC : Hid (∀ j s, l[j]? = some s → w.cell? ⟨b, off + j * 2, none⟩ = some (.int .i64 s.1) ∧ w.cell? ⟨b, off + j * 2 + 1, none⟩ = some (.int .i64 s.2)) := hc
  have HA : Hid (0 < l.length → ao = some ⟨b, off, none⟩) := ha
  obtain ⟨i0, hi⟩ := info_pair
  have HI : Hid (SInfo 141 i0) := hi
  clear hc ha hi
  go_enter Try.func77, Try.ntmps77
  go_wp2
  go_loopw [5, 10] (fun u i wr => ∃ (k : Nat), k ≤ l.length ∧ i = .int .i64 (k : Int) ∧ SOwn 141 w.heap.size wr u (wio (l.take k) z) ∧ Fr [] w wr) (fun _ i _ => l.length - (intOf i).toNat)
  case atStart => exact ⟨0, by omega, rfl, .inl ⟨by simp [wio], rfl⟩, Fr.refl _ _⟩
  case round =>
    obtain ⟨k, hk, rfl, hso, hf⟩ := hrel
    have HF : Hid (Fr [] w wr) := hf
    have HS : Hid (SOwn 141 w.heap.size wr u5 (wio (l.take k) z)) := hso
    clear hf hso
    by_cases hlt : k < l.length
    · obtain rfl := HA.out (by omega)
      obtain ⟨s, hs⟩ := at_lt hlt
      have c0 : wr.cell? ⟨b, off + k * 2, none⟩ = some (.int .i64 s.1) := HF.out.cell_some (HC.out k s hs).1 (by simp)
      have c1 : wr.cell? ⟨b, off + k * 2 + 1, none⟩ = some (.int .i64 s.2) := HF.out.cell_some (HC.out k s hs).2 (by simp)
      have HT : Hid (wio (l.take (k + 1)) z = wio (l.take k) z ++ wio [s] z) := by rw [Hid, take_at hs]; simp [wio]
      have HL : Hid ((wio (l.take k) z).length ≤ 1000000) := by
        have := List.length_filter_le (fun s : Sp => !decide (s.2 = z)) (l.take k)
        rw [List.length_take] at this
        unfold Hid wio; omega
      clear hs
      obtain ⟨o, n⟩ := s
      simp only at c0 c1
      have HF2 : Hid (Fr [] w (wr.alloc (.cells #[.int .i64 o, .int .i64 n] 141))) := HF.out.alloc _
      go_wp2_with fail
      refine (same64_any n z _).mono ?_
      rintro e w2 ⟨rfl, rfl⟩
      by_cases hn : n = z
      · have hd : decide (n = z) = true := decide_eq_true hn
        have HT2 : Hid (wio (l.take (k + 1)) z = wio (l.take k) z) := by rw [Hid, HT.out]; simp [wio, hn]
        have HS2 := HS.out.kept ((Fr.refl [] _).alloc (.cells #[.int .i64 o, .int .i64 n] 141))
        have HS3 : Hid (SOwn 141 w.heap.size (wr.alloc (.cells #[.int .i64 o, .int .i64 n] 141)) u5 (wio (l.take k) z)) := HS2
        clear HS2 hn HT
        go_wp2
        go_roundw
        case rel => exact ⟨k + 1, by omega, by go_num, by rw [HT2.out]; exact HS3.out, HF2.out⟩
        case measure => simp [intOf]; omega
      · have hd : decide (n = z) = false := decide_eq_false hn
        have HT2 : Hid (wio (l.take (k + 1)) z = wio (l.take k) z ++ [(o, n)]) := by rw [Hid, HT.out]; simp [wio, hn]
        have HSZ : Hid (w.heap.size ≤ wr.heap.size) := HF.out.size
        clear HT hn
        go_wp2_with (at_builtin; refine wpList_append_sp _ rfl _ _ 118 rfl Try.underlying118 HI.out.1 HI.out.2.1 HI.out.2.2.1 HI.out.2.2.2 (B := w.heap.size) (s := (o, n)) (by have := HSZ.out; simp; omega) rfl rfl (HS.out.kept (((Fr.refl [] _).alloc _).alloc _)) (lit_sp' 141 (wr.alloc _) [(o, n)] (World.size_alloc _ _) (by have := HSZ.out; omega) (by simp) (by unfold maxLen; simp)) HL.out ?_; intro v3 w3 ho3 hb3; have HO3 : Hid (SOwn 141 w.heap.size w3 v3 (wio (l.take k) z ++ [(o, n)])) := ho3; have HB3 : Hid (Fr [] w w3) := Fr.ofBelow ((((HF.out.alloc _).alloc _).below (Nat.le_refl _) (by simp)).trans hb3); clear ho3 hb3)
        go_roundw
        case rel => exact ⟨k + 1, by omega, by go_num, by rw [HT2.out]; exact HO3.out, HB3.out⟩
        case measure => simp [intOf]; omega
    · have HS2 : Hid (SOwn 141 w.heap.size wr u5 (wio l z)) := by
        have := HS.out
        rw [List.take_of_length_le (by omega)] at this
        exact this
      clear HS
      go_wp2
      go_ret
      exact ⟨_, rfl, HS2.out, HF.out⟩
end Go.Proofs.Ytoaibabkkphlaaa
