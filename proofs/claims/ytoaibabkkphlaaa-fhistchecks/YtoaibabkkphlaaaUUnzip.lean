/-
  Package pairs, over numbers without a sign: Unzip.
-/
import Derived.Test.YtoaibabkkphlaaaUMem
import Derived.Test.YtoaibabkkphlaaaPUnzip
namespace Go.Proofs.Ytoaibabkkphlaaa
open Go.RowKit Mem Spans
set_option linter.unusedSimpArgs false
set_option linter.unusedVariables false
set_option maxRecDepth 100000

/-- A row of numbers that lies in block g, or none at all. -/
def UAt (e : TypeId) (w : World) (v : Value) (g : Nat) (zs : List Int) : Prop :=
  (zs = [] ∧ v = .slice none 0 0) ∨ (0 < zs.length ∧ Row w e 1 v g zs.length (unCells zs))
theorem UAt.kept {e : TypeId} {w w' : World} {v : Value} {g : Nat} {zs : List Int} {S : List Nat} (h : UAt e w v g zs) (f : Fr S w w') (hn : zs ≠ [] → g ∉ S) : UAt e w' v g zs := by
  rcases h with h | ⟨h1, h2⟩
  · exact .inl h
  · exact .inr ⟨h1, h2.kept f (hn (by intro h; rw [h] at h1; simp at h1))⟩
theorem UAt.lt {e : TypeId} {w : World} {v : Value} {g : Nat} {zs : List Int} (h : UAt e w v g zs) (hn : zs ≠ []) : g < w.heap.size := by
  rcases h with ⟨h, _⟩ | ⟨h1, h2⟩
  · exact absurd h hn
  · exact h2.lt
theorem UAt.own {e : TypeId} {B : Nat} {w : World} {v : Value} {g : Nat} {zs : List Int} (h : UAt e w v g zs) (hB : zs ≠ [] → B ≤ g) : UOwn e B w v zs := by
  rcases h with h | ⟨h1, h2⟩
  · exact .inl h
  · exact .inr ⟨g, hB (by intro h; rw [h] at h1; simp at h1), h1, h2⟩
section
variable (w : World)
theorem wpList_append_uat {ops : Array Oper} {rest : List Oper} {o : Oper} {a : Act} {Q : Exit → Act → World → Prop} (hgd : o.guard = none) (sx x : Operand) (t : TypeId)
    (ho : o.op = .call { callee := .builtin .append, args := #[sx, x], argTypes := #[t, t] })
    {e : TypeId} {i0 : TypeInfo} (ht : Try.prog.underlying t = some (.slice e)) (hi : UInfo e i0)
    {v : Value} {g gn : Nat} {l : List Int} {s : Int} (hs : a.eval sx = v) (hx : a.eval x = .slice (some ⟨gn, 0, none⟩) 1 1) (hn : w.cell? ⟨gn, 0, none⟩ = some (.int .u64 s)) (h1 : UAt e w v g l) (hl : l.length ≤ 1000000)
    (h : ∀ v' g' w', UAt e w' v' g' (l ++ [s]) → Hid ((l ≠ [] ∧ g' = g) ∨ g' = w.heap.size) → Hid (Fr (tch l g) w w') → wpList Try.prog ops Q rest (a.put o.dst v') w') : wpList Try.prog ops Q (o :: rest) a w := by
  have hnew : ∀ (j : Nat) (u : Value), (unCells [s])[j]? = some u → w.cell? ((⟨gn, 0, none⟩ : Addr).add j) = some u := by
    intro j u hj
    have hj0 : j = 0 := by have := (List.getElem?_eq_some_iff.1 hj).1; simp [unCells] at this; omega
    subst hj0
    have e : (⟨gn, 0, none⟩ : Addr).add 0 = ⟨gn, 0, none⟩ := by unfold Addr.add; split <;> simp_all
    rw [e, hn]
    simpa [unCells] using hj
  have hc : unCells (l ++ [s]) = unCells l ++ unCells [s] := by simp [unCells]
  rcases h1 with ⟨rfl, rfl⟩ | ⟨h0, hrow⟩
  · refine wpList_append_new w hgd sx x t ho e i0 _ 1 8 ht hi.1 hi.2.1 hi.2.2.1 hi.2.2.2 rfl hs ⟨gn, 0, none⟩ 1 1 (unCells [s]) hx rfl hnew (by omega) (by unfold maxLen; omega) (by omega) ?_
    intro v' w' hr hf
    exact h v' _ w' (.inr ⟨by simp, hr⟩) (.inr rfl) hf
  · refine wpList_append_row w hgd sx x t ho e i0 _ 1 8 ht hi.1 hi.2.1 hi.2.2.1 hi.2.2.2 rfl v g l.length (unCells l) hs hrow ⟨gn, 0, none⟩ 1 1 (unCells [s]) hx rfl hnew (by simp [unCells, Value.oneCell']) (by unfold maxLen; omega) (by omega) ?_
    intro v' g' w' hr hg hf
    have hne : l ≠ [] := by intro h; rw [h] at h0; simp at h0
    refine h v' g' w' (.inr ⟨by simp, ?_⟩) ?_ ?_
    · rw [hc, List.length_append]; exact hr
    · rcases hg.out with h2 | h2
      · exact .inl ⟨hne, h2⟩
      · exact .inr h2
    · cases l with
      | nil => exact absurd rfl hne
      | cons y r => exact hf
end

set_option maxHeartbeats 2000000 in
theorem unzipU_any (v : Value) (l : List Sp) (w : World) (h : PSrc w v l) (hl : l.length ≤ 1000000) :
    Calls Try.prog 56 #[v] w fun e w' => ∃ u x, e = .returned (.tuple #[u, x, .int .i64 (frm (fsts l))]) ∧ SOwn 95 w.heap.size w' u (frl (fsts l)) ∧ UOwn 22 w.heap.size w' x (uzv l) ∧ Fr [] w w' := by
  obtain ⟨ao, cap, rfl, hcap, hmax, h64, b, off, ha, hc⟩ := h
  have HC : Hid (∀ j s, l[j]? = some s → w.cell? ⟨b, off + j * 2, none⟩ = some (.int .i64 s.1) ∧ w.cell? ⟨b, off + j * 2 + 1, none⟩ = some (.int .u64 s.2)) := hc
  have HA : Hid (0 < l.length → ao = some ⟨b, off, none⟩) := ha
  have H64 : Hid (∀ s ∈ l, in64 s.1 ∧ inu s.2) := h64
  obtain ⟨i0, hi⟩ := info_uint64
  have HI : Hid (UInfo 22 i0) := hi
  obtain ⟨i1, hi1⟩ := ninfo_int
  have HI1 : Hid (NInfo 3 i1) := hi1
  clear hc ha h64 hi hi1
  go_enter Try.func56, Try.ntmps56
  go_wp2
  go_loopw [5, 6, 13] (fun p q i wr => ∃ (k g1 g2 : Nat), k ≤ l.length ∧ i = .int .i64 (k : Int) ∧ NAt 3 wr p g1 (fsts (l.take k)) ∧ UAt 22 wr q g2 (snds (l.take k)) ∧ (0 < k → g1 ≠ g2 ∧ w.heap.size ≤ g1 ∧ w.heap.size ≤ g2) ∧ Fr [] w wr) (fun _ _ i _ => l.length - (intOf i).toNat)
  case atStart => exact ⟨0, 0, 0, by omega, rfl, .inl ⟨by simp [fsts], rfl⟩, .inl ⟨by simp [snds], rfl⟩, by omega, Fr.refl _ _⟩
  case round =>
    obtain ⟨k, g1, g2, hk, rfl, hp, hq, hg, hf⟩ := hrel
    have HF : Hid (Fr [] w wr) := hf
    have HP : Hid (NAt 3 wr u5 g1 (fsts (l.take k))) := hp
    have HQ : Hid (UAt 22 wr u6 g2 (snds (l.take k))) := hq
    have HG : Hid (0 < k → g1 ≠ g2 ∧ w.heap.size ≤ g1 ∧ w.heap.size ≤ g2) := hg
    clear hf hp hq hg
    by_cases hlt : k < l.length
    · obtain rfl := HA.out (by omega)
      obtain ⟨s, hs⟩ := at_lt hlt
      have c0 : wr.cell? ⟨b, off + k * 2, none⟩ = some (.int .i64 s.1) := HF.out.cell_some (HC.out k s hs).1 (by simp)
      have c1 : wr.cell? ⟨b, off + k * 2 + 1, none⟩ = some (.int .u64 s.2) := HF.out.cell_some (HC.out k s hs).2 (by simp)
      have HTP : Hid (fsts (l.take (k + 1)) = fsts (l.take k) ++ [s.1]) := by rw [Hid, take_at hs]; simp [fsts]
      have HTQ : Hid (snds (l.take (k + 1)) = snds (l.take k) ++ [s.2]) := by rw [Hid, take_at hs]; simp [snds]
      have HLP : Hid ((fsts (l.take k)).length = k ∧ (snds (l.take k)).length = k) := by
        rw [Hid, fsts_length, snds_length, List.length_take]; omega
      clear hs
      obtain ⟨o, n⟩ := s
      simp only at c0 c1
      have HNE : Hid ((fsts (l.take k) ≠ [] → 0 < k) ∧ (snds (l.take k) ≠ [] → 0 < k)) := by
        refine ⟨fun h => ?_, fun h => ?_⟩
        · have := List.length_pos_iff.2 h; have := HLP.out; omega
        · have := List.length_pos_iff.2 h; have := HLP.out; omega
      have HLT1 : Hid (fsts (l.take k) ≠ [] → g1 < wr.heap.size) := fun h => HP.out.lt h
      have HLT2 : Hid (0 < k → g2 < wr.heap.size) := fun h => HQ.out.lt (fun h2 => by have h3 := HLP.out.2; rw [h2] at h3; simp at h3; omega)
      have HSZ : Hid (w.heap.size ≤ wr.heap.size) := HF.out.size
      generalize hPP : fsts (l.take k) = PP at *
      generalize hQQ : snds (l.take k) = QQ at *
      have HD1 : Hid ((wr.alloc (.cells #[.int .i64 o, .int .u64 n] 43)).cell? ⟨wr.heap.size, 1, none⟩ = some (.int .u64 n)) := by rw [Hid, World.cell?_alloc_at _ _ _ _ rfl]; rfl
      have HXX : Hid (∀ (ww : World) (x : Int) (t : TypeId) (gg : Nat), ww.heap.size = gg → (ww.alloc (.cells #[.int .i64 x] t)).cell? ⟨gg, 0, none⟩ = some (.int .i64 x)) := by
        intro ww x t gg h
        subst h
        rw [World.cell?_alloc_at _ _ _ _ rfl]; rfl
      have HXU : Hid (∀ (ww : World) (x : Int) (t : TypeId) (gg : Nat), ww.heap.size = gg → (ww.alloc (.cells #[.int .u64 x] t)).cell? ⟨gg, 0, none⟩ = some (.int .u64 x)) := by
        intro ww x t gg h
        subst h
        rw [World.cell?_alloc_at _ _ _ _ rfl]; rfl
      go_wp2_with (at_builtin; first
        | (refine wpList_append_at _ rfl _ _ 41 rfl Try.underlying41 HI1.out (g := g1) (gn := wr.heap.size + 1) (l := PP) (s := o) rfl rfl (HXX.out _ _ _ _ (World.size_alloc _ _)) (HP.out.kept (((Fr.refl [] _).alloc _).alloc _) (by simp)) (by have := HLP.out; omega) ?_
           intro v3 g3 w3 ho3 hg3 hf3
           have HO3 : Hid (NAt 3 w3 v3 g3 (PP ++ [o])) := ho3
           have HA3 : Hid (Fr [] wr ((wr.alloc (.cells #[.int .i64 o, .int .u64 n] 43)).alloc (.cells #[.int .i64 o] 3))) := ((Fr.refl [] _).alloc _).alloc _
           have HG3 : Hid (((PP ≠ [] ∧ g3 = g1) ∨ g3 = wr.heap.size + 2) ∧ w3.heap.size ≥ wr.heap.size + 2) := ⟨by have := hg3.out; simpa using this, by have := hf3.out.size; simpa using this⟩
           have c5 : w3.cell? ⟨wr.heap.size, 1, none⟩ = some (.int .u64 n) := hf3.out.cell_some ((((Fr.refl [] _).alloc _).cell_some HD1.out (by simp))) (fun h => by have h1 := tch_mem h; have h2 := HLT1.out h1.1; simp at h1; omega)
           have HQ3 : Hid (UAt 22 w3 u6 g2 QQ) := (HQ.out.kept HA3.out (by simp)).kept hf3.out (fun h hm => by have h1 := tch_mem hm; exact (HG.out (HNE.out.2 h)).1 h1.2.symm)
           have HF3 : Hid (Fr [] w w3) := (HF.out.trans HA3.out (by simp)).trans hf3.out (fun x hx => .inr (by have h1 := tch_mem hx; rw [h1.2]; exact (HG.out (HNE.out.1 h1.1)).2.1))
           clear ho3 hg3 hf3)
        | (refine wpList_append_uat _ rfl _ _ 24 rfl Try.underlying24 HI.out (g := g2) (gn := w3.heap.size) (l := QQ) (s := n) rfl rfl (HXU.out _ _ _ _ rfl) (HQ3.out.kept ((Fr.refl [] _).alloc _) (by simp)) (by have := HLP.out; omega) ?_
           intro v4 g4 w4 ho4 hg4 hf4))
      have HO4 : Hid (UAt 22 w4 v4 g4 (QQ ++ [n])) := ho4
      have HG4 : Hid ((QQ ≠ [] ∧ g4 = g2) ∨ g4 = w3.heap.size + 1) := by
        have := hg4.out
        rw [World.size_alloc] at this
        exact this
      have HO5 : Hid (NAt 3 w4 v3 g3 (PP ++ [o])) := (HO3.out.kept ((Fr.refl [] _).alloc _) (by simp)).kept hf4.out (fun _ hm => by
        have h1 := tch_mem hm
        have h2 := HNE.out.2 h1.1
        have h3 := HG.out h2
        have h4 := HLT2.out h2
        rcases HG3.out.1 with h5 | h5 <;> omega)
      have HF4 : Hid (Fr [] w w4) := (HF3.out.alloc _).trans hf4.out (fun x hx => .inr (by have h1 := tch_mem hx; rw [h1.2]; exact (HG.out (HNE.out.2 h1.1)).2.2))
      clear ho4 hg4 hf4
      go_roundw
      case rel =>
        refine ⟨k + 1, g3, g4, by omega, by go_num, by rw [HTP.out]; exact HO5.out, by rw [HTQ.out]; exact HO4.out, fun _ => ?_, HF4.out⟩
        have hs3 := HG3.out.2
        have hsz := HSZ.out
        have hlt3 : g3 < w3.heap.size := HO3.out.lt (by simp)
        refine ⟨?_, ?_, ?_⟩
        · rcases HG4.out with ⟨h1, h2⟩ | h2
          · have h3 := HNE.out.2 h1
            have h4 := HLT2.out h3
            have h5 := (HG.out h3).1
            rcases HG3.out.1 with h6 | h6 <;> omega
          · omega
        · rcases HG3.out.1 with h6 | h6
          · rw [h6.2]; exact (HG.out (HNE.out.1 h6.1)).2.1
          · omega
        · rcases HG4.out with ⟨h1, h2⟩ | h2
          · rw [h2]; exact (HG.out (HNE.out.2 h1)).2.2
          · omega
      case measure => simp [intOf]; omega
    · have hkl : k = l.length := by omega
      have HNE : Hid ((fsts l ≠ [] → 0 < k) ∧ (snds l ≠ [] → 0 < k)) := by
        refine ⟨fun h => ?_, fun h => ?_⟩
        · have := List.length_pos_iff.2 h; rw [fsts_length] at this; omega
        · have := List.length_pos_iff.2 h; rw [snds_length] at this; omega
      have HP2 : Hid (NOwn 3 w.heap.size wr u5 (fsts l)) := by
        have := HP.out
        rw [List.take_of_length_le (by omega)] at this
        exact this.own (fun h => (HG.out (HNE.out.1 h)).2.1)
      have HQ2 : Hid (UOwn 22 w.heap.size wr u6 (snds l)) := by
        have := HQ.out
        rw [List.take_of_length_le (by omega)] at this
        exact this.own (fun h => (HG.out (HNE.out.2 h)).2.2)
      clear HP HQ
      go_wp2_with fail
      refine (from_any _ (fsts l) wr (HP2.out.src (fun z hz => by obtain ⟨s, hs, rfl⟩ := List.mem_map.1 hz; exact (H64.out s hs).1))).mono ?_
      rintro e w2 ⟨u, rfl, hu, hf2⟩
      have HU : Hid (SOwn 95 w.heap.size w2 u (frl (fsts l))) := hu.mono HF.out.size
      have HQ3 : Hid (UOwn 22 w.heap.size w2 u6 (snds l)) := HQ2.out.kept hf2
      have HF2 : Hid (Fr [] w w2) := HF.out.trans hf2 (by simp)
      clear hu hf2 HQ2 HP2
      by_cases h0 : frm (fsts l) = 0
      · have HV : Hid (uzv l = snds l ∧ frm (fsts l) = 0) := by unfold Hid uzv; rw [if_pos h0]; exact ⟨rfl, h0⟩
        rw [h0]
        go_wp2
        go_ret3
        exact ⟨_, _, by rw [HV.out.2]; rfl, HU.out, by rw [HV.out.1]; exact HQ3.out, HF2.out⟩
      · have HV : Hid (uzv l = [] ∧ frl (fsts l) = []) := by unfold Hid uzv frl; rw [if_neg h0, if_neg h0]; exact ⟨rfl, rfl⟩
        go_wp2
        go_ret3
        exact ⟨_, _, rfl, .inl ⟨HV.out.2, rfl⟩, .inl ⟨HV.out.1, rfl⟩, HF2.out⟩
end Go.Proofs.Ytoaibabkkphlaaa
