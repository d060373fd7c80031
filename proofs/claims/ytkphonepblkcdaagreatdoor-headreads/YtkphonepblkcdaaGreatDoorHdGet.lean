/-
  Package head: what is read: a span, spans, a side, the schema, the threshold, the flags.
-/
import Derived.Test.YtkphonepblkcdaaGreatDoorHdRest
import Derived.Test.YtkphonepblkcdaaGreatDoorHdEq
import Derived.Test.YtkphonepblkcdaaGreatDoorGA
import Derived.Laws.ResultCell
namespace Go.Proofs.YtkphonepblkcdaaGreatDoor
open Go.RowKit Mem Spans Bits Groups Thrs
set_option linter.unusedSimpArgs false
set_option linter.unusedVariables false
set_option maxRecDepth 100000

theorem Fr.tailB {S : List Nat} {a b c : World} (h : Fr S a b) (k : Below a.heap.size b c) : Fr S a c :=
  ⟨k.os.trans h.os, k.tape.trans h.tape, k.output.trans h.output, Nat.le_trans h.size k.size, fun x hx hn => (k.block x hx).trans (h.block x hx hn)⟩
theorem Rd.below {B : Nat} {w w' : World} {p g : Nat} {l : List Bool} {pos lim : Nat} {sh : Bool} (h : Rd w p g l pos lim sh) (f : Below B w w') (hp : p < B) (hg : g < B) : Rd w' p g l pos lim sh := by
  obtain ⟨h0, h1, h2, v, h3, h4, cap, cur, h5, h6, h7⟩ := h
  exact ⟨h0, h1, h2, v, (f.block p hp).trans h3, h4, cap, cur, h5, (f.block g hg).trans h6, h7⟩
theorem SOwn.keptR {e : TypeId} {B : Nat} {w w' : World} {v : Value} {l : List Sp} {S : List Nat} (h : SOwn e B w v l) (f : Fr S w w') (hs : ∀ y ∈ S, y < B) : SOwn e B w' v l := by
  rcases h with h | ⟨g, h1, h2, h3⟩
  · exact .inl h
  · exact .inr ⟨g, h1, h2, h3.kept f (fun hg => by have := hs g hg; omega)⟩

theorem Tryz.sizeOfSpan : (Tryz.prog.info? 64).map (·.size) = some 2 := by kernel_rfl
/-- A span out of its variable, and another result. -/
theorem span_res {fn : Func} {p u : Tmp} (h : fn.results = #[.cell p 64, .tmp u]) (tmps : Array Value) (w : World) (g : Nat) (x y : Value)
    (hp : tmps.getD p undef = .pointer (some ⟨g, 0, none⟩)) (hg : w.heap[g]? = some (.cells #[x, y] 64 (0, 0))) : (results fn tmps).run Tryz.prog w = .ok (.tuple #[.agg #[x, y], tmps.getD u undef]) w := by
  rw [results_cell_tmp h tmps, hp]
  have := run_loadVar_row (P := Tryz.prog) w g 64 64 #[x, y] (0, 0) _ hg Tryz.underlying64 rfl Tryz.sizeOfSpan
  simp [asAddr, this]

set_option maxHeartbeats 2000000 in
theorem getSpan_any (w : World) (p g : Nat) (l : List Bool) (pos lim : Nat) (sh : Bool) (hT : Tab w) (hp : 0 < p) (h : Rd w p g l pos lim sh) (hb : l.length ≤ 4294967296) :
    Calls Tryz.prog 100 #[.pointer (some ⟨p, 0, none⟩)] w fun e w' => (∃ x y, e = .returned (.tuple #[.agg #[.int .i64 x, .int .i64 y], .int .i64 (rdP (rest l pos lim)).2.2]) ∧ ((rdP (rest l pos lim)).2.2 = 0 → x = (rdP (rest l pos lim)).1.1 ∧ y = (rdP (rest l pos lim)).1.2)) ∧ ((rdP (rest l pos lim)).2.2 = 0 → Rd w' p g l (pos + (rdP (rest l pos lim)).2.1) lim sh) ∧ Fr [p] w w' := by
  have hlt := h.lt
  have hT1 : Tab (w.alloc (.cells #[.int .i64 0, .int .i64 0] 64)) := hT.kept ((Fr.refl [] w).alloc _) (by simp)
  have h1 : Rd (w.alloc (.cells #[.int .i64 0, .int .i64 0] 64)) p g l pos lim sh := h.kept ((Fr.refl [] w).alloc _) (by simp) (by simp)
  have HB0 : Hid ((w.alloc (.cells #[.int .i64 0, .int .i64 0] 64)).heap[w.heap.size]? = some (.cells #[.int .i64 0, .int .i64 0] 64 (0, 0))) := heap_alloc_new _ _
  have HF0 : Hid (Fr [p] w (w.alloc (.cells #[.int .i64 0, .int .i64 0] 64))) := (Fr.refl [p] w).alloc _
  have HT1 : Hid (Tab (w.alloc (.cells #[.int .i64 0, .int .i64 0] 64))) := hT1
  have HR1 : Hid (Rd (w.alloc (.cells #[.int .i64 0, .int .i64 0] 64)) p g l pos lim sh) := h1
  have HE : Hid (rdP (rest l pos lim) = if (rdU (rest l pos lim)).2.2 ≠ 0 then ((0, 0), 0, (rdU (rest l pos lim)).2.2)
    else if 4096 < (rdU (rest l pos lim)).1 then ((0, 0), 0, 20)
    else if (rdS (rest l (pos + (rdU (rest l pos lim)).2.1) lim)).2.2 ≠ 0 then ((0, 0), 0, (rdS (rest l (pos + (rdU (rest l pos lim)).2.1) lim)).2.2)
    else (((rdS (rest l (pos + (rdU (rest l pos lim)).2.1) lim)).1, ((rdU (rest l pos lim)).1 : Int)), (rdU (rest l pos lim)).2.1 + (rdS (rest l (pos + (rdU (rest l pos lim)).2.1) lim)).2.1, 0)) := by
    rw [Hid, ← rest_drop]; rfl
  have hU := rdU_lt (rest l pos lim)
  have HSD : Hid (∀ q W, Tab W → Rd W p g l q lim sh → Calls Tryz.prog 83 #[.pointer (some ⟨p, 0, none⟩)] W fun e w' => e = .returned (.tuple #[.int .i64 (rdS (rest l q lim)).1, .int .i64 (rdS (rest l q lim)).2.2]) ∧ ((rdS (rest l q lim)).2.2 = 0 → Rd w' p g l (q + (rdS (rest l q lim)).2.1) lim sh) ∧ Fr [p] W w') := fun q W ht hr => vgetS_rd W p g l q lim sh ht hp hr hb
  have HCU : Hid (Calls Tryz.prog 99 #[.pointer (some ⟨p, 0, none⟩)] (w.alloc (.cells #[.int .i64 0, .int .i64 0] 64)) fun e w' => e = .returned (.tuple #[.int .u64 ((rdU (rest l pos lim)).1 : Int), .int .i64 (rdU (rest l pos lim)).2.2]) ∧ ((rdU (rest l pos lim)).2.2 = 0 → Rd w' p g l (pos + (rdU (rest l pos lim)).2.1) lim sh) ∧ Fr [p] (w.alloc (.cells #[.int .i64 0, .int .i64 0] 64)) w') := vgetU_rd _ p g l pos lim sh HT1.out hp HR1.out hb
  clear hT hT1 h1 h HR1
  generalize rdP (rest l pos lim) = PP at *
  generalize rdU (rest l pos lim) = RU at *
  obtain ⟨V, U, E⟩ := RU
  try simp only at HE HCU hU
  have hB : w.heap.size < (w.alloc (.cells #[.int .i64 0, .int .i64 0] 64)).heap.size := by simp
  go_enter Tryz.func100, Tryz.ntmps100
  go_wp2_with fail
  generalize w.alloc (.cells #[.int .i64 0, .int .i64 0] 64) = wA at *
  refine HCU.out.mono ?_
  rintro e w1 ⟨rfl, hr, hf⟩
  have HRD : Hid (E = 0 → Rd w1 p g l (pos + U) lim sh) := hr
  have HF1 : Hid (Fr [p] w w1) := HF0.out.trans hf (by simp)
  have HT2 : Hid (Tab w1) := HT1.out.kept hf (by simp; omega)
  have hB1 : w1.heap[w.heap.size]? = some (.cells #[.int .i64 0, .int .i64 0] 64 (0, 0)) := hf.heap HB0.out (by simp; omega)
  have HB1 : Hid (w1.heap[w.heap.size]? = some (.cells #[.int .i64 0, .int .i64 0] 64 (0, 0))) := hB1
  have HSZ : Hid (w.heap.size < w1.heap.size) := lt_of_heap hB1
  generalize hBB : w.heap.size = BB at *
  have HBB : Hid (w.heap.size = BB) := hBB
  have hpb : p < BB := by omega
  have hgb : g < BB := by omega
  clear hr hf HCU HT1 HF0 HB0 hBB hB hlt
  have c0 : w1.cell? ⟨BB, 0, none⟩ = some (.int .i64 0) := by rw [cell_at hB1]; rfl
  have c1 : w1.cell? ⟨BB, 1, none⟩ = some (.int .i64 0) := by rw [cell_at hB1]; rfl
  have f0 := frozen_at hB1 0
  have f1 := frozen_at hB1 1
  clear hB1
  by_cases hE : E = 0
  · subst hE
    have HR : Hid (Rd w1 p g l (pos + U) lim sh) := HRD.out rfl
    clear HRD
    by_cases hV : 4096 < V
    · have HP : Hid (PP.2.2 = 20) := by rw [Hid, HE.out, if_neg (by simp), if_pos hV]
      go_wp2_with fail
      refine bodyPost_ret (span_res rfl _ _ BB (.int .i64 0) (.int .i64 0) rfl (by have := HB1.out; simp [World.setCell, Array.getElem?_modify, this])) rfl ?_
      have hff : Fr [BB] w1 ((w1.setCell ⟨BB, 0, none⟩ (.int .i64 0)).setCell ⟨BB, 1, none⟩ (.int .i64 0)) := ((Fr.refl [BB] w1).setCell _ _ (.inl (by simp))).setCell _ _ (.inl (by simp))
      refine ⟨⟨0, 0, by rw [HP.out]; rfl, fun hh => by rw [HP.out] at hh; exact absurd hh (by decide)⟩, fun hh => by rw [HP.out] at hh; exact absurd hh (by decide), HF1.out.trans hff (by have := HBB.out; simp; omega)⟩
    · have HE2 : Hid (PP = if (rdS (rest l (pos + U) lim)).2.2 ≠ 0 then ((0, 0), 0, (rdS (rest l (pos + U) lim)).2.2)
          else (((rdS (rest l (pos + U) lim)).1, (V : Int)), U + (rdS (rest l (pos + U) lim)).2.1, 0)) := by rw [Hid, HE.out, if_neg (by simp), if_neg hV]
      have HCS2 : Hid (Calls Tryz.prog 83 #[.pointer (some ⟨p, 0, none⟩)] w1 fun e w' => e = .returned (.tuple #[.int .i64 (rdS (rest l (pos + U) lim)).1, .int .i64 (rdS (rest l (pos + U) lim)).2.2]) ∧ ((rdS (rest l (pos + U) lim)).2.2 = 0 → Rd w' p g l (pos + U + (rdS (rest l (pos + U) lim)).2.1) lim sh) ∧ Fr [p] w1 w') := HSD.out _ _ HT2.out HR.out
      have hS := rdS_in (rest l (pos + U) lim)
      clear HE HR HSD
      generalize rdS (rest l (pos + U) lim) = RS at *
      obtain ⟨x, u, e2⟩ := RS
      try simp only at HE2 HCS2 hS
      have hw : wrap64 (V : Int) = (V : Int) := by unfold wrap64; omega
      go_wp2_with fail
      refine HCS2.out.mono ?_
      rintro e w2 ⟨rfl, hr, hf⟩
      have HRD : Hid (e2 = 0 → Rd w2 p g l (pos + U + u) lim sh) := hr
      have HF2 : Hid (Fr [p] w w2) := HF1.out.trans hf (by simp)
      have hB2 : w2.heap[BB]? = some (.cells #[.int .i64 0, .int .i64 0] 64 (0, 0)) := hf.heap HB1.out (by simp; omega)
      have HB2 : Hid (w2.heap[BB]? = some (.cells #[.int .i64 0, .int .i64 0] 64 (0, 0))) := hB2
      clear hr hf HCS2 c0 c1 f0 f1 HF1 HB1
      have c0 : w2.cell? ⟨BB, 0, none⟩ = some (.int .i64 0) := by rw [cell_at hB2]; rfl
      have c1 : w2.cell? ⟨BB, 1, none⟩ = some (.int .i64 0) := by rw [cell_at hB2]; rfl
      have f0 := frozen_at hB2 0
      have f1 := frozen_at hB2 1
      clear hB2
      go_wp2_with fail
      refine bodyPost_ret (span_res rfl _ _ BB (.int .i64 x) (.int .i64 (V : Int)) rfl (by have := HB2.out; simp [World.setCell, Array.getElem?_modify, this])) rfl ?_
      have hff : Fr [BB] w2 ((w2.setCell ⟨BB, 0, none⟩ (.int .i64 x)).setCell ⟨BB, 1, none⟩ (.int .i64 (V : Int))) := ((Fr.refl [BB] w2).setCell _ _ (.inl (by simp))).setCell _ _ (.inl (by simp))
      have hP : PP.2.2 = e2 ∧ (e2 = 0 → PP = ((x, (V : Int)), U + u, 0)) := by
        rw [HE2.out]
        by_cases h0 : e2 = 0
        · rw [if_neg (by simpa using h0)]; exact ⟨h0.symm, fun _ => rfl⟩
        · rw [if_pos h0]; exact ⟨rfl, fun hh => absurd hh h0⟩
      refine ⟨⟨x, V, by rw [hP.1]; rfl, fun hh => ?_⟩, fun hh => ?_, HF2.out.trans hff (by have := HBB.out; simp; omega)⟩
      · rw [hP.2 (by rw [← hP.1]; exact hh)]; exact ⟨rfl, rfl⟩
      · have h0 : e2 = 0 := by rw [← hP.1]; exact hh
        rw [hP.2 h0]
        have := (HRD.out h0).kept hff (by simp; omega) (by simp; omega)
        rwa [Nat.add_assoc] at this
  · have HP : Hid (PP.2.2 = E) := by rw [Hid, HE.out, if_pos hE]
    have HNE : Hid (¬ E = 0) := hE
    go_wp2_with fail
    refine bodyPost_ret (span_res rfl _ _ BB (.int .i64 0) (.int .i64 0) rfl (by have := HB1.out; simp [World.setCell, Array.getElem?_modify, this])) rfl ?_
    have hff : Fr [BB] w1 ((w1.setCell ⟨BB, 0, none⟩ (.int .i64 0)).setCell ⟨BB, 1, none⟩ (.int .i64 0)) := ((Fr.refl [BB] w1).setCell _ _ (.inl (by simp))).setCell _ _ (.inl (by simp))
    refine ⟨⟨0, 0, by rw [HP.out]; rfl, fun hh => by rw [HP.out] at hh; exact absurd hh HNE.out⟩, fun hh => by rw [HP.out] at hh; exact absurd hh HNE.out, HF1.out.trans hff (by have := HBB.out; simp; omega)⟩
end Go.Proofs.YtkphonepblkcdaaGreatDoor
