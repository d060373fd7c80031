/-
  FPure, AppU.
-/
import Derived.Test.YtoaibabkkphlaaaGI
import Derived.Test.YtoaibabkkphlaaaGD
import Derived.Test.YtoaibabkkphlaaaGC
import Derived.Deep.RegionHeld3
/-
  Histograms whose counts are floats: what is made of places and counts has them; without empty buckets it counts the same.
-/
namespace Go.Proofs.Ytoaibabkkphlaaa
open Go.RowKit Mem Spans
set_option linter.unusedSimpArgs false
set_option linter.unusedVariables false

theorem rgts_iff {l : List Int} : rgts l = true ↔ ∀ z ∈ l, rgt z = true := by simp [rgts, List.all_eq_true]
theorem fp_sde {l : List Sp} (h : fpe l = 0) : fsd (fps l) (fpc l) = (if rgts (snds l) = true then 0 else 22) ∧ fpc l = snds l ∧ pls (fps l) = fsts l ∧ cnn (fps l) = true := by
  have kf := frm_ok h
  have h' : frm (fsts l) = 0 := h
  have e1 : fps l = rns 0 (fsts l) := by unfold fps frl; rw [if_pos h']
  have e2 : fpc l = snds l := by unfold fpc uzv; rw [if_pos h']
  have ep : pls (rns 0 (fsts l)) = fsts l := by unfold pls; rw [if_pos kf.1, kf.2.2]
  rw [e1, e2]
  refine ⟨?_, rfl, ep, ?_⟩
  · unfold fsd
    rw [if_pos kf.1, if_pos (by rw [ep, fsts_length, snds_length])]
  · unfold cnn
    rw [decide_eq_true kf.1, (shpB_iff _ _).2 kf.2.1]
    rfl
theorem fp_sdl {l : List Sp} (h : fpe l = 0) (hn : rgts (snds l) = true) : fsl (fps l) (fpc l) = l := by
  have k := fp_sde h
  have h0 : fsd (fps l) (fpc l) = 0 := by rw [k.1, if_pos hn]
  rw [(fsl_zip h0).1, k.2.1, k.2.2.1, zip_self]
/-- Make's error, as the document has it. -/
def mfa (h : Fs) (p n : List Sp) : Int :=
  if fpe p = 0 then (if fpe n = 0 then (if fde h.s h.z h.zc h.c = 0 then (if rgts (snds p) = true then (if rgts (snds n) = true then 0 else 22) else 22) else fde h.s h.z h.zc h.c) else fpe n) else fpe p
theorem mfe_mfa (h : Fs) (p n : List Sp) : mfe h p n = mfa h p n := by
  unfold mfe mfa
  by_cases h1 : fpe p = 0
  · rw [if_pos h1, if_pos h1]
    by_cases h2 : fpe n = 0
    · rw [if_pos h2, if_pos h2]
      have k1 := fp_sde h1
      have k2 := fp_sde h2
      by_cases h3 : fde h.s h.z h.zc h.c = 0
      · rw [if_pos h3]
        by_cases h4 : rgts (snds p) = true
        · rw [if_pos h4, fce_neg (h := mkf h p n) h3 (by show fsd (fps p) (fpc p) = 0; rw [k1.1, if_pos h4])]
          exact k2.1
        · rw [if_neg h4, fce_pos (h := mkf h p n) h3 (by show fsd (fps p) (fpc p) ≠ 0; rw [k1.1, if_neg h4]; decide)]
          show fsd (fps p) (fpc p) = 22
          rw [k1.1, if_neg h4]
      · rw [if_neg h3, fce_head (h := mkf h p n) h3]; rfl
    · rw [if_neg h2, if_neg h2]
  · rw [if_neg h1, if_neg h1]
/-- What was made has just these places and counts. -/
theorem mkf_sd {h : Fs} {p n : List Sp} (k : mfe h p n = 0) : fce (mkf h p n) = 0 ∧ fdp (mkf h p n) = p ∧ fdn (mkf h p n) = n ∧ cnn (fps p) = true ∧ cnn (fps n) = true := by
  have kk := k
  rw [mfe_mfa h p n] at kk
  unfold mfa at kk
  unfold mfe at k
  split at kk
  · rename_i h1
    split at kk
    · rename_i h2
      split at kk
      · split at kk
        · rename_i h4
          split at kk
          · rename_i h5
            rw [if_pos h1, if_pos h2] at k
            refine ⟨k, ?_, ?_, (fp_sde h1).2.2.2, (fp_sde h2).2.2.2⟩
            · unfold fdp; rw [if_pos k]; exact fp_sdl h1 h4
            · unfold fdn; rw [if_pos k]; exact fp_sdl h2 h5
          · cases kk
        · cases kk
      · rename_i h3; exact absurd kk h3
    · rename_i h2; exact absurd kk h2
  · rename_i h1; exact absurd kk h1
theorem wio_wio (l : List Sp) : wio (wio l 0) 0 = wio l 0 := by
  unfold wio
  rw [List.filter_filter]
  congr 1
  funext s
  simp
theorem fsl_fpe {l : List Sp} {d : List Int} (h : fsd l d = 0) (hl : (fsl l d).length ≤ 1024) : fpe (wio (fsl l d) 0) = 0 ∧ rgts (snds (wio (fsl l d) 0)) = true := by
  have hup := up_wio (z := 0) (fsl_up l d)
  have hlen := wio_le (fsl l d) 0
  constructor
  · refine frm_zero.2 ⟨?_, ?_, ?_⟩
    · refine rises_of (up_fsts.1 hup) fun x hx => ?_
      obtain ⟨s, hs, rfl⟩ := List.mem_map.1 hx
      have h1 : s.1 ∈ fsts (fsl l d) := List.mem_map.2 ⟨s, (wio_mem.1 hs).1, rfl⟩
      rw [(fsl_zip h).2.1] at h1
      exact rises_mem (pls_rises l) s.1 h1
    · rw [fsts_length]; omega
    · rw [rns_runs]
      have := rn_le_length none (fsts (wio (fsl l d) 0))
      rw [fsts_length] at this
      omega
  · rw [rgts_iff]
    intro z hz
    obtain ⟨s, hs, rfl⟩ := List.mem_map.1 hz
    have h1 : s.2 ∈ snds (fsl l d) := List.mem_map.2 ⟨s, (wio_mem.1 hs).1, rfl⟩
    rw [(fsl_zip h).2.2] at h1
    exact rgts_iff.1 (fsd_zero.1 h).2.2 _ h1
/-- Canon of what is right and has few buckets. -/
theorem canonF_ok {h : Fs} (k : fce h = 0) (hl : h.pd.length ≤ 300 ∧ h.nd.length ≤ 300) : fae h = 0 ∧ fah h = mkf h (wio (fdp h) 0) (wio (fdn h) 0) ∧ fpe (wio (fdp h) 0) = 0 ∧ fpe (wio (fdn h) 0) = 0 ∧ (fce (mkf h (wio (fdp h) 0) (wio (fdn h) 0)) = 0 ∧ fdp (mkf h (wio (fdp h) 0) (wio (fdn h) 0)) = wio (fdp h) 0 ∧ fdn (mkf h (wio (fdp h) 0) (wio (fdn h) 0)) = wio (fdn h) 0 ∧ cnn (fps (wio (fdp h) 0)) = true ∧ cnn (fps (wio (fdn h) 0)) = true) := by
  have kz := fce_zero.1 k
  have e1 : fdp h = fsl h.P h.pd ∧ fdn h = fsl h.N h.nd := by unfold fdp fdn; rw [if_pos k, if_pos k]; exact ⟨rfl, rfl⟩
  have len : ∀ {l : List Sp} {d : List Int}, fsd l d = 0 → d.length ≤ 300 → (fsl l d).length ≤ 1024 := by
    intro l d h1 h2
    have h3 := congrArg List.length (fsl_zip h1).2.2
    rw [snds_length] at h3
    omega
  have a1 := fsl_fpe kz.2.1 (len kz.2.1 hl.1)
  have a2 := fsl_fpe kz.2.2 (len kz.2.2 hl.2)
  rw [← e1.1] at a1
  rw [← e1.2] at a2
  have hm : mfe h (wio (fdp h) 0) (wio (fdn h) 0) = 0 := by
    rw [mfe_mfa]
    unfold mfa
    rw [if_pos a1.1, if_pos a2.1, if_pos kz.1, if_pos a1.2, if_pos a2.2]
  have hs := mkf_sd hm
  refine ⟨by unfold fae; rw [if_pos k]; exact hm, ?_, a1.1, a2.1, hs⟩
  unfold fah mfh
  rw [if_pos k, if_pos hm]
theorem canonF_eq {h : Fs} (k : fce h = 0) (hl : h.pd.length ≤ 300 ∧ h.nd.length ≤ 300) : feq (fah h) h = true := by
  have c := canonF_ok k hl
  rw [c.2.1]
  unfold feq
  rw [decide_eq_true_iff, c.2.2.2.2.2.1, c.2.2.2.2.2.2.1, wio_wio, wio_wio]
  exact ⟨c.2.2.2.2.1, k, rfl, rfl, rfl, rfl, rfl, rfl, rfl⟩
/-- No bucket is empty then. -/
theorem canonF_full {h : Fs} (k : fce h = 0) (hl : h.pd.length ≤ 300 ∧ h.nd.length ≤ 300) : (∀ z ∈ (fah h).pd, z ≠ 0) ∧ (∀ z ∈ (fah h).nd, z ≠ 0) ∧ (fah h).pd.length ≤ 300 ∧ (fah h).nd.length ≤ 300 := by
  have c := canonF_ok k hl
  have kz := fce_zero.1 k
  have e1 : fdp h = fsl h.P h.pd ∧ fdn h = fsl h.N h.nd := by unfold fdp fdn; rw [if_pos k, if_pos k]; exact ⟨rfl, rfl⟩
  have l1 := congrArg List.length (fsl_zip kz.2.1).2.2
  have l2 := congrArg List.length (fsl_zip kz.2.2).2.2
  rw [snds_length] at l1 l2
  rw [c.2.1]
  have d1 : (mkf h (wio (fdp h) 0) (wio (fdn h) 0)).pd = snds (wio (fdp h) 0) := (fp_sde c.2.2.1).2.1
  have d2 : (mkf h (wio (fdp h) 0) (wio (fdn h) 0)).nd = snds (wio (fdn h) 0) := (fp_sde c.2.2.2.1).2.1
  rw [d1, d2, snds_length, snds_length]
  have w1 := wio_le (fdp h) 0
  have w2 := wio_le (fdn h) 0
  rw [e1.1] at w1
  rw [e1.2] at w2
  refine ⟨fun z hz => ?_, fun z hz => ?_, by rw [e1.1]; omega, by rw [e1.2]; omega⟩
  · obtain ⟨s, hs, rfl⟩ := List.mem_map.1 hz; exact (wio_mem.1 hs).2
  · obtain ⟨s, hs, rfl⟩ := List.mem_map.1 hz; exact (wio_mem.1 hs).2
end Go.Proofs.Ytoaibabkkphlaaa

/-
  append of a slice of numbers without a sign that came in, to a row of the call's own.
-/
namespace Go.Proofs.Ytoaibabkkphlaaa
open Go.RowKit Mem Spans
set_option linter.unusedSimpArgs false
set_option linter.unusedVariables false
set_option maxRecDepth 100000

/-- A row of such numbers of the call's own, nil or not. -/
def OU (B : Nat) (w : World) (v : Value) (zs : List Int) : Prop := w.ownsRow B 22 1 v zs.length (unCells zs)
theorem OU.kept {B : Nat} {w w' : World} {v : Value} {zs : List Int} (h : OU B w v zs) (f : Fr [] w w') : OU B w' v zs := ownsRow_keptS h f (by simp)
theorem OU.src {B : Nat} {w : World} {v : Value} {zs : List Int} (h : OU B w v zs) (hz : ∀ z ∈ zs, inu z) : USrc w v zs := by
  rcases h.2 with ⟨rfl, h0⟩ | ⟨g, cap, cur, rfl, _, hg, hn, hm, hs, ht⟩
  · have := List.eq_nil_of_length_eq_zero h0
    subst this
    exact USrc.nil w
  · refine ⟨_, cap, rfl, hn, hm, hz, g, 0, fun _ => rfl, fun j x hj => ?_⟩
    have hjl := (List.getElem?_eq_some_iff.1 hj).1
    rw [Nat.zero_add, cell_at hg]
    have : cur.toList[j]? = (unCells zs)[j]? := by rw [← ht, List.getElem?_take, if_pos (by omega)]
    rw [← Array.getElem?_toList, this, unCells, List.getElem?_map, hj]
    rfl
theorem OU.val {B : Nat} {w : World} {v : Value} {zs : List Int} (h : OU B w v zs) : ∃ ao cap, v = .slice ao zs.length cap := by
  rcases h.2 with ⟨rfl, h0⟩ | ⟨g, cap, cur, rfl, _⟩
  · rw [h0]; exact ⟨none, 0, rfl⟩
  · exact ⟨_, _, rfl⟩
theorem OU.block {B : Nat} {w : World} {v : Value} {zs : List Int} (h : OU B w v zs) : ∀ k, v.ownBlock = some k → B ≤ k := by
  rcases h.2 with ⟨rfl, h0⟩ | ⟨g, cap, cur, rfl, hB, _⟩
  · intro k hk; simp [Value.ownBlock] at hk
  · intro k hk
    have : g = k := by simpa [Value.ownBlock] using hk
    omega
theorem run_append_us {B : Nat} {w : World} {v u : Value} {xs ys : List Int} (hB : B ≤ w.heap.size) (h : OU B w v xs) (h2 : USrc w u ys) (hl : xs.length + ys.length ≤ 1000000) (ty : TypeId) :
    ∃ v' w', (Builtin.append_ #[24, 24] ty #[v, u]).run Try.prog w = .ok v' w' ∧ OU B w' v' (xs ++ ys) ∧ Below B w w' := by
  obtain ⟨i0, hi⟩ := info_uint64
  have ht := Try.underlying24
  obtain ⟨ao, c, rfl, hc1, hc2, h64, b, off, ha, hc⟩ := h2
  cases ao with
  | none =>
    have h0 : ys = [] := by
      by_cases hy : 0 < ys.length
      · have := ha hy; cases this
      · exact List.eq_nil_of_length_eq_zero (by omega)
    subst h0
    refine ⟨v, w, ?_, by simpa using h, Below.refl _ _⟩
    rcases h.2 with ⟨rfl, _⟩ | ⟨g, cap, cur, rfl, _, _, hnc, _⟩
    · simp [Builtin.append_, run_underlying ht, sizeOf, typeInfo, hi.1, Builtin.lenOf, Builtin.firstCells]
    · simp [Builtin.append_, run_underlying ht, sizeOf, typeInfo, hi.1, Builtin.lenOf, Builtin.firstCells, hnc, storeCells]
  | some ad =>
    have hnew : ∀ (j : Nat) (x : Value), (unCells ys)[j]? = some x → w.cell? (ad.add j) = some x := by
      intro j x hj
      have hjl : j < (unCells ys).length := (List.getElem?_eq_some_iff.1 hj).1
      have hjl2 : j < ys.length := by simpa [unCells] using hjl
      have := ha (by omega)
      simp only [Option.some.injEq] at this
      subst this
      have e : (⟨b, off, none⟩ : Addr).add j = ⟨b, off + j, none⟩ := by unfold Addr.add; split <;> simp_all
      obtain ⟨s, hs⟩ := at_lt hjl2
      rw [e, hc j s hs]
      rw [unCells, List.getElem?_map, hs] at hj
      simpa using hj
    obtain ⟨v', w', e1, e2, e3, e4⟩ := run_append_own w B 24 ty 22 i0 _ 1 8 ht hi.1 hi.2.1 hi.2.2.1 hi.2.2.2 rfl (by decide) v xs.length (unCells xs) h ad ys.length c (unCells ys) (by simp [unCells])
      hnew
      (fun x hx => by
        obtain ⟨s, _, rfl⟩ := List.mem_map.1 hx
        rfl) (by unfold maxLen; omega) (by omega) hB
    refine ⟨v', w', e1, ?_, (Below.refl B w).grown e3 hB h.block⟩
    unfold OU
    have : unCells (xs ++ ys) = unCells xs ++ unCells ys := by simp [unCells]
    rw [this, List.length_append]; exact e2
/-- A row as it is built. -/
theorem OU.lit {B : Nat} (w : World) (l : List Int) (h : B ≤ w.heap.size) (hm : l.length ≤ maxLen) : OU B (w.alloc (.cells (unCells l).toArray 22)) (.slice (some ⟨w.heap.size, 0, none⟩) l.length l.length) l := by
  refine ⟨by simp [unCells], .inr ⟨w.heap.size, l.length, (unCells l).toArray, rfl, h, heap_alloc_new _ _, Nat.le_refl _, hm, by simp [unCells], ?_⟩⟩
  rw [List.take_of_length_le]
  simp [unCells]

section
variable {ops : Array Oper} {o : Oper} {a : Act} {w : World} {K : Act → World → Prop} {Q : Exit → Act → World → Prop} {E : Prop}
theorem step_append_us (hgd : o.guard = none) (sx x : Operand) (ho : o.op = .call { callee := .builtin .append, args := #[sx, x], argTypes := #[24, 24] })
    {B : Nat} {v u : Value} {xs ys : List Int} (hs : a.eval sx = v) (hx : a.eval x = u) (h1 : OU B w v xs) (h2 : USrc w u ys) (hB : B ≤ w.heap.size) (hl : xs.length + ys.length ≤ 1000000)
    (h : ∀ v' w', OU B w' v' (xs ++ ys) → Below B w w' → K (a.put o.dst v') w') :
    if Region.wanted o (yielded ops a.tmps) = true then Oper.wp Try.prog o a w K Q else E := by
  have hw : Region.wanted o (yielded ops a.tmps) = true := by simp [Region.wanted, hgd]
  rw [if_pos hw]
  obtain ⟨v', w', hr, h3, h4⟩ := run_append_us hB h1 h2 hl o.type
  unfold Oper.wp execOp
  simp only [ho, resolve, invoke, builtin, Sem.run_bind, Sem.run_pure, Result.andThen_ok, List.map_toArray, List.map_cons, List.map_nil, hs, hx, hr]
  exact h v' w' h3 h4
end
section
variable (w : World)
theorem wpList_append_us {ops : Array Oper} {rest : List Oper} {o : Oper} {a : Act} {Q : Exit → Act → World → Prop} (hgd : o.guard = none) (sx x : Operand)
    (ho : o.op = .call { callee := .builtin .append, args := #[sx, x], argTypes := #[24, 24] })
    {B : Nat} {v u : Value} {xs ys : List Int} (hB : B ≤ w.heap.size) (hs : a.eval sx = v) (hx : a.eval x = u) (h1 : OU B w v xs) (h2 : USrc w u ys) (hl : xs.length + ys.length ≤ 1000000)
    (h : ∀ v' w', OU B w' v' (xs ++ ys) → Below B w w' → wpList Try.prog ops Q rest (a.put o.dst v') w') : wpList Try.prog ops Q (o :: rest) a w := by
  refine wpList_plain hgd fun _ hK => ?_
  obtain ⟨v', w', hr, h3, h4⟩ := run_append_us hB h1 h2 hl o.type
  unfold Oper.wp execOp
  simp only [ho, resolve, invoke, builtin, Sem.run_bind, Sem.run_pure, Result.andThen_ok, List.map_toArray, List.map_cons, List.map_nil, hs, hx, hr]
  exact hK _ _ (h v' w' h3 h4)
end
end Go.Proofs.Ytoaibabkkphlaaa
