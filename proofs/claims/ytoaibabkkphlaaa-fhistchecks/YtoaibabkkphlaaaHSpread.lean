/-
  Package hist: spread.
-/
import Derived.Test.YtoaibabkkphlaaaHCanon
namespace Go.Proofs.Ytoaibabkkphlaaa
open Go.RowKit Go.Shelf Mem Spans
set_option linter.unusedSimpArgs false
set_option linter.unusedVariables false
set_option maxRecDepth 100000
attribute [local go_sem] Oper.semAt_some

/-- What spread has behind a place: how many of its own were met, the counts. -/
def spt (o : List Sp) (st : Nat × List Int) (p : Int) : Nat × List Int :=
  match o[st.1]? with
  | some s => if s.1 = p then (st.1 + 1, st.2 ++ [s.2]) else (st.1, st.2 ++ [0])
  | none => (st.1, st.2 ++ [0])
def sps (o : List Sp) (ps : List Int) : Nat × List Int := ps.foldl (spt o) (0, [])
theorem sps_snoc (o : List Sp) (ps : List Int) (p : Int) : sps o (ps ++ [p]) = spt o (sps o ps) p := by simp [sps, List.foldl_append]
theorem spt_hit {o : List Sp} {st : Nat × List Int} {p : Int} {s : Sp} (h : o[st.1]? = some s) (e : s.1 = p) : spt o st p = (st.1 + 1, st.2 ++ [s.2]) := by unfold spt; rw [h]; simp only; rw [if_pos e]
theorem spt_miss {o : List Sp} {st : Nat × List Int} {p : Int} (h : ∀ s, o[st.1]? = some s → s.1 ≠ p) : spt o st p = (st.1, st.2 ++ [0]) := by
  unfold spt
  split
  · rename_i s hs; rw [if_neg (h s hs)]
  · rfl
theorem sps_from (o : List Sp) (ps : List Int) (st : Nat × List Int) : (ps.foldl (spt o) st).2.length = st.2.length + ps.length ∧ (st.1 ≤ o.length → (ps.foldl (spt o) st).1 ≤ o.length) := by
  induction ps generalizing st with
  | nil => simp
  | cons p r ih =>
    have k := ih (spt o st p)
    rw [List.foldl_cons]
    by_cases h : ∃ s, o[st.1]? = some s ∧ s.1 = p
    · obtain ⟨s, h1, h2⟩ := h
      have := (List.getElem?_eq_some_iff.1 h1).1
      rw [spt_hit h1 h2] at k ⊢
      simp only [List.length_append, List.length_cons, List.length_nil] at k ⊢
      exact ⟨by omega, fun _ => k.2 (by omega)⟩
    · rw [spt_miss (fun s h1 h2 => h ⟨s, h1, h2⟩)] at k ⊢
      simp only [List.length_append, List.length_cons, List.length_nil] at k ⊢
      exact ⟨by omega, k.2⟩
theorem sps_length (o : List Sp) (ps : List Int) : (sps o ps).2.length = ps.length ∧ (sps o ps).1 ≤ o.length := by
  have := sps_from o ps (0, [])
  unfold sps
  simp only [List.length_nil, Nat.zero_le, Nat.zero_add, forall_const] at this
  exact this
theorem sps_in_from {o : List Sp} (ho : ∀ s ∈ o, in64 s.1 ∧ in64 s.2) (ps : List Int) (st : Nat × List Int) (h : ∀ z ∈ st.2, in64 z) : ∀ z ∈ (ps.foldl (spt o) st).2, in64 z := by
  induction ps generalizing st with
  | nil => exact h
  | cons p r ih =>
    rw [List.foldl_cons]
    refine ih _ ?_
    by_cases k : ∃ s, o[st.1]? = some s ∧ s.1 = p
    · obtain ⟨s, h1, h2⟩ := k
      rw [spt_hit h1 h2]
      intro z hz
      rcases List.mem_append.1 hz with h3 | h3
      · exact h z h3
      · rw [List.mem_singleton.1 h3]; exact (ho s (List.mem_of_getElem? h1)).2
    · rw [spt_miss (fun s h1 h2 => k ⟨s, h1, h2⟩)]
      intro z hz
      rcases List.mem_append.1 hz with h3 | h3
      · exact h z h3
      · rw [List.mem_singleton.1 h3]; unfold in64; omega
theorem sps_in {o : List Sp} (ho : ∀ s ∈ o, in64 s.1 ∧ in64 s.2) (ps : List Int) : ∀ z ∈ (sps o ps).2, in64 z := sps_in_from ho ps _ (by simp)
theorem cell_one_at (w : World) (g : Nat) (x : Int) (t : TypeId) (hg : w.heap.size = g) : ∀ j u, [Value.int .i64 x][j]? = some u → (w.alloc (.cells #[.int .i64 x] t)).cell? ((⟨g, 0, none⟩ : Addr).add j) = some u := by
  subst hg
  intro j u hj
  have e : (⟨w.heap.size, 0, none⟩ : Addr).add j = ⟨w.heap.size, j, none⟩ := by unfold Addr.add; split <;> simp_all
  rw [e, World.cell?_alloc_at _ _ _ _ rfl]
  simpa using hj

/-- The boxes of the counts, of what came in and of the number, the counts' row. -/
def SPI (B : Nat) (w : World) (ov : Value) (A : Nat) (ls : List Int) (W : World) : Prop :=
  (((∃ v, Boxed W (B + 1) 68 v ∧ W.ownsRow B 2 1 v ls.length (inCells ls) ∧ (v = .slice none 0 0 ↔ ls = [])) ∧ Below B w W) ∧ Boxed W B 118 ov) ∧ Boxed W (B + 1 + 1) 3 (.int .i64 (A : Nat))
theorem spi_at {B : Nat} {w : World} {ov : Value} {A : Nat} {ls : List Int} {W : World} (h : SPI B w ov A ls W) :
    KeepsOthers W (W.setCell ⟨B + 1 + 1, 0, none⟩ (.int .i64 ((A : Int) + 1))) ∧ Below B W (W.setCell ⟨B + 1 + 1, 0, none⟩ (.int .i64 ((A : Int) + 1))) ∧ SPI B w ov (A + 1) ls (W.setCell ⟨B + 1 + 1, 0, none⟩ (.int .i64 ((A : Int) + 1))) := by
  obtain ⟨⟨⟨⟨v, hv, hr, hn⟩, hb⟩, hp⟩, ha⟩ := h
  have hbl : Below B W (W.setCell ⟨B + 1 + 1, 0, none⟩ (.int .i64 ((A : Int) + 1))) := (Below.refl B W).setCell (p := ⟨B + 1 + 1, 0, none⟩) (by simp only; omega) _
  refine ⟨KeepsOthers.setCell _ _ _, hbl, ⟨⟨⟨v, hv.other (by omega) _, hr.kept (grownBy_setCell' _ _ _) (.inr (ha.not_row (by decide) hr).symm), hn⟩, hb.trans hbl⟩, hp.other (by omega) _⟩, ?_⟩
  rw [show (((A + 1 : Nat)) : Int) = (A : Int) + 1 from by omega]
  exact ha.set _
theorem spi_app {B : Nat} {w : World} {ov v v' : Value} {A : Nat} {ls : List Int} {s : Int} {W w3 : World} {tmp : Obj} (h : SPI B w ov A ls W) (hv : Boxed W (B + 1) 68 v)
    (hown : w3.ownsRow B 2 1 v' (ls.length + 1) (inCells (ls ++ [s]))) (hgrow : (W.alloc tmp).grownBy w3 v.ownBlock) :
    Boxed w3 (B + 1) 68 v ∧ KeepsOthers W (w3.setCell ⟨B + 1, 0, none⟩ v') ∧ Below B W (w3.setCell ⟨B + 1, 0, none⟩ v') ∧ SPI B w ov A (ls ++ [s]) (w3.setCell ⟨B + 1, 0, none⟩ v') := by
  obtain ⟨⟨⟨⟨v0, hv', hr, hn⟩, hb⟩, hp⟩, ha⟩ := h
  have e : v0 = v := by
    have h1 := hv'.cell
    rw [hv.cell] at h1
    exact (Option.some.inj h1).symm
  subst e
  obtain ⟨hv1, hv2, hr2, hk2, hb2⟩ := hv.appended (by decide) hr (by have := hv.lt; omega) (by omega) hown hgrow
  refine ⟨hv1, hk2, hb2, ⟨⟨⟨_, hv2, by rw [List.length_append]; exact hr2, ?_⟩, hb.trans hb2⟩, ((hp.alloc _).kept hgrow (hp.not_row (by decide) hr)).other (by omega) _⟩, ((ha.alloc _).kept hgrow (ha.not_row (by decide) hr)).other (by omega) _⟩
  obtain ⟨g', cap', rfl⟩ := ownsRow_succ hown
  simp

theorem NOwn.put {e : TypeId} {B D : Nat} {w : World} {v : Value} {zs : List Int} {x : Option (List Deferred)} (h : NOwn e B w v zs) (hK : w.heap[D]? = some (Obj.deferred x)) : NOwn e B (w.putObj D (.deferred none)) v zs := by
  have hn : v = .slice none 0 0 ↔ zs = [] := by
    rcases h with ⟨rfl, rfl⟩ | ⟨g, _, h0, hr⟩
    · simp
    · obtain ⟨c, rfl⟩ := hr.val
      constructor
      · intro h; simp at h
      · intro h; subst h; simp at h0
  exact NOwn.of_owns (ownsRow_putObj h.owns _ hK rfl) hn
end Go.Proofs.Ytoaibabkkphlaaa
