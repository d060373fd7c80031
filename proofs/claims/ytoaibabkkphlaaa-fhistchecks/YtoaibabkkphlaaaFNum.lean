/-
  Package fhist: numbers, Equal.
-/
import Derived.Test.YtoaibabkkphlaaaFCanon
namespace Go.Proofs.Ytoaibabkkphlaaa
open Go.RowKit Mem Spans
set_option linter.unusedSimpArgs false
set_option linter.unusedVariables false
set_option maxRecDepth 100000

theorem Try.sizeOf98 : (Try.prog.info? 98).map (·.size) = some 5 := by kernel_rfl
theorem five_res {fn : Func} {p : Tmp} (h : fn.results = #[.cell p 98]) (tmps : Array Value) (w : World) (g : Nat) (a0 a1 a2 a3 a4 : Value)
    (hp : tmps.getD p undef = .pointer (some ⟨g, 0, none⟩)) (hg : w.heap[g]? = some (.cells #[a0, a1, a2, a3, a4] 98 (0, 0))) : (results fn tmps).run Try.prog w = .ok (.agg #[a0, a1, a2, a3, a4]) w :=
  results_cell_row h tmps w g 98 #[a0, a1, a2, a3, a4] (0, 0) _ hp hg Try.underlying98 rfl Try.sizeOf98
@[go_sem] theorem build5 (a b c d e : Int) (w : World) : (Instr.build 98 #[(0, .int .u64 a), (1, .int .u64 b), (2, .int .u64 c), (3, .int .u64 d), (4, .int .u64 e)]).run Try.prog w = .ok (.agg #[.int .u64 a, .int .u64 b, .int .u64 c, .int .u64 d, .int .u64 e]) w := run_build w 98 _ _ (by kernel_rfl)
theorem set5_row {w : World} {g : Nat} {t : TypeId} {a0 a1 a2 a3 a4 : Value} (h : w.heap[g]? = some (.cells #[a0, a1, a2, a3, a4] t (0, 0))) (u0 u1 u2 u3 u4 : Value) :
    (((((w.setCell ⟨g, 0, none⟩ u0).setCell ⟨g, 1, none⟩ u1).setCell ⟨g, 2, none⟩ u2).setCell ⟨g, 3, none⟩ u3).setCell ⟨g, 4, none⟩ u4).heap[g]? = some (.cells #[u0, u1, u2, u3, u4] t (0, 0)) := by
  simp [World.setCell, Array.getElem?_modify, h]

/-- A schema as a number without a sign. -/
def usg (s : Int) : Int := s % 18446744073709551616
theorem usg_inj {a b : Int} (ha : in64 a) (hb : in64 b) : usg a = usg b ↔ a = b := by
  unfold in64 at ha hb
  unfold usg
  omega
def nmb (h : Fs) : Array Value := #[.int .u64 (usg h.s), .int .u64 h.z, .int .u64 h.zc, .int .u64 h.c, .int .u64 h.sm]

set_option maxHeartbeats 2000000 in
theorem nmb_any (v : Value) (h : Fs) (w : World) (hh : FSrc w v h) :
    Calls Try.prog 60 #[v] w fun e w' => e = .returned (.agg (nmb h)) ∧ Fr [] w w' := by
  obtain ⟨po, pc, no, nc, qo, qc, ro, rc, rfl, _⟩ := hh.opens
  clear hh
  obtain ⟨s, z, zc, c, sm, P, N, pd, nd⟩ := h
  simp only [nmb]
  go_enter Try.func60, Try.ntmps60
  obtain ⟨cs, hcs⟩ : ∃ cs : Array Value, cs = #[.int .i64 s, .int .u64 z, .int .u64 zc, .int .u64 c, .int .u64 sm, .slice po P.length pc, .slice no N.length nc, .slice qo pd.length qc, .slice ro nd.length rc] := ⟨_, rfl⟩
  have HA : Hid (∀ z, NineF ((w.alloc (.cells cs 26)).alloc (.cells z 98)) w.heap.size cs ∧ ((w.alloc (.cells cs 26)).alloc (.cells z 98)).heap[w.heap.size + 1]? = some (.cells z 98 (0, 0)) ∧ Fr [] w ((w.alloc (.cells cs 26)).alloc (.cells z 98))) := by
    intro z
    refine ⟨nineF_mid _ _ _, ?_, ((Fr.refl [] w).alloc _).alloc _⟩
    have := heap_alloc_new (w.alloc (.cells cs 26)) (.cells z 98)
    rwa [World.size_alloc] at this
  subst hcs
  have hw : IntKind.u64.wrap s = usg s := by rw [IntKind.wrap_u64]; rfl
  go_upto_region 1 with fail
  obtain ⟨hA3, hA6, hAF⟩ := HA.out #[.int .u64 0, .int .u64 0, .int .u64 0, .int .u64 0, .int .u64 0]
  clear HA
  generalize (w.alloc (.cells _ _)).alloc (.cells _ _) = wA at hA3 hA6 hAF ⊢
  have c0 := hA3.cell 0 rfl
  have c1 := hA3.cell 1 rfl
  have c2 := hA3.cell 2 rfl
  have c3 := hA3.cell 3 rfl
  have c4 := hA3.cell 4 rfl
  have d0 : wA.cell? ⟨w.heap.size + 1, 0, none⟩ = some (.int .u64 0) := by rw [cell_at hA6]; rfl
  have d1 : wA.cell? ⟨w.heap.size + 1, 1, none⟩ = some (.int .u64 0) := by rw [cell_at hA6]; rfl
  have d2 : wA.cell? ⟨w.heap.size + 1, 2, none⟩ = some (.int .u64 0) := by rw [cell_at hA6]; rfl
  have d3 : wA.cell? ⟨w.heap.size + 1, 3, none⟩ = some (.int .u64 0) := by rw [cell_at hA6]; rfl
  have d4 : wA.cell? ⟨w.heap.size + 1, 4, none⟩ = some (.int .u64 0) := by rw [cell_at hA6]; rfl
  have f0 := frozen_at hA6 0
  have f1 := frozen_at hA6 1
  have f2 := frozen_at hA6 2
  have f3 := frozen_at hA6 3
  have f4 := frozen_at hA6 4
  have H6 : Hid (wA.heap[w.heap.size + 1]? = some (.cells #[.int .u64 0, .int .u64 0, .int .u64 0, .int .u64 0, .int .u64 0] 98 (0, 0))) := hA6
  have HF : Hid (Fr [] w wA) := hAF
  clear hA3 hA6 hAF
  go_wp2
  refine bodyPost_ret (five_res rfl _ _ (w.heap.size + 1) _ _ _ _ _ rfl (set5_row H6.out (.int .u64 (usg s)) (.int .u64 z) (.int .u64 zc) (.int .u64 c) (.int .u64 sm))) rfl ?_
  exact ⟨rfl, ((((HF.out.setCell _ _ (.inr (by simp))).setCell _ _ (.inr (by simp))).setCell _ _ (.inr (by simp))).setCell _ _ (.inr (by simp))).setCell _ _ (.inr (by simp))⟩
end Go.Proofs.Ytoaibabkkphlaaa
