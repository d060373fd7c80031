/-
  A slice of bytes that came in, as bytes.
-/
import Derived.Test.YtmmmjklmhabpoaaAwake
namespace Go.Proofs.Ytmmmjklmhabpoaa
open Go.RowKit Mem Bits
set_option linter.unusedSimpArgs false
set_option linter.unusedVariables false

/-- What the walk is told of a slice of integers that came in: it is nil; or it leads to a row of 'cap' cells, the numbers 'zs' (the first 'len' are its elements, the rest its spare room), each fitting its kind. -/
def IsRow (k : IntKind) (w : World) (a : Option Addr) (len cap : Nat) (zs : List Int) : Prop :=
  (a = none ∧ len = 0 ∧ cap = 0 ∧ zs = []) ∨
  ∃ x, a = some x ∧ len ≤ cap ∧ cap ≤ maxLen ∧ zs.length = cap ∧ (∀ i, i < zs.length → w.cell? (x.add i) = some (.int k (zs.getD i 0))) ∧ ∀ n ∈ zs, (Lit.int k n).wf = true

theorem IsRow.src {w : World} {a : Option Addr} {len cap : Nat} {zs : List Int} (h : IsRow .u8 w a len cap zs) : ∃ bs : List Nat, bs.length = len ∧ Src w (.slice a len cap) bs := by
  rcases h with ⟨rfl, rfl, rfl, rfl⟩ | ⟨x, rfl, hl, hm, hz, hc, hw⟩
  · exact ⟨[], rfl, Src.nil w⟩
  · have hlen : ((zs.take len).map Int.toNat).length = len := by simp; omega
    refine ⟨(zs.take len).map Int.toNat, hlen, ?_⟩
    have hbd : ∀ z ∈ zs, 0 ≤ z ∧ z < 256 := by
      intro z hzm
      have := hw z hzm
      simp [Lit.wf, IntKind.min, IntKind.max, IntKind.bits, IntKind.signed] at this
      omega
    refine ⟨some x, cap, by rw [hlen], by omega, hm, ?_, ?_⟩
    · intro h0
      rw [hlen] at h0
      obtain ⟨b, off, spot⟩ := x
      have hc0 := hc 0 (by omega)
      have hspot : spot = none := by simpa [Addr.add] using World.cell?_spot hc0
      subst hspot
      refine ⟨b, off, rfl, fun j hj => ?_⟩
      rw [hlen] at hj
      have e1 : (⟨b, off, none⟩ : Addr).add j = ⟨b, off + j, none⟩ := by unfold Addr.add; split <;> simp_all
      rw [← e1, hc j (by omega)]
      have hjz : j < zs.length := by omega
      have hmem := hbd (zs[j]) (List.getElem_mem hjz)
      simp [u8, List.getElem?_take, hj, hjz]
      omega
    · intro y hy
      simp only [List.mem_map] at hy
      obtain ⟨z, hzm, rfl⟩ := hy
      have := hbd z (List.mem_of_mem_take hzm)
      omega

theorem Src.kept {w w' : World} {v : Value} {bs : List Nat} {S : List Nat} (h : Src w v bs) (f : Fr S w w') (hS : ∀ x ∈ S, w.heap.size ≤ x) : Src w' v bs := by
  obtain ⟨ao, cap, rfl, h1, h2, h3, h4⟩ := h
  refine ⟨ao, cap, rfl, h1, h2, fun h0 => ?_, h4⟩
  obtain ⟨b, off, rfl, hc⟩ := h3 h0
  refine ⟨b, off, rfl, fun j hj => ?_⟩
  have hcj := hc j hj
  refine f.cell_some hcj (fun hm => ?_)
  have := World.block_lt_of_cell? w _ hcj
  have := hS _ hm
  simp at *
  omega

set_option maxHeartbeats 400000 in
theorem lright_any (ao : Option Addr) (len cap : Nat) (n : Int) (w : World) (hl : len ≤ 1000) :
    Calls Try.prog 9 #[.slice ao len cap, .int .i64 n] w fun e w' => e = .returned (.bool (decide (0 ≤ n ∧ n ≤ 8 * (len : Int)))) ∧ w = w' := by
  by_cases h : 0 ≤ n
  · by_cases h2 : n ≤ 8 * (len : Int)
    · rw [decide_eq_true ⟨h, h2⟩]
      go_enter Try.func9, Try.ntmps9
      go_wp2
      go_ret
      exact ⟨by simp [h2], rfl⟩
    · rw [decide_eq_false (by omega)]
      go_enter Try.func9, Try.ntmps9
      go_wp2
      go_ret
      exact ⟨by simp [h2], rfl⟩
  · rw [decide_eq_false (by omega)]
    have hd : decide (0 ≤ n) = false := decide_eq_false h
    go_enter Try.func9, Try.ntmps9
    go_wp2
    go_ret
    exact ⟨by simp, rfl⟩

theorem nbs_le {n len : Nat} (h : n ≤ 8 * len) : nbs n ≤ len := by unfold nbs; omega
theorem nbs_gt {n len : Nat} (h : 8 * len < n) : len < nbs n := by unfold nbs; omega
end Go.Proofs.Ytmmmjklmhabpoaa
