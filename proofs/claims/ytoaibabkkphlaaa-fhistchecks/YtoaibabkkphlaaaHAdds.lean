/-
  Package hist: adds.
-/
import Derived.Test.YtoaibabkkphlaaaHMem
namespace Go.Proofs.Ytoaibabkkphlaaa
open Go.RowKit Mem Spans
set_option linter.unusedSimpArgs false
set_option linter.unusedVariables false
set_option maxRecDepth 100000

theorem sub_u {a b : Int} (ha : inu a) (hb : 0 ≤ b) (h : b ≤ a) : IntKind.u64.wrap (a - b) = a - b ∧ inu (a - b) := by
  unfold inu at *; rw [IntKind.wrap_u64]; omega
theorem to_u {n : Int} (h0 : 0 ≤ n) (h : in64 n) : IntKind.u64.wrap n = n := by
  unfold in64 at h; rw [IntKind.wrap_u64]; omega
def rst (p n : List Sp) : Nat → List Int
  | 0 => snds p ++ snds n
  | 1 => snds n
  | _ => []
theorem lft_cons (a n : Int) (r : List Int) : lft a (n :: r) = if n ≤ a then lft (a - n) r else none := rfl

/-- Both sides lie in a block, the histogram in the one ahead. -/
def AB (w wr : World) (vp vn : Value) (sm : Int) : Prop :=
  Fr [] w wr ∧ wr.cell? ⟨w.heap.size + 1, 0, none⟩ = some vp ∧ wr.cell? ⟨w.heap.size + 1, 1, none⟩ = some vn ∧ wr.cell? ⟨w.heap.size, 4, none⟩ = some (.int .u64 sm)
theorem AB.kept {w wr wx : World} {vp vn : Value} {sm : Int} (h : AB w wr vp vn sm) (f : Fr [] wr wx) : AB w wx vp vn sm :=
  ⟨h.1.trans f (by simp), f.cell_some h.2.1 (by simp), f.cell_some h.2.2.1 (by simp), f.cell_some h.2.2.2 (by simp)⟩
theorem ab_start (w : World) (cs : Array Value) (t u : TypeId) (vp vn : Value) (sm : Int) (h : cs[4]? = some (.int .u64 sm)) : AB w ((w.alloc (.cells cs t)).alloc (.cells #[vp, vn] u)) vp vn sm := by
  have e : (w.alloc (.cells cs t)).heap.size = w.heap.size + 1 := World.size_alloc _ _
  refine ⟨((Fr.refl [] w).alloc _).alloc _, ?_, ?_, ?_⟩
  · rw [← e]; exact blk (Fr.refl _ _) 0 rfl
  · rw [← e]; exact blk (Fr.refl _ _) 1 rfl
  · exact blk ((Fr.refl [] _).alloc _) 4 h

set_option maxHeartbeats 2000000 in
theorem adds_any (hv vp vn : Value) (h : Hs) (p n : List Sp) (w : World) (hh : HSrc w hv h) (h1 : SSrc w vp p) (h2 : SSrc w vn n) (hp : ∀ x ∈ snds p, 0 ≤ x) (hn : ∀ x ∈ snds n, 0 ≤ x) :
    Calls Try.prog 91 #[hv, vp, vn] w fun e w' => e = .returned (.bool (fts h.zc h.c h.sm (snds p) (snds n))) ∧ Fr [] w w' := by
  obtain ⟨po, pc, no, nc, qo, qc, ro, rc, rfl, ⟨hs, hz, hzc, hc, hsm⟩, _, _, _, _, _⟩ := hh.opens
  clear hh
  obtain ⟨s, z, zc, c, sm, P, N, pd, nd⟩ := h
  simp only at hs hz hzc hc hsm ⊢
  have HU : Hid (inu zc ∧ inu c ∧ inu sm) := ⟨hzc, hc, hsm⟩
  have HP : Hid (SSrc w vp p) := h1
  have HN : Hid (SSrc w vn n) := h2
  have HPN : Hid (∀ x ∈ snds p, 0 ≤ x) := hp
  have HNN : Hid (∀ x ∈ snds n, 0 ≤ x) := hn
  obtain ⟨ao, cap, rfl, hcap, hmax, _⟩ := h1
  obtain ⟨bo, bcap, rfl, hbcap, hbmax, _⟩ := h2
  clear hs hz hzc hc hsm hp hn
  go_enter Try.func91, Try.ntmps91
  by_cases hzc : zc ≤ c
  · have hsub : IntKind.u64.wrap (c - zc) = c - zc := (sub_u HU.out.2.1 HU.out.1.1 hzc).1
    have hsu : Hid (inu (c - zc)) := (sub_u HU.out.2.1 HU.out.1.1 hzc).2
    have HFT : Hid (fts zc c sm (snds p) (snds n) = (match lft (c - zc) (snds p ++ snds n) with | some a => decide (a = 0) || nan sm | none => false)) := by unfold Hid fts; rw [decide_eq_true hzc]; rfl
    go_wp2
    go_loopw [26, 7] (fun i lf wr => ∃ (k : Nat) (a : Int), k ≤ 2 ∧ i = .int .i64 (k : Int) ∧ lf = .int .u64 a ∧ inu a ∧ lft (c - zc) (snds p ++ snds n) = lft a (rst p n k) ∧ AB w wr (.slice ao p.length cap) (.slice bo n.length bcap) sm) (fun i _ _ => 2 - (intOf i).toNat)
    case atStart => exact ⟨0, c - zc, by omega, rfl, rfl, hsu.out, rfl, ab_start w _ _ _ _ _ _ rfl⟩
    case round =>
      obtain ⟨k, a, hk, rfl, rfl, hia, hla, hf⟩ := hrel
      have HIA : Hid (inu a) := hia
      have HLA : Hid (lft (c - zc) (snds p ++ snds n) = lft a (rst p n k)) := hla
      have HF : Hid (AB w wr (.slice ao p.length cap) (.slice bo n.length bcap) sm) := hf
      clear hia hla hf
      by_cases hk2 : k < 2
      · obtain ⟨ko, kl, kcap, hkc, HKS, HKR, HKN⟩ : ∃ ko kl kcap, wr.cell? ⟨w.heap.size + 1, k, none⟩ = some (.slice ko (List.length kl) kcap) ∧ Hid (SSrc w (.slice ko (List.length kl) kcap) kl) ∧ Hid (rst p n k = snds kl ++ rst p n (k + 1)) ∧ Hid (∀ x ∈ snds kl, 0 ≤ x) := by
          obtain rfl | rfl : k = 0 ∨ k = 1 := by omega
          · exact ⟨ao, p, cap, HF.out.2.1, HP.out, rfl, HPN.out⟩
          · exact ⟨bo, n, bcap, HF.out.2.2.1, HN.out, by simp [Hid, rst], HNN.out⟩
        obtain ⟨_, _, hv1, hkcap, hkmax, hk64, kb, koff, hka, hkcell⟩ := HKS.out
        simp only [Value.slice.injEq, true_and] at hv1
        obtain ⟨rfl, rfl⟩ := hv1
        have HKC : Hid (∀ j s, kl[j]? = some s → w.cell? ⟨kb, koff + j * 2, none⟩ = some (.int .i64 s.1) ∧ w.cell? ⟨kb, koff + j * 2 + 1, none⟩ = some (.int .i64 s.2)) := hkcell
        have HKA : Hid (0 < kl.length → ko = some ⟨kb, koff, none⟩) := hka
        have HK6 : Hid (∀ s ∈ kl, in64 s.1 ∧ in64 s.2) := hk64
        have hkm : kl.length ≤ 9223372036854775807 := by unfold maxLen at hkmax; omega
        clear hkcell hka hk64
        have hkz : (k : Int) < 2 := by omega
        go_wp2
        go_loopw [32, 7] (fun i lf wx => ∃ (m : Nat) (b : Int), m ≤ kl.length ∧ i = .int .i64 (m : Int) ∧ lf = .int .u64 b ∧ inu b ∧ lft a (rst p n k) = lft b (snds (kl.drop m) ++ rst p n (k + 1)) ∧ AB w wx (.slice ao p.length cap) (.slice bo n.length bcap) sm) (fun i _ _ => kl.length - (intOf i).toNat)
        case atStart => exact ⟨0, a, by omega, rfl, rfl, HIA.out, by rw [HKR.out]; simp, HF.out⟩
        case round =>
          obtain ⟨m, b, hm, rfl, rfl, hib, hlb, hf⟩ := hrel
          have HIB : Hid (inu b) := hib
          have HLB : Hid (lft a (rst p n k) = lft b (snds (kl.drop m) ++ rst p n (k + 1))) := hlb
          have HF2 : Hid (AB w wr (.slice ao p.length cap) (.slice bo n.length bcap) sm) := hf
          clear hib hlb hf
          by_cases hml : m < kl.length
          · obtain rfl := HKA.out (by omega)
            obtain ⟨x, hx⟩ := at_lt hml
            have c0 : wr.cell? ⟨kb, koff + m * 2, none⟩ = some (.int .i64 x.1) := HF2.out.1.cell_some (HKC.out m x hx).1 (by simp)
            have c1 : wr.cell? ⟨kb, koff + m * 2 + 1, none⟩ = some (.int .i64 x.2) := HF2.out.1.cell_some (HKC.out m x hx).2 (by simp)
            have HX6 := (HK6.out x (List.mem_of_getElem? hx)).2
            have HX0 : 0 ≤ x.2 := HKN.out x.2 (List.mem_map.2 ⟨x, List.mem_of_getElem? hx, rfl⟩)
            have HLB2 : Hid (lft a (rst p n k) = lft b (x.2 :: (snds (kl.drop (m + 1)) ++ rst p n (k + 1)))) := by
              rw [Hid, HLB.out, drop_at hx]; rfl
            clear hx HLB
            obtain ⟨o, q⟩ := x
            simp only at c0 c1 HX6 HX0
            have HF3 : Hid (AB w (wr.alloc (.cells #[.int .i64 o, .int .i64 q] 141)) (.slice ao p.length cap) (.slice bo n.length bcap) sm) := HF2.out.kept ((Fr.refl [] _).alloc _)
            have hq : IntKind.u64.wrap q = q := to_u HX0 HX6
            clear HX6
            by_cases hle : q ≤ b
            · have hs1 : IntKind.u64.wrap (b - q) = b - q := (sub_u HIB.out HX0 hle).1
              have HIB2 : Hid (inu (b - q)) := (sub_u HIB.out HX0 hle).2
              have HLB3 : Hid (lft a (rst p n k) = lft (b - q) (snds (kl.drop (m + 1)) ++ rst p n (k + 1))) := by rw [Hid, HLB2.out, lft_cons, if_pos hle]
              clear HX0
              go_wp2
              go_roundw
              case rel => exact ⟨m + 1, b - q, by omega, by go_num, rfl, HIB2.out, HLB3.out, HF3.out⟩
              case measure => simp [intOf]; omega
            · have HE : Hid (fts zc c sm (snds p) (snds n) = false) := by
                rw [Hid, HFT.out, HLA.out, HLB2.out, lft_cons, if_neg hle]
              have hlt : b < q := by omega
              clear HX0
              go_wp2
              go_ret
              exact ⟨by rw [HE.out]; rfl, HF3.out.1⟩
          · have HLB2 : Hid (lft (c - zc) (snds p ++ snds n) = lft b (rst p n (k + 1))) := by
              rw [Hid, HLA.out, HLB.out, List.drop_eq_nil_of_le (by omega)]; rfl
            go_wp2
            go_roundw
            case rel => exact ⟨k + 1, b, by omega, by go_num, rfl, HIB.out, HLB2.out, HF2.out⟩
            case measure => simp [intOf]; omega
      · obtain rfl : k = 2 := by omega
        have HE : Hid (fts zc c sm (snds p) (snds n) = (decide (a = 0) || nan sm)) := by rw [Hid, HFT.out, HLA.out]; rfl
        have c4 := HF.out.2.2.2
        by_cases ha : a = 0
        · subst ha
          go_wp2
          go_ret
          exact ⟨by rw [HE.out]; rfl, HF.out.1⟩
        · have hb : (a == 0) = false := by simpa using ha
          go_wp2_with fail
          refine (nan_any sm _ HU.out.2.2).mono ?_
          rintro e w3 ⟨rfl, rfl⟩
          go_wp2
          go_ret
          exact ⟨by rw [HE.out, decide_eq_false ha]; rfl, HF.out.1⟩
  · have HE : Hid (fts zc c sm (snds p) (snds n) = false) := by unfold Hid fts; rw [decide_eq_false hzc]; rfl
    have hlt : c < zc := by omega
    go_wp2
    go_ret
    exact ⟨by rw [HE.out]; rfl, (Fr.refl _ _).alloc _⟩
end Go.Proofs.Ytoaibabkkphlaaa
