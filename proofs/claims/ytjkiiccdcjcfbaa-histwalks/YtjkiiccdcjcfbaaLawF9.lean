/-
  What the statements of layer 9 ask of a histogram: empty, numbers, full, same, like2.
-/
import Derived.Test.YtjkiiccdcjcfbaaHChecksWalk
import Derived.Test.YtjkiiccdcjcfbaaHPure2
namespace Go.Proofs.Ytjkiiccdcjcfbaa
open Go.RowKit Mem Spans
set_option linter.unusedSimpArgs false
set_option linter.unusedVariables false
set_option maxRecDepth 100000


set_option maxHeartbeats 2000000 in
theorem empty_any (v : Value) (w : World) (hh : HSrc w v hzero) :
    Calls Try.prog 25 #[v] w fun e w' => e = .returned (.bool true) ∧ Fr [] w w' := by
  obtain ⟨e1, f1, e2, f2, e3, f3, e4, f4, rfl⟩ : ∃ e1 f1 e2 f2 e3 f3 e4 f4, v = .agg #[.int .i64 0, .int .u64 0, .int .u64 0, .int .u64 0, .int .u64 0, .slice e1 0 f1, .slice e2 0 f2, .slice e3 0 f3, .slice e4 0 f4] := by
    obtain ⟨a1, b1, a2, b2, a3, b3, a4, b4, e, _⟩ := hh.opens
    exact ⟨a1, b1, a2, b2, a3, b3, a4, b4, e⟩
  clear hh
  go_enter Try.func25, Try.ntmps25
  go_wp2
  go_ret
  exact ⟨rfl, (Fr.refl [] w).alloc _⟩

set_option maxHeartbeats 2000000 in
theorem numbers_any (v u : Value) (a b : Hs) (w : World) (h1 : HSrc w v a) (h2 : HSrc w u b) (e : a.s = b.s ∧ a.z = b.z ∧ a.zc = b.zc ∧ a.c = b.c ∧ a.sm = b.sm) :
    Calls Try.prog 26 #[v, u] w fun e w' => e = .returned (.bool true) ∧ Fr [] w w' := by
  obtain ⟨po, pc, no, nc, qo, qc, ro, rc, rfl, _⟩ := h1.opens
  obtain ⟨po2, pc2, no2, nc2, qo2, qc2, ro2, rc2, rfl, _⟩ := h2.opens
  obtain ⟨s, z, zc, c, sm, P, N, pd, nd⟩ := a
  obtain ⟨s2, z2, zc2, c2', sm2, P2, N2, pd2, nd2⟩ := b
  simp only at e
  obtain ⟨rfl, rfl, rfl, rfl, rfl⟩ := e
  clear h1 h2
  go_enter Try.func26, Try.ntmps26
  go_wp2
  go_ret
  exact ⟨rfl, ((Fr.refl [] w).alloc _).alloc _⟩

set_option maxHeartbeats 2000000 in
theorem same9_any (v u : Value) (l : List Sp) (w : World) (h1 : SSrc w v l) (h2 : SSrc w u l) :
    Calls Try.prog 32 #[v, u] w fun e w' => e = .returned (.bool true) ∧ Fr [] w w' := by
  obtain ⟨ao, cap, rfl, hcap, hmax, _, b, off, ha, hc⟩ := h1
  obtain ⟨ao2, cap2, rfl, hcap2, hmax2, _, b2, off2, ha2, hc2⟩ := h2
  have HC : Hid (∀ j s, l[j]? = some s → w.cell? ⟨b, off + j * 2, none⟩ = some (.int .i64 s.1) ∧ w.cell? ⟨b, off + j * 2 + 1, none⟩ = some (.int .i64 s.2)) := hc
  have HC2 : Hid (∀ j s, l[j]? = some s → w.cell? ⟨b2, off2 + j * 2, none⟩ = some (.int .i64 s.1) ∧ w.cell? ⟨b2, off2 + j * 2 + 1, none⟩ = some (.int .i64 s.2)) := hc2
  have HA : Hid (0 < l.length → ao = some ⟨b, off, none⟩) := ha
  have HA2 : Hid (0 < l.length → ao2 = some ⟨b2, off2, none⟩) := ha2
  have hml : l.length ≤ 9223372036854775807 := by unfold maxLen at hmax; omega
  clear hc ha hc2 ha2
  go_enter Try.func32, Try.ntmps32
  go_wp2
  go_loopw [13] (fun i wr => ∃ (k : Nat), k ≤ l.length ∧ i = .int .i64 (k : Int) ∧ Fr [] w wr) (fun i _ => l.length - (intOf i).toNat)
  case atStart => exact ⟨0, by omega, rfl, Fr.refl _ _⟩
  case round =>
    obtain ⟨k, hk, rfl, hf⟩ := hrel
    have HF : Hid (Fr [] w wr) := hf
    clear hf
    by_cases hlt : k < l.length
    · obtain rfl := HA.out (by omega)
      obtain rfl := HA2.out (by omega)
      obtain ⟨s, hs⟩ := at_lt hlt
      have c0 : wr.cell? ⟨b, off + k * 2, none⟩ = some (.int .i64 s.1) := HF.out.cell_some (HC.out k s hs).1 (by simp)
      have c1 : wr.cell? ⟨b, off + k * 2 + 1, none⟩ = some (.int .i64 s.2) := HF.out.cell_some (HC.out k s hs).2 (by simp)
      have c2 : wr.cell? ⟨b2, off2 + k * 2, none⟩ = some (.int .i64 s.1) := HF.out.cell_some (HC2.out k s hs).1 (by simp)
      have c3 : wr.cell? ⟨b2, off2 + k * 2 + 1, none⟩ = some (.int .i64 s.2) := HF.out.cell_some (HC2.out k s hs).2 (by simp)
      clear hs
      obtain ⟨o, n⟩ := s
      simp only at c0 c1 c2 c3
      go_wp2_with fail
      go_quiet (fail)
      go_wp2
      go_roundw
      case rel => exact ⟨k + 1, by omega, by go_num, HF.out.drewN _⟩
      case measure => simp [intOf]; omega
    · go_wp2
      go_ret
      exact ⟨rfl, HF.out⟩

set_option maxHeartbeats 2000000 in
theorem like2_any (v u : Value) (l : List Int) (w : World) (h1 : ISrc w v l) (h2 : ISrc w u l) :
    Calls Try.prog 33 #[v, u] w fun e w' => e = .returned (.bool true) ∧ Fr [] w w' := by
  obtain ⟨ao, cap, rfl, hcap, hmax, _, b, off, ha, hc⟩ := h1
  obtain ⟨ao2, cap2, rfl, hcap2, hmax2, _, b2, off2, ha2, hc2⟩ := h2
  have HC : Hid (∀ j s, l[j]? = some s → w.cell? ⟨b, off + j, none⟩ = some (.int .i64 s)) := hc
  have HC2 : Hid (∀ j s, l[j]? = some s → w.cell? ⟨b2, off2 + j, none⟩ = some (.int .i64 s)) := hc2
  have HA : Hid (0 < l.length → ao = some ⟨b, off, none⟩) := ha
  have HA2 : Hid (0 < l.length → ao2 = some ⟨b2, off2, none⟩) := ha2
  have hml : l.length ≤ 9223372036854775807 := by unfold maxLen at hmax; omega
  clear hc ha hc2 ha2
  go_enter Try.func33, Try.ntmps33
  go_wp2
  go_loopw [13] (fun i wr => ∃ (k : Nat), k ≤ l.length ∧ i = .int .i64 (k : Int) ∧ Fr [] w wr) (fun i _ => l.length - (intOf i).toNat)
  case atStart => exact ⟨0, by omega, rfl, Fr.refl _ _⟩
  case round =>
    obtain ⟨k, hk, rfl, hf⟩ := hrel
    have HF : Hid (Fr [] w wr) := hf
    clear hf
    by_cases hlt : k < l.length
    · obtain rfl := HA.out (by omega)
      obtain rfl := HA2.out (by omega)
      obtain ⟨s, hs⟩ := at_lt hlt
      have c0 : wr.cell? ⟨b, off + k, none⟩ = some (.int .i64 s) := HF.out.cell_some (HC.out k s hs) (by simp)
      have c1 : wr.cell? ⟨b2, off2 + k, none⟩ = some (.int .i64 s) := HF.out.cell_some (HC2.out k s hs) (by simp)
      clear hs
      go_wp2_with fail
      go_quiet (fail)
      go_wp2
      go_roundw
      case rel => exact ⟨k + 1, by omega, by go_num, HF.out.drewN _⟩
      case measure => simp [intOf]; omega
    · go_wp2
      go_ret
      exact ⟨rfl, HF.out⟩

set_option maxHeartbeats 4000000 in
theorem full_any (v : Value) (h : Hs) (w : World) (hh : HSrc w v h) (k : che h = 0) (kp : wio (sdp h) 0 = sdp h) (kn : wio (sdn h) 0 = sdn h) :
    Calls Try.prog 31 #[v] w fun e w' => e = .returned (.bool true) ∧ Fr [] w w' := by
  have HH : Hid (∀ wx, Fr [] w wx → HSrc wx v h) := fun wx hx => hh.kept hx
  obtain ⟨po, pc, no, nc, qo, qc, ro, rc, rfl, _⟩ := hh.opens
  have HPR : Hid (∀ i : Nat, i < 2 → pre h (i : Int) = 0 ∧ (wio (prl h (i : Int)) 0).length = (prl h (i : Int)).length ∧ (prl h (i : Int)).length ≤ 1000000 ∧ (∀ s ∈ prl h (i : Int), in64 s.1 ∧ in64 s.2)) := by
    intro i hi
    have h1 := sdp_le h
    have h2 := sdn_le h
    obtain rfl | rfl : i = 0 ∨ i = 1 := by omega
    · rw [show ((0 : Nat) : Int) = 0 from rfl]
      unfold pre prl
      rw [if_pos (.inl rfl), if_pos rfl, kp]
      exact ⟨k, rfl, by omega, sdp_in h⟩
    · rw [show ((1 : Nat) : Int) = 1 from rfl]
      unfold pre prl
      rw [if_pos (.inr rfl), if_neg (by decide), if_pos rfl, kn]
      exact ⟨k, rfl, by omega, sdn_in h⟩
  clear hh k kp kn
  go_enter Try.func31, Try.ntmps31
  have HN0 : Hid (Nine (w.alloc (.cells #[.int .i64 h.s, .int .u64 h.z, .int .u64 h.zc, .int .u64 h.c, .int .u64 h.sm, .slice po h.P.length pc, .slice no h.N.length nc, .slice qo h.pd.length qc, .slice ro h.nd.length rc] 26)) w.heap.size #[.int .i64 h.s, .int .u64 h.z, .int .u64 h.zc, .int .u64 h.c, .int .u64 h.sm, .slice po h.P.length pc, .slice no h.N.length nc, .slice qo h.pd.length qc, .slice ro h.nd.length rc]) := Nine.new _ _
  have HF0 : Hid (Fr [] w (w.alloc (.cells #[.int .i64 h.s, .int .u64 h.z, .int .u64 h.zc, .int .u64 h.c, .int .u64 h.sm, .slice po h.P.length pc, .slice no h.N.length nc, .slice qo h.pd.length qc, .slice ro h.nd.length rc] 26))) := (Fr.refl [] w).alloc _
  go_wp2
  go_loopw [6] (fun i wr => ∃ (k : Nat), k ≤ 2 ∧ i = .int .i64 (k : Int) ∧ Nine wr w.heap.size #[.int .i64 h.s, .int .u64 h.z, .int .u64 h.zc, .int .u64 h.c, .int .u64 h.sm, .slice po h.P.length pc, .slice no h.N.length nc, .slice qo h.pd.length qc, .slice ro h.nd.length rc] ∧ Fr [] w wr) (fun i _ => 2 - (intOf i).toNat)
  case atStart => exact ⟨0, by omega, rfl, HN0.out, HF0.out⟩
  case round =>
    obtain ⟨k, hk, rfl, hn, hf⟩ := hrel
    have HF : Hid (Fr [] w wr) := hf
    have HN : Hid (Nine wr w.heap.size #[.int .i64 h.s, .int .u64 h.z, .int .u64 h.zc, .int .u64 h.c, .int .u64 h.sm, .slice po h.P.length pc, .slice no h.N.length nc, .slice qo h.pd.length qc, .slice ro h.nd.length rc]) := hn
    by_cases hk2 : k < 2
    · have hkz : (k : Int) < 2 := by omega
      have c0 := hn.cell 0 rfl
      have c1 := hn.cell 1 rfl
      have c2 := hn.cell 2 rfl
      have c3 := hn.cell 3 rfl
      have c4 := hn.cell 4 rfl
      have c5 := hn.cell 5 rfl
      have c6 := hn.cell 6 rfl
      have c7 := hn.cell 7 rfl
      have c8 := hn.cell 8 rfl
      clear hn hf
      have HQ := HPR.out k hk2
      have HQ1 : Hid (pre h (k : Int) = 0 ∧ (wio (prl h (k : Int)) 0).length = (prl h (k : Int)).length ∧ (prl h (k : Int)).length ≤ 1000000 ∧ (∀ s ∈ prl h (k : Int), in64 s.1 ∧ in64 s.2)) := HQ
      clear HQ
      go_wp2_with fail
      refine (hpairs_any _ h (k : Int) wr (HH.out _ HF.out)).mono ?_
      rintro e w2 ⟨x, rfl, hx, hf2⟩
      rw [HQ1.out.1]
      have HF2 : Hid (Fr [] w w2) := HF.out.trans hf2 (by simp)
      have HN2 : Hid (Nine w2 w.heap.size _) := HN.out.kept hf2 (by simp)
      have HX : Hid (SOwn 72 wr.heap.size w2 x (prl h (k : Int))) := hx
      obtain ⟨xa, xc, rfl⟩ := HX.out.val
      clear hx hf2 HN HF c0 c1 c2 c3 c4 c5 c6 c7 c8
      go_wp2_with fail
      refine (without_any _ (prl h (k : Int)) 0 w2 (HX.out.src HQ1.out.2.2.2) HQ1.out.2.2.1).mono ?_
      rintro e w3 ⟨y, rfl, hy, hf3⟩
      have HF3 : Hid (Fr [] w w3) := HF2.out.trans hf3 (by simp)
      have HN3 : Hid (Nine w3 w.heap.size _) := HN2.out.kept hf3 (by simp)
      obtain ⟨ya, yc, rfl⟩ := hy.val
      rw [HQ1.out.2.1]
      clear hy hf3 HN2 HF2 HX
      go_wp2
      go_roundw
      case rel => exact ⟨k + 1, by omega, by go_num, HN3.out, HF3.out⟩
      case measure => simp [intOf]; omega
    · have hk3 : k = 2 := by omega
      subst hk3
      clear hn hf
      go_wp2
      go_ret
      exact ⟨rfl, HF.out⟩
end Go.Proofs.Ytjkiiccdcjcfbaa
