/-
  The document's Expand of layer 8: place by place.
-/
import Derived.Test.YtakjfggkfhjeaaaLaw8N
namespace Go.Proofs.Ytakjfggkfhjeaaa
open Go.RowKit Mem Spans
set_option linter.unusedSimpArgs false
set_option linter.unusedVariables false
set_option maxRecDepth 100000

theorem lvl_drop {v : Int} {os xs : List Int} {p o x : Int} {k : Nat} (ho : os[k]? = some o) (hx : xs[k]? = some x) : lvl v (os.drop k) (xs.drop k) p = lvl (if o = p then x else v) (os.drop (k + 1)) (xs.drop (k + 1)) p := by
  rw [drop_at ho, drop_at hx]; rfl

set_option maxHeartbeats 2000000 in
theorem rexpand_any (v1 v2 v3 : Value) (vs os al : List Int) (w : World) (h1 : ISrc w v1 vs) (h2 : ISrc w v2 os) (h3 : ISrc w v3 al) (hl : vs.length = os.length) (hal : al.length ≤ 1000000) :
    Calls Try.prog 18 #[v1, v2, v3] w fun e w' => ∃ u, e = .returned u ∧ NOwn 2 w.heap.size w' u (al.map (lvl 0 os vs)) ∧ Fr [] w w' := by
  obtain ⟨ao1, cap1, rfl, hcap1, hmax1, h641, b1, off1, ha1, hc1⟩ := h1
  obtain ⟨ao2, cap2, rfl, hcap2, hmax2, h642, b2, off2, ha2, hc2⟩ := h2
  obtain ⟨ao3, cap3, rfl, hcap3, hmax3, h643, b3, off3, ha3, hc3⟩ := h3
  have HC1 : Hid (∀ j s, vs[j]? = some s → w.cell? ⟨b1, off1 + j, none⟩ = some (.int .i64 s)) := hc1
  have HA1 : Hid (0 < vs.length → ao1 = some ⟨b1, off1, none⟩) := ha1
  have HC2 : Hid (∀ j s, os[j]? = some s → w.cell? ⟨b2, off2 + j, none⟩ = some (.int .i64 s)) := hc2
  have HA2 : Hid (0 < os.length → ao2 = some ⟨b2, off2, none⟩) := ha2
  have HC3 : Hid (∀ j s, al[j]? = some s → w.cell? ⟨b3, off3 + j, none⟩ = some (.int .i64 s)) := hc3
  have HA3 : Hid (0 < al.length → ao3 = some ⟨b3, off3, none⟩) := ha3
  have hml2 : os.length ≤ 9223372036854775807 := by unfold maxLen at hmax2; omega
  have HLE : Hid (vs.length = os.length) := hl
  obtain ⟨i0, hi⟩ := info_int64
  have HI : Hid (NInfo 2 i0) := hi
  clear hc1 ha1 h641 hc2 ha2 h642 hc3 ha3 h643 hi hl
  go_enter Try.func18, Try.ntmps18
  go_wp2
  go_loopw [7, 8] (fun u i wr => ∃ (k : Nat), k ≤ al.length ∧ i = .int .i64 (k : Int) ∧ NOwn 2 w.heap.size wr u ((al.take k).map (lvl 0 os vs)) ∧ Fr [] w wr) (fun _ i _ => al.length - (intOf i).toNat)
  case atStart => exact ⟨0, by omega, rfl, .inl ⟨by simp, rfl⟩, Fr.refl _ _⟩
  case round =>
    obtain ⟨k, hk, rfl, hno, hf⟩ := hrel
    have HF : Hid (Fr [] w wr) := hf
    have HN : Hid (NOwn 2 w.heap.size wr u7 ((al.take k).map (lvl 0 os vs))) := hno
    clear hf hno
    by_cases hlt : k < al.length
    · obtain rfl := HA3.out (by omega)
      obtain ⟨p, hp⟩ := at_lt hlt
      have HT : Hid ((al.take (k + 1)).map (lvl 0 os vs) = (al.take k).map (lvl 0 os vs) ++ [lvl 0 os vs p]) := by rw [Hid, take_at hp]; simp
      have HCP : Hid (∀ wx, Fr [] w wx → wx.cell? ⟨b3, off3 + k, none⟩ = some (.int .i64 p)) := fun wx hf => hf.cell_some (HC3.out k p hp) (by simp)
      have HNL : Hid (((al.take k).map (lvl 0 os vs)).length ≤ 1000000) := by rw [Hid, List.length_map, List.length_take]; omega
      clear hp
      go_wp2
      generalize hW0 : wr = W0 at HF HN ⊢
      clear hW0
      go_loopw [9, 10] (fun v i wx => ∃ (m : Nat) (V : Int), m ≤ os.length ∧ i = .int .i64 (m : Int) ∧ v = .int .i64 V ∧ lvl 0 os vs p = lvl V (os.drop m) (vs.drop m) p ∧ Fr [] W0 wx) (fun _ i _ => os.length - (intOf i).toNat)
      case atStart => exact ⟨0, 0, by omega, rfl, rfl, by simp, Fr.refl _ _⟩
      case round =>
        obtain ⟨m, V, hm, rfl, rfl, hlv, hfx⟩ := hrel
        have HFX : Hid (Fr [] W0 wr) := hfx
        have HFW : Hid (Fr [] w wr) := HF.out.trans hfx (by simp)
        have HLV : Hid (lvl 0 os vs p = lvl V (os.drop m) (vs.drop m) p) := hlv
        clear hlv hfx
        by_cases hmlt : m < os.length
        · obtain rfl := HA2.out (by omega)
          obtain rfl := HA1.out (by have := HLE.out; omega)
          obtain ⟨q, hq⟩ := at_lt hmlt
          obtain ⟨x, hx⟩ := at_lt (l := vs) (k := m) (by have := HLE.out; omega)
          have c1 : wr.cell? ⟨b1, off1 + m, none⟩ = some (.int .i64 x) := HFW.out.cell_some (HC1.out m x hx) (by simp)
          have c2 : wr.cell? ⟨b2, off2 + m, none⟩ = some (.int .i64 q) := HFW.out.cell_some (HC2.out m q hq) (by simp)
          have c3 : wr.cell? ⟨b3, off3 + k, none⟩ = some (.int .i64 p) := HCP.out wr HFW.out
          have hmv : m < vs.length := by have := HLE.out; omega
          have HLV2 : Hid (lvl 0 os vs p = lvl (if q = p then x else V) (os.drop (m + 1)) (vs.drop (m + 1)) p) := by rw [Hid, HLV.out, lvl_drop hq hx]
          clear hq hx HLV
          by_cases hqp : q = p
          · have HLV3 : Hid (lvl 0 os vs p = lvl x (os.drop (m + 1)) (vs.drop (m + 1)) p) := by have := HLV2.out; rw [if_pos hqp] at this; exact this
            clear HLV2
            subst hqp
            go_wp2_with fail
            go_quiet (fail)
            go_wp2
            go_roundw
            case rel => exact ⟨m + 1, x, by omega, by go_num, rfl, HLV3.out, HFX.out.drewN _⟩
            case measure => simp [intOf]; omega
          · have HLV3 : Hid (lvl 0 os vs p = lvl V (os.drop (m + 1)) (vs.drop (m + 1)) p) := by have := HLV2.out; rw [if_neg hqp] at this; exact this
            clear HLV2
            go_wp2_with fail
            go_quiet (fail)
            go_wp2
            go_roundw
            case rel => exact ⟨m + 1, V, by omega, by go_num, rfl, HLV3.out, HFX.out.drewN _⟩
            case measure => simp [intOf]; omega
        · have HV : Hid (lvl 0 os vs p = V) := by
            rw [Hid, HLV.out, List.drop_eq_nil_of_le (by omega)]; rfl
          have HSZ : Hid (w.heap.size ≤ wr.heap.size) := HFW.out.size
          clear HLV
          go_wp2_with (at_builtin; refine wpList_append_n _ rfl _ _ 36 rfl Try.underlying36 HI.out.1 HI.out.2.1 HI.out.2.2.1 HI.out.2.2.2 (B := w.heap.size) (s := V) (by have := HSZ.out; simp; omega) rfl rfl ((HN.out.kept HFX.out).kept ((Fr.refl [] _).alloc _)) (lit_n 2 wr [V] rfl HSZ.out (by simp) (by unfold maxLen; simp)) HNL.out ?_; intro v3 w3 ho3 hb3; have HO3 : Hid (NOwn 2 w.heap.size w3 v3 ((al.take k).map (lvl 0 os vs) ++ [V])) := ho3; have HB3 : Hid (Fr [] w w3) := Fr.ofBelow (((HFW.out.alloc _).below (Nat.le_refl _) (by simp)).trans hb3); clear ho3 hb3)
          go_roundw
          case rel => exact ⟨k + 1, by omega, by go_num, by rw [HT.out, HV.out]; exact HO3.out, HB3.out⟩
          case measure => simp [intOf]; omega
    · have HS2 : Hid (NOwn 2 w.heap.size wr u7 (al.map (lvl 0 os vs))) := by
        have := HN.out
        rw [List.take_of_length_le (by omega)] at this
        exact this
      go_wp2
      go_ret
      exact ⟨_, rfl, HS2.out, HF.out⟩
end Go.Proofs.Ytakjfggkfhjeaaa
