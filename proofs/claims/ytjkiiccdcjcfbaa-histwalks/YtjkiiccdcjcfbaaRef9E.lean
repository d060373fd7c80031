/-
  The document's At, Same, Equal (layer 9).
-/
import Derived.Test.YtjkiiccdcjcfbaaRef9
namespace Go.Proofs.Ytjkiiccdcjcfbaa
open Go.RowKit Mem Spans
set_option linter.unusedSimpArgs false
set_option linter.unusedVariables false
set_option maxRecDepth 100000

/-- How many are at a place: by the first of them. -/
def alk : List Int → List Int → Int → Int
  | x :: xs, y :: ys, p => if x = p then y else alk xs ys p
  | _, _, _ => 0
set_option maxHeartbeats 1000000 in
theorem lat_any (v u : Value) (xs ys : List Int) (p : Int) (w : World) (h : ISrc w v xs) (h2 : ISrc w u ys) (hl : xs.length ≤ ys.length) :
    Calls Try.prog 67 #[v, u, .int .i64 p] w fun e w' => e = .returned (.int .i64 (alk xs ys p)) ∧ w = w' := by
  obtain ⟨ao, cap, rfl, hcap, hmax, _, b, off, ha, hc⟩ := h
  obtain ⟨ao2, cap2, rfl, hcap2, hmax2, _, b2, off2, ha2, hc2⟩ := h2
  have HC : Hid (∀ j s, xs[j]? = some s → w.cell? ⟨b, off + j, none⟩ = some (.int .i64 s)) := hc
  have HC2 : Hid (∀ j s, ys[j]? = some s → w.cell? ⟨b2, off2 + j, none⟩ = some (.int .i64 s)) := hc2
  have HA : Hid (0 < xs.length → ao = some ⟨b, off, none⟩) := ha
  have HA2 : Hid (0 < ys.length → ao2 = some ⟨b2, off2, none⟩) := ha2
  have hml : xs.length ≤ 9223372036854775807 := by unfold maxLen at hmax; omega
  clear hc ha hc2 ha2
  go_enter Try.func67, Try.ntmps67
  go_wp2
  go_loopw [7] (fun i wr => ∃ (k : Nat), k ≤ xs.length ∧ i = .int .i64 (k : Int) ∧ alk xs ys p = alk (xs.drop k) (ys.drop k) p ∧ wr = w) (fun i _ => xs.length - (intOf i).toNat)
  case atStart => exact ⟨0, by omega, rfl, rfl, rfl⟩
  case round =>
    obtain ⟨k, hk, rfl, hr, rfl⟩ := hrel
    have HR : Hid (alk xs ys p = alk (xs.drop k) (ys.drop k) p) := hr
    clear hr
    by_cases hlt : k < xs.length
    · obtain rfl := HA.out (by omega)
      obtain rfl := HA2.out (by omega)
      have hlt2 : k < ys.length := by omega
      obtain ⟨x, hx⟩ := at_lt hlt
      obtain ⟨y, hy⟩ := at_lt hlt2
      have c0 := HC.out k x hx
      have c1 := HC2.out k y hy
      have HR2 : Hid (alk xs ys p = if x = p then y else alk (xs.drop (k + 1)) (ys.drop (k + 1)) p) := by rw [Hid, HR.out, drop_at hx, drop_at hy]; rfl
      clear hx hy HR
      by_cases hxp : x = p
      · have HE : Hid (alk xs ys p = y) := by rw [Hid, HR2.out, if_pos hxp]
        go_wp2
        go_ret
        exact ⟨by rw [HE.out]; rfl, rfl⟩
      · have HE : Hid (alk xs ys p = alk (xs.drop (k + 1)) (ys.drop (k + 1)) p) := by rw [Hid, HR2.out, if_neg hxp]
        go_wp2
        go_roundw
        case rel => first | exact ⟨k + 1, by omega, by go_num, HE.out, trivial⟩ | exact ⟨_, _, ⟨k + 1, by omega, rfl, HE.out⟩, rfl, by go_num⟩
        case measure => simp [intOf]; omega
    · have HE : Hid (alk xs ys p = 0) := by rw [Hid, HR.out, List.drop_eq_nil_of_le (by omega)]; rfl
      go_wp2
      go_ret
      exact ⟨by rw [HE.out]; rfl, rfl⟩

/-- Is at each place of one side as many on the other one? -/
def hlf (xs ys qs ns : List Int) : Bool := (xs.zip ys).all fun s => decide (s.2 = alk qs ns s.1)
def smb (xs ys qs ns : List Int) : Bool := hlf xs ys qs ns && hlf qs ns xs ys
theorem hlf_no {xs ys qs ns : List Int} {k : Nat} {x y : Int} (hx : xs[k]? = some x) (hy : ys[k]? = some y) (h : y ≠ alk qs ns x) : hlf xs ys qs ns = false := by
  rw [Bool.eq_false_iff]
  intro h2
  unfold hlf at h2
  rw [List.all_eq_true] at h2
  have hm : (x, y) ∈ xs.zip ys := List.mem_of_getElem? (List.getElem?_zip_eq_some.2 ⟨hx, hy⟩)
  exact h (by simpa using h2 _ hm)
theorem hlf_take {xs ys qs ns : List Int} (hl : ys.length ≤ xs.length) (h : hlf (xs.take xs.length) (ys.take xs.length) qs ns = true) : hlf xs ys qs ns = true := by
  rw [List.take_of_length_le (Nat.le_refl _), List.take_of_length_le hl] at h
  exact h
theorem hlf_snoc {xs ys qs ns : List Int} {k : Nat} {x y : Int} (hx : xs[k]? = some x) (hy : ys[k]? = some y) (h : hlf (xs.take k) (ys.take k) qs ns = true) (e : y = alk qs ns x) : hlf (xs.take (k + 1)) (ys.take (k + 1)) qs ns = true := by
  have hxk := (List.getElem?_eq_some_iff.1 hx).1
  have hyk := (List.getElem?_eq_some_iff.1 hy).1
  unfold hlf at *
  rw [take_at hx, take_at hy, List.zip_append (by simp; omega), List.all_append, h]
  simp [e]

set_option maxHeartbeats 4000000 in
theorem lsame9_any (v u v2 u2 : Value) (xs ys qs ns : List Int) (w : World) (h : ISrc w v xs) (h2 : ISrc w u ys) (h3 : ISrc w v2 qs) (h4 : ISrc w u2 ns) (hl : xs.length = ys.length) (hl2 : qs.length = ns.length) :
    Calls Try.prog 52 #[v, u, v2, u2] w fun e w' => e = .returned (.bool (smb xs ys qs ns)) ∧ Fr [] w w' := by
  have H1 : Hid (ISrc w v xs) := h
  have H2 : Hid (ISrc w u ys) := h2
  have H3 : Hid (ISrc w v2 qs) := h3
  have H4 : Hid (ISrc w u2 ns) := h4
  have HL : Hid (xs.length = ys.length ∧ qs.length = ns.length) := ⟨hl, hl2⟩
  obtain ⟨ao, cap, rfl, hcap, hmax, _, b, off, ha, hc⟩ := h
  obtain ⟨ao2, cap2, rfl, hcap2, hmax2, _, b2, off2, ha2, hc2⟩ := h2
  obtain ⟨ao3, cap3, rfl, hcap3, hmax3, _, b3, off3, ha3, hc3⟩ := h3
  obtain ⟨ao4, cap4, rfl, hcap4, hmax4, _, b4, off4, ha4, hc4⟩ := h4
  have HC : Hid (∀ j s, xs[j]? = some s → w.cell? ⟨b, off + j, none⟩ = some (.int .i64 s)) := hc
  have HC2 : Hid (∀ j s, ys[j]? = some s → w.cell? ⟨b2, off2 + j, none⟩ = some (.int .i64 s)) := hc2
  have HC3 : Hid (∀ j s, qs[j]? = some s → w.cell? ⟨b3, off3 + j, none⟩ = some (.int .i64 s)) := hc3
  have HC4 : Hid (∀ j s, ns[j]? = some s → w.cell? ⟨b4, off4 + j, none⟩ = some (.int .i64 s)) := hc4
  have HA : Hid (0 < xs.length → ao = some ⟨b, off, none⟩) := ha
  have HA2 : Hid (0 < ys.length → ao2 = some ⟨b2, off2, none⟩) := ha2
  have HA3 : Hid (0 < qs.length → ao3 = some ⟨b3, off3, none⟩) := ha3
  have HA4 : Hid (0 < ns.length → ao4 = some ⟨b4, off4, none⟩) := ha4
  have hml : xs.length ≤ 9223372036854775807 ∧ qs.length ≤ 9223372036854775807 := by unfold maxLen at hmax hmax3; omega
  have hle1 : xs.length ≤ ys.length := by omega
  have hle2 : ys.length ≤ xs.length := by omega
  have hle3 : qs.length ≤ ns.length := by omega
  have hle4 : ns.length ≤ qs.length := by omega
  have HNO : Hid ((hlf xs ys qs ns = false → smb xs ys qs ns = false) ∧ (hlf qs ns xs ys = false → smb xs ys qs ns = false) ∧ (hlf xs ys qs ns = true → hlf qs ns xs ys = true → smb xs ys qs ns = true)) := by
    unfold Hid smb
    refine ⟨fun h => by rw [h]; rfl, fun h => by rw [h, Bool.and_false], fun h k => by rw [h, k]; rfl⟩
  obtain ⟨hml1, hml2⟩ := hml
  clear hc ha hc2 ha2 hc3 ha3 hc4 ha4 hl hl2
  go_enter Try.func52, Try.ntmps52
  go_wp2
  go_loopw [9] (fun i wr => ∃ (k : Nat), k ≤ xs.length ∧ i = .int .i64 (k : Int) ∧ hlf (xs.take k) (ys.take k) qs ns = true ∧ Fr [] w wr) (fun i _ => xs.length - (intOf i).toNat)
  case atStart => exact ⟨0, by omega, rfl, by simp [hlf], Fr.refl _ _⟩
  case round =>
    obtain ⟨k, hk, rfl, hr, hf⟩ := hrel
    have HR : Hid (hlf (xs.take k) (ys.take k) qs ns = true) := hr
    have HF : Hid (Fr [] w wr) := hf
    clear hr hf
    by_cases hlt : k < xs.length
    · obtain rfl := HA.out (by omega)
      obtain rfl := HA2.out (by omega)
      have hlt2 : k < ys.length := by omega
      obtain ⟨x, hx⟩ := at_lt hlt
      obtain ⟨y, hy⟩ := at_lt hlt2
      have c0 : wr.cell? ⟨b, off + k, none⟩ = some (.int .i64 x) := HF.out.cell_some (HC.out k x hx) (by simp)
      have c1 : wr.cell? ⟨b2, off2 + k, none⟩ = some (.int .i64 y) := HF.out.cell_some (HC2.out k y hy) (by simp)
      have HXY : Hid (xs[k]? = some x ∧ ys[k]? = some y) := ⟨hx, hy⟩
      have HAT : Hid (∀ wx, Fr [] w wx → Calls Try.prog 67 #[(.slice ao3 qs.length cap3), (.slice ao4 ns.length cap4), .int .i64 x] wx fun e w' => e = .returned (.int .i64 (alk qs ns x)) ∧ wx = w') := fun wx hx => lat_any _ _ qs ns x wx (H3.out.kept hx) (H4.out.kept hx) hle3
      clear hx hy
      go_wp2_with fail
      go_region_held3 (fun w' => w'.cell? ⟨b, off + k, none⟩ = some (.int .i64 x) ∧ w'.cell? ⟨b2, off2 + k, none⟩ = some (.int .i64 y)) (go_keep) (first
        | (go_at_call 67; refine (HAT.out _ HF.out.drew).mono ?_; rintro e wx ⟨rfl, rfl⟩))
      by_cases hxy : y = alk qs ns x
      · have hb : (y != alk qs ns x) = false := by simpa using hxy
        have HR2 : Hid (hlf (xs.take (k + 1)) (ys.take (k + 1)) qs ns = true) := hlf_snoc HXY.out.1 HXY.out.2 HR.out hxy
        clear hxy
        go_wp2
        go_roundw
        case rel => first | exact ⟨k + 1, by omega, by go_num, HR2.out, HF.out.drew⟩ | exact ⟨_, _, ⟨k + 1, by omega, rfl, HR2.out, HF.out.drew⟩, rfl, by go_num⟩
        case measure => simp [intOf]; omega
      · have hb : (y != alk qs ns x) = true := by simpa using hxy
        have HE : Hid (smb xs ys qs ns = false) := HNO.out.1 (hlf_no HXY.out.1 HXY.out.2 hxy)
        clear hxy
        go_wp2
        go_ret
        exact ⟨by rw [HE.out]; rfl, HF.out.drew⟩
    · have HALL : Hid (hlf xs ys qs ns = true) := by
        have := HR.out
        rw [show k = xs.length from by omega] at this
        exact hlf_take (by omega) this
      have HALL1 : Hid (hlf xs ys qs ns = true) := HALL.out
      have HF1 : Hid (Fr [] w wr) := HF.out
      clear HALL HF HR
      go_wp2
      go_loopw [10] (fun i wr => ∃ (k : Nat), k ≤ qs.length ∧ i = .int .i64 (k : Int) ∧ hlf (qs.take k) (ns.take k) xs ys = true ∧ Fr [] w wr) (fun i _ => qs.length - (intOf i).toNat)
      case atStart => exact ⟨0, by omega, rfl, by simp [hlf], HF1.out⟩
      case round =>
        obtain ⟨k, hk, rfl, hr, hf⟩ := hrel
        have HR : Hid (hlf (qs.take k) (ns.take k) xs ys = true) := hr
        have HF : Hid (Fr [] w wr) := hf
        clear hr hf
        by_cases hlt : k < qs.length
        · obtain rfl := HA3.out (by omega)
          obtain rfl := HA4.out (by omega)
          have hlt2 : k < ns.length := by omega
          obtain ⟨x, hx⟩ := at_lt hlt
          obtain ⟨y, hy⟩ := at_lt hlt2
          have c0 : wr.cell? ⟨b3, off3 + k, none⟩ = some (.int .i64 x) := HF.out.cell_some (HC3.out k x hx) (by simp)
          have c1 : wr.cell? ⟨b4, off4 + k, none⟩ = some (.int .i64 y) := HF.out.cell_some (HC4.out k y hy) (by simp)
          have HXY : Hid (qs[k]? = some x ∧ ns[k]? = some y) := ⟨hx, hy⟩
          have HAT : Hid (∀ wx, Fr [] w wx → Calls Try.prog 67 #[(.slice ao xs.length cap), (.slice ao2 ys.length cap2), .int .i64 x] wx fun e w' => e = .returned (.int .i64 (alk xs ys x)) ∧ wx = w') := fun wx hx => lat_any _ _ xs ys x wx (H1.out.kept hx) (H2.out.kept hx) hle1
          clear hx hy
          go_wp2_with fail
          go_region_held3 (fun w' => w'.cell? ⟨b3, off3 + k, none⟩ = some (.int .i64 x) ∧ w'.cell? ⟨b4, off4 + k, none⟩ = some (.int .i64 y)) (go_keep) (first
            | (go_at_call 67; refine (HAT.out _ HF.out.drew).mono ?_; rintro e wx ⟨rfl, rfl⟩))
          by_cases hxy : y = alk xs ys x
          · have hb : (y != alk xs ys x) = false := by simpa using hxy
            have HR2 : Hid (hlf (qs.take (k + 1)) (ns.take (k + 1)) xs ys = true) := hlf_snoc HXY.out.1 HXY.out.2 HR.out hxy
            clear hxy
            go_wp2
            go_roundw
            case rel => first | exact ⟨k + 1, by omega, by go_num, HR2.out, HF.out.drew⟩ | exact ⟨_, _, ⟨k + 1, by omega, rfl, HR2.out, HF.out.drew⟩, rfl, by go_num⟩
            case measure => simp [intOf]; omega
          · have hb : (y != alk xs ys x) = true := by simpa using hxy
            have HE : Hid (smb xs ys qs ns = false) := HNO.out.2.1 (hlf_no HXY.out.1 HXY.out.2 hxy)
            clear hxy
            go_wp2
            go_ret
            exact ⟨by rw [HE.out]; rfl, HF.out.drew⟩
        · have HALL : Hid (hlf qs ns xs ys = true) := by
            have := HR.out
            rw [show k = qs.length from by omega] at this
            exact hlf_take (by omega) this
          have HE : Hid (smb xs ys qs ns = true) := HNO.out.2.2 HALL1.out HALL.out
          go_wp2
          go_ret
          exact ⟨by rw [HE.out]; rfl, HF.out⟩

theorem sp_len (l : List Sp) (d : List Int) : (spl l d).length = (svl l d).length := by
  unfold spl svl
  split
  · rename_i h
    have hz := sde_zero.1 h
    rw [abv_length hz.2.2.1]; exact hz.2.1.symm
  · rfl
theorem spl_in (l : List Sp) (d : List Int) : ∀ z ∈ spl l d, in64 z := by
  intro z hz; unfold spl at hz; split at hz
  · exact pls_in64 z hz
  · simp at hz
theorem svl_in (l : List Sp) (d : List Int) : ∀ z ∈ svl l d, in64 z := by
  intro z hz; unfold svl at hz; split at hz
  · exact abv_in d z hz
  · simp at hz
theorem nineR_mid (w : World) (cs : Array Value) (o : Obj) : NineR ((w.alloc (.cells cs 34)).alloc o) w.heap.size cs := (NineR.new w cs).kept ((Fr.refl [] _).alloc _) (by simp)
/-- The document's Equal. -/
def smx (a b : Hs) : Bool := smb (spl a.P a.pd) (svl a.P a.pd) (spl b.P b.pd) (svl b.P b.pd) && smb (spl a.N a.nd) (svl a.N a.nd) (spl b.N b.nd) (svl b.N b.nd)
def req (a b : Hs) : Bool := decide (che a = 0 ∧ che b = 0 ∧ a.s = b.s ∧ a.z = b.z ∧ a.zc = b.zc ∧ a.c = b.c ∧ a.sm = b.sm) && smx a b

set_option maxHeartbeats 8000000 in
theorem lequal9_any (v u : Value) (a b : Hs) (w : World) (h1 : HSrc w v a) (h2 : HSrc w u b) :
    Calls Try.prog 30 #[v, u] w fun e w' => e = .returned (.bool (req a b)) ∧ Fr [] w w' := by
  have H1 : Hid (∀ wx, Fr [] w wx → HSrc wx v a) := fun wx hx => h1.kept hx
  have H2 : Hid (∀ wx, Fr [] w wx → HSrc wx u b) := fun wx hx => h2.kept hx
  obtain ⟨po, pc, no, nc, qo, qc, ro, rc, rfl, _, hs1, _⟩ := h1.opens
  obtain ⟨po2, pc2, no2, nc2, qo2, qc2, ro2, rc2, rfl, _, hs2, _⟩ := h2.opens
  have HS1 : Hid (SSrc w (.slice po a.P.length pc) a.P ∧ SSrc w (.slice no a.N.length nc) a.N ∧ ISrc w (.slice qo a.pd.length qc) a.pd ∧ ISrc w (.slice ro a.nd.length rc) a.nd) := hs1
  have HS2 : Hid (SSrc w (.slice po2 b.P.length pc2) b.P ∧ SSrc w (.slice no2 b.N.length nc2) b.N ∧ ISrc w (.slice qo2 b.pd.length qc2) b.pd ∧ ISrc w (.slice ro2 b.nd.length rc2) b.nd) := hs2
  clear h1 h2 hs1 hs2
  go_enter Try.func30, Try.ntmps30
  have HA : Hid (NineR ((w.alloc (.cells #[.int .i64 a.s, .int .u64 a.z, .int .u64 a.zc, .int .u64 a.c, .int .u64 a.sm, .slice po a.P.length pc, .slice no a.N.length nc, .slice qo a.pd.length qc, .slice ro a.nd.length rc] 34)).alloc (.cells #[.int .i64 b.s, .int .u64 b.z, .int .u64 b.zc, .int .u64 b.c, .int .u64 b.sm, .slice po2 b.P.length pc2, .slice no2 b.N.length nc2, .slice qo2 b.pd.length qc2, .slice ro2 b.nd.length rc2] 34)) w.heap.size #[.int .i64 a.s, .int .u64 a.z, .int .u64 a.zc, .int .u64 a.c, .int .u64 a.sm, .slice po a.P.length pc, .slice no a.N.length nc, .slice qo a.pd.length qc, .slice ro a.nd.length rc] ∧ NineR ((w.alloc (.cells #[.int .i64 a.s, .int .u64 a.z, .int .u64 a.zc, .int .u64 a.c, .int .u64 a.sm, .slice po a.P.length pc, .slice no a.N.length nc, .slice qo a.pd.length qc, .slice ro a.nd.length rc] 34)).alloc (.cells #[.int .i64 b.s, .int .u64 b.z, .int .u64 b.zc, .int .u64 b.c, .int .u64 b.sm, .slice po2 b.P.length pc2, .slice no2 b.N.length nc2, .slice qo2 b.pd.length qc2, .slice ro2 b.nd.length rc2] 34)) (w.heap.size + 1) #[.int .i64 b.s, .int .u64 b.z, .int .u64 b.zc, .int .u64 b.c, .int .u64 b.sm, .slice po2 b.P.length pc2, .slice no2 b.N.length nc2, .slice qo2 b.pd.length qc2, .slice ro2 b.nd.length rc2] ∧ Fr [] w ((w.alloc (.cells #[.int .i64 a.s, .int .u64 a.z, .int .u64 a.zc, .int .u64 a.c, .int .u64 a.sm, .slice po a.P.length pc, .slice no a.N.length nc, .slice qo a.pd.length qc, .slice ro a.nd.length rc] 34)).alloc (.cells #[.int .i64 b.s, .int .u64 b.z, .int .u64 b.zc, .int .u64 b.c, .int .u64 b.sm, .slice po2 b.P.length pc2, .slice no2 b.N.length nc2, .slice qo2 b.pd.length qc2, .slice ro2 b.nd.length rc2] 34))) := ⟨nineR_mid _ _ _, nineR_top _ _ _, ((Fr.refl [] w).alloc _).alloc _⟩
  go_wp2_with fail
  obtain ⟨hA3, hA6, hAF⟩ := HA.out
  clear HA
  generalize (w.alloc (.cells _ _)).alloc (.cells _ _) = wA at hA3 hA6 hAF ⊢
  refine (lcheck9_any _ a wA (H1.out _ hAF)).mono ?_
  rintro e w1 ⟨rfl, hf1⟩
  have HF1 : Hid (Fr [] w w1) := hAF.trans hf1 (by simp)
  have H3 : Hid (NineR w1 w.heap.size _) := hA3.kept hf1 (by simp)
  have H6 : Hid (NineR w1 (w.heap.size + 1) _) := hA6.kept hf1 (by simp)
  clear hf1 hA3 hA6 hAF
  have HNO : Hid (¬ (che a = 0 ∧ che b = 0 ∧ a.s = b.s ∧ a.z = b.z ∧ a.zc = b.zc ∧ a.c = b.c ∧ a.sm = b.sm) → req a b = false) := fun h => by unfold req; rw [decide_eq_false h]; rfl
  have HYES : Hid (che a = 0 → che b = 0 → a.s = b.s → a.z = b.z → a.zc = b.zc → a.c = b.c → a.sm = b.sm → req a b = smx a b) := fun k1 k2 k3 k4 k5 k6 k7 => by unfold req; rw [decide_eq_true ⟨k1, k2, k3, k4, k5, k6, k7⟩]; rfl
  by_cases h0 : che a = 0
  case neg =>
    have HE : Hid (req a b = false) := HNO.out (fun k => h0 k.1)
    have hb0 : (che a != 0) = true := by simpa using h0
    go_wp2
    go_ret
    exact ⟨by rw [HE.out]; rfl, HF1.out⟩
  have HC0 : Hid (che a = 0) := h0
  rw [h0]
  clear h0
  have d0 := H6.out.cell 0 rfl
  have d1 := H6.out.cell 1 rfl
  have d2 := H6.out.cell 2 rfl
  have d3 := H6.out.cell 3 rfl
  have d4 := H6.out.cell 4 rfl
  have d5 := H6.out.cell 5 rfl
  have d6 := H6.out.cell 6 rfl
  have d7 := H6.out.cell 7 rfl
  have d8 := H6.out.cell 8 rfl
  go_wp2_with fail
  refine (lcheck9_any _ b w1 (H2.out _ HF1.out)).mono ?_
  rintro e w2 ⟨rfl, hf2⟩
  have HF2 : Hid (Fr [] w w2) := HF1.out.trans hf2 (by simp)
  have h3 := H3.out.kept hf2 (by simp)
  have h6 := H6.out.kept hf2 (by simp)
  clear hf2 HF1 H3 H6 d0 d1 d2 d3 d4 d5 d6 d7 d8
  have c0 := h3.cell 0 rfl
  have c1 := h3.cell 1 rfl
  have c2 := h3.cell 2 rfl
  have c3 := h3.cell 3 rfl
  have c4 := h3.cell 4 rfl
  have c5 := h3.cell 5 rfl
  have c6 := h3.cell 6 rfl
  have c7 := h3.cell 7 rfl
  have c8 := h3.cell 8 rfl
  have d0 := h6.cell 0 rfl
  have d1 := h6.cell 1 rfl
  have d2 := h6.cell 2 rfl
  have d3 := h6.cell 3 rfl
  have d4 := h6.cell 4 rfl
  have d5 := h6.cell 5 rfl
  have d6 := h6.cell 6 rfl
  have d7 := h6.cell 7 rfl
  have d8 := h6.cell 8 rfl
  have H3 : Hid (NineR w2 w.heap.size _) := h3
  have H6 : Hid (NineR w2 (w.heap.size + 1) _) := h6
  clear h3 h6
  by_cases h0 : che b = 0
  case neg =>
    have HE : Hid (req a b = false) := HNO.out (fun k => h0 k.2.1)
    have hb0 : (che b != 0) = true := by simpa using h0
    go_wp2
    go_ret
    exact ⟨by rw [HE.out]; rfl, HF2.out⟩
  have HC1 : Hid (che b = 0) := h0
  rw [h0]
  clear h0
  obtain ⟨R, hqq⟩ : ∃ R, req a b = R := ⟨_, rfl⟩
  have HQ : Hid (req a b = R) := hqq
  rw [hqq] at HNO HYES
  clear hqq
  obtain ⟨s, z, zc, c, sm, P, N, pd, nd⟩ := a
  obtain ⟨s2, z2, zc2, c2', sm2, P2, N2, pd2, nd2⟩ := b
  simp only at *
  by_cases k0 : s = s2
  case neg =>
    have HE2 : Hid (R = false) := HNO.out (fun k => k0 k.2.2.1)
    have kb : (s != s2) = true := by simpa using k0
    go_wp2
    go_ret
    exact ⟨by rw [HQ.out, HE2.out]; rfl, HF2.out⟩
  subst k0
  by_cases k1 : z = z2
  case neg =>
    have HE2 : Hid (R = false) := HNO.out (fun k => k1 k.2.2.2.1)
    have kb : (z != z2) = true := by simpa using k1
    go_wp2
    go_ret
    exact ⟨by rw [HQ.out, HE2.out]; rfl, HF2.out⟩
  subst k1
  by_cases k2 : zc = zc2
  case neg =>
    have HE2 : Hid (R = false) := HNO.out (fun k => k2 k.2.2.2.2.1)
    have kb : (zc != zc2) = true := by simpa using k2
    go_wp2
    go_ret
    exact ⟨by rw [HQ.out, HE2.out]; rfl, HF2.out⟩
  subst k2
  by_cases k3 : c = c2'
  case neg =>
    have HE2 : Hid (R = false) := HNO.out (fun k => k3 k.2.2.2.2.2.1)
    have kb : (c != c2') = true := by simpa using k3
    go_wp2
    go_ret
    exact ⟨by rw [HQ.out, HE2.out]; rfl, HF2.out⟩
  subst k3
  by_cases k4 : sm = sm2
  case neg =>
    have HE2 : Hid (R = false) := HNO.out (fun k => k4 k.2.2.2.2.2.2)
    have kb : (sm != sm2) = true := by simpa using k4
    go_wp2
    go_ret
    exact ⟨by rw [HQ.out, HE2.out]; rfl, HF2.out⟩
  subst k4
  have HR : Hid (R = smx ⟨s, z, zc, c, sm, P, N, pd, nd⟩ ⟨s, z, zc, c, sm, P2, N2, pd2, nd2⟩) := HYES.out HC0.out HC1.out (by trivial) (by trivial) (by trivial) (by trivial) (by trivial)
  clear HYES HNO
  go_wp2_with fail
  refine (lside_any _ _ P pd _ (HS1.out.1.kept HF2.out) (HS1.out.2.2.1.kept HF2.out)).mono ?_
  rintro e w3 ⟨x, y, rfl, hx, hy, hf3⟩
  have HF3 : Hid (Fr [] w w3) := HF2.out.trans hf3 (by simp)
  have HX3 : Hid (ISrc w3 x (spl P pd)) := IOwn.src hx (spl_in P pd)
  have HY3 : Hid (ISrc w3 y (svl P pd)) := hy.src (svl_in P pd)
  have h3 := H3.out.kept hf3 (by simp)
  have h6 := H6.out.kept hf3 (by simp)
  clear hf3 hx hy H3 H6 c0 c1 c2 c3 c4 c5 c6 c7 c8 d0 d1 d2 d3 d4 d5 d6 d7 d8
  have c6 := h3.cell 6 rfl
  have c8 := h3.cell 8 rfl
  have d5 := h6.cell 5 rfl
  have d6 := h6.cell 6 rfl
  have d7 := h6.cell 7 rfl
  have d8 := h6.cell 8 rfl
  have H3 : Hid (NineR w3 w.heap.size _) := h3
  have H6 : Hid (NineR w3 (w.heap.size + 1) _) := h6
  clear h3 h6
  go_wp2_with fail
  refine (lside_any _ _ P2 pd2 _ (HS2.out.1.kept HF3.out) (HS2.out.2.2.1.kept HF3.out)).mono ?_
  rintro e w4 ⟨x4, y4, rfl, hx, hy, hf4⟩
  have HF4 : Hid (Fr [] w w4) := HF3.out.trans hf4 (by simp)
  have HX4 : Hid (ISrc w4 x4 (spl P2 pd2)) := IOwn.src hx (spl_in P2 pd2)
  have HY4 : Hid (ISrc w4 y4 (svl P2 pd2)) := hy.src (svl_in P2 pd2)
  have HX34 : Hid (ISrc w4 x (spl P pd)) := HX3.out.kept hf4
  have HY34 : Hid (ISrc w4 y (svl P pd)) := HY3.out.kept hf4
  have H3b : Hid (NineR w4 w.heap.size _) := H3.out.kept hf4 (by simp)
  have H6b : Hid (NineR w4 (w.heap.size + 1) _) := H6.out.kept hf4 (by simp)
  clear hf4 hx hy H3 H6 c6 c8 d5 d6 d7 d8 HX3 HY3 HF3
  go_wp2_with fail
  refine (lsame9_any x y x4 y4 _ _ _ _ w4 HX34.out HY34.out HX4.out HY4.out (sp_len P pd) (sp_len P2 pd2)).mono ?_
  rintro e w5 ⟨rfl, hf5⟩
  have HF5 : Hid (Fr [] w w5) := HF4.out.trans hf5 (by simp)
  have h3 := H3b.out.kept hf5 (by simp)
  have h6 := H6b.out.kept hf5 (by simp)
  clear hf5 H3b H6b HF4 HX34 HY34 HX4 HY4
  by_cases hb1 : smb (spl P pd) (svl P pd) (spl P2 pd2) (svl P2 pd2) = true
  case neg =>
    have hb1' : smb (spl P pd) (svl P pd) (spl P2 pd2) (svl P2 pd2) = false := by simpa using hb1
    have HE : Hid (R = false) := by rw [Hid, HR.out]; unfold smx; simp only [hb1']; rfl
    rw [hb1']
    clear hb1 hb1' h3 h6
    go_wp2
    go_ret
    exact ⟨by rw [HQ.out, HE.out]; rfl, HF5.out⟩
  have HB1 : Hid (smb (spl P pd) (svl P pd) (spl P2 pd2) (svl P2 pd2) = true) := hb1
  rw [hb1]
  clear hb1
  have c6 := h3.cell 6 rfl
  have c8 := h3.cell 8 rfl
  have d6 := h6.cell 6 rfl
  have d8 := h6.cell 8 rfl
  have H6 : Hid (NineR w5 (w.heap.size + 1) _) := h6
  clear h3 h6
  go_wp2_with fail
  refine (lside_any _ _ N nd _ (HS1.out.2.1.kept HF5.out) (HS1.out.2.2.2.kept HF5.out)).mono ?_
  rintro e w6 ⟨x6, y6, rfl, hx, hy, hf6⟩
  have HF6 : Hid (Fr [] w w6) := HF5.out.trans hf6 (by simp)
  have HX6 : Hid (ISrc w6 x6 (spl N nd)) := IOwn.src hx (spl_in N nd)
  have HY6 : Hid (ISrc w6 y6 (svl N nd)) := hy.src (svl_in N nd)
  have h6 := H6.out.kept hf6 (by simp)
  clear hf6 hx hy c6 c8 d6 d8 H6 HF5
  have d6 := h6.cell 6 rfl
  have d8 := h6.cell 8 rfl
  clear h6
  go_wp2_with fail
  refine (lside_any _ _ N2 nd2 _ (HS2.out.2.1.kept HF6.out) (HS2.out.2.2.2.kept HF6.out)).mono ?_
  rintro e w7 ⟨x7, y7, rfl, hx, hy, hf7⟩
  have HF7 : Hid (Fr [] w w7) := HF6.out.trans hf7 (by simp)
  have HX7 : Hid (ISrc w7 x7 (spl N2 nd2)) := IOwn.src hx (spl_in N2 nd2)
  have HY7 : Hid (ISrc w7 y7 (svl N2 nd2)) := hy.src (svl_in N2 nd2)
  have HX67 : Hid (ISrc w7 x6 (spl N nd)) := HX6.out.kept hf7
  have HY67 : Hid (ISrc w7 y6 (svl N nd)) := HY6.out.kept hf7
  clear hf7 hx hy d6 d8 HX6 HY6 HF6
  go_wp2_with fail
  refine (lsame9_any x6 y6 x7 y7 _ _ _ _ w7 HX67.out HY67.out HX7.out HY7.out (sp_len N nd) (sp_len N2 nd2)).mono ?_
  rintro e w8 ⟨rfl, hf8⟩
  have HF8 : Hid (Fr [] w w8) := HF7.out.trans hf8 (by simp)
  have HE : Hid (R = smb (spl N nd) (svl N nd) (spl N2 nd2) (svl N2 nd2)) := by rw [Hid, HR.out]; unfold smx; simp only [HB1.out]; rfl
  clear hf8
  generalize smb (spl N nd) (svl N nd) (spl N2 nd2) (svl N2 nd2) = RR at *
  go_wp2
  go_ret
  exact ⟨by rw [HQ.out, HE.out]; rfl, HF8.out⟩
end Go.Proofs.Ytjkiiccdcjcfbaa
