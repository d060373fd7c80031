/-
  Ref10E.
-/
import Derived.Test.YtoaibabkkphlaaaGF
import Derived.Test.YtoaibabkkphlaaaGD
/-
  The document's At, Same, Equal (layer 10).
-/
namespace Go.Proofs.Ytoaibabkkphlaaa
open Go.RowKit Mem Spans
set_option linter.unusedSimpArgs false
set_option linter.unusedVariables false
set_option maxRecDepth 100000

/-- How many are at a place: by the first of them. -/
def alk : List Int → List Int → Int → Int
  | x :: xs, y :: ys, p => if x = p then y else alk xs ys p
  | _, _, _ => 0
set_option maxHeartbeats 1000000 in
theorem lat10_any (v u : Value) (xs ys : List Int) (p : Int) (w : World) (h : ISrc w v xs) (h2 : USrc w u ys) (hl : xs.length ≤ ys.length) :
    Calls Try.prog 83 #[v, u, .int .i64 p] w fun e w' => e = .returned (.int .u64 (alk xs ys p)) ∧ w = w' := by
  obtain ⟨ao, cap, rfl, hcap, hmax, _, b, off, ha, hc⟩ := h
  obtain ⟨ao2, cap2, rfl, hcap2, hmax2, _, b2, off2, ha2, hc2⟩ := h2
  have HC : Hid (∀ j s, xs[j]? = some s → w.cell? ⟨b, off + j, none⟩ = some (.int .i64 s)) := hc
  have HC2 : Hid (∀ j s, ys[j]? = some s → w.cell? ⟨b2, off2 + j, none⟩ = some (.int .u64 s)) := hc2
  have HA : Hid (0 < xs.length → ao = some ⟨b, off, none⟩) := ha
  have HA2 : Hid (0 < ys.length → ao2 = some ⟨b2, off2, none⟩) := ha2
  have hml : xs.length ≤ 9223372036854775807 := by unfold maxLen at hmax; omega
  clear hc ha hc2 ha2
  go_enter Try.func83, Try.ntmps83
  go_wp2
  go_loopw [7] (fun i wr => ∃ (k : Nat), k ≤ xs.length ∧ i = .int .i64 (k : Int) ∧ alk xs ys p = alk (xs.drop k) (ys.drop k) p ∧ wr = w) (fun i _ => xs.length - (intOf i).toNat)
  case atStart => exact ⟨0, by omega, rfl, rfl, rfl⟩
  case round =>
    obtain ⟨k, hk, rfl, hr, rfl⟩ := hrel
    have HR : Hid (alk xs ys p = alk (xs.drop k) (ys.drop k) p) := hr
    clear hr
    by_cases hlt : k < xs.length
    · obtain rfl := HA.out (by omega)
      obtain rfl := HA2.out (by omega)
      have hlt2 : k < ys.length := by omega
      obtain ⟨x, hx⟩ := at_lt hlt
      obtain ⟨y, hy⟩ := at_lt hlt2
      have c0 := HC.out k x hx
      have c1 := HC2.out k y hy
      have HR2 : Hid (alk xs ys p = if x = p then y else alk (xs.drop (k + 1)) (ys.drop (k + 1)) p) := by rw [Hid, HR.out, drop_at hx, drop_at hy]; rfl
      clear hx hy HR
      by_cases hxp : x = p
      · have HE : Hid (alk xs ys p = y) := by rw [Hid, HR2.out, if_pos hxp]
        go_wp2
        go_ret
        exact ⟨by rw [HE.out]; rfl, rfl⟩
      · have HE : Hid (alk xs ys p = alk (xs.drop (k + 1)) (ys.drop (k + 1)) p) := by rw [Hid, HR2.out, if_neg hxp]
        go_wp2
        go_roundw
        case rel => first | exact ⟨k + 1, by omega, by go_num, HE.out, trivial⟩ | exact ⟨_, _, ⟨k + 1, by omega, rfl, HE.out⟩, rfl, by go_num⟩
        case measure => simp [intOf]; omega
    · have HE : Hid (alk xs ys p = 0) := by rw [Hid, HR.out, List.drop_eq_nil_of_le (by omega)]; rfl
      go_wp2
      go_ret
      exact ⟨by rw [HE.out]; rfl, rfl⟩

/-- Is at each place of one side as many on the other one? -/
def hlf (xs ys qs ns : List Int) : Bool := (xs.zip ys).all fun s => decide (s.2 = alk qs ns s.1)
def smb (xs ys qs ns : List Int) : Bool := hlf xs ys qs ns && hlf qs ns xs ys
theorem hlf_no {xs ys qs ns : List Int} {k : Nat} {x y : Int} (hx : xs[k]? = some x) (hy : ys[k]? = some y) (h : y ≠ alk qs ns x) : hlf xs ys qs ns = false := by
  rw [Bool.eq_false_iff]
  intro h2
  unfold hlf at h2
  rw [List.all_eq_true] at h2
  have hm : (x, y) ∈ xs.zip ys := List.mem_of_getElem? (List.getElem?_zip_eq_some.2 ⟨hx, hy⟩)
  exact h (by simpa using h2 _ hm)
theorem hlf_take {xs ys qs ns : List Int} (hl : ys.length ≤ xs.length) (h : hlf (xs.take xs.length) (ys.take xs.length) qs ns = true) : hlf xs ys qs ns = true := by
  rw [List.take_of_length_le (Nat.le_refl _), List.take_of_length_le hl] at h
  exact h
theorem hlf_snoc {xs ys qs ns : List Int} {k : Nat} {x y : Int} (hx : xs[k]? = some x) (hy : ys[k]? = some y) (h : hlf (xs.take k) (ys.take k) qs ns = true) (e : y = alk qs ns x) : hlf (xs.take (k + 1)) (ys.take (k + 1)) qs ns = true := by
  have hxk := (List.getElem?_eq_some_iff.1 hx).1
  have hyk := (List.getElem?_eq_some_iff.1 hy).1
  unfold hlf at *
  rw [take_at hx, take_at hy, List.zip_append (by simp; omega), List.all_append, h]
  simp [e]

set_option maxHeartbeats 4000000 in
theorem lsame10_any (v u v2 u2 : Value) (xs ys qs ns : List Int) (w : World) (h : ISrc w v xs) (h2 : USrc w u ys) (h3 : ISrc w v2 qs) (h4 : USrc w u2 ns) (hl : xs.length = ys.length) (hl2 : qs.length = ns.length) :
    Calls Try.prog 59 #[v, u, v2, u2] w fun e w' => e = .returned (.bool (smb xs ys qs ns)) ∧ Fr [] w w' := by
  have H1 : Hid (ISrc w v xs) := h
  have H2 : Hid (USrc w u ys) := h2
  have H3 : Hid (ISrc w v2 qs) := h3
  have H4 : Hid (USrc w u2 ns) := h4
  have HL : Hid (xs.length = ys.length ∧ qs.length = ns.length) := ⟨hl, hl2⟩
  obtain ⟨ao, cap, rfl, hcap, hmax, _, b, off, ha, hc⟩ := h
  obtain ⟨ao2, cap2, rfl, hcap2, hmax2, _, b2, off2, ha2, hc2⟩ := h2
  obtain ⟨ao3, cap3, rfl, hcap3, hmax3, _, b3, off3, ha3, hc3⟩ := h3
  obtain ⟨ao4, cap4, rfl, hcap4, hmax4, _, b4, off4, ha4, hc4⟩ := h4
  have HC : Hid (∀ j s, xs[j]? = some s → w.cell? ⟨b, off + j, none⟩ = some (.int .i64 s)) := hc
  have HC2 : Hid (∀ j s, ys[j]? = some s → w.cell? ⟨b2, off2 + j, none⟩ = some (.int .u64 s)) := hc2
  have HC3 : Hid (∀ j s, qs[j]? = some s → w.cell? ⟨b3, off3 + j, none⟩ = some (.int .i64 s)) := hc3
  have HC4 : Hid (∀ j s, ns[j]? = some s → w.cell? ⟨b4, off4 + j, none⟩ = some (.int .u64 s)) := hc4
  have HA : Hid (0 < xs.length → ao = some ⟨b, off, none⟩) := ha
  have HA2 : Hid (0 < ys.length → ao2 = some ⟨b2, off2, none⟩) := ha2
  have HA3 : Hid (0 < qs.length → ao3 = some ⟨b3, off3, none⟩) := ha3
  have HA4 : Hid (0 < ns.length → ao4 = some ⟨b4, off4, none⟩) := ha4
  have hml : xs.length ≤ 9223372036854775807 ∧ qs.length ≤ 9223372036854775807 := by unfold maxLen at hmax hmax3; omega
  have hle1 : xs.length ≤ ys.length := by omega
  have hle2 : ys.length ≤ xs.length := by omega
  have hle3 : qs.length ≤ ns.length := by omega
  have hle4 : ns.length ≤ qs.length := by omega
  have HNO : Hid ((hlf xs ys qs ns = false → smb xs ys qs ns = false) ∧ (hlf qs ns xs ys = false → smb xs ys qs ns = false) ∧ (hlf xs ys qs ns = true → hlf qs ns xs ys = true → smb xs ys qs ns = true)) := by
    unfold Hid smb
    refine ⟨fun h => by rw [h]; rfl, fun h => by rw [h, Bool.and_false], fun h k => by rw [h, k]; rfl⟩
  obtain ⟨hml1, hml2⟩ := hml
  clear hc ha hc2 ha2 hc3 ha3 hc4 ha4 hl hl2
  go_enter Try.func59, Try.ntmps59
  go_wp2
  go_loopw [9] (fun i wr => ∃ (k : Nat), k ≤ xs.length ∧ i = .int .i64 (k : Int) ∧ hlf (xs.take k) (ys.take k) qs ns = true ∧ Fr [] w wr) (fun i _ => xs.length - (intOf i).toNat)
  case atStart => exact ⟨0, by omega, rfl, by simp [hlf], Fr.refl _ _⟩
  case round =>
    obtain ⟨k, hk, rfl, hr, hf⟩ := hrel
    have HR : Hid (hlf (xs.take k) (ys.take k) qs ns = true) := hr
    have HF : Hid (Fr [] w wr) := hf
    clear hr hf
    by_cases hlt : k < xs.length
    · obtain rfl := HA.out (by omega)
      obtain rfl := HA2.out (by omega)
      have hlt2 : k < ys.length := by omega
      obtain ⟨x, hx⟩ := at_lt hlt
      obtain ⟨y, hy⟩ := at_lt hlt2
      have c0 : wr.cell? ⟨b, off + k, none⟩ = some (.int .i64 x) := HF.out.cell_some (HC.out k x hx) (by simp)
      have c1 : wr.cell? ⟨b2, off2 + k, none⟩ = some (.int .u64 y) := HF.out.cell_some (HC2.out k y hy) (by simp)
      have HXY : Hid (xs[k]? = some x ∧ ys[k]? = some y) := ⟨hx, hy⟩
      have HAT : Hid (∀ wx, Fr [] w wx → Calls Try.prog 83 #[(.slice ao3 qs.length cap3), (.slice ao4 ns.length cap4), .int .i64 x] wx fun e w' => e = .returned (.int .u64 (alk qs ns x)) ∧ wx = w') := fun wx hx => lat10_any _ _ qs ns x wx (H3.out.kept hx) (H4.out.kept hx) hle3
      clear hx hy
      go_wp2_with fail
      go_region_held3 (fun w' => w'.cell? ⟨b, off + k, none⟩ = some (.int .i64 x) ∧ w'.cell? ⟨b2, off2 + k, none⟩ = some (.int .u64 y)) (go_keep) (first
        | (go_at_call 83; refine (HAT.out _ HF.out.drew).mono ?_; rintro e wx ⟨rfl, rfl⟩))
      by_cases hxy : y = alk qs ns x
      · have hb : (y != alk qs ns x) = false := by simpa using hxy
        have HR2 : Hid (hlf (xs.take (k + 1)) (ys.take (k + 1)) qs ns = true) := hlf_snoc HXY.out.1 HXY.out.2 HR.out hxy
        clear hxy
        go_wp2
        go_roundw
        case rel => first | exact ⟨k + 1, by omega, by go_num, HR2.out, HF.out.drew⟩ | exact ⟨_, _, ⟨k + 1, by omega, rfl, HR2.out, HF.out.drew⟩, rfl, by go_num⟩
        case measure => simp [intOf]; omega
      · have hb : (y != alk qs ns x) = true := by simpa using hxy
        have HE : Hid (smb xs ys qs ns = false) := HNO.out.1 (hlf_no HXY.out.1 HXY.out.2 hxy)
        clear hxy
        go_wp2
        go_ret
        exact ⟨by rw [HE.out]; rfl, HF.out.drew⟩
    · have HALL : Hid (hlf xs ys qs ns = true) := by
        have := HR.out
        rw [show k = xs.length from by omega] at this
        exact hlf_take (by omega) this
      have HALL1 : Hid (hlf xs ys qs ns = true) := HALL.out
      have HF1 : Hid (Fr [] w wr) := HF.out
      clear HALL HF HR
      go_wp2
      go_loopw [10] (fun i wr => ∃ (k : Nat), k ≤ qs.length ∧ i = .int .i64 (k : Int) ∧ hlf (qs.take k) (ns.take k) xs ys = true ∧ Fr [] w wr) (fun i _ => qs.length - (intOf i).toNat)
      case atStart => exact ⟨0, by omega, rfl, by simp [hlf], HF1.out⟩
      case round =>
        obtain ⟨k, hk, rfl, hr, hf⟩ := hrel
        have HR : Hid (hlf (qs.take k) (ns.take k) xs ys = true) := hr
        have HF : Hid (Fr [] w wr) := hf
        clear hr hf
        by_cases hlt : k < qs.length
        · obtain rfl := HA3.out (by omega)
          obtain rfl := HA4.out (by omega)
          have hlt2 : k < ns.length := by omega
          obtain ⟨x, hx⟩ := at_lt hlt
          obtain ⟨y, hy⟩ := at_lt hlt2
          have c0 : wr.cell? ⟨b3, off3 + k, none⟩ = some (.int .i64 x) := HF.out.cell_some (HC3.out k x hx) (by simp)
          have c1 : wr.cell? ⟨b4, off4 + k, none⟩ = some (.int .u64 y) := HF.out.cell_some (HC4.out k y hy) (by simp)
          have HXY : Hid (qs[k]? = some x ∧ ns[k]? = some y) := ⟨hx, hy⟩
          have HAT : Hid (∀ wx, Fr [] w wx → Calls Try.prog 83 #[(.slice ao xs.length cap), (.slice ao2 ys.length cap2), .int .i64 x] wx fun e w' => e = .returned (.int .u64 (alk xs ys x)) ∧ wx = w') := fun wx hx => lat10_any _ _ xs ys x wx (H1.out.kept hx) (H2.out.kept hx) hle1
          clear hx hy
          go_wp2_with fail
          go_region_held3 (fun w' => w'.cell? ⟨b3, off3 + k, none⟩ = some (.int .i64 x) ∧ w'.cell? ⟨b4, off4 + k, none⟩ = some (.int .u64 y)) (go_keep) (first
            | (go_at_call 83; refine (HAT.out _ HF.out.drew).mono ?_; rintro e wx ⟨rfl, rfl⟩))
          by_cases hxy : y = alk xs ys x
          · have hb : (y != alk xs ys x) = false := by simpa using hxy
            have HR2 : Hid (hlf (qs.take (k + 1)) (ns.take (k + 1)) xs ys = true) := hlf_snoc HXY.out.1 HXY.out.2 HR.out hxy
            clear hxy
            go_wp2
            go_roundw
            case rel => first | exact ⟨k + 1, by omega, by go_num, HR2.out, HF.out.drew⟩ | exact ⟨_, _, ⟨k + 1, by omega, rfl, HR2.out, HF.out.drew⟩, rfl, by go_num⟩
            case measure => simp [intOf]; omega
          · have hb : (y != alk xs ys x) = true := by simpa using hxy
            have HE : Hid (smb xs ys qs ns = false) := HNO.out.2.1 (hlf_no HXY.out.1 HXY.out.2 hxy)
            clear hxy
            go_wp2
            go_ret
            exact ⟨by rw [HE.out]; rfl, HF.out.drew⟩
        · have HALL : Hid (hlf qs ns xs ys = true) := by
            have := HR.out
            rw [show k = qs.length from by omega] at this
            exact hlf_take (by omega) this
          have HE : Hid (smb xs ys qs ns = true) := HNO.out.2.2 HALL1.out HALL.out
          go_wp2
          go_ret
          exact ⟨by rw [HE.out]; rfl, HF.out⟩

theorem nineG_mid (w : World) (cs : Array Value) (o : Obj) : NineG ((w.alloc (.cells cs 34)).alloc o) w.heap.size cs := (NineG.new w cs).kept ((Fr.refl [] _).alloc _) (by simp)
/-- The document's Equal. -/
def smxF (a b : Fs) : Bool := smb (pls a.P) a.pd (pls b.P) b.pd && smb (pls a.N) a.nd (pls b.N) b.nd
def freq (a b : Fs) : Bool := decide (fce a = 0 ∧ fce b = 0 ∧ a.s = b.s ∧ a.z = b.z ∧ a.zc = b.zc ∧ a.c = b.c ∧ a.sm = b.sm) && smxF a b

set_option maxHeartbeats 8000000 in
theorem lequal10_any (v u : Value) (a b : Fs) (w : World) (h1 : FSrc w v a) (h2 : FSrc w u b) :
    Calls Try.prog 29 #[v, u] w fun e w' => e = .returned (.bool (freq a b)) ∧ Fr [] w w' := by
  have H1 : Hid (∀ wx, Fr [] w wx → FSrc wx v a) := fun wx hx => h1.kept hx
  have H2 : Hid (∀ wx, Fr [] w wx → FSrc wx u b) := fun wx hx => h2.kept hx
  obtain ⟨po, pc, no, nc, qo, qc, ro, rc, rfl, _, hs1, _⟩ := h1.opens
  obtain ⟨po2, pc2, no2, nc2, qo2, qc2, ro2, rc2, rfl, _, hs2, _⟩ := h2.opens
  have HS1 : Hid (SSrc w (.slice po a.P.length pc) a.P ∧ SSrc w (.slice no a.N.length nc) a.N ∧ USrc w (.slice qo a.pd.length qc) a.pd ∧ USrc w (.slice ro a.nd.length rc) a.nd) := hs1
  have HS2 : Hid (SSrc w (.slice po2 b.P.length pc2) b.P ∧ SSrc w (.slice no2 b.N.length nc2) b.N ∧ USrc w (.slice qo2 b.pd.length qc2) b.pd ∧ USrc w (.slice ro2 b.nd.length rc2) b.nd) := hs2
  clear h1 h2 hs1 hs2
  go_enter Try.func29, Try.ntmps29
  have HA : Hid (NineG ((w.alloc (.cells #[.int .i64 a.s, .int .u64 a.z, .int .u64 a.zc, .int .u64 a.c, .int .u64 a.sm, .slice po a.P.length pc, .slice no a.N.length nc, .slice qo a.pd.length qc, .slice ro a.nd.length rc] 34)).alloc (.cells #[.int .i64 b.s, .int .u64 b.z, .int .u64 b.zc, .int .u64 b.c, .int .u64 b.sm, .slice po2 b.P.length pc2, .slice no2 b.N.length nc2, .slice qo2 b.pd.length qc2, .slice ro2 b.nd.length rc2] 34)) w.heap.size #[.int .i64 a.s, .int .u64 a.z, .int .u64 a.zc, .int .u64 a.c, .int .u64 a.sm, .slice po a.P.length pc, .slice no a.N.length nc, .slice qo a.pd.length qc, .slice ro a.nd.length rc] ∧ NineG ((w.alloc (.cells #[.int .i64 a.s, .int .u64 a.z, .int .u64 a.zc, .int .u64 a.c, .int .u64 a.sm, .slice po a.P.length pc, .slice no a.N.length nc, .slice qo a.pd.length qc, .slice ro a.nd.length rc] 34)).alloc (.cells #[.int .i64 b.s, .int .u64 b.z, .int .u64 b.zc, .int .u64 b.c, .int .u64 b.sm, .slice po2 b.P.length pc2, .slice no2 b.N.length nc2, .slice qo2 b.pd.length qc2, .slice ro2 b.nd.length rc2] 34)) (w.heap.size + 1) #[.int .i64 b.s, .int .u64 b.z, .int .u64 b.zc, .int .u64 b.c, .int .u64 b.sm, .slice po2 b.P.length pc2, .slice no2 b.N.length nc2, .slice qo2 b.pd.length qc2, .slice ro2 b.nd.length rc2] ∧ Fr [] w ((w.alloc (.cells #[.int .i64 a.s, .int .u64 a.z, .int .u64 a.zc, .int .u64 a.c, .int .u64 a.sm, .slice po a.P.length pc, .slice no a.N.length nc, .slice qo a.pd.length qc, .slice ro a.nd.length rc] 34)).alloc (.cells #[.int .i64 b.s, .int .u64 b.z, .int .u64 b.zc, .int .u64 b.c, .int .u64 b.sm, .slice po2 b.P.length pc2, .slice no2 b.N.length nc2, .slice qo2 b.pd.length qc2, .slice ro2 b.nd.length rc2] 34))) := ⟨nineG_mid _ _ _, nineG_top _ _ _, ((Fr.refl [] w).alloc _).alloc _⟩
  go_wp2_with fail
  obtain ⟨hA3, hA6, hAF⟩ := HA.out
  clear HA
  generalize (w.alloc (.cells _ _)).alloc (.cells _ _) = wA at hA3 hA6 hAF ⊢
  refine (lcheck10_any _ a wA (H1.out _ hAF)).mono ?_
  rintro e w1 ⟨rfl, hf1⟩
  have HF1 : Hid (Fr [] w w1) := hAF.trans hf1 (by simp)
  have H3 : Hid (NineG w1 w.heap.size _) := hA3.kept hf1 (by simp)
  have H6 : Hid (NineG w1 (w.heap.size + 1) _) := hA6.kept hf1 (by simp)
  clear hf1 hA3 hA6 hAF
  have HNO : Hid (¬ (fce a = 0 ∧ fce b = 0 ∧ a.s = b.s ∧ a.z = b.z ∧ a.zc = b.zc ∧ a.c = b.c ∧ a.sm = b.sm) → freq a b = false) := fun h => by unfold freq; rw [decide_eq_false h]; rfl
  have HYES : Hid (fce a = 0 → fce b = 0 → a.s = b.s → a.z = b.z → a.zc = b.zc → a.c = b.c → a.sm = b.sm → freq a b = smxF a b) := fun k1 k2 k3 k4 k5 k6 k7 => by unfold freq; rw [decide_eq_true ⟨k1, k2, k3, k4, k5, k6, k7⟩]; rfl
  by_cases h0 : fce a = 0
  case neg =>
    have HE : Hid (freq a b = false) := HNO.out (fun k => h0 k.1)
    have hb0 : (fce a != 0) = true := by simpa using h0
    go_wp2
    go_ret
    exact ⟨by rw [HE.out]; rfl, HF1.out⟩
  have HC0 : Hid (fce a = 0) := h0
  rw [h0]
  clear h0
  have d0 := H6.out.cell 0 rfl
  have d1 := H6.out.cell 1 rfl
  have d2 := H6.out.cell 2 rfl
  have d3 := H6.out.cell 3 rfl
  have d4 := H6.out.cell 4 rfl
  have d5 := H6.out.cell 5 rfl
  have d6 := H6.out.cell 6 rfl
  have d7 := H6.out.cell 7 rfl
  have d8 := H6.out.cell 8 rfl
  go_wp2_with fail
  refine (lcheck10_any _ b w1 (H2.out _ HF1.out)).mono ?_
  rintro e w2 ⟨rfl, hf2⟩
  have HF2 : Hid (Fr [] w w2) := HF1.out.trans hf2 (by simp)
  have h3 := H3.out.kept hf2 (by simp)
  have h6 := H6.out.kept hf2 (by simp)
  clear hf2 HF1 H3 H6 d0 d1 d2 d3 d4 d5 d6 d7 d8
  have c0 := h3.cell 0 rfl
  have c1 := h3.cell 1 rfl
  have c2 := h3.cell 2 rfl
  have c3 := h3.cell 3 rfl
  have c4 := h3.cell 4 rfl
  have c5 := h3.cell 5 rfl
  have c6 := h3.cell 6 rfl
  have c7 := h3.cell 7 rfl
  have c8 := h3.cell 8 rfl
  have d0 := h6.cell 0 rfl
  have d1 := h6.cell 1 rfl
  have d2 := h6.cell 2 rfl
  have d3 := h6.cell 3 rfl
  have d4 := h6.cell 4 rfl
  have d5 := h6.cell 5 rfl
  have d6 := h6.cell 6 rfl
  have d7 := h6.cell 7 rfl
  have d8 := h6.cell 8 rfl
  have H3 : Hid (NineG w2 w.heap.size _) := h3
  have H6 : Hid (NineG w2 (w.heap.size + 1) _) := h6
  clear h3 h6
  by_cases h0 : fce b = 0
  case neg =>
    have HE : Hid (freq a b = false) := HNO.out (fun k => h0 k.2.1)
    have hb0 : (fce b != 0) = true := by simpa using h0
    go_wp2
    go_ret
    exact ⟨by rw [HE.out]; rfl, HF2.out⟩
  have HC1 : Hid (fce b = 0) := h0
  rw [h0]
  clear h0
  obtain ⟨R, hqq⟩ : ∃ R, freq a b = R := ⟨_, rfl⟩
  have HQ : Hid (freq a b = R) := hqq
  rw [hqq] at HNO HYES
  clear hqq
  obtain ⟨s, z, zc, c, sm, P, N, pd, nd⟩ := a
  obtain ⟨s2, z2, zc2, c2', sm2, P2, N2, pd2, nd2⟩ := b
  simp only at *
  by_cases k0 : s = s2
  case neg =>
    have HE2 : Hid (R = false) := HNO.out (fun k => k0 k.2.2.1)
    have kb : (s != s2) = true := by simpa using k0
    go_wp2
    go_ret
    exact ⟨by rw [HQ.out, HE2.out]; rfl, HF2.out⟩
  subst k0
  by_cases k1 : z = z2
  case neg =>
    have HE2 : Hid (R = false) := HNO.out (fun k => k1 k.2.2.2.1)
    have kb : (z != z2) = true := by simpa using k1
    go_wp2
    go_ret
    exact ⟨by rw [HQ.out, HE2.out]; rfl, HF2.out⟩
  subst k1
  by_cases k2 : zc = zc2
  case neg =>
    have HE2 : Hid (R = false) := HNO.out (fun k => k2 k.2.2.2.2.1)
    have kb : (zc != zc2) = true := by simpa using k2
    go_wp2
    go_ret
    exact ⟨by rw [HQ.out, HE2.out]; rfl, HF2.out⟩
  subst k2
  by_cases k3 : c = c2'
  case neg =>
    have HE2 : Hid (R = false) := HNO.out (fun k => k3 k.2.2.2.2.2.1)
    have kb : (c != c2') = true := by simpa using k3
    go_wp2
    go_ret
    exact ⟨by rw [HQ.out, HE2.out]; rfl, HF2.out⟩
  subst k3
  by_cases k4 : sm = sm2
  case neg =>
    have HE2 : Hid (R = false) := HNO.out (fun k => k4 k.2.2.2.2.2.2)
    have kb : (sm != sm2) = true := by simpa using k4
    go_wp2
    go_ret
    exact ⟨by rw [HQ.out, HE2.out]; rfl, HF2.out⟩
  subst k4
  have HR : Hid (R = smxF ⟨s, z, zc, c, sm, P, N, pd, nd⟩ ⟨s, z, zc, c, sm, P2, N2, pd2, nd2⟩) := HYES.out HC0.out HC1.out (by trivial) (by trivial) (by trivial) (by trivial) (by trivial)
  clear HYES HNO
  have hza := fce_zero.1 HC0.out
  have hzb := fce_zero.1 HC1.out
  have hpa := fsd_zero.1 hza.2.1
  have hna := fsd_zero.1 hza.2.2
  have hpb := fsd_zero.1 hzb.2.1
  have hnb := fsd_zero.1 hzb.2.2
  simp only at hpa hna hpb hnb
  have HKA : Hid ((chk P = 0 ∧ (pls P).length = pd.length) ∧ (chk N = 0 ∧ (pls N).length = nd.length) ∧ (chk P2 = 0 ∧ (pls P2).length = pd2.length) ∧ (chk N2 = 0 ∧ (pls N2).length = nd2.length)) := ⟨⟨hpa.1, hpa.2.1.symm⟩, ⟨hna.1, hna.2.1.symm⟩, ⟨hpb.1, hpb.2.1.symm⟩, ⟨hnb.1, hnb.2.1.symm⟩⟩
  clear hza hzb hpa hna hpb hnb
  have PL1p : Hid (∀ wx, Fr [] w2 wx → Calls Try.prog 55 #[.slice po P.length pc] wx fun e w' => ∃ y, e = .returned y ∧ ISrc w' y (pls P) ∧ Fr [] w2 w') := by
    intro wx hx
    refine (lplaces_any _ P wx (HS1.out.1.kept (HF2.out.trans hx (by simp))) HKA.out.1.1).mono ?_
    rintro e w' ⟨y, rfl, hy, hf⟩
    exact ⟨y, rfl, IOwn.src hy pls_in64, hx.trans hf (by simp)⟩
  have PL2p : Hid (∀ wx, Fr [] w2 wx → Calls Try.prog 55 #[.slice po2 P2.length pc2] wx fun e w' => ∃ y, e = .returned y ∧ ISrc w' y (pls P2) ∧ Fr [] w2 w' ∧ Fr [] wx w') := by
    intro wx hx
    refine (lplaces_any _ P2 wx (HS2.out.1.kept (HF2.out.trans hx (by simp))) HKA.out.2.2.1.1).mono ?_
    rintro e w' ⟨y, rfl, hy, hf⟩
    exact ⟨y, rfl, IOwn.src hy pls_in64, hx.trans hf (by simp), hf⟩
  have SMp : Hid (∀ wx x y, Fr [] w2 wx → ISrc wx x (pls P) → ISrc wx y (pls P2) → Calls Try.prog 59 #[x, .slice qo pd.length qc, y, .slice qo2 pd2.length qc2] wx fun e w' => e = .returned (.bool (smb (pls P) pd (pls P2) pd2)) ∧ Fr [] w2 w') := by
    intro wx x y hx h1 h2
    refine (lsame10_any _ _ _ _ (pls P) pd (pls P2) pd2 wx h1 (HS1.out.2.2.1.kept (HF2.out.trans hx (by simp))) h2 (HS2.out.2.2.1.kept (HF2.out.trans hx (by simp))) HKA.out.1.2 HKA.out.2.2.1.2).mono ?_
    rintro e w' ⟨rfl, hf⟩
    exact ⟨rfl, hx.trans hf (by simp)⟩
  have F0p : Fr [] w2 w2.drew := (Fr.refl _ _).drew
  go_wp2_with fail
  go_region_held3 (fun w' => w'.cell? ⟨w.heap.size, 5, none⟩ = some (.slice po P.length pc) ∧ w'.cell? ⟨w.heap.size, 7, none⟩ = some (.slice qo pd.length qc) ∧ w'.cell? ⟨w.heap.size + 1, 5, none⟩ = some (.slice po2 P2.length pc2) ∧ w'.cell? ⟨w.heap.size + 1, 7, none⟩ = some (.slice qo2 pd2.length qc2)) (go_keep) (first
    | (go_at_call 55; with_reducible refine (PL1p.out _ F0p).mono ?_; rintro e wa ⟨xa, rfl, hxa, hfa⟩; have ka5 := hfa.cell_some c5 (by simp); have ma5 := hfa.cell_some d5 (by simp); have ka7 := hfa.cell_some c7 (by simp); have ma7 := hfa.cell_some d7 (by simp))
    | (go_at_call 55; with_reducible refine (PL2p.out _ hfa).mono ?_; rintro e wb ⟨xb, rfl, hxb, hfb, hgb⟩; have kb5 := hfb.cell_some c5 (by simp); have mb5 := hfb.cell_some d5 (by simp); have kb7 := hfb.cell_some c7 (by simp); have mb7 := hfb.cell_some d7 (by simp))
    | (go_at_call 59; with_reducible refine (SMp.out _ _ _ hfb (hxa.kept hgb) hxb).mono ?_; rintro e wc ⟨rfl, hfc⟩; have kc5 := hfc.cell_some c5 (by simp); have mc5 := hfc.cell_some d5 (by simp); have kc7 := hfc.cell_some c7 (by simp); have mc7 := hfc.cell_some d7 (by simp)))
  have HF3 : Hid (Fr [] w wc) := HF2.out.trans hfc (by simp)
  have C6 := hfc.cell_some c6 (by simp)
  have C8 := hfc.cell_some c8 (by simp)
  have D6 := hfc.cell_some d6 (by simp)
  have D8 := hfc.cell_some d8 (by simp)
  clear hfa hfb hfc hgb hxa hxb ka5 ka7 ma5 ma7 kb5 kb7 mb5 mb7 kc5 kc7 mc5 mc7 c5 c6 c7 c8 d5 d6 d7 d8 H3 H6 PL1p PL2p SMp F0p
  have c6 := C6
  have c8 := C8
  have d6 := D6
  have d8 := D8
  clear C6 C8 D6 D8
  generalize wc = w7 at *
  by_cases k5 : smb (pls P) pd (pls P2) pd2 = true
  case neg =>
    have k6 : smb (pls P) pd (pls P2) pd2 = false := by simpa using k5
    have HE2 : Hid (R = false) := by rw [Hid, HR.out]; unfold smxF; simp only [k6]; rfl
    rw [k6]
    clear k5 k6
    go_wp2
    go_ret
    exact ⟨by rw [HQ.out, HE2.out]; rfl, HF3.out⟩
  have HE3 : Hid (R = smb (pls N) nd (pls N2) nd2) := by rw [Hid, HR.out]; unfold smxF; simp only [k5]; rfl
  rw [k5]
  clear k5
  have PL1n : Hid (∀ wx, Fr [] w7 wx → Calls Try.prog 55 #[.slice no N.length nc] wx fun e w' => ∃ y, e = .returned y ∧ ISrc w' y (pls N) ∧ Fr [] w7 w') := by
    intro wx hx
    refine (lplaces_any _ N wx (HS1.out.2.1.kept (HF3.out.trans hx (by simp))) HKA.out.2.1.1).mono ?_
    rintro e w' ⟨y, rfl, hy, hf⟩
    exact ⟨y, rfl, IOwn.src hy pls_in64, hx.trans hf (by simp)⟩
  have PL2n : Hid (∀ wx, Fr [] w7 wx → Calls Try.prog 55 #[.slice no2 N2.length nc2] wx fun e w' => ∃ y, e = .returned y ∧ ISrc w' y (pls N2) ∧ Fr [] w7 w' ∧ Fr [] wx w') := by
    intro wx hx
    refine (lplaces_any _ N2 wx (HS2.out.2.1.kept (HF3.out.trans hx (by simp))) HKA.out.2.2.2.1).mono ?_
    rintro e w' ⟨y, rfl, hy, hf⟩
    exact ⟨y, rfl, IOwn.src hy pls_in64, hx.trans hf (by simp), hf⟩
  have SMn : Hid (∀ wx x y, Fr [] w7 wx → ISrc wx x (pls N) → ISrc wx y (pls N2) → Calls Try.prog 59 #[x, .slice ro nd.length rc, y, .slice ro2 nd2.length rc2] wx fun e w' => e = .returned (.bool (smb (pls N) nd (pls N2) nd2)) ∧ Fr [] w7 w') := by
    intro wx x y hx h1 h2
    refine (lsame10_any _ _ _ _ (pls N) nd (pls N2) nd2 wx h1 (HS1.out.2.2.2.kept (HF3.out.trans hx (by simp))) h2 (HS2.out.2.2.2.kept (HF3.out.trans hx (by simp))) HKA.out.2.1.2 HKA.out.2.2.2.2).mono ?_
    rintro e w' ⟨rfl, hf⟩
    exact ⟨rfl, hx.trans hf (by simp)⟩
  have F0n : Fr [] w7 w7.drew := (Fr.refl _ _).drew
  go_wp2_with fail
  go_region_held3 (fun w' => w'.cell? ⟨w.heap.size, 6, none⟩ = some (.slice no N.length nc) ∧ w'.cell? ⟨w.heap.size, 8, none⟩ = some (.slice ro nd.length rc) ∧ w'.cell? ⟨w.heap.size + 1, 6, none⟩ = some (.slice no2 N2.length nc2) ∧ w'.cell? ⟨w.heap.size + 1, 8, none⟩ = some (.slice ro2 nd2.length rc2)) (go_keep) (first
    | (go_at_call 55; with_reducible refine (PL1n.out _ F0n).mono ?_; rintro e wa ⟨xa, rfl, hxa, hfa⟩; have ka6 := hfa.cell_some c6 (by simp); have ma6 := hfa.cell_some d6 (by simp); have ka8 := hfa.cell_some c8 (by simp); have ma8 := hfa.cell_some d8 (by simp))
    | (go_at_call 55; with_reducible refine (PL2n.out _ hfa).mono ?_; rintro e wb ⟨xb, rfl, hxb, hfb, hgb⟩; have kb6 := hfb.cell_some c6 (by simp); have mb6 := hfb.cell_some d6 (by simp); have kb8 := hfb.cell_some c8 (by simp); have mb8 := hfb.cell_some d8 (by simp))
    | (go_at_call 59; with_reducible refine (SMn.out _ _ _ hfb (hxa.kept hgb) hxb).mono ?_; rintro e wc ⟨rfl, hfc⟩; have kc6 := hfc.cell_some c6 (by simp); have mc6 := hfc.cell_some d6 (by simp); have kc8 := hfc.cell_some c8 (by simp); have mc8 := hfc.cell_some d8 (by simp)))
  have HF4 : Hid (Fr [] w wc) := HF3.out.trans hfc (by simp)
  go_wp2
  go_ret
  exact ⟨by rw [HQ.out, HE3.out]; rfl, HF4.out⟩

/-- Places that rise. -/
def up (l : List Sp) : Prop := l.Pairwise fun s t => s.1 < t.1
theorem up_fsts {l : List Sp} : up l ↔ (fsts l).Pairwise (· < ·) := by unfold up fsts; rw [List.pairwise_map]
theorem up_wio {l : List Sp} {z : Int} (h : up l) : up (wio l z) := List.Pairwise.filter _ h
theorem up_ext {A B : List Sp} (hA : up A) (hB : up B) (h : ∀ s, s ∈ A ↔ s ∈ B) : A = B := by
  induction A generalizing B with
  | nil =>
    cases B with
    | nil => rfl
    | cons b r => exact absurd ((h b).2 (by simp)) (by simp)
  | cons a r ih =>
    cases B with
    | nil => exact absurd ((h a).1 (by simp)) (by simp)
    | cons b q =>
      unfold up at hA hB
      rw [List.pairwise_cons] at hA hB
      have hab : a = b := by
        rcases List.mem_cons.1 ((h a).1 (by simp)) with h1 | h1
        · exact h1
        · rcases List.mem_cons.1 ((h b).2 (by simp)) with h2 | h2
          · exact h2.symm
          · have := hA.1 b h2
            have := hB.1 a h1
            omega
      subst hab
      congr 1
      refine ih hA.2 hB.2 fun s => ?_
      constructor
      · intro hs
        rcases List.mem_cons.1 ((h s).1 (List.mem_cons_of_mem _ hs)) with h1 | h1
        · have := hA.1 s hs; rw [h1] at this; omega
        · exact h1
      · intro hs
        rcases List.mem_cons.1 ((h s).2 (List.mem_cons_of_mem _ hs)) with h1 | h1
        · have := hB.1 s hs; rw [h1] at this; omega
        · exact h1
theorem alk_out {l : List Sp} {p : Int} (h : ∀ s ∈ l, s.1 ≠ p) : alk (fsts l) (snds l) p = 0 := by
  induction l with
  | nil => rfl
  | cons a r ih =>
    show (if a.1 = p then a.2 else alk (fsts r) (snds r) p) = 0
    rw [if_neg (h a (by simp))]
    exact ih fun s hs => h s (by simp [hs])
theorem alk_mem {l : List Sp} {s : Sp} (h : up l) (hs : s ∈ l) : alk (fsts l) (snds l) s.1 = s.2 := by
  induction l with
  | nil => simp at hs
  | cons a r ih =>
    unfold up at h
    rw [List.pairwise_cons] at h
    show (if a.1 = s.1 then a.2 else alk (fsts r) (snds r) s.1) = s.2
    rcases List.mem_cons.1 hs with h1 | h1
    · rw [h1, if_pos rfl]
    · have := h.1 s h1
      rw [if_neg (by omega)]
      exact ih h.2 h1
theorem zip_self (l : List Sp) : (fsts l).zip (snds l) = l := by
  induction l with
  | nil => rfl
  | cons a r ih => show (a.1, a.2) :: ((fsts r).zip (snds r)) = a :: r; rw [ih]
theorem hlf_iff {A : List Sp} {qs ns : List Int} : hlf (fsts A) (snds A) qs ns = true ↔ ∀ s ∈ A, s.2 = alk qs ns s.1 := by
  unfold hlf
  rw [zip_self, List.all_eq_true]
  simp
theorem alk_wio {A B : List Sp} (hA : up A) (hB : up B) (e : wio A 0 = wio B 0) {s : Sp} (hs : s ∈ A) : s.2 = alk (fsts B) (snds B) s.1 := by
  by_cases h : ∃ t ∈ B, t.1 = s.1
  · obtain ⟨t, ht, hts⟩ := h
    rw [← hts, alk_mem hB ht]
    by_cases h0 : s.2 = 0
    · by_cases h1 : t.2 = 0
      · omega
      · have h2 : t ∈ wio A 0 := by rw [e]; exact wio_mem.2 ⟨ht, h1⟩
        have h3 := alk_mem hA (wio_mem.1 h2).1
        have h4 := alk_mem hA hs
        rw [hts] at h3
        omega
    · have h2 : s ∈ wio B 0 := by rw [← e]; exact wio_mem.2 ⟨hs, h0⟩
      have h3 := alk_mem hB (wio_mem.1 h2).1
      have h4 := alk_mem hB ht
      rw [hts] at h4
      omega
  · have hn : ∀ t ∈ B, t.1 ≠ s.1 := fun t ht e2 => h ⟨t, ht, e2⟩
    rw [alk_out hn]
    refine Classical.byContradiction fun h0 => ?_
    have h2 : s ∈ wio B 0 := by rw [← e]; exact wio_mem.2 ⟨hs, h0⟩
    exact hn s (wio_mem.1 h2).1 rfl
theorem smb_wio {A B : List Sp} (hA : up A) (hB : up B) : smb (fsts A) (snds A) (fsts B) (snds B) = decide (wio A 0 = wio B 0) := by
  rw [Bool.eq_iff_iff, decide_eq_true_iff]
  unfold smb
  rw [Bool.and_eq_true, hlf_iff, hlf_iff]
  constructor
  · rintro ⟨h1, h2⟩
    have one : ∀ {A B : List Sp}, (∀ s ∈ A, s.2 = alk (fsts B) (snds B) s.1) → up B → ∀ s ∈ wio A 0, s ∈ wio B 0 := by
      intro A B h hB s hs
      obtain ⟨hs1, hs2⟩ := wio_mem.1 hs
      have e := h s hs1
      by_cases hm : ∃ t ∈ B, t.1 = s.1
      · obtain ⟨t, ht, hts⟩ := hm
        have h3 := alk_mem hB ht
        rw [hts, ← e] at h3
        have : s = t := Prod.ext hts.symm h3
        rw [this] at hs2 ⊢
        exact wio_mem.2 ⟨ht, hs2⟩
      · rw [alk_out (fun t ht e2 => hm ⟨t, ht, e2⟩)] at e
        exact absurd e hs2
    exact up_ext (up_wio hA) (up_wio hB) fun s => ⟨one h1 hB s, one h2 hA s⟩
  · intro e
    exact ⟨fun s hs => alk_wio hA hB e hs, fun s hs => alk_wio hB hA e.symm hs⟩
theorem fsl_up (l : List Sp) (d : List Int) : up (fsl l d) := by
  rw [up_fsts]
  by_cases h : fsd l d = 0
  · rw [(fsl_zip h).2.1]; exact rises_pair (pls_rises l)
  · unfold fsl; rw [if_neg h]; simp [fsts]
theorem freq_feq (a b : Fs) : freq a b = feq a b := by
  unfold freq feq
  by_cases h : fce a = 0 ∧ fce b = 0 ∧ a.s = b.s ∧ a.z = b.z ∧ a.zc = b.zc ∧ a.c = b.c ∧ a.sm = b.sm
  · rw [decide_eq_true h, Bool.true_and]
    have ha := fce_zero.1 h.1
    have hb := fce_zero.1 h.2.1
    have ea : fdp a = fsl a.P a.pd ∧ fdn a = fsl a.N a.nd := by unfold fdp fdn; rw [if_pos h.1, if_pos h.1]; exact ⟨rfl, rfl⟩
    have eb : fdp b = fsl b.P b.pd ∧ fdn b = fsl b.N b.nd := by unfold fdp fdn; rw [if_pos h.2.1, if_pos h.2.1]; exact ⟨rfl, rfl⟩
    have h1 := smb_wio (fsl_up a.P a.pd) (fsl_up b.P b.pd)
    have h2 := smb_wio (fsl_up a.N a.nd) (fsl_up b.N b.nd)
    rw [(fsl_zip ha.2.1).2.1, (fsl_zip ha.2.1).2.2, (fsl_zip hb.2.1).2.1, (fsl_zip hb.2.1).2.2] at h1
    rw [(fsl_zip ha.2.2).2.1, (fsl_zip ha.2.2).2.2, (fsl_zip hb.2.2).2.1, (fsl_zip hb.2.2).2.2] at h2
    unfold smxF
    rw [h1, h2, ea.1, ea.2, eb.1, eb.2]
    rw [Bool.eq_iff_iff]
    simp only [Bool.and_eq_true, decide_eq_true_eq]
    exact ⟨fun k => ⟨h.1, h.2.1, h.2.2.1, h.2.2.2.1, h.2.2.2.2.1, h.2.2.2.2.2.1, h.2.2.2.2.2.2, k.1, k.2⟩, fun k => ⟨k.2.2.2.2.2.2.2.1, k.2.2.2.2.2.2.2.2⟩⟩
  · rw [decide_eq_false h, Bool.false_and]
    exact (decide_eq_false (fun k => h ⟨k.1, k.2.1, k.2.2.1, k.2.2.2.1, k.2.2.2.2.1, k.2.2.2.2.2.1, k.2.2.2.2.2.2.1⟩)).symm
theorem feq_comm (a b : Fs) : feq b a = feq a b := by
  unfold feq
  rw [decide_eq_decide]
  constructor <;> (rintro ⟨h1, h2, h3, h4, h5, h6, h7, h8, h9⟩; exact ⟨h2, h1, h3.symm, h4.symm, h5.symm, h6.symm, h7.symm, h8.symm, h9.symm⟩)
end Go.Proofs.Ytoaibabkkphlaaa
