/-
  The document's NaN, Head, Side, Fits, Check (layer 9).
-/
import Derived.Test.YtjkiiccdcjcfbaaLaw9
import Derived.Test.YtjkiiccdcjcfbaaRef6C
namespace Go.Proofs.Ytjkiiccdcjcfbaa
open Go.RowKit Mem Spans
set_option linter.unusedSimpArgs false
set_option linter.unusedVariables false
set_option maxRecDepth 100000

theorem nan_low {v : Int} (hv : inu v) (h : v < 9223372036854775808) : nan v = decide (9218868437227405312 < v) := by
  unfold nan; rw [show v % 9223372036854775808 = v from by unfold inu at hv; omega]
theorem nan_high {v : Int} (hv : inu v) (h : ¬ v < 9223372036854775808) : nan v = decide (9218868437227405312 < v - 9223372036854775808) ∧ IntKind.u64.wrap (v - 9223372036854775808) = v - 9223372036854775808 := by
  unfold inu at hv
  constructor
  · unfold nan; rw [show v % 9223372036854775808 = v - 9223372036854775808 from by omega]
  · rw [IntKind.wrap_u64]; omega
set_option maxHeartbeats 400000 in
theorem lnan_any (v : Int) (w : World) (hv : inu v) :
    Calls Try.prog 16 #[.int .u64 v] w fun e w' => e = .returned (.bool (nan v)) ∧ w = w' := by
  go_enter Try.func16, Try.ntmps16
  by_cases h : v < 9223372036854775808
  · have HE : Hid (nan v = decide (9218868437227405312 < v)) := nan_low hv h
    clear hv
    go_wp2
    go_ret
    exact ⟨by rw [HE.out]; rfl, rfl⟩
  · have HE : Hid (nan v = decide (9218868437227405312 < v - 9223372036854775808)) := (nan_high hv h).1
    have e := (nan_high hv h).2
    clear hv
    go_wp2
    go_ret
    exact ⟨by rw [HE.out]; rfl, rfl⟩
set_option maxHeartbeats 400000 in
theorem lhead_any (s z : Int) (w : World) :
    Calls Try.prog 18 #[.int .i64 s, .int .u64 z] w fun e w' => e = .returned (.int .i64 (hde s z)) ∧ w = w' := by
  go_enter Try.func18, Try.ntmps18
  by_cases h1 : s < -4
  · have HE : Hid (hde s z = 21) := by unfold Hid hde; rw [if_pos (.inl h1)]
    go_wp2
    go_ret
    exact ⟨by rw [HE.out]; rfl, rfl⟩
  by_cases h2 : 8 < s
  · have HE : Hid (hde s z = 21) := by unfold Hid hde; rw [if_pos (.inr h2)]
    go_wp2
    go_ret
    exact ⟨by rw [HE.out]; rfl, rfl⟩
  by_cases hz : z < 9218868437227405312
  · have HE : Hid (hde s z = 0) := by unfold Hid hde; rw [if_neg (by omega), if_pos hz]
    go_wp2
    go_ret
    exact ⟨by rw [HE.out]; rfl, rfl⟩
  · have HE : Hid (hde s z = 11) := by unfold Hid hde; rw [if_neg (by omega), if_neg hz]
    go_wp2
    go_ret
    exact ⟨by rw [HE.out]; rfl, rfl⟩

/-- Side's places, its counts. -/
def spl (l : List Sp) (d : List Int) : List Int := if sde l d = 0 then pls l else []
def svl (l : List Sp) (d : List Int) : List Int := if sde l d = 0 then abv d else []
theorem abe_abo (d : List Int) : (abe d = 0 ∧ abo d = 0) ∨ (abe d = 28 ∧ abo d = 1) := by unfold abe abo; cases absl 0 d <;> simp
theorem sp_nil {l : List Sp} {d : List Int} (h : sde l d ≠ 0) : spl l d = [] ∧ svl l d = [] := by unfold spl svl; rw [if_neg h, if_neg h]; exact ⟨rfl, rfl⟩

set_option maxHeartbeats 2000000 in
theorem lside_any (v u : Value) (l : List Sp) (d : List Int) (w : World) (h : SSrc w v l) (h2 : ISrc w u d) :
    Calls Try.prog 20 #[v, u] w fun e w' => ∃ x y, e = .returned (.tuple #[x, y, .int .i64 (sde l d)]) ∧ IOwn w.heap.size w' x (spl l d) ∧ NOwn 2 w.heap.size w' y (svl l d) ∧ Fr [] w w' := by
  have HSR : Hid (SSrc w v l) := h
  have HIR : Hid (ISrc w u d) := h2
  obtain ⟨ao, cap, rfl, hcap, hmax, _⟩ := h
  obtain ⟨bo, bcap, rfl, hbcap, hbmax, _⟩ := h2
  go_enter Try.func20, Try.ntmps20
  go_wp2_with fail
  refine (lcheck_any _ l _ HSR.out).mono ?_
  rintro e w1 ⟨rfl, hf1⟩
  have HF1 : Hid (Fr [] w w1) := hf1
  clear hf1
  by_cases hk : chk l = 0
  · have HK : Hid (chk l = 0) := hk
    rw [hk]
    clear hk
    go_wp2_with fail
    refine (lplaces_any _ l _ (HSR.out.kept HF1.out) HK.out).mono ?_
    rintro e w2 ⟨p, rfl, hp, hf2⟩
    have HF2 : Hid (Fr [] w w2) := HF1.out.trans hf2 (by simp)
    have HP : Hid (IOwn w.heap.size w2 p (pls l)) := by
      rcases hp with h | ⟨g, h1, h2⟩
      · exact .inl h
      · exact .inr ⟨g, Nat.le_trans HF1.out.size h1, h2⟩
    obtain ⟨pa, pcap, rfl⟩ := HP.out.val
    clear hf2 HF1 hp
    by_cases hd : d.length = (pls l).length
    · have HD : Hid (d.length = (pls l).length) := hd
      have hdb : (((pls l).length : Int) != (d.length : Int)) = false := by simp; omega
      clear hd
      go_wp2_with fail
      refine (labsolute_any _ d _ (HIR.out.kept HF2.out) (by have := HD.out; have := pls_le l; omega)).mono ?_
      rintro e w3 ⟨x, rfl, hx, hf3⟩
      have HF3 : Hid (Fr [] w w3) := HF2.out.trans hf3 (by simp)
      have HX : Hid (NOwn 2 w.heap.size w3 x (abv d)) := hx.mono HF2.out.size
      have HP3 : Hid (IOwn w.heap.size w3 (.slice pa (pls l).length pcap) (pls l)) := by
        rcases HP.out with h | ⟨g, h1, h2, h3⟩
        · exact .inl h
        · exact .inr ⟨g, h1, h2, h3.kept hf3 (by simp)⟩
      clear hf3 HF2 hx HP hdb
      rcases abe_abo d with ⟨ha, ho⟩ | ⟨ha, ho⟩
      · rw [ho]
        have HZ : Hid (sde l d = if nng (abv d) = true then 0 else 22) := by unfold Hid sde; rw [if_pos HK.out, if_pos HD.out, if_pos ha]
        have HAB : Hid (∀ wx, Fr [] w3 wx → ISrc wx x (abv d)) := fun wx hx => (HX.out.src (abv_in d)).kept hx
        obtain ⟨xo, xcap, hxv, hxc, hxm, _, xb, xoff, hxa, hxcell⟩ := HAB.out w3 (Fr.refl _ _)
        have HC : Hid (∀ j s, (abv d)[j]? = some s → w3.cell? ⟨xb, xoff + j, none⟩ = some (.int .i64 s)) := hxcell
        have HA : Hid (0 < (abv d).length → xo = some ⟨xb, xoff, none⟩) := hxa
        subst hxv
        clear hxcell hxa ha ho
        have hxm2 : (abv d).length ≤ 9223372036854775807 := by unfold maxLen at hxm; omega
        generalize hM : (abv d).length = M at *
        have HM : Hid ((abv d).length = M) := hM
        clear hM
        go_wp2
        go_loopw [11] (fun i wr => ∃ (k : Nat), k ≤ M ∧ i = .int .i64 (k : Int) ∧ nng ((abv d).take k) = true ∧ wr = w3) (fun i _ => M - (intOf i).toNat)
        case atStart => exact ⟨0, by omega, rfl, by simp [nng], rfl⟩
        case round =>
          obtain ⟨k, hk, rfl, hn, rfl⟩ := hrel
          have HN : Hid (nng ((abv d).take k) = true) := hn
          clear hn
          by_cases hlt : k < M
          · obtain rfl := HA.out (by omega)
            obtain ⟨s, hs⟩ := at_lt (l := abv d) (k := k) (by have := HM.out; omega)
            have c0 := HC.out k s hs
            have HS : Hid ((abv d)[k]? = some s) := hs
            clear hs
            by_cases h0 : s < 0
            · have HE : Hid (sde l d = 22) := by
                rw [Hid, HZ.out, if_neg]
                intro h
                have := nng_iff.1 h s (List.mem_of_getElem? HS.out)
                omega
              go_wp2
              go_ret3
              exact ⟨_, _, by rw [HE.out]; rfl, .inl ⟨(sp_nil (by rw [HE.out]; decide)).1, rfl⟩, .inl ⟨(sp_nil (by rw [HE.out]; decide)).2, rfl⟩, HF3.out⟩
            · have HN2 : Hid (nng ((abv d).take (k + 1)) = true) := by
                rw [Hid, take_at HS.out]
                have := HN.out
                simp only [nng, List.all_append, List.all_cons, List.all_nil, Bool.and_eq_true, Bool.and_true] at this ⊢
                exact ⟨this, decide_eq_true (by omega)⟩
              go_wp2
              go_roundw
              case rel => exact ⟨k + 1, by omega, by go_num, HN2.out, trivial⟩
              case measure => simp [intOf]; omega
          · have HN2 : Hid (nng (abv d) = true) := by
              have := HN.out
              rw [List.take_of_length_le (by have := HM.out; omega)] at this
              exact this
            have HE : Hid (sde l d = 0) := by rw [Hid, HZ.out, if_pos HN2.out]
            have HV : Hid (spl l d = pls l ∧ svl l d = abv d) := by unfold Hid spl svl; rw [if_pos HE.out, if_pos HE.out]; exact ⟨rfl, rfl⟩
            go_wp2
            go_ret3
            exact ⟨_, _, by rw [HE.out]; rfl, by rw [HV.out.1]; exact HP3.out, by rw [HV.out.2]; exact HX.out, HF3.out⟩
      · have HE : Hid (sde l d = 28) := by unfold Hid sde; rw [if_pos HK.out, if_pos HD.out, if_neg (by omega)]
        rw [ho]
        clear ha ho
        go_wp2
        go_ret3
        exact ⟨_, _, by rw [HE.out]; rfl, .inl ⟨(sp_nil (by rw [HE.out]; decide)).1, rfl⟩, .inl ⟨(sp_nil (by rw [HE.out]; decide)).2, rfl⟩, HF3.out⟩
    · have HE : Hid (sde l d = 23) := by unfold Hid sde; rw [if_pos HK.out, if_neg hd]
      have hdb : (((pls l).length : Int) != (d.length : Int)) = true := by simp; omega
      clear hd
      go_wp2
      go_ret3
      exact ⟨_, _, by rw [HE.out]; rfl, .inl ⟨(sp_nil (by rw [HE.out]; decide)).1, rfl⟩, .inl ⟨(sp_nil (by rw [HE.out]; decide)).2, rfl⟩, HF2.out⟩
  · have HE : Hid (sde l d = chk l) := by unfold Hid sde; rw [if_neg hk]
    have HNE : Hid (sde l d ≠ 0) := by rw [Hid, HE.out]; exact hk
    go_wp2
    go_ret3
    exact ⟨_, _, by rw [HE.out]; rfl, .inl ⟨(sp_nil HNE.out).1, rfl⟩, .inl ⟨(sp_nil HNE.out).2, rfl⟩, HF1.out⟩

/-- Both lists of counts, one behind the other, from the k-th on. -/
def rsi (p n : List Int) : Nat → List Int
  | 0 => p ++ n
  | 1 => n
  | _ => []
/-- The document's Fits. -/
def fte (zc c sm : Int) (p n : List Int) : Int := if fts zc c sm p n = true then 0 else 22

set_option maxHeartbeats 4000000 in
theorem lfits9_any (zc c sm : Int) (vp vn : Value) (p n : List Int) (w : World) (hu : inu zc ∧ inu c ∧ inu sm) (h1 : ISrc w vp p) (h2 : ISrc w vn n) (hp : ∀ x ∈ p, 0 ≤ x) (hn : ∀ x ∈ n, 0 ≤ x) :
    Calls Try.prog 43 #[.int .u64 zc, .int .u64 c, .int .u64 sm, vp, vn] w fun e w' => e = .returned (.int .i64 (fte zc c sm p n)) ∧ w = w' := by
  have HU : Hid (inu zc ∧ inu c ∧ inu sm) := hu
  have HP : Hid (ISrc w vp p) := h1
  have HN : Hid (ISrc w vn n) := h2
  have HPN : Hid (∀ x ∈ p, 0 ≤ x) := hp
  have HNN : Hid (∀ x ∈ n, 0 ≤ x) := hn
  obtain ⟨ao, cap, rfl, hcap, hmax, _⟩ := h1
  obtain ⟨bo, bcap, rfl, hbcap, hbmax, _⟩ := h2
  clear hu hp hn
  go_enter Try.func43, Try.ntmps43
  by_cases hzc : zc ≤ c
  · have hsub : IntKind.u64.wrap (c - zc) = c - zc := (sub_u HU.out.2.1 HU.out.1.1 hzc).1
    have hsu : Hid (inu (c - zc)) := (sub_u HU.out.2.1 HU.out.1.1 hzc).2
    have HFT : Hid (fts zc c sm p n = (match lft (c - zc) (p ++ n) with | some a => decide (a = 0) || nan sm | none => false)) := by unfold Hid fts; rw [decide_eq_true hzc]; rfl
    go_wp2
    go_loopw [11, 12] (fun lf i wr => ∃ (k : Nat) (a : Int), k ≤ 2 ∧ i = .int .i64 (k : Int) ∧ lf = .int .u64 a ∧ inu a ∧ lft (c - zc) (p ++ n) = lft a (rsi p n k) ∧ wr = w) (fun _ i _ => 2 - (intOf i).toNat)
    case atStart => exact ⟨0, c - zc, by omega, rfl, rfl, hsu.out, rfl, rfl⟩
    case round =>
      obtain ⟨k, a, hk, rfl, rfl, hia, hla, rfl⟩ := hrel
      have HIA : Hid (inu a) := hia
      have HLA : Hid (lft (c - zc) (p ++ n) = lft a (rsi p n k)) := hla
      clear hia hla
      by_cases hk2 : k < 2
      · obtain rfl | rfl : k = 0 ∨ k = 1 := by omega
        · obtain ⟨_, _, hv1, hkcap, hkmax, hk64, kb, koff, hka, hkcell⟩ := HP.out
          simp only [Value.slice.injEq, true_and] at hv1
          obtain ⟨rfl, rfl⟩ := hv1
          have HKC : Hid (∀ j s, p[j]? = some s → wr.cell? ⟨kb, koff + j, none⟩ = some (.int .i64 s)) := hkcell
          have HKA : Hid (0 < p.length → ao = some ⟨kb, koff, none⟩) := hka
          have HK6 : Hid (∀ s ∈ p, in64 s) := hk64
          have hkm : p.length ≤ 9223372036854775807 := by unfold maxLen at hkmax; omega
          clear hkcell hka hk64
          go_wp2
          go_loopw [11, 14] (fun lf i wx => ∃ (m : Nat) (b : Int), m ≤ p.length ∧ i = .int .i64 (m : Int) ∧ lf = .int .u64 b ∧ inu b ∧ lft (c - zc) (p ++ n) = lft b ((p.drop m ++ n)) ∧ wx = wr) (fun _ i _ => p.length - (intOf i).toNat)
          case atStart => exact ⟨0, a, by omega, rfl, rfl, HIA.out, by rw [HLA.out]; simp [rsi], rfl⟩
          case round =>
            obtain ⟨m, b, hm, rfl, rfl, hib, hlb, rfl⟩ := hrel
            have HIB : Hid (inu b) := hib
            have HLB : Hid (lft (c - zc) (p ++ n) = lft b ((p.drop m ++ n))) := hlb
            clear hib hlb
            by_cases hml : m < p.length
            · obtain rfl := HKA.out (by omega)
              obtain ⟨x, hx⟩ := at_lt hml
              have c0 := HKC.out m x hx
              have HX6 := HK6.out x (List.mem_of_getElem? hx)
              have HX0 : 0 ≤ x := HPN.out x (List.mem_of_getElem? hx)
              have HLB2 : Hid (lft (c - zc) (p ++ n) = lft b (x :: ((p.drop (m + 1) ++ n)))) := by rw [Hid, HLB.out, drop_at hx]; (first | done | simp)
              clear hx HLB
              have hq : IntKind.u64.wrap x = x := to_u HX0 HX6
              clear HX6
              by_cases hle : x ≤ b
              · have hs1 : IntKind.u64.wrap (b - x) = b - x := (sub_u HIB.out HX0 hle).1
                have HIB2 : Hid (inu (b - x)) := (sub_u HIB.out HX0 hle).2
                have HLB3 : Hid (lft (c - zc) (p ++ n) = lft (b - x) ((p.drop (m + 1) ++ n))) := by rw [Hid, HLB2.out, lft_cons, if_pos hle]
                go_wp2
                go_roundw
                case rel => exact ⟨_, _, _, ⟨m + 1, by omega, rfl, b - x, rfl, HIB2.out, HLB3.out⟩, rfl, rfl, by go_num⟩
                case measure => simp [intOf]; omega
              · have HE : Hid (fte zc c sm p n = 22) := by
                  have : fts zc c sm p n = false := by rw [HFT.out, HLB2.out, lft_cons, if_neg hle]
                  unfold Hid fte; rw [this]; rfl
                have hlt : b < x := by omega
                go_wp2
                go_ret
                exact ⟨by rw [HE.out]; rfl, rfl⟩
            · have HLB2 : Hid (lft (c - zc) (p ++ n) = lft b (rsi p n (0 + 1))) := by
                rw [Hid, HLB.out, List.drop_eq_nil_of_le (by omega)]; simp [rsi]
              go_wp2
              go_roundw
              case rel => exact ⟨0 + 1, b, by omega, by go_num, rfl, HIB.out, HLB2.out, trivial⟩
              case measure => first | (simp [intOf]; done) | (simp [intOf]; omega)
        · obtain ⟨_, _, hv1, hkcap, hkmax, hk64, kb, koff, hka, hkcell⟩ := HN.out
          simp only [Value.slice.injEq, true_and] at hv1
          obtain ⟨rfl, rfl⟩ := hv1
          have HKC : Hid (∀ j s, n[j]? = some s → wr.cell? ⟨kb, koff + j, none⟩ = some (.int .i64 s)) := hkcell
          have HKA : Hid (0 < n.length → bo = some ⟨kb, koff, none⟩) := hka
          have HK6 : Hid (∀ s ∈ n, in64 s) := hk64
          have hkm : n.length ≤ 9223372036854775807 := by unfold maxLen at hkmax; omega
          clear hkcell hka hk64
          go_wp2
          go_loopw [11, 14] (fun lf i wx => ∃ (m : Nat) (b : Int), m ≤ n.length ∧ i = .int .i64 (m : Int) ∧ lf = .int .u64 b ∧ inu b ∧ lft (c - zc) (p ++ n) = lft b ((n.drop m)) ∧ wx = wr) (fun _ i _ => n.length - (intOf i).toNat)
          case atStart => exact ⟨0, a, by omega, rfl, rfl, HIA.out, by rw [HLA.out]; simp [rsi], rfl⟩
          case round =>
            obtain ⟨m, b, hm, rfl, rfl, hib, hlb, rfl⟩ := hrel
            have HIB : Hid (inu b) := hib
            have HLB : Hid (lft (c - zc) (p ++ n) = lft b ((n.drop m))) := hlb
            clear hib hlb
            by_cases hml : m < n.length
            · obtain rfl := HKA.out (by omega)
              obtain ⟨x, hx⟩ := at_lt hml
              have c0 := HKC.out m x hx
              have HX6 := HK6.out x (List.mem_of_getElem? hx)
              have HX0 : 0 ≤ x := HNN.out x (List.mem_of_getElem? hx)
              have HLB2 : Hid (lft (c - zc) (p ++ n) = lft b (x :: ((n.drop (m + 1))))) := by rw [Hid, HLB.out, drop_at hx]; (first | done | simp)
              clear hx HLB
              have hq : IntKind.u64.wrap x = x := to_u HX0 HX6
              clear HX6
              by_cases hle : x ≤ b
              · have hs1 : IntKind.u64.wrap (b - x) = b - x := (sub_u HIB.out HX0 hle).1
                have HIB2 : Hid (inu (b - x)) := (sub_u HIB.out HX0 hle).2
                have HLB3 : Hid (lft (c - zc) (p ++ n) = lft (b - x) ((n.drop (m + 1)))) := by rw [Hid, HLB2.out, lft_cons, if_pos hle]
                go_wp2
                go_roundw
                case rel => exact ⟨_, _, _, ⟨m + 1, by omega, rfl, b - x, rfl, HIB2.out, HLB3.out⟩, rfl, rfl, by go_num⟩
                case measure => simp [intOf]; omega
              · have HE : Hid (fte zc c sm p n = 22) := by
                  have : fts zc c sm p n = false := by rw [HFT.out, HLB2.out, lft_cons, if_neg hle]
                  unfold Hid fte; rw [this]; rfl
                have hlt : b < x := by omega
                go_wp2
                go_ret
                exact ⟨by rw [HE.out]; rfl, rfl⟩
            · have HLB2 : Hid (lft (c - zc) (p ++ n) = lft b (rsi p n (1 + 1))) := by
                rw [Hid, HLB.out, List.drop_eq_nil_of_le (by omega)]; simp [rsi]
              go_wp2
              go_roundw
              case rel => exact ⟨1 + 1, b, by omega, by go_num, rfl, HIB.out, HLB2.out, trivial⟩
              case measure => first | (simp [intOf]; done) | (simp [intOf]; omega)
      · obtain rfl : k = 2 := by omega
        have HE : Hid (fts zc c sm p n = (decide (a = 0) || nan sm)) := by rw [Hid, HFT.out, HLA.out]; rfl
        have HIA0 := HIA.out.1
        by_cases ha : a = 0
        · have HE2 : Hid (fte zc c sm p n = 0) := by unfold Hid fte; rw [HE.out, decide_eq_true ha]; rfl
          subst ha
          go_wp2
          go_ret
          exact ⟨by rw [HE2.out]; rfl, rfl⟩
        · have hpos : 0 < a := by omega
          have HE2 : Hid (fte zc c sm p n = if nan sm = true then 0 else 22) := by unfold Hid fte; rw [HE.out, decide_eq_false ha]; rfl
          go_wp2_with fail
          refine (lnan_any sm _ HU.out.2.2).mono ?_
          rintro e w3 ⟨rfl, rfl⟩
          cases hq : nan sm with
          | true =>
            rw [hq] at HE2
            go_wp2
            go_ret
            exact ⟨by rw [HE2.out]; rfl, rfl⟩
          | false =>
            rw [hq] at HE2
            go_wp2
            go_ret
            exact ⟨by rw [HE2.out]; rfl, rfl⟩
  · have HE : Hid (fts zc c sm p n = false) := by unfold Hid fts; rw [decide_eq_false hzc]; rfl
    have HE2 : Hid (fte zc c sm p n = 22) := by unfold Hid fte; rw [HE.out]; rfl
    have hlt : c < zc := by omega
    go_wp2
    go_ret
    exact ⟨by rw [HE2.out]; rfl, rfl⟩

set_option maxHeartbeats 2000000 in
theorem lcheck9_any (v : Value) (h : Hs) (w : World) (hh : HSrc w v h) :
    Calls Try.prog 13 #[v] w fun e w' => e = .returned (.int .i64 (che h)) ∧ Fr [] w w' := by
  obtain ⟨po, pc, no, nc, qo, qc, ro, rc, rfl, hin, hsr, _⟩ := hh.opens
  have HIN : Hid (in64 h.s ∧ inu h.z ∧ inu h.zc ∧ inu h.c ∧ inu h.sm) := hin
  have HSR : Hid (SSrc w (.slice po h.P.length pc) h.P ∧ SSrc w (.slice no h.N.length nc) h.N ∧ ISrc w (.slice qo h.pd.length qc) h.pd ∧ ISrc w (.slice ro h.nd.length rc) h.nd) := hsr
  clear hh hin hsr
  obtain ⟨s, z, zc, c, sm, P, N, pd, nd⟩ := h
  simp only at HIN HSR ⊢
  go_enter Try.func13, Try.ntmps13
  have HN0 : Hid (NineR (w.alloc (.cells #[.int .i64 s, .int .u64 z, .int .u64 zc, .int .u64 c, .int .u64 sm, .slice po P.length pc, .slice no N.length nc, .slice qo pd.length qc, .slice ro nd.length rc] 34)) w.heap.size #[.int .i64 s, .int .u64 z, .int .u64 zc, .int .u64 c, .int .u64 sm, .slice po P.length pc, .slice no N.length nc, .slice qo pd.length qc, .slice ro nd.length rc]) := NineR.new _ _
  have HF0 : Hid (Fr [] w (w.alloc (.cells #[.int .i64 s, .int .u64 z, .int .u64 zc, .int .u64 c, .int .u64 sm, .slice po P.length pc, .slice no N.length nc, .slice qo pd.length qc, .slice ro nd.length rc] 34))) := (Fr.refl [] w).alloc _
  go_wp2_with fail
  refine (lhead_any s z _).mono ?_
  rintro e w1 ⟨rfl, rfl⟩
  by_cases h0 : hde s z = 0
  case neg =>
    have HC : Hid (che ⟨s, z, zc, c, sm, P, N, pd, nd⟩ = hde s z) := che_head h0
    go_wp2
    go_ret
    exact ⟨by rw [HC.out]; rfl, HF0.out⟩
  have H0 : Hid (hde s z = 0) := h0
  rw [h0]
  clear h0
  go_wp2_with fail
  refine (lside_any _ _ P pd _ (HSR.out.1.kept HF0.out) (HSR.out.2.2.1.kept HF0.out)).mono ?_
  rintro e w1 ⟨x, y, rfl, _, hy, hf1⟩
  have HF1 : Hid (Fr [] w w1) := HF0.out.trans hf1 (by simp)
  have HY : Hid (NOwn 2 w.heap.size w1 y (svl P pd)) := hy.mono HF0.out.size
  have HN1 : Hid (NineR w1 w.heap.size _) := HN0.out.kept hf1 (by simp)
  clear hy hf1 HN0 HF0
  by_cases hp : sde P pd = 0
  case neg =>
    have HC : Hid (che ⟨s, z, zc, c, sm, P, N, pd, nd⟩ = sde P pd) := che_pos H0.out hp
    go_wp2
    go_ret
    exact ⟨by rw [HC.out]; rfl, HF1.out⟩
  have HP : Hid (sde P pd = 0) := hp
  rw [hp]
  clear hp
  have c6 := HN1.out.cell 6 rfl
  have c8 := HN1.out.cell 8 rfl
  go_wp2_with fail
  refine (lside_any _ _ N nd _ (HSR.out.2.1.kept HF1.out) (HSR.out.2.2.2.kept HF1.out)).mono ?_
  rintro e w2 ⟨x2, y2, rfl, _, hy2, hf2⟩
  have HF2 : Hid (Fr [] w w2) := HF1.out.trans hf2 (by simp)
  have HY1 : Hid (NOwn 2 w.heap.size w2 y (svl P pd)) := HY.out.kept hf2
  have HY2 : Hid (NOwn 2 w.heap.size w2 y2 (svl N nd)) := hy2.mono HF1.out.size
  have HN2 : Hid (NineR w2 w.heap.size _) := HN1.out.kept hf2 (by simp)
  clear hy2 hf2 HN1 HF1 HY c6 c8
  by_cases hn : sde N nd = 0
  case neg =>
    have HC : Hid (che ⟨s, z, zc, c, sm, P, N, pd, nd⟩ = sde N nd) := che_neg H0.out HP.out hn
    go_wp2
    go_ret
    exact ⟨by rw [HC.out]; rfl, HF2.out⟩
  have HN : Hid (sde N nd = 0) := hn
  rw [hn]
  clear hn
  have HV : Hid (svl P pd = abv pd ∧ svl N nd = abv nd) := by unfold Hid svl; rw [if_pos HP.out, if_pos HN.out]; exact ⟨rfl, rfl⟩
  have c2 := HN2.out.cell 2 rfl
  have c3 := HN2.out.cell 3 rfl
  have c4 := HN2.out.cell 4 rfl
  go_wp2_with fail
  refine (lfits9_any zc c sm y y2 (abv pd) (abv nd) w2 HIN.out.2.2 (by have := HY1.out; rw [HV.out.1] at this; exact this.src (abv_in pd)) (by have := HY2.out; rw [HV.out.2] at this; exact this.src (abv_in nd)) (nng_iff.1 (sde_zero.1 HP.out).2.2.2) (nng_iff.1 (sde_zero.1 HN.out).2.2.2)).mono ?_
  rintro e w3 ⟨rfl, rfl⟩
  have HC : Hid (che ⟨s, z, zc, c, sm, P, N, pd, nd⟩ = fte zc c sm (abv pd) (abv nd)) := che_fts H0.out HP.out HN.out
  go_wp2
  go_ret
  exact ⟨by rw [HC.out]; rfl, HF2.out⟩
end Go.Proofs.Ytjkiiccdcjcfbaa
