/-
  Ref9, LawH10, FPure3.
-/
import Derived.Test.YtoaibabkkphlaaaGF
import Derived.Test.YtoaibabkkphlaaaGB
import Derived.Test.YtoaibabkkphlaaaGK
import Derived.Test.YtoaibabkkphlaaaGH
import Derived.Test.YtoaibabkkphlaaaGJ
/-
  The document's NaN, Head, Side, Fits, Check (layer 9).
-/
namespace Go.Proofs.Ytoaibabkkphlaaa
open Go.RowKit Mem Spans
set_option linter.unusedSimpArgs false
set_option linter.unusedVariables false
set_option maxRecDepth 100000

theorem nan_low {v : Int} (hv : inu v) (h : v < 9223372036854775808) : nan v = decide (9218868437227405312 < v) := by
  unfold nan; rw [show v % 9223372036854775808 = v from by unfold inu at hv; omega]
theorem nan_high {v : Int} (hv : inu v) (h : ¬ v < 9223372036854775808) : nan v = decide (9218868437227405312 < v - 9223372036854775808) ∧ IntKind.u64.wrap (v - 9223372036854775808) = v - 9223372036854775808 := by
  unfold inu at hv
  constructor
  · unfold nan; rw [show v % 9223372036854775808 = v - 9223372036854775808 from by omega]
  · rw [IntKind.wrap_u64]; omega
set_option maxHeartbeats 400000 in
theorem lnan_any (v : Int) (w : World) (hv : inu v) :
    Calls Try.prog 88 #[.int .u64 v] w fun e w' => e = .returned (.bool (nan v)) ∧ w = w' := by
  go_enter Try.func88, Try.ntmps88
  by_cases h : v < 9223372036854775808
  · have HE : Hid (nan v = decide (9218868437227405312 < v)) := nan_low hv h
    clear hv
    go_wp2
    go_ret
    exact ⟨by rw [HE.out]; rfl, rfl⟩
  · have HE : Hid (nan v = decide (9218868437227405312 < v - 9223372036854775808)) := (nan_high hv h).1
    have e := (nan_high hv h).2
    clear hv
    go_wp2
    go_ret
    exact ⟨by rw [HE.out]; rfl, rfl⟩
set_option maxHeartbeats 400000 in
theorem lhead_any (s z : Int) (w : World) :
    Calls Try.prog 69 #[.int .i64 s, .int .u64 z] w fun e w' => e = .returned (.int .i64 (hde s z)) ∧ w = w' := by
  go_enter Try.func69, Try.ntmps69
  by_cases h1 : s < -4
  · have HE : Hid (hde s z = 21) := by unfold Hid hde; rw [if_pos (.inl h1)]
    go_wp2
    go_ret
    exact ⟨by rw [HE.out]; rfl, rfl⟩
  by_cases h2 : 8 < s
  · have HE : Hid (hde s z = 21) := by unfold Hid hde; rw [if_pos (.inr h2)]
    go_wp2
    go_ret
    exact ⟨by rw [HE.out]; rfl, rfl⟩
  by_cases hz : z < 9218868437227405312
  · have HE : Hid (hde s z = 0) := by unfold Hid hde; rw [if_neg (by omega), if_pos hz]
    go_wp2
    go_ret
    exact ⟨by rw [HE.out]; rfl, rfl⟩
  · have HE : Hid (hde s z = 11) := by unfold Hid hde; rw [if_neg (by omega), if_neg hz]
    go_wp2
    go_ret
    exact ⟨by rw [HE.out]; rfl, rfl⟩

/-- Side's places, its counts. -/
def spl (l : List Sp) (d : List Int) : List Int := if sde l d = 0 then pls l else []
def svl (l : List Sp) (d : List Int) : List Int := if sde l d = 0 then abv d else []
theorem abe_abo (d : List Int) : (abe d = 0 ∧ abo d = 0) ∨ (abe d = 28 ∧ abo d = 1) := by unfold abe abo; cases absl 0 d <;> simp
theorem sp_nil {l : List Sp} {d : List Int} (h : sde l d ≠ 0) : spl l d = [] ∧ svl l d = [] := by unfold spl svl; rw [if_neg h, if_neg h]; exact ⟨rfl, rfl⟩

set_option maxHeartbeats 2000000 in
theorem lside_any (v u : Value) (l : List Sp) (d : List Int) (w : World) (h : SSrc w v l) (h2 : ISrc w u d) :
    Calls Try.prog 70 #[v, u] w fun e w' => ∃ x y, e = .returned (.tuple #[x, y, .int .i64 (sde l d)]) ∧ IOwn w.heap.size w' x (spl l d) ∧ NOwn 2 w.heap.size w' y (svl l d) ∧ Fr [] w w' := by
  have HSR : Hid (SSrc w v l) := h
  have HIR : Hid (ISrc w u d) := h2
  obtain ⟨ao, cap, rfl, hcap, hmax, _⟩ := h
  obtain ⟨bo, bcap, rfl, hbcap, hbmax, _⟩ := h2
  go_enter Try.func70, Try.ntmps70
  go_wp2_with fail
  refine (lcheck_any _ l _ HSR.out).mono ?_
  rintro e w1 ⟨rfl, hf1⟩
  have HF1 : Hid (Fr [] w w1) := hf1
  clear hf1
  by_cases hk : chk l = 0
  · have HK : Hid (chk l = 0) := hk
    rw [hk]
    clear hk
    go_wp2_with fail
    refine (lplaces_any _ l _ (HSR.out.kept HF1.out) HK.out).mono ?_
    rintro e w2 ⟨p, rfl, hp, hf2⟩
    have HF2 : Hid (Fr [] w w2) := HF1.out.trans hf2 (by simp)
    have HP : Hid (IOwn w.heap.size w2 p (pls l)) := by
      rcases hp with h | ⟨g, h1, h2⟩
      · exact .inl h
      · exact .inr ⟨g, Nat.le_trans HF1.out.size h1, h2⟩
    obtain ⟨pa, pcap, rfl⟩ := HP.out.val
    clear hf2 HF1 hp
    by_cases hd : d.length = (pls l).length
    · have HD : Hid (d.length = (pls l).length) := hd
      have hdb : (((pls l).length : Int) != (d.length : Int)) = false := by simp; omega
      clear hd
      go_wp2_with fail
      refine (labsolute_any _ d _ (HIR.out.kept HF2.out) (by have := HD.out; have := pls_le l; omega)).mono ?_
      rintro e w3 ⟨x, rfl, hx, hf3⟩
      have HF3 : Hid (Fr [] w w3) := HF2.out.trans hf3 (by simp)
      have HX : Hid (NOwn 2 w.heap.size w3 x (abv d)) := hx.mono HF2.out.size
      have HP3 : Hid (IOwn w.heap.size w3 (.slice pa (pls l).length pcap) (pls l)) := by
        rcases HP.out with h | ⟨g, h1, h2, h3⟩
        · exact .inl h
        · exact .inr ⟨g, h1, h2, h3.kept hf3 (by simp)⟩
      clear hf3 HF2 hx HP hdb
      rcases abe_abo d with ⟨ha, ho⟩ | ⟨ha, ho⟩
      · rw [ho]
        have HZ : Hid (sde l d = if nng (abv d) = true then 0 else 22) := by unfold Hid sde; rw [if_pos HK.out, if_pos HD.out, if_pos ha]
        have HAB : Hid (∀ wx, Fr [] w3 wx → ISrc wx x (abv d)) := fun wx hx => (HX.out.src (abv_in d)).kept hx
        obtain ⟨xo, xcap, hxv, hxc, hxm, _, xb, xoff, hxa, hxcell⟩ := HAB.out w3 (Fr.refl _ _)
        have HC : Hid (∀ j s, (abv d)[j]? = some s → w3.cell? ⟨xb, xoff + j, none⟩ = some (.int .i64 s)) := hxcell
        have HA : Hid (0 < (abv d).length → xo = some ⟨xb, xoff, none⟩) := hxa
        subst hxv
        clear hxcell hxa ha ho
        have hxm2 : (abv d).length ≤ 9223372036854775807 := by unfold maxLen at hxm; omega
        generalize hM : (abv d).length = M at *
        have HM : Hid ((abv d).length = M) := hM
        clear hM
        go_wp2
        go_loopw [11] (fun i wr => ∃ (k : Nat), k ≤ M ∧ i = .int .i64 (k : Int) ∧ nng ((abv d).take k) = true ∧ wr = w3) (fun i _ => M - (intOf i).toNat)
        case atStart => exact ⟨0, by omega, rfl, by simp [nng], rfl⟩
        case round =>
          obtain ⟨k, hk, rfl, hn, rfl⟩ := hrel
          have HN : Hid (nng ((abv d).take k) = true) := hn
          clear hn
          by_cases hlt : k < M
          · obtain rfl := HA.out (by omega)
            obtain ⟨s, hs⟩ := at_lt (l := abv d) (k := k) (by have := HM.out; omega)
            have c0 := HC.out k s hs
            have HS : Hid ((abv d)[k]? = some s) := hs
            clear hs
            by_cases h0 : s < 0
            · have HE : Hid (sde l d = 22) := by
                rw [Hid, HZ.out, if_neg]
                intro h
                have := nng_iff.1 h s (List.mem_of_getElem? HS.out)
                omega
              go_wp2
              go_ret3
              exact ⟨_, _, by rw [HE.out]; rfl, .inl ⟨(sp_nil (by rw [HE.out]; decide)).1, rfl⟩, .inl ⟨(sp_nil (by rw [HE.out]; decide)).2, rfl⟩, HF3.out⟩
            · have HN2 : Hid (nng ((abv d).take (k + 1)) = true) := by
                rw [Hid, take_at HS.out]
                have := HN.out
                simp only [nng, List.all_append, List.all_cons, List.all_nil, Bool.and_eq_true, Bool.and_true] at this ⊢
                exact ⟨this, decide_eq_true (by omega)⟩
              go_wp2
              go_roundw
              case rel => exact ⟨k + 1, by omega, by go_num, HN2.out, trivial⟩
              case measure => simp [intOf]; omega
          · have HN2 : Hid (nng (abv d) = true) := by
              have := HN.out
              rw [List.take_of_length_le (by have := HM.out; omega)] at this
              exact this
            have HE : Hid (sde l d = 0) := by rw [Hid, HZ.out, if_pos HN2.out]
            have HV : Hid (spl l d = pls l ∧ svl l d = abv d) := by unfold Hid spl svl; rw [if_pos HE.out, if_pos HE.out]; exact ⟨rfl, rfl⟩
            go_wp2
            go_ret3
            exact ⟨_, _, by rw [HE.out]; rfl, by rw [HV.out.1]; exact HP3.out, by rw [HV.out.2]; exact HX.out, HF3.out⟩
      · have HE : Hid (sde l d = 28) := by unfold Hid sde; rw [if_pos HK.out, if_pos HD.out, if_neg (by omega)]
        rw [ho]
        clear ha ho
        go_wp2
        go_ret3
        exact ⟨_, _, by rw [HE.out]; rfl, .inl ⟨(sp_nil (by rw [HE.out]; decide)).1, rfl⟩, .inl ⟨(sp_nil (by rw [HE.out]; decide)).2, rfl⟩, HF3.out⟩
    · have HE : Hid (sde l d = 23) := by unfold Hid sde; rw [if_pos HK.out, if_neg hd]
      have hdb : (((pls l).length : Int) != (d.length : Int)) = true := by simp; omega
      clear hd
      go_wp2
      go_ret3
      exact ⟨_, _, by rw [HE.out]; rfl, .inl ⟨(sp_nil (by rw [HE.out]; decide)).1, rfl⟩, .inl ⟨(sp_nil (by rw [HE.out]; decide)).2, rfl⟩, HF2.out⟩
  · have HE : Hid (sde l d = chk l) := by unfold Hid sde; rw [if_neg hk]
    have HNE : Hid (sde l d ≠ 0) := by rw [Hid, HE.out]; exact hk
    go_wp2
    go_ret3
    exact ⟨_, _, by rw [HE.out]; rfl, .inl ⟨(sp_nil HNE.out).1, rfl⟩, .inl ⟨(sp_nil HNE.out).2, rfl⟩, HF1.out⟩

/-- Both lists of counts, one behind the other, from the k-th on. -/
def rsi (p n : List Int) : Nat → List Int
  | 0 => p ++ n
  | 1 => n
  | _ => []
/-- The document's Fits. -/
def fte (zc c sm : Int) (p n : List Int) : Int := if fts zc c sm p n = true then 0 else 22

set_option maxHeartbeats 4000000 in
theorem lfits9_any (zc c sm : Int) (vp vn : Value) (p n : List Int) (w : World) (hu : inu zc ∧ inu c ∧ inu sm) (h1 : ISrc w vp p) (h2 : ISrc w vn n) (hp : ∀ x ∈ p, 0 ≤ x) (hn : ∀ x ∈ n, 0 ≤ x) :
    Calls Try.prog 71 #[.int .u64 zc, .int .u64 c, .int .u64 sm, vp, vn] w fun e w' => e = .returned (.int .i64 (fte zc c sm p n)) ∧ w = w' := by
  have HU : Hid (inu zc ∧ inu c ∧ inu sm) := hu
  have HP : Hid (ISrc w vp p) := h1
  have HN : Hid (ISrc w vn n) := h2
  have HPN : Hid (∀ x ∈ p, 0 ≤ x) := hp
  have HNN : Hid (∀ x ∈ n, 0 ≤ x) := hn
  obtain ⟨ao, cap, rfl, hcap, hmax, _⟩ := h1
  obtain ⟨bo, bcap, rfl, hbcap, hbmax, _⟩ := h2
  clear hu hp hn
  go_enter Try.func71, Try.ntmps71
  by_cases hzc : zc ≤ c
  · have hsub : IntKind.u64.wrap (c - zc) = c - zc := (sub_u HU.out.2.1 HU.out.1.1 hzc).1
    have hsu : Hid (inu (c - zc)) := (sub_u HU.out.2.1 HU.out.1.1 hzc).2
    have HFT : Hid (fts zc c sm p n = (match lft (c - zc) (p ++ n) with | some a => decide (a = 0) || nan sm | none => false)) := by unfold Hid fts; rw [decide_eq_true hzc]; rfl
    go_wp2
    go_loopw [11, 12] (fun lf i wr => ∃ (k : Nat) (a : Int), k ≤ 2 ∧ i = .int .i64 (k : Int) ∧ lf = .int .u64 a ∧ inu a ∧ lft (c - zc) (p ++ n) = lft a (rsi p n k) ∧ wr = w) (fun _ i _ => 2 - (intOf i).toNat)
    case atStart => exact ⟨0, c - zc, by omega, rfl, rfl, hsu.out, rfl, rfl⟩
    case round =>
      obtain ⟨k, a, hk, rfl, rfl, hia, hla, rfl⟩ := hrel
      have HIA : Hid (inu a) := hia
      have HLA : Hid (lft (c - zc) (p ++ n) = lft a (rsi p n k)) := hla
      clear hia hla
      by_cases hk2 : k < 2
      · obtain rfl | rfl : k = 0 ∨ k = 1 := by omega
        · obtain ⟨_, _, hv1, hkcap, hkmax, hk64, kb, koff, hka, hkcell⟩ := HP.out
          simp only [Value.slice.injEq, true_and] at hv1
          obtain ⟨rfl, rfl⟩ := hv1
          have HKC : Hid (∀ j s, p[j]? = some s → wr.cell? ⟨kb, koff + j, none⟩ = some (.int .i64 s)) := hkcell
          have HKA : Hid (0 < p.length → ao = some ⟨kb, koff, none⟩) := hka
          have HK6 : Hid (∀ s ∈ p, in64 s) := hk64
          have hkm : p.length ≤ 9223372036854775807 := by unfold maxLen at hkmax; omega
          clear hkcell hka hk64
          go_wp2
          go_loopw [11, 14] (fun lf i wx => ∃ (m : Nat) (b : Int), m ≤ p.length ∧ i = .int .i64 (m : Int) ∧ lf = .int .u64 b ∧ inu b ∧ lft (c - zc) (p ++ n) = lft b ((p.drop m ++ n)) ∧ wx = wr) (fun _ i _ => p.length - (intOf i).toNat)
          case atStart => exact ⟨0, a, by omega, rfl, rfl, HIA.out, by rw [HLA.out]; simp [rsi], rfl⟩
          case round =>
            obtain ⟨m, b, hm, rfl, rfl, hib, hlb, rfl⟩ := hrel
            have HIB : Hid (inu b) := hib
            have HLB : Hid (lft (c - zc) (p ++ n) = lft b ((p.drop m ++ n))) := hlb
            clear hib hlb
            by_cases hml : m < p.length
            · obtain rfl := HKA.out (by omega)
              obtain ⟨x, hx⟩ := at_lt hml
              have c0 := HKC.out m x hx
              have HX6 := HK6.out x (List.mem_of_getElem? hx)
              have HX0 : 0 ≤ x := HPN.out x (List.mem_of_getElem? hx)
              have HLB2 : Hid (lft (c - zc) (p ++ n) = lft b (x :: ((p.drop (m + 1) ++ n)))) := by rw [Hid, HLB.out, drop_at hx]; (first | done | simp)
              clear hx HLB
              have hq : IntKind.u64.wrap x = x := to_u HX0 HX6
              clear HX6
              by_cases hle : x ≤ b
              · have hs1 : IntKind.u64.wrap (b - x) = b - x := (sub_u HIB.out HX0 hle).1
                have HIB2 : Hid (inu (b - x)) := (sub_u HIB.out HX0 hle).2
                have HLB3 : Hid (lft (c - zc) (p ++ n) = lft (b - x) ((p.drop (m + 1) ++ n))) := by rw [Hid, HLB2.out, lft_cons, if_pos hle]
                go_wp2
                go_roundw
                case rel => exact ⟨_, _, _, ⟨m + 1, by omega, rfl, b - x, rfl, HIB2.out, HLB3.out⟩, rfl, rfl, by go_num⟩
                case measure => simp [intOf]; omega
              · have HE : Hid (fte zc c sm p n = 22) := by
                  have : fts zc c sm p n = false := by rw [HFT.out, HLB2.out, lft_cons, if_neg hle]
                  unfold Hid fte; rw [this]; rfl
                have hlt : b < x := by omega
                go_wp2
                go_ret
                exact ⟨by rw [HE.out]; rfl, rfl⟩
            · have HLB2 : Hid (lft (c - zc) (p ++ n) = lft b (rsi p n (0 + 1))) := by
                rw [Hid, HLB.out, List.drop_eq_nil_of_le (by omega)]; simp [rsi]
              go_wp2
              go_roundw
              case rel => exact ⟨0 + 1, b, by omega, by go_num, rfl, HIB.out, HLB2.out, trivial⟩
              case measure => first | (simp [intOf]; done) | (simp [intOf]; omega)
        · obtain ⟨_, _, hv1, hkcap, hkmax, hk64, kb, koff, hka, hkcell⟩ := HN.out
          simp only [Value.slice.injEq, true_and] at hv1
          obtain ⟨rfl, rfl⟩ := hv1
          have HKC : Hid (∀ j s, n[j]? = some s → wr.cell? ⟨kb, koff + j, none⟩ = some (.int .i64 s)) := hkcell
          have HKA : Hid (0 < n.length → bo = some ⟨kb, koff, none⟩) := hka
          have HK6 : Hid (∀ s ∈ n, in64 s) := hk64
          have hkm : n.length ≤ 9223372036854775807 := by unfold maxLen at hkmax; omega
          clear hkcell hka hk64
          go_wp2
          go_loopw [11, 14] (fun lf i wx => ∃ (m : Nat) (b : Int), m ≤ n.length ∧ i = .int .i64 (m : Int) ∧ lf = .int .u64 b ∧ inu b ∧ lft (c - zc) (p ++ n) = lft b ((n.drop m)) ∧ wx = wr) (fun _ i _ => n.length - (intOf i).toNat)
          case atStart => exact ⟨0, a, by omega, rfl, rfl, HIA.out, by rw [HLA.out]; simp [rsi], rfl⟩
          case round =>
            obtain ⟨m, b, hm, rfl, rfl, hib, hlb, rfl⟩ := hrel
            have HIB : Hid (inu b) := hib
            have HLB : Hid (lft (c - zc) (p ++ n) = lft b ((n.drop m))) := hlb
            clear hib hlb
            by_cases hml : m < n.length
            · obtain rfl := HKA.out (by omega)
              obtain ⟨x, hx⟩ := at_lt hml
              have c0 := HKC.out m x hx
              have HX6 := HK6.out x (List.mem_of_getElem? hx)
              have HX0 : 0 ≤ x := HNN.out x (List.mem_of_getElem? hx)
              have HLB2 : Hid (lft (c - zc) (p ++ n) = lft b (x :: ((n.drop (m + 1))))) := by rw [Hid, HLB.out, drop_at hx]; (first | done | simp)
              clear hx HLB
              have hq : IntKind.u64.wrap x = x := to_u HX0 HX6
              clear HX6
              by_cases hle : x ≤ b
              · have hs1 : IntKind.u64.wrap (b - x) = b - x := (sub_u HIB.out HX0 hle).1
                have HIB2 : Hid (inu (b - x)) := (sub_u HIB.out HX0 hle).2
                have HLB3 : Hid (lft (c - zc) (p ++ n) = lft (b - x) ((n.drop (m + 1)))) := by rw [Hid, HLB2.out, lft_cons, if_pos hle]
                go_wp2
                go_roundw
                case rel => exact ⟨_, _, _, ⟨m + 1, by omega, rfl, b - x, rfl, HIB2.out, HLB3.out⟩, rfl, rfl, by go_num⟩
                case measure => simp [intOf]; omega
              · have HE : Hid (fte zc c sm p n = 22) := by
                  have : fts zc c sm p n = false := by rw [HFT.out, HLB2.out, lft_cons, if_neg hle]
                  unfold Hid fte; rw [this]; rfl
                have hlt : b < x := by omega
                go_wp2
                go_ret
                exact ⟨by rw [HE.out]; rfl, rfl⟩
            · have HLB2 : Hid (lft (c - zc) (p ++ n) = lft b (rsi p n (1 + 1))) := by
                rw [Hid, HLB.out, List.drop_eq_nil_of_le (by omega)]; simp [rsi]
              go_wp2
              go_roundw
              case rel => exact ⟨1 + 1, b, by omega, by go_num, rfl, HIB.out, HLB2.out, trivial⟩
              case measure => first | (simp [intOf]; done) | (simp [intOf]; omega)
      · obtain rfl : k = 2 := by omega
        have HE : Hid (fts zc c sm p n = (decide (a = 0) || nan sm)) := by rw [Hid, HFT.out, HLA.out]; rfl
        have HIA0 := HIA.out.1
        by_cases ha : a = 0
        · have HE2 : Hid (fte zc c sm p n = 0) := by unfold Hid fte; rw [HE.out, decide_eq_true ha]; rfl
          subst ha
          go_wp2
          go_ret
          exact ⟨by rw [HE2.out]; rfl, rfl⟩
        · have hpos : 0 < a := by omega
          have HE2 : Hid (fte zc c sm p n = if nan sm = true then 0 else 22) := by unfold Hid fte; rw [HE.out, decide_eq_false ha]; rfl
          go_wp2_with fail
          refine (lnan_any sm _ HU.out.2.2).mono ?_
          rintro e w3 ⟨rfl, rfl⟩
          cases hq : nan sm with
          | true =>
            rw [hq] at HE2
            go_wp2
            go_ret
            exact ⟨by rw [HE2.out]; rfl, rfl⟩
          | false =>
            rw [hq] at HE2
            go_wp2
            go_ret
            exact ⟨by rw [HE2.out]; rfl, rfl⟩
  · have HE : Hid (fts zc c sm p n = false) := by unfold Hid fts; rw [decide_eq_false hzc]; rfl
    have HE2 : Hid (fte zc c sm p n = 22) := by unfold Hid fte; rw [HE.out]; rfl
    have hlt : c < zc := by omega
    go_wp2
    go_ret
    exact ⟨by rw [HE2.out]; rfl, rfl⟩

set_option maxHeartbeats 2000000 in
theorem lcheck9_any (v : Value) (h : Hs) (w : World) (hh : HSrc w v h) :
    Calls Try.prog 42 #[v] w fun e w' => e = .returned (.int .i64 (che h)) ∧ Fr [] w w' := by
  obtain ⟨po, pc, no, nc, qo, qc, ro, rc, rfl, hin, hsr, _⟩ := hh.opens
  have HIN : Hid (in64 h.s ∧ inu h.z ∧ inu h.zc ∧ inu h.c ∧ inu h.sm) := hin
  have HSR : Hid (SSrc w (.slice po h.P.length pc) h.P ∧ SSrc w (.slice no h.N.length nc) h.N ∧ ISrc w (.slice qo h.pd.length qc) h.pd ∧ ISrc w (.slice ro h.nd.length rc) h.nd) := hsr
  clear hh hin hsr
  obtain ⟨s, z, zc, c, sm, P, N, pd, nd⟩ := h
  simp only at HIN HSR ⊢
  go_enter Try.func42, Try.ntmps42
  have HN0 : Hid (NineR (w.alloc (.cells #[.int .i64 s, .int .u64 z, .int .u64 zc, .int .u64 c, .int .u64 sm, .slice po P.length pc, .slice no N.length nc, .slice qo pd.length qc, .slice ro nd.length rc] 74)) w.heap.size #[.int .i64 s, .int .u64 z, .int .u64 zc, .int .u64 c, .int .u64 sm, .slice po P.length pc, .slice no N.length nc, .slice qo pd.length qc, .slice ro nd.length rc]) := NineR.new _ _
  have HF0 : Hid (Fr [] w (w.alloc (.cells #[.int .i64 s, .int .u64 z, .int .u64 zc, .int .u64 c, .int .u64 sm, .slice po P.length pc, .slice no N.length nc, .slice qo pd.length qc, .slice ro nd.length rc] 74))) := (Fr.refl [] w).alloc _
  go_wp2_with fail
  refine (lhead_any s z _).mono ?_
  rintro e w1 ⟨rfl, rfl⟩
  by_cases h0 : hde s z = 0
  case neg =>
    have HC : Hid (che ⟨s, z, zc, c, sm, P, N, pd, nd⟩ = hde s z) := che_head h0
    go_wp2
    go_ret
    exact ⟨by rw [HC.out]; rfl, HF0.out⟩
  have H0 : Hid (hde s z = 0) := h0
  rw [h0]
  clear h0
  go_wp2_with fail
  refine (lside_any _ _ P pd _ (HSR.out.1.kept HF0.out) (HSR.out.2.2.1.kept HF0.out)).mono ?_
  rintro e w1 ⟨x, y, rfl, _, hy, hf1⟩
  have HF1 : Hid (Fr [] w w1) := HF0.out.trans hf1 (by simp)
  have HY : Hid (NOwn 2 w.heap.size w1 y (svl P pd)) := hy.mono HF0.out.size
  have HN1 : Hid (NineR w1 w.heap.size _) := HN0.out.kept hf1 (by simp)
  clear hy hf1 HN0 HF0
  by_cases hp : sde P pd = 0
  case neg =>
    have HC : Hid (che ⟨s, z, zc, c, sm, P, N, pd, nd⟩ = sde P pd) := che_pos H0.out hp
    go_wp2
    go_ret
    exact ⟨by rw [HC.out]; rfl, HF1.out⟩
  have HP : Hid (sde P pd = 0) := hp
  rw [hp]
  clear hp
  have c6 := HN1.out.cell 6 rfl
  have c8 := HN1.out.cell 8 rfl
  go_wp2_with fail
  refine (lside_any _ _ N nd _ (HSR.out.2.1.kept HF1.out) (HSR.out.2.2.2.kept HF1.out)).mono ?_
  rintro e w2 ⟨x2, y2, rfl, _, hy2, hf2⟩
  have HF2 : Hid (Fr [] w w2) := HF1.out.trans hf2 (by simp)
  have HY1 : Hid (NOwn 2 w.heap.size w2 y (svl P pd)) := HY.out.kept hf2
  have HY2 : Hid (NOwn 2 w.heap.size w2 y2 (svl N nd)) := hy2.mono HF1.out.size
  have HN2 : Hid (NineR w2 w.heap.size _) := HN1.out.kept hf2 (by simp)
  clear hy2 hf2 HN1 HF1 HY c6 c8
  by_cases hn : sde N nd = 0
  case neg =>
    have HC : Hid (che ⟨s, z, zc, c, sm, P, N, pd, nd⟩ = sde N nd) := che_neg H0.out HP.out hn
    go_wp2
    go_ret
    exact ⟨by rw [HC.out]; rfl, HF2.out⟩
  have HN : Hid (sde N nd = 0) := hn
  rw [hn]
  clear hn
  have HV : Hid (svl P pd = abv pd ∧ svl N nd = abv nd) := by unfold Hid svl; rw [if_pos HP.out, if_pos HN.out]; exact ⟨rfl, rfl⟩
  have c2 := HN2.out.cell 2 rfl
  have c3 := HN2.out.cell 3 rfl
  have c4 := HN2.out.cell 4 rfl
  go_wp2_with fail
  refine (lfits9_any zc c sm y y2 (abv pd) (abv nd) w2 HIN.out.2.2 (by have := HY1.out; rw [HV.out.1] at this; exact this.src (abv_in pd)) (by have := HY2.out; rw [HV.out.2] at this; exact this.src (abv_in nd)) (nng_iff.1 (sde_zero.1 HP.out).2.2.2) (nng_iff.1 (sde_zero.1 HN.out).2.2.2)).mono ?_
  rintro e w3 ⟨rfl, rfl⟩
  have HC : Hid (che ⟨s, z, zc, c, sm, P, N, pd, nd⟩ = fte zc c sm (abv pd) (abv nd)) := che_fts H0.out HP.out HN.out
  go_wp2
  go_ret
  exact ⟨by rw [HC.out]; rfl, HF2.out⟩
end Go.Proofs.Ytoaibabkkphlaaa

/-
  The law's whole and floats (layer 10).
-/
namespace Go.Proofs.Ytoaibabkkphlaaa
open Go.RowKit Mem Spans
set_option linter.unusedSimpArgs false
set_option linter.unusedVariables false
set_option maxRecDepth 100000

set_option maxHeartbeats 4000000 in
theorem hwhole10_any (v : Value) (h : Hs) (w : World) (hh : HSrc w v h) (hl : h.P.length ≤ 1024 ∧ h.N.length ≤ 1024) :
    Calls Try.prog 43 #[v] w fun e w' => ∃ u, e = .returned u ∧ HSrc w' u h ∧ Fr [] w w' := by
  obtain ⟨po, pc, no, nc, qo, qc, ro, rc, rfl, hin, hsr, _⟩ := hh.opens
  have HIN : Hid (in64 h.s ∧ inu h.z ∧ inu h.zc ∧ inu h.c ∧ inu h.sm) := hin
  have HSR : Hid (SSrc w (.slice po h.P.length pc) h.P ∧ SSrc w (.slice no h.N.length nc) h.N ∧ ISrc w (.slice qo h.pd.length qc) h.pd ∧ ISrc w (.slice ro h.nd.length rc) h.nd) := hsr
  have HL : Hid (h.P.length ≤ 1024 ∧ h.N.length ≤ 1024) := hl
  clear hh hin hsr hl
  go_enter Try.func43, Try.ntmps43
  obtain ⟨cs, hcs⟩ : ∃ cs : Array Value, cs = #[.int .i64 h.s, .int .u64 h.z, .int .u64 h.zc, .int .u64 h.c, .int .u64 h.sm, .slice po h.P.length pc, .slice no h.N.length nc, .slice qo h.pd.length qc, .slice ro h.nd.length rc] := ⟨_, rfl⟩
  have HA : Hid (∀ z, Nine ((w.alloc (.cells cs 70)).alloc (.cells z 74)) w.heap.size cs ∧ NineR ((w.alloc (.cells cs 70)).alloc (.cells z 74)) (w.heap.size + 1) z ∧ Fr [] w ((w.alloc (.cells cs 70)).alloc (.cells z 74))) := fun z => ⟨nine_mid _ _ _, nineR_top _ _ _, ((Fr.refl [] w).alloc _).alloc _⟩
  subst hcs
  go_upto_region 1 with fail
  obtain ⟨hA3, hA6, hAF⟩ := HA.out #[.int .i64 0, .int .u64 0, .int .u64 0, .int .u64 0, .int .u64 0, .slice none 0 0, .slice none 0 0, .slice none 0 0, .slice none 0 0]
  clear HA
  generalize (w.alloc (.cells _ _)).alloc (.cells _ _) = wA at hA3 hA6 hAF ⊢
  have HSZ : Hid (w.heap.size + 1 < wA.heap.size) := lt_of_heap hA6
  have H6 : Hid (NineR wA (w.heap.size + 1) _) := hA6
  have HAF : Hid (Fr [] w wA) := hAF
  have c0 := hA3.cell 0 rfl
  have c1 := hA3.cell 1 rfl
  have c2 := hA3.cell 2 rfl
  have c3 := hA3.cell 3 rfl
  have c4 := hA3.cell 4 rfl
  have c5 := hA3.cell 5 rfl
  have c6 := hA3.cell 6 rfl
  have c7 := hA3.cell 7 rfl
  have c8 := hA3.cell 8 rfl
  clear hA3 hA6 hAF
  have HSP : Hid (∀ wx, Fr [] wA wx → Calls Try.prog 34 #[.slice po h.P.length pc] wx fun e w' => ∃ u, e = .returned u ∧ SOwn 104 wA.heap.size w' u h.P ∧ Fr [] wA w') := by
    intro wx hf
    refine (spans10_any _ h.P wx (HSR.out.1.kept (HAF.out.trans hf (by simp))) HL.out.1).mono ?_
    rintro e w' ⟨u, rfl, hu, hf'⟩
    exact ⟨u, rfl, hu.mono hf.size, hf.trans hf' (by simp)⟩
  have HSN : Hid (∀ wx, Fr [] wA wx → Calls Try.prog 34 #[.slice no h.N.length nc] wx fun e w' => ∃ u, e = .returned u ∧ SOwn 104 wA.heap.size w' u h.N ∧ Fr [] wA w' ∧ Fr [] wx w') := by
    intro wx hf
    refine (spans10_any _ h.N wx (HSR.out.2.1.kept (HAF.out.trans hf (by simp))) HL.out.2).mono ?_
    rintro e w' ⟨u, rfl, hu, hf'⟩
    exact ⟨u, rfl, hu.mono hf.size, hf.trans hf' (by simp), hf'⟩
  have F0 : Fr [] wA wA.drew := (Fr.refl _ _).drew
  go_region_held3 (fun w' => w'.cell? ⟨w.heap.size, 0, none⟩ = some (.int .i64 h.s) ∧ w'.cell? ⟨w.heap.size, 1, none⟩ = some (.int .u64 h.z) ∧ w'.cell? ⟨w.heap.size, 2, none⟩ = some (.int .u64 h.zc) ∧ w'.cell? ⟨w.heap.size, 3, none⟩ = some (.int .u64 h.c) ∧ w'.cell? ⟨w.heap.size, 4, none⟩ = some (.int .u64 h.sm) ∧ w'.cell? ⟨w.heap.size, 5, none⟩ = some (.slice po h.P.length pc) ∧ w'.cell? ⟨w.heap.size, 6, none⟩ = some (.slice no h.N.length nc) ∧ w'.cell? ⟨w.heap.size, 7, none⟩ = some (.slice qo h.pd.length qc) ∧ w'.cell? ⟨w.heap.size, 8, none⟩ = some (.slice ro h.nd.length rc)) (go_keep) (first
    | (go_at_call 34; with_reducible refine (HSP.out _ F0).mono ?_; rintro e wa ⟨ua, rfl, hua, hfa⟩; have ka0 := hfa.cell_some c0 (by simp); have ka1 := hfa.cell_some c1 (by simp); have ka2 := hfa.cell_some c2 (by simp); have ka3 := hfa.cell_some c3 (by simp); have ka4 := hfa.cell_some c4 (by simp); have ka5 := hfa.cell_some c5 (by simp); have ka6 := hfa.cell_some c6 (by simp); have ka7 := hfa.cell_some c7 (by simp); have ka8 := hfa.cell_some c8 (by simp))
    | (go_at_call 34; with_reducible refine (HSN.out _ hfa).mono ?_; rintro e wb ⟨ub, rfl, hub, hfb, hfab⟩; have kb0 := hfb.cell_some c0 (by simp); have kb1 := hfb.cell_some c1 (by simp); have kb2 := hfb.cell_some c2 (by simp); have kb3 := hfb.cell_some c3 (by simp); have kb4 := hfb.cell_some c4 (by simp); have kb5 := hfb.cell_some c5 (by simp); have kb6 := hfb.cell_some c6 (by simp); have kb7 := hfb.cell_some c7 (by simp); have kb8 := hfb.cell_some c8 (by simp); have h6 := H6.out.kept hfb (by simp); have d0 := h6.cell 0 rfl; have d1 := h6.cell 1 rfl; have d2 := h6.cell 2 rfl; have d3 := h6.cell 3 rfl; have d4 := h6.cell 4 rfl; have d5 := h6.cell 5 rfl; have d6 := h6.cell 6 rfl; have d7 := h6.cell 7 rfl; have d8 := h6.cell 8 rfl; have f0 := h6.frozen 0; have f1 := h6.frozen 1; have f2 := h6.frozen 2; have f3 := h6.frozen 3; have f4 := h6.frozen 4; have f5 := h6.frozen 5; have f6 := h6.frozen 6; have f7 := h6.frozen 7; have f8 := h6.frozen 8; obtain ⟨ua1, ua2, rfl⟩ := hua.val; obtain ⟨ub1, ub2, rfl⟩ := hub.val))
  have H6b : Hid (NineR wb (w.heap.size + 1) _) := h6
  have HUA : Hid (SOwn 104 wA.heap.size wb (.slice ua1 h.P.length ua2) h.P) := hua.kept hfab
  have HUB : Hid (SOwn 104 wA.heap.size wb (.slice ub1 h.N.length ub2) h.N) := hub
  have HFB : Hid (Fr [] w wb) := HAF.out.trans hfb (by simp)
  clear h6 hua hub hfb
  go_wp2
  refine bodyPost_ret (histR_res rfl _ _ (w.heap.size + 1) _ _ _ _ _ _ _ _ _ rfl (set9_nineR H6b.out _ _ _ _ _ _ _ _ _)) rfl ?_
  have hs9 := set9_fr (S := [w.heap.size + 1]) (g := w.heap.size + 1) (Fr.refl _ wb) (.inl (by simp)) (.int .i64 h.s) (.int .u64 h.z) (.int .u64 h.zc) (.int .u64 h.c) (.int .u64 h.sm) (.slice ua1 h.P.length ua2) (.slice ub1 h.N.length ub2) (.slice qo h.pd.length qc) (.slice ro h.nd.length rc)
  have hfw : Fr [] w (set9 wb (w.heap.size + 1) (.int .i64 h.s) (.int .u64 h.z) (.int .u64 h.zc) (.int .u64 h.c) (.int .u64 h.sm) (.slice ua1 h.P.length ua2) (.slice ub1 h.N.length ub2) (.slice qo h.pd.length qc) (.slice ro h.nd.length rc)) := set9_fr HFB.out (.inr (by simp)) _ _ _ _ _ _ _ _ _
  have hb : ∀ y ∈ [w.heap.size + 1], y < wA.heap.size := by have := HSZ.out; simp; omega
  have hp64 : ∀ s ∈ h.P, in64 s.1 ∧ in64 s.2 := by obtain ⟨_, _, _, _, _, h64, _⟩ := HSR.out.1; exact h64
  have hn64 : ∀ s ∈ h.N, in64 s.1 ∧ in64 s.2 := by obtain ⟨_, _, _, _, _, h64, _⟩ := HSR.out.2.1; exact h64
  exact ⟨_, rfl, ⟨_, _, _, _, rfl, HIN.out.1, HIN.out.2, (HUA.out.keptS hs9 hb).src hp64, (HUB.out.keptS hs9 hb).src hn64, HSR.out.2.2.1.kept hfw, HSR.out.2.2.2.kept hfw⟩, hfw⟩

set_option maxHeartbeats 2000000 in
theorem lfloats10_any (v : Value) (A : List Int) (w : World) (h : ISrc w v A) (hl : A.length ≤ 1000000) (hn : ∀ z ∈ A, 0 ≤ z) :
    Calls Try.prog 45 #[v] w fun e w' => ∃ u, e = .returned u ∧ UOwn 22 w.heap.size w' u (A.map flI) ∧ Fr [] w w' := by
  have HNN : Hid (∀ z ∈ A, 0 ≤ z) := hn
  have HLV : Hid (A.length ≤ 1000000) := hl
  obtain ⟨bo, bcap, rfl, hbc, hbm, h64, b, off, ha, hc⟩ := h
  have H64 : Hid (∀ z ∈ A, in64 z) := h64
  have HC : Hid (∀ j s, A[j]? = some s → w.cell? ⟨b, off + j, none⟩ = some (.int .i64 s)) := hc
  have HA : Hid (0 < A.length → bo = some ⟨b, off, none⟩) := ha
  have hml : A.length ≤ 9223372036854775807 := by omega
  obtain ⟨i0, hi⟩ := info_uint64
  have HI : Hid (UInfo 22 i0) := hi
  clear ha hc hi hn h64
  go_enter Try.func45, Try.ntmps45
  go_wp2
  go_loopw [3, 8] (fun u i wr => ∃ (k : Nat), k ≤ A.length ∧ i = .int .i64 (k : Int) ∧ UOwn 22 w.heap.size wr u ((A.take k).map flI) ∧ Fr [] w wr) (fun _ i _ => A.length - (intOf i).toNat)
  case atStart => exact ⟨0, by omega, rfl, .inl ⟨by simp, rfl⟩, Fr.refl _ _⟩
  case round =>
    obtain ⟨k, hk, rfl, hso, hf⟩ := hrel
    have HF : Hid (Fr [] w wr) := hf
    have HS : Hid (UOwn 22 w.heap.size wr u3 ((A.take k).map flI)) := hso
    have HSZ : Hid (w.heap.size ≤ wr.heap.size) := HF.out.size
    clear hf hso
    by_cases hlt : k < A.length
    · obtain rfl := HA.out (by omega)
      obtain ⟨s, hs⟩ := at_lt hlt
      have c0 : wr.cell? ⟨b, off + k, none⟩ = some (.int .i64 s) := HF.out.cell_some (HC.out k s hs) (by simp)
      have hm := List.mem_of_getElem? hs
      have hin := H64.out s hm
      have hpos := HNN.out s hm
      have HT : Hid ((A.take (k + 1)).map flI = (A.take k).map flI ++ [flI s]) := by rw [Hid, take_at hs]; simp
      have HL : Hid (((A.take k).map flI).length ≤ 1000000) := by rw [Hid, List.length_map, List.length_take]; have := HLV.out; omega
      have HIU : Hid (inu s) := by unfold in64 at hin; unfold Hid inu; omega
      have hw : IntKind.u64.wrap s = s := by rw [IntKind.wrap_u64]; have := HIU.out; unfold inu at this; omega
      clear hs hm hin hpos
      go_wp2_with fail
      refine (lfloatI_any s _ HIU.out).mono ?_
      rintro e w2 ⟨rfl, hf2⟩
      have HF2 : Hid (Fr [] w w2) := HF.out.trans hf2 (by simp)
      have HS2 : Hid (UOwn 22 w.heap.size w2 u3 ((A.take k).map flI)) := HS.out.kept hf2
      have HSZ2 : Hid (w.heap.size ≤ w2.heap.size) := HF2.out.size
      clear hf2 HF HS HSZ
      generalize flI s = F at *
      go_wp2_with (at_builtin; refine wpList_append_u _ rfl _ _ 24 rfl Try.underlying24 HI.out.1 HI.out.2.1 HI.out.2.2.1 HI.out.2.2.2 (B := w.heap.size) (s := F) (by have := HSZ2.out; simp; omega) rfl rfl (HS2.out.kept ((Fr.refl [] _).alloc _)) (lit_u 22 w2 [F] rfl HSZ2.out (by simp) (by unfold maxLen; simp)) HL.out ?_; intro v3 w3 ho3 hb3; have HO3 : Hid (UOwn 22 w.heap.size w3 v3 (((A.take k).map flI) ++ [F])) := ho3; have HB3 : Hid (Fr [] w w3) := Fr.ofBelow (((HF2.out.alloc _).below (Nat.le_refl _) (by simp)).trans hb3); clear ho3 hb3)
      go_roundw
      case rel => exact ⟨k + 1, by omega, by go_num, by rw [HT.out]; exact HO3.out, HB3.out⟩
      case measure => simp [intOf]; omega
    · have HS2 : Hid (UOwn 22 w.heap.size wr u3 (A.map flI)) := by
        have := HS.out
        rw [List.take_of_length_le (by omega)] at this
        exact this
      clear HS
      go_wp2
      go_ret
      exact ⟨_, rfl, HS2.out, HF.out⟩
end Go.Proofs.Ytoaibabkkphlaaa

/-
  Histograms whose counts are floats: from whole counts, and back.
-/
namespace Go.Proofs.Ytoaibabkkphlaaa
open Go.RowKit Mem Spans Floats
set_option linter.unusedSimpArgs false
set_option linter.unusedVariables false

/-- A whole number up to 2^53 is the whole number of its float. -/
theorem whl_flt {n : Nat} (h : n ≤ 9007199254740992) : whl (flt n) = some n := by
  by_cases h0 : n = 0
  · subst h0; decide +kernel
  by_cases h53 : n = 9007199254740992
  · subst h53; decide +kernel
  have a := log2_le h0
  have b := log2_gt n
  have hL : n.log2 ≤ 52 := by
    have h1 : n.log2 < 53 := (Nat.log2_lt h0).2 (by omega)
    omega
  have e52 : (4503599627370496 : Nat) = 2 ^ 52 := by decide
  have hp := Nat.two_pow_pos (52 - n.log2)
  have e1 : (2 : Nat) ^ n.log2 * 2 ^ (52 - n.log2) = 4503599627370496 := by rw [← Nat.pow_add, show n.log2 + (52 - n.log2) = 52 from by omega]
  have hk1 : 4503599627370496 ≤ n * 2 ^ (52 - n.log2) := by rw [← e1]; exact Nat.mul_le_mul_right _ a
  have hk2 : n * 2 ^ (52 - n.log2) < 9007199254740992 := by
    have : 2 ^ (n.log2 + 1) * 2 ^ (52 - n.log2) = 9007199254740992 := by rw [Nat.pow_succ, Nat.mul_right_comm, e1]
    rw [← this]
    exact Nat.mul_lt_mul_of_pos_right b hp
  have hv : flt n = (1022 + n.log2) * 4503599627370496 + n * 2 ^ (52 - n.log2) := by
    unfold flt kpt
    rw [if_neg h0, if_pos hL]
  have hx : exq (flt n) = 1023 + n.log2 ∧ mnt (flt n) = n * 2 ^ (52 - n.log2) := by
    rw [hv]
    unfold exq mnt
    omega
  rw [whl_low (by omega) (by omega), hx.1, hx.2, show 1075 - (1023 + n.log2) = 52 - n.log2 from by omega, if_pos (Nat.mul_mod_left _ _), Nat.mul_div_cancel _ hp]
theorem wv_fl {z : Int} (h : 0 ≤ z ∧ z ≤ 9007199254740992) : wbI (flI z) = true ∧ wvI (flI z) = z := by
  obtain ⟨n, rfl⟩ := Int.eq_ofNat_of_zero_le h.1
  have k := whl_flt (n := n) (by omega)
  unfold wbI wvI flI whb whv
  simp only [Int.toNat_natCast]
  rw [k]
  exact ⟨rfl, rfl⟩
theorem rgt_fl {z : Int} (h : inu z) : rgt (flI z) = true := by
  unfold inu at h
  have := flt_lt (n := z.toNat) (by omega)
  unfold rgt flI
  exact decide_eq_true (by omega)
theorem rgts_fla {d : List Int} (h : ∀ z ∈ abv d, 0 ≤ z) : rgts (fla d) = true := by
  rw [rgts_iff]
  intro x hx
  obtain ⟨y, hy, rfl⟩ := List.mem_map.1 hx
  have h1 := h y hy
  have h2 := abv_in d y hy
  exact rgt_fl (by unfold in64 at h2; unfold inu; omega)
theorem frs_side {l : List Sp} {d : List Int} (h : sde l d = 0) : fsd l (fla d) = 0 := by
  have k := sde_zero.1 h
  exact fsd_zero.2 ⟨k.1, by unfold fla; rw [List.length_map, abv_length k.2.2.1]; exact k.2.1, rgts_fla (nng_iff.1 k.2.2.2)⟩
theorem frs_ok {h : Hs} (k : che h = 0) (hu : inu h.zc ∧ inu h.c) : fce (frs h) = 0 := by
  have kz := che_zero.1 k
  rw [fce_zero]
  refine ⟨?_, frs_side kz.2.1, frs_side kz.2.2.1⟩
  show fde h.s h.z (flI h.zc) (flI h.c) = 0
  unfold fde
  rw [if_pos kz.1, if_pos]
  rw [rgts_iff]
  intro z hz
  simp only [List.mem_cons, List.not_mem_nil, or_false] at hz
  rcases hz with rfl | rfl
  · exact rgt_fl hu.1
  · exact rgt_fl hu.2
theorem lft_le {a b : Int} {l : List Int} (h : lft a l = some b) (hn : ∀ z ∈ l, 0 ≤ z) : ∀ z ∈ l, z ≤ a := by
  induction l generalizing a with
  | nil => intro z hz; cases hz
  | cons n r ih =>
    simp only [lft] at h
    split at h
    · intro z hz
      rcases List.mem_cons.1 hz with rfl | hz
      · assumption
      · have h1 := ih h (fun z hz => hn z (by simp [hz])) z hz
        have h2 := hn n (by simp)
        omega
    · cases h
/-- No count is above their number. -/
theorem che_counts {h : Hs} (k : che h = 0) (hu : inu h.zc) : h.zc ≤ h.c ∧ (∀ z ∈ abv h.pd, 0 ≤ z ∧ z ≤ h.c) ∧ (∀ z ∈ abv h.nd, 0 ≤ z ∧ z ≤ h.c) := by
  have kz := che_zero.1 k
  have n1 := nng_iff.1 (sde_zero.1 kz.2.1).2.2.2
  have n2 := nng_iff.1 (sde_zero.1 kz.2.2.1).2.2.2
  have hf := kz.2.2.2
  unfold fts at hf
  rw [Bool.and_eq_true] at hf
  have h1 := of_decide_eq_true hf.1
  have hb : ∃ b, lft (h.c - h.zc) (abv h.pd ++ abv h.nd) = some b := by
    cases hl : lft (h.c - h.zc) (abv h.pd ++ abv h.nd) with
    | none => rw [hl] at hf; simp at hf
    | some b => exact ⟨b, rfl⟩
  obtain ⟨b, hb⟩ := hb
  have hle := lft_le hb (fun z hz => by
    rcases List.mem_append.1 hz with h2 | h2
    · exact n1 z h2
    · exact n2 z h2)
  unfold inu at hu
  refine ⟨h1, fun z hz => ⟨n1 z hz, ?_⟩, fun z hz => ⟨n2 z hz, ?_⟩⟩
  · have := hle z (List.mem_append.2 (.inl hz)); omega
  · have := hle z (List.mem_append.2 (.inr hz)); omega
theorem wal_fla {d : List Int} (h : ∀ z ∈ abv d, 0 ≤ z ∧ z ≤ 9007199254740992) : wab (fla d) = true ∧ wal (fla d) = abv d := by
  have h1 : ∀ z ∈ fla d, wbI z = true := by
    intro z hz
    obtain ⟨y, hy, rfl⟩ := List.mem_map.1 hz
    exact (wv_fl (h y hy)).1
  have k := wal_all h1
  refine ⟨k.1, ?_⟩
  rw [k.2]
  unfold fla
  generalize abv d = m at h
  clear k h1
  induction m with
  | nil => rfl
  | cons x r ih =>
    rw [List.map_cons, List.map_cons, ih (fun z hz => h z (by simp [hz])), (wv_fl (h x (by simp))).2]
theorem from_side {d : List Int} (ha : abe d = 0) (hd : ∀ z ∈ d, in64 z) (h : ∀ z ∈ abv d, 0 ≤ z ∧ z ≤ 9007199254740992) : wab (fla d) = true ∧ dfe (wal (fla d)) = 0 ∧ dfl (wal (fla d)) = d := by
  have k := wal_fla h
  rw [k.2]
  have s := dfe_small (l := abv d) (fun z hz => by have := h z hz; omega)
  refine ⟨k.1, s.1, ?_⟩
  rw [s.2.1]
  obtain ⟨o, ho⟩ := abe_zero.1 ha
  have e : abv d = o := by unfold abv; rw [ho]; rfl
  rw [e]
  unfold dlv
  rw [dltl_absl ho hd]
  rfl
/-- From a right histogram of whole counts and back. -/
theorem bk_frs {h : Hs} (k : che h = 0) (hu : inu h.zc ∧ inu h.c) (hd : (∀ z ∈ h.pd, in64 z) ∧ (∀ z ∈ h.nd, in64 z)) (hc : h.c ≤ 9007199254740992) : bke (frs h) = 0 ∧ bkh (frs h) = h := by
  have kz := che_zero.1 k
  have ct := che_counts k hu.1
  have s1 := from_side (sde_zero.1 kz.2.1).2.2.1 hd.1 (fun z hz => by have := ct.2.1 z hz; omega)
  have s2 := from_side (sde_zero.1 kz.2.2.1).2.2.1 hd.2 (fun z hz => by have := ct.2.2 z hz; omega)
  have w1 := wv_fl (z := h.zc) (by have := hu.1; unfold inu at this; omega)
  have w2 := wv_fl (z := h.c) (by have := hu.2; unfold inu at this; omega)
  have hb : bks (frs h) = h := by
    unfold bks frs
    simp only
    rw [s1.2.2, s2.2.2, w1.2, w2.2]
  have hw : bkb (frs h) = true := by
    unfold bkb frs
    simp only
    rw [s1.1, s2.1]
    unfold wab
    simp only [List.all_cons, List.all_nil, w1.1, w2.1]
    rfl
  have he : bke (frs h) = 0 := by
    unfold bke
    rw [if_pos (frs_ok k hu), if_pos hw]
    have e1 : dfe (wal (frs h).pd) = 0 := s1.2.1
    have e2 : dfe (wal (frs h).nd) = 0 := s2.2.1
    rw [if_pos e1, if_pos e2, hb]
    exact k
  refine ⟨he, ?_⟩
  unfold bkh
  rw [if_pos he]
  exact hb
end Go.Proofs.Ytoaibabkkphlaaa
