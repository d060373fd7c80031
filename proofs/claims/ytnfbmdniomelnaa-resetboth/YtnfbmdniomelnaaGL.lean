/-
  RPure6.
-/
import Derived.Test.YtnfbmdniomelnaaGE
import Derived.Test.YtnfbmdniomelnaaGK
/-
  From whole counts to floats: order, what is right.
-/
namespace Go.Proofs.Ytnfbmdniomelnaa
open Go.RowKit Mem Spans Floats
set_option linter.unusedSimpArgs false
set_option linter.unusedVariables false

theorem flI_mono {a b : Int} (h : a ≤ b) : flI a ≤ flI b := by
  unfold flI
  have := flt_mono (show a.toNat ≤ b.toNat by omega)
  omega
/-- A whole number up to 2^53 is the whole number of its float. -/
theorem whl_flt {n : Nat} (h : n ≤ 9007199254740992) : whl (flt n) = some n := by
  by_cases h0 : n = 0
  · subst h0; decide +kernel
  by_cases h53 : n = 9007199254740992
  · subst h53; decide +kernel
  have a := log2_le h0
  have b := log2_gt n
  have hL : n.log2 ≤ 52 := by
    have h1 : n.log2 < 53 := (Nat.log2_lt h0).2 (by omega)
    omega
  have e52 : (4503599627370496 : Nat) = 2 ^ 52 := by decide
  have hp := Nat.two_pow_pos (52 - n.log2)
  have e1 : (2 : Nat) ^ n.log2 * 2 ^ (52 - n.log2) = 4503599627370496 := by rw [← Nat.pow_add, show n.log2 + (52 - n.log2) = 52 from by omega]
  have hk1 : 4503599627370496 ≤ n * 2 ^ (52 - n.log2) := by rw [← e1]; exact Nat.mul_le_mul_right _ a
  have hk2 : n * 2 ^ (52 - n.log2) < 9007199254740992 := by
    have : 2 ^ (n.log2 + 1) * 2 ^ (52 - n.log2) = 9007199254740992 := by rw [Nat.pow_succ, Nat.mul_right_comm, e1]
    rw [← this]
    exact Nat.mul_lt_mul_of_pos_right b hp
  have hv : flt n = (1022 + n.log2) * 4503599627370496 + n * 2 ^ (52 - n.log2) := by
    unfold flt kpt
    rw [if_neg h0, if_pos hL]
  have hx : exq (flt n) = 1023 + n.log2 ∧ mnt (flt n) = n * 2 ^ (52 - n.log2) := by
    rw [hv]
    unfold exq mnt
    omega
  rw [whl_low (by omega) (by omega), hx.1, hx.2, show 1075 - (1023 + n.log2) = 52 - n.log2 from by omega, if_pos (Nat.mul_mod_left _ _), Nat.mul_div_cancel _ hp]
theorem wv_fl {z : Int} (h : 0 ≤ z ∧ z ≤ 9007199254740992) : wbI (flI z) = true ∧ wvI (flI z) = z := by
  obtain ⟨n, rfl⟩ := Int.eq_ofNat_of_zero_le h.1
  have k := whl_flt (n := n) (by omega)
  unfold wbI wvI flI whb whv
  simp only [Int.toNat_natCast]
  rw [k]
  exact ⟨rfl, rfl⟩
theorem rgt_fl {z : Int} (h : inu z) : rgt (flI z) = true := by
  unfold inu at h
  have := flt_lt (n := z.toNat) (by omega)
  unfold rgt flI
  exact decide_eq_true (by omega)
theorem rgts_iff {l : List Int} : rgts l = true ↔ ∀ z ∈ l, rgt z = true := by unfold rgts; rw [List.all_eq_true]
theorem rgts_fla {d : List Int} (h : ∀ z ∈ abv d, 0 ≤ z) : rgts (fla d) = true := by
  rw [rgts_iff]
  intro x hx
  obtain ⟨y, hy, rfl⟩ := List.mem_map.1 hx
  have h1 := h y hy
  have h2 := abv_in d y hy
  exact rgt_fl (by unfold in64 at h2; unfold inu; omega)
theorem frs_side {l : List Sp} {d : List Int} (h : sde l d = 0) : fsd l (fla d) = 0 := by
  have k := sde_zero.1 h
  exact fsd_zero.2 ⟨k.1, by unfold fla; rw [List.length_map, abv_length k.2.2.1]; exact k.2.1, rgts_fla (nng_iff.1 k.2.2.2)⟩
theorem frs_ok {h : Hs} (k : che h = 0) (hu : inu h.zc ∧ inu h.c) : fce (frs h) = 0 := by
  have kz := che_zero.1 k
  rw [fce_zero]
  refine ⟨?_, frs_side kz.2.1, frs_side kz.2.2.1⟩
  show fde h.s h.z (flI h.zc) (flI h.c) = 0
  unfold fde
  rw [if_pos kz.1, if_pos]
  rw [rgts_iff]
  intro z hz
  simp only [List.mem_cons, List.not_mem_nil, or_false] at hz
  rcases hz with rfl | rfl
  · exact rgt_fl hu.1
  · exact rgt_fl hu.2
theorem lft_le {a b : Int} {l : List Int} (h : lft a l = some b) (hn : ∀ z ∈ l, 0 ≤ z) : ∀ z ∈ l, z ≤ a := by
  induction l generalizing a with
  | nil => intro z hz; cases hz
  | cons n r ih =>
    simp only [lft] at h
    split at h
    · intro z hz
      rcases List.mem_cons.1 hz with rfl | hz
      · assumption
      · have h1 := ih h (fun z hz => hn z (by simp [hz])) z hz
        have h2 := hn n (by simp)
        omega
    · cases h
/-- No count is above their number. -/
theorem che_counts {h : Hs} (k : che h = 0) (hu : inu h.zc) : h.zc ≤ h.c ∧ (∀ z ∈ abv h.pd, 0 ≤ z ∧ z ≤ h.c) ∧ (∀ z ∈ abv h.nd, 0 ≤ z ∧ z ≤ h.c) := by
  have kz := che_zero.1 k
  have n1 := nng_iff.1 (sde_zero.1 kz.2.1).2.2.2
  have n2 := nng_iff.1 (sde_zero.1 kz.2.2.1).2.2.2
  have hf := kz.2.2.2
  unfold fts at hf
  rw [Bool.and_eq_true] at hf
  have h1 := of_decide_eq_true hf.1
  have hb : ∃ b, lft (h.c - h.zc) (abv h.pd ++ abv h.nd) = some b := by
    cases hl : lft (h.c - h.zc) (abv h.pd ++ abv h.nd) with
    | none => rw [hl] at hf; simp at hf
    | some b => exact ⟨b, rfl⟩
  obtain ⟨b, hb⟩ := hb
  have hle := lft_le hb (fun z hz => by
    rcases List.mem_append.1 hz with h2 | h2
    · exact n1 z h2
    · exact n2 z h2)
  unfold inu at hu
  refine ⟨h1, fun z hz => ⟨n1 z hz, ?_⟩, fun z hz => ⟨n2 z hz, ?_⟩⟩
  · have := hle z (List.mem_append.2 (.inl hz)); omega
  · have := hle z (List.mem_append.2 (.inr hz)); omega

theorem flI_zero : flI 0 = 0 := by decide +kernel
theorem flI_lt {a b : Int} (ha : 0 ≤ a ∧ a ≤ 9007199254740992) (hb : 0 ≤ b ∧ b ≤ 9007199254740992) : flI a < flI b ↔ a < b := by
  constructor
  · intro h
    by_cases k : a < b
    · exact k
    · have := flI_mono (show b ≤ a by omega)
      omega
  · intro h
    have h1 := flI_mono (show a ≤ b by omega)
    have h2 : flI a ≠ flI b := by
      intro e
      have x := (wv_fl ha).2
      have y := (wv_fl hb).2
      rw [e] at x
      omega
    omega
/-- A counter with floats in place of whole counts. -/
def mpL (l : List Sp) : List Sp := l.map fun s => (s.1, flI s.2)
def mpC (c : Ct) : Ct := ⟨c.s, c.z, flI c.c, flI c.k, mpL c.p, mpL c.n⟩
theorem vat_mp (b : List Sp) (p : Int) : vat (mpL b) p = flI (vat b p) := by
  induction b with
  | nil => exact flI_zero.symm
  | cons x t ih =>
    show (if x.1 = p then flI x.2 else vat (mpL t) p) = flI (if x.1 = p then x.2 else vat t p)
    split
    · rfl
    · exact ih
theorem fal_mp_none {a b : List Sp} (h : fal a b = none) : fal (mpL a) (mpL b) = none := by
  rw [fal_none] at h ⊢
  intro s hs
  obtain ⟨x, hx, rfl⟩ := List.mem_map.1 hs
  rw [vat_mp]
  exact flI_mono (h x hx)
theorem find_congr {l : List Sp} {p q : Sp → Bool} (h : ∀ x ∈ l, p x = q x) : l.find? p = l.find? q := by
  induction l with
  | nil => rfl
  | cons x t ih => rw [List.find?_cons, List.find?_cons, h x (by simp), ih (fun y hy => h y (by simp [hy]))]
theorem fal_mp {a b : List Sp} (ha : ∀ s ∈ a, 0 ≤ s.2 ∧ s.2 ≤ 9007199254740992) (hb : ∀ s ∈ b, 0 ≤ s.2 ∧ s.2 ≤ 9007199254740992) : fal (mpL a) (mpL b) = (fal a b).map fun s => (s.1, flI s.2) := by
  unfold fal mpL
  rw [List.find?_map]
  congr 1
  refine find_congr fun x hx => ?_
  show decide (vat (mpL b) x.1 < flI x.2) = decide (vat b x.1 < x.2)
  rw [vat_mp]
  have hv : 0 ≤ vat b x.1 ∧ vat b x.1 ≤ 9007199254740992 := by
    rcases vat_in b x.1 with ⟨h, _⟩ | ⟨t, ht, _, h⟩
    · rw [h]; omega
    · rw [h]; exact hb t ht
  rw [Bool.eq_iff_iff, decide_eq_true_iff, decide_eq_true_iff]
  exact flI_lt hv (ha x hx)
theorem vrd_mp_none {a b : Ct} (h : (vrd a b).1 = 0) : (vrd (mpC a) (mpC b)).1 = 0 := by
  obtain ⟨h1, h2, h3⟩ := vrd_zero.1 h
  have x := vnm_zero.1 h1
  exact vrd_zero.2 ⟨vnm_zero.2 ⟨x.1, x.2.1, flI_mono x.2.2.1, flI_mono x.2.2.2⟩, fal_mp_none h2, fal_mp_none h3⟩
/-- No count is above 2^53. -/
def Lit53 (c : Ct) : Prop := (0 ≤ c.c ∧ c.c ≤ 9007199254740992) ∧ (0 ≤ c.k ∧ c.k ≤ 9007199254740992) ∧ (∀ s ∈ c.p, 0 ≤ s.2 ∧ s.2 ≤ 9007199254740992) ∧ (∀ s ∈ c.n, 0 ≤ s.2 ∧ s.2 ≤ 9007199254740992)
theorem vrd_mp {a b : Ct} (ha : Lit53 a) (hb : Lit53 b) : vrd (mpC a) (mpC b) = vrd a b := by
  have e : vnm (mpC a) (mpC b) = vnm a b := by
    unfold vnm mpC
    simp only [flI_lt hb.1 ha.1, flI_lt hb.2.1 ha.2.1]
  unfold vrd
  rw [e]
  have e1 : fal (mpC a).p (mpC b).p = (fal a.p b.p).map fun s => (s.1, flI s.2) := fal_mp ha.2.2.1 hb.2.2.1
  have e2 : fal (mpC a).n (mpC b).n = (fal a.n b.n).map fun s => (s.1, flI s.2) := fal_mp ha.2.2.2 hb.2.2.2
  rw [e1, e2]
  cases fal a.p b.p with
  | some x => rfl
  | none => cases fal a.n b.n <;> rfl
theorem fsl_frs {l : List Sp} {d : List Int} (h : sde l d = 0) : fsl l (fla d) = mpL (sdl l d) := by
  have e := frs_side h
  rw [(fsl_zip e).1, (sdl_zip h).1]
  unfold fla mpL
  rw [List.zip_map_right]
  rfl
theorem ctF_frs {h : Hs} (k : che h = 0) (hu : inu h.zc ∧ inu h.c) : ctF (frs h) = mpC (ctI h) := by
  have kz := che_zero.1 k
  have kf := frs_ok k hu
  have e1 : sdp h = sdl h.P h.pd := by unfold sdp; rw [if_pos k]
  have e2 : sdn h = sdl h.N h.nd := by unfold sdn; rw [if_pos k]
  have e3 : fdp (frs h) = mpL (sdp h) := by unfold fdp; rw [if_pos kf, e1]; exact fsl_frs kz.2.1
  have e4 : fdn (frs h) = mpL (sdn h) := by unfold fdn; rw [if_pos kf, e2]; exact fsl_frs kz.2.2.1
  unfold ctF ctI
  rw [if_pos kf, if_pos k, e3, e4]
  rfl
theorem ctI_53 {h : Hs} (k : che h = 0) (hu : inu h.zc ∧ inu h.c) (hc : h.c ≤ 9007199254740992) : Lit53 (ctI h) := by
  have kz := che_zero.1 k
  have hcn := che_counts k hu.1
  have e1 : sdp h = sdl h.P h.pd := by unfold sdp; rw [if_pos k]
  have e2 : sdn h = sdl h.N h.nd := by unfold sdn; rw [if_pos k]
  unfold inu at hu
  unfold ctI
  rw [if_pos k]
  refine ⟨⟨hu.2.1, hc⟩, ⟨hu.1.1, by have := hcn.1; simp only; omega⟩, ?_, ?_⟩
  · intro s hs
    simp only at hs
    rw [e1] at hs
    have := hcn.2.1 s.2 (by rw [← (sdl_zip kz.2.1).2.2]; exact List.mem_map.2 ⟨s, hs, rfl⟩)
    omega
  · intro s hs
    simp only at hs
    rw [e2] at hs
    have := hcn.2.2 s.2 (by rw [← (sdl_zip kz.2.2.1).2.2]; exact List.mem_map.2 ⟨s, hs, rfl⟩)
    omega
theorem both_ways {a b : Hs} (ka : che a = 0) (kb : che b = 0) (ua : inu a.zc ∧ inu a.c) (ub : inu b.zc ∧ inu b.c) :
    rie a b = 0 ∧ rfe (frs a) (frs b) = 0 ∧ ((riv a b).1 = 0 → (rfv (frs a) (frs b)).1 = 0) ∧ (a.c ≤ 9007199254740992 → b.c ≤ 9007199254740992 → rfv (frs a) (frs b) = riv a b) := by
  have fa := frs_ok ka ua
  have fb := frs_ok kb ub
  have e1 := rie_zero.2 ⟨ka, kb⟩
  have e2 : rfe (frs a) (frs b) = 0 := by unfold rfe; rw [if_pos fa]; exact fb
  refine ⟨e1, e2, ?_, ?_⟩
  · unfold riv rfv
    rw [if_pos e1, if_pos e2, ctF_frs ka ua, ctF_frs kb ub]
    exact vrd_mp_none
  · intro h1 h2
    unfold riv rfv
    rw [if_pos e1, if_pos e2, ctF_frs ka ua, ctF_frs kb ub]
    exact vrd_mp (ctI_53 ka ua h1) (ctI_53 kb ub h2)
end Go.Proofs.Ytnfbmdniomelnaa
