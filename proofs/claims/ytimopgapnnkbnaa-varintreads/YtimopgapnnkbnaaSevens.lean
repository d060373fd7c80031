/-
  Numbers by seven bits, as the document says: a number's bytes; what bytes begin with. No program is named here.
-/
import Derived.Test.YtimopgapnnkbnaaBits
namespace Go.Proofs.Ytimopgapnnkbnaa.Sevens
open Bits

/-- A number's bytes: seven bits at a time, the lowest ones first; each but the last has its highest bit set. -/
def vbF : Nat → Nat → List Nat
  | 0, v => [v]
  | n + 1, v => if v < 128 then [v] else (v % 128 + 128) :: vbF n (v / 128)
def vb (v : Nat) : List Nat := vbF v v

theorem vbF_same (n : Nat) : ∀ (m v : Nat), v ≤ n → v ≤ m → vbF n v = vbF m v := by
  induction n with
  | zero =>
    intro m v h1 h2
    obtain rfl : v = 0 := by omega
    cases m <;> simp [vbF]
  | succ n ih =>
    intro m v h1 h2
    cases m with
    | zero =>
      obtain rfl : v = 0 := by omega
      simp [vbF]
    | succ m =>
      simp only [vbF]
      split
      · rfl
      · rw [ih m (v / 128) (by omega) (by omega)]
theorem vb_small {v : Nat} (h : v < 128) : vb v = [v] := by
  unfold vb
  cases v with
  | zero => rfl
  | succ n => simp only [vbF]; rw [if_pos h]
theorem vb_big {v : Nat} (h : 128 ≤ v) : vb v = (v % 128 + 128) :: vb (v / 128) := by
  unfold vb
  cases v with
  | zero => omega
  | succ n => simp only [vbF]; rw [if_neg (by omega), vbF_same n ((n + 1) / 128) ((n + 1) / 128) (by omega) (by omega)]
theorem vb_pos (v : Nat) : 1 ≤ (vb v).length := by
  by_cases h : v < 128
  · rw [vb_small h]; simp
  · rw [vb_big (by omega)]; simp
theorem vb_lt (v : Nat) : ∀ x ∈ vb v, x < 256 := by
  induction v using Nat.strongRecOn with
  | ind v ih =>
    by_cases h : v < 128
    · rw [vb_small h]; intro x hx; simp at hx; omega
    · rw [vb_big (by omega)]
      intro x hx
      rcases List.mem_cons.1 hx with rfl | hx
      · omega
      · exact ih (v / 128) (by omega) x hx
/-- So many sevens, so many bytes at most. -/
theorem vb_le (n v : Nat) (h : v < 128 ^ (n + 1)) : (vb v).length ≤ n + 1 := by
  induction n generalizing v with
  | zero => rw [vb_small (by simpa using h)]; simp
  | succ n ih =>
    by_cases hs : v < 128
    · rw [vb_small hs]; simp
    · rw [vb_big (by omega)]
      have : v / 128 < 128 ^ (n + 1) := by
        rw [Nat.div_lt_iff_lt_mul (by omega)]
        rw [Nat.pow_succ] at h; exact h
      have := ih _ this
      simp; omega
theorem vb_ten {v : Nat} (h : v < 18446744073709551616) : (vb v).length ≤ 10 := vb_le 9 v (by omega)

/-- A number's bits: eight for each byte. -/
def bits8 (l : List Nat) : List Bool := l.flatMap (fun b => numBits b 8)
def vbits (v : Nat) : List Bool := bits8 (vb v)
theorem bits8_length (l : List Nat) : (bits8 l).length = 8 * l.length := by
  induction l with
  | nil => rfl
  | cons a r ih => simp only [bits8, List.flatMap_cons, List.length_append, numBits_length, List.length_cons] at ih ⊢; omega
theorem vbits_length (v : Nat) : (vbits v).length = 8 * (vb v).length := bits8_length _
theorem vbits_small {v : Nat} (h : v < 128) : vbits v = numBits v 8 := by unfold vbits; rw [vb_small h]; simp [bits8]
theorem low8 (v : Nat) : (v ||| 128) % 2 ^ 8 = (v % 128 + 128) % 2 ^ 8 := by
  have h : ∀ x : Fin 256, x.val ||| 128 = x.val % 128 + 128 := by decide +kernel
  rw [Nat.or_mod_two_pow]
  have := h ⟨v % 256, by omega⟩
  simp only [] at this
  rw [show (2 : Nat) ^ 8 = 256 from rfl, show 128 % 256 = 128 from rfl, this]
  omega
theorem vbits_big {v : Nat} (h : 128 ≤ v) : vbits v = numBits (v ||| 128) 8 ++ vbits (v / 128) := by
  unfold vbits
  rw [vb_big h]
  simp only [bits8, List.flatMap_cons]
  rw [← numBits_mod (v ||| 128), low8, numBits_mod]
theorem or_lt64 {v : Nat} (h : v < 18446744073709551616) : v ||| 128 < 18446744073709551616 := Nat.or_lt_two_pow (n := 64) h (by omega)

/-- What bytes begin with: the number, the error's number, how many bytes were read; i bytes are behind, whose number is acc. -/
def parse : List Nat → Nat → Nat → Nat × Nat × Nat
  | [], i, _ => (0, 16, i)
  | b :: r, i, acc => if i = 9 ∧ 1 < b then (0, 17, i + 1) else
      if 128 ≤ b then parse r (i + 1) (acc + b % 128 * 128 ^ i) else
      if b = 0 ∧ 0 < i then (0, 10, i + 1) else (acc + b % 128 * 128 ^ i, 0, i + 1)

/-- A number that is at hand: its bytes are read, nothing behind them. -/
theorem parse_vb (v : Nat) : ∀ (r : List Nat) (i acc : Nat), v * 128 ^ i < 18446744073709551616 → (0 < i → 0 < v) → parse (vb v ++ r) i acc = (acc + v * 128 ^ i, 0, i + (vb v).length) := by
  induction v using Nat.strongRecOn with
  | ind v ih =>
    intro r i acc h1 h2
    have h9 : i = 9 → v ≤ 1 := by
      rintro rfl
      have : (128 : Nat) ^ 9 = 9223372036854775808 := by decide
      rw [this] at h1; omega
    by_cases h : v < 128
    · rw [vb_small h]
      simp only [List.cons_append, List.nil_append, parse]
      rw [if_neg (by omega), if_neg (by omega), if_neg (by omega), Nat.mod_eq_of_lt h]; rfl
    · have hi : i ≠ 9 := by omega
      rw [vb_big (by omega)]
      simp only [List.cons_append, parse]
      rw [if_neg (by omega), if_pos (by omega), show (v % 128 + 128) % 128 = v % 128 from by omega]
      have hm : v / 128 * 128 ^ (i + 1) + v % 128 * 128 ^ i = v * 128 ^ i := by
        rw [Nat.pow_succ, Nat.mul_comm (128 ^ i) 128, ← Nat.mul_assoc, ← Nat.add_mul]
        congr 1; omega
      rw [ih (v / 128) (by omega) r (i + 1) _ (by omega) (by omega)]
      simp only [List.length_cons, Prod.mk.injEq]
      refine ⟨by omega, trivial, by omega⟩

/-- What was read has just these bytes. -/
theorem parse_ok (bs : List Nat) : ∀ (i acc v u : Nat), parse bs i acc = (v, 0, u) → (∀ x ∈ bs, x < 256) → ∃ x, v = acc + x * 128 ^ i ∧ u = i + (vb x).length ∧ bs.take (u - i) = vb x ∧ (0 < i → 0 < x) := by
  induction bs with
  | nil => intro i acc v u h; simp [parse] at h
  | cons b r ih =>
    intro i acc v u h hb
    have hb0 := hb b (by simp)
    simp only [parse] at h
    split at h
    · simp at h
    · split at h
      · next h9 h128 =>
        obtain ⟨x, e1, e2, e3, e4⟩ := ih _ _ _ _ h (fun y hy => hb y (by simp [hy]))
        have hx := e4 (by omega)
        refine ⟨b % 128 + 128 * x, ?_, ?_, ?_, by omega⟩
        · rw [e1, Nat.add_mul, Nat.pow_succ, Nat.mul_comm (128 ^ i) 128, ← Nat.mul_assoc, Nat.mul_comm x 128]; omega
        · rw [vb_big (by omega), show (b % 128 + 128 * x) / 128 = x from by omega, List.length_cons]; omega
        · rw [vb_big (by omega), show (b % 128 + 128 * x) / 128 = x from by omega, show (b % 128 + 128 * x) % 128 + 128 = b from by omega, ← e3,
            show u - i = (u - (i + 1)) + 1 from by omega, List.take_succ_cons]
      · split at h
        · simp at h
        · next h9 h128 h0 =>
          simp only [Prod.mk.injEq] at h
          obtain ⟨rfl, _, rfl⟩ := h
          refine ⟨b, by rw [Nat.mod_eq_of_lt (by omega)], by rw [vb_small (by omega)]; rfl, ?_, by omega⟩
          rw [vb_small (by omega), show i + 1 - i = 1 from by omega]; rfl

/-- The whole bytes that are left of bits, from pos to lim. -/
def restBytes (l : List Bool) (pos lim : Nat) : List Nat := (List.range ((lim - pos) / 8)).map (fun i => val ((l.drop (pos + 8 * i)).take 8))
theorem restBytes_nil (l : List Bool) {pos lim : Nat} (h : lim - pos < 8) : restBytes l pos lim = [] := by
  unfold restBytes; rw [show (lim - pos) / 8 = 0 from by omega]; rfl
theorem restBytes_cons (l : List Bool) {pos lim : Nat} (h : 8 ≤ lim - pos) : restBytes l pos lim = val ((l.drop pos).take 8) :: restBytes l (pos + 8) lim := by
  unfold restBytes
  rw [show (lim - pos) / 8 = (lim - (pos + 8)) / 8 + 1 from by omega, List.range_succ_eq_map, List.map_cons, List.map_map]
  congr 1
  refine List.map_congr_left fun i _ => ?_
  simp only [Function.comp]
  rw [show pos + 8 * (i + 1) = pos + 8 + 8 * i from by omega]
theorem byte_lt (l : List Bool) (n : Nat) : val ((l.drop n).take 8) < 256 := by
  have h := val_lt ((l.drop n).take 8)
  have : 2 ^ ((l.drop n).take 8).length ≤ 2 ^ 8 := Nat.pow_le_pow_right (by omega) (by simp; omega)
  omega
/-- Bytes that stand among bits. -/
theorem restBytes_bits8 (bs : List Nat) : ∀ (a c : List Bool) (n : Nat), (∀ x ∈ bs, x < 256) → a.length + 8 * bs.length ≤ n → restBytes (a ++ bits8 bs ++ c) a.length n = bs ++ restBytes (a ++ bits8 bs ++ c) (a.length + 8 * bs.length) n := by
  induction bs with
  | nil => intro a c n _ hn; simp
  | cons b r ih =>
    intro a c n hb hn
    rw [List.length_cons] at hn
    rw [restBytes_cons _ (by omega)]
    have e : a ++ bits8 (b :: r) ++ c = a ++ numBits b 8 ++ bits8 r ++ c := by simp [bits8]
    have e2 : a.length + 8 = (a ++ numBits b 8).length := by simp
    have e3 : a.length + 8 * (b :: r).length = (a ++ numBits b 8).length + 8 * r.length := by simp; omega
    rw [e, e3, e2, ih (a ++ numBits b 8) c n (fun x hx => hb x (by simp [hx])) (by simp; omega), List.cons_append]
    congr 1
    rw [show a ++ numBits b 8 ++ bits8 r ++ c = a ++ (numBits b 8 ++ (bits8 r ++ c)) from by simp, List.drop_left,
      List.take_append_of_le_length (by simp), List.take_of_length_le (by simp), val_numBits]
    have := hb b (by simp)
    omega

theorem take_eight (l : List Bool) (m : Nat) (h : 8 * m + 8 ≤ l.length) : val ((l.drop (8 * m)).take 8) = byteAt l m := by
  have e : (l.drop (8 * m)).take 8 = (List.range 8).map (fun k => l.getD (8 * m + k) false) := by
    apply List.ext_getElem
    · simp; omega
    · intro i h1 h2
      have h3 : i < 8 := by simpa using h2
      simp [List.getElem_take, List.getElem_drop, show 8 * m + i < l.length from by omega]
  rw [e]
  simp only [List.range, List.range.loop, List.map_cons, List.map_nil, val, List.foldl_cons, List.foldl_nil, byteAt, b8]
  omega
theorem restBytes_pack (l : List Bool) (n : Nat) (h : l.length = 8 * n) : restBytes l 0 (8 * n) = packN l n := by
  unfold restBytes packN
  rw [show (8 * n - 0) / 8 = n from by omega]
  refine List.map_congr_left fun i hi => ?_
  have hi : i < n := by simpa using hi
  rw [Nat.zero_add]
  exact take_eight l i (by omega)
theorem nbs_eight (n : Nat) : nbs (8 * n) = n := by unfold nbs; omega
/-- The bits of bytes, packed, are these bytes. -/
theorem pack_bits8 (bs : List Nat) (hb : ∀ x ∈ bs, x < 256) : pack (bits8 bs) = bs := by
  unfold pack
  rw [bits8_length, nbs_eight, ← restBytes_pack _ _ (bits8_length bs)]
  have := restBytes_bits8 bs [] [] (8 * bs.length) hb (by simp)
  simp only [List.nil_append, List.append_nil, List.length_nil, Nat.zero_add] at this
  rw [this, restBytes_nil _ (by omega), List.append_nil]
theorem restBytes_unpack (bs : List Nat) (hb : ∀ x ∈ bs, x < 256) : restBytes (unpack bs (8 * bs.length)) 0 (8 * bs.length) = bs := by
  rw [restBytes_pack _ _ (by simp)]
  have := pack_unpack0 bs (8 * bs.length) hb (by rw [nbs_eight]; exact Nat.le_refl _) (by omega)
  unfold pack at this
  rw [unpack_length, nbs_eight] at this
  rw [this, List.take_length]

/-- A signed number without a sign, and back. -/
def zig (v : Int) : Nat := if v < 0 then (2 * (-1 - v) + 1).toNat else (2 * v).toNat
def zag (u : Nat) : Int := if u % 2 = 1 then -1 - ((u / 2 : Nat) : Int) else ((u / 2 : Nat) : Int)
theorem zag_zig (v : Int) : zag (zig v) = v := by unfold zig zag; split <;> split <;> omega
theorem zig_zag (u : Nat) : zig (zag u) = u := by unfold zig zag; split <;> split <;> omega
theorem zig_lt {v : Int} (h : -9223372036854775808 ≤ v) (h2 : v ≤ 9223372036854775807) : zig v < 18446744073709551616 := by unfold zig; split <;> omega
theorem zag_in {u : Nat} (h : u < 18446744073709551616) : -9223372036854775808 ≤ zag u ∧ zag u ≤ 9223372036854775807 := by unfold zag; split <;> omega
end Go.Proofs.Ytimopgapnnkbnaa.Sevens
