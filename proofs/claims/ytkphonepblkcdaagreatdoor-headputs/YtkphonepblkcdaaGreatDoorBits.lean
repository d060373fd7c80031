/-
  Plain mathematics of bits in bytes: a list of bits packed into bytes, bits read off bytes, bits as a number. No program is named here.
-/
import Derived.Laws.BitsAllLaws
namespace Go.Proofs.YtkphonepblkcdaaGreatDoor.Bits

/-- Eight bits, the first one highest, as a number. -/
def b8 (f : Nat → Bool) : Nat := 128 * (f 0).toNat + 64 * (f 1).toNat + 32 * (f 2).toNat + 16 * (f 3).toNat + 8 * (f 4).toNat + 4 * (f 5).toNat + 2 * (f 6).toNat + (f 7).toNat
/-- The byte number j of a list of bits, noughts behind them. -/
def byteAt (l : List Bool) (j : Nat) : Nat := b8 (fun k => l.getD (8 * j + k) false)
/-- The first m bytes of a list of bits. -/
def packN (l : List Bool) (m : Nat) : List Nat := (List.range m).map (byteAt l)
/-- How many bytes so many bits take. -/
def nbs (n : Nat) : Nat := (n + 7) / 8
def pack (l : List Bool) : List Nat := packN l (nbs l.length)
/-- The bit number i of bytes. -/
def bitAt (bs : List Nat) (i : Nat) : Bool := (bs.getD (i / 8) 0).testBit (7 - i % 8)
/-- The first n bits of bytes. -/
def unpack (bs : List Nat) (n : Nat) : List Bool := (List.range n).map (bitAt bs)
/-- Bits as a number, the first one highest. -/
def val (l : List Bool) : Nat := l.foldl (fun v b => 2 * v + b.toNat) 0
/-- The lowest n bits of a number, the highest of them first. -/
def numBits (v n : Nat) : List Bool := (List.range n).map (fun i => v.testBit (n - 1 - i))
/-- The mask of a bit within its byte. -/
def mk (n : Nat) : Nat := 128 / 2 ^ (n % 8)

theorem bool8 {p : Bool → Bool → Bool → Bool → Bool → Bool → Bool → Bool → Prop} [∀ a b c d e f g h, Decidable (p a b c d e f g h)]
    (h : (∀ a b c d e f g h, p a b c d e f g h)) (a b c d e f g i : Bool) : p a b c d e f g i := h a b c d e f g i

theorem lt8 {k : Nat} (h : k < 8) : k = 0 ∨ k = 1 ∨ k = 2 ∨ k = 3 ∨ k = 4 ∨ k = 5 ∨ k = 6 ∨ k = 7 := by omega

theorem b8_lt (f : Nat → Bool) : b8 f < 256 := by
  unfold b8
  have h : ∀ b : Bool, b.toNat ≤ 1 := fun b => by cases b <;> simp
  have := h (f 0); have := h (f 1); have := h (f 2); have := h (f 3); have := h (f 4); have := h (f 5); have := h (f 6); have := h (f 7)
  omega

theorem b8_congr {f g : Nat → Bool} (h : ∀ k, k < 8 → f k = g k) : b8 f = b8 g := by
  unfold b8
  rw [h 0 (by omega), h 1 (by omega), h 2 (by omega), h 3 (by omega), h 4 (by omega), h 5 (by omega), h 6 (by omega), h 7 (by omega)]

theorem or_tab : ∀ a b c d e f g i : Bool,
    let x := 128 * a.toNat + 64 * b.toNat + 32 * c.toNat + 16 * d.toNat + 8 * e.toNat + 4 * f.toNat + 2 * g.toNat + i.toNat
    (x ||| 128 = 128 * true.toNat + 64 * b.toNat + 32 * c.toNat + 16 * d.toNat + 8 * e.toNat + 4 * f.toNat + 2 * g.toNat + i.toNat) ∧
    (x ||| 64 = 128 * a.toNat + 64 * true.toNat + 32 * c.toNat + 16 * d.toNat + 8 * e.toNat + 4 * f.toNat + 2 * g.toNat + i.toNat) ∧
    (x ||| 32 = 128 * a.toNat + 64 * b.toNat + 32 * true.toNat + 16 * d.toNat + 8 * e.toNat + 4 * f.toNat + 2 * g.toNat + i.toNat) ∧
    (x ||| 16 = 128 * a.toNat + 64 * b.toNat + 32 * c.toNat + 16 * true.toNat + 8 * e.toNat + 4 * f.toNat + 2 * g.toNat + i.toNat) ∧
    (x ||| 8 = 128 * a.toNat + 64 * b.toNat + 32 * c.toNat + 16 * d.toNat + 8 * true.toNat + 4 * f.toNat + 2 * g.toNat + i.toNat) ∧
    (x ||| 4 = 128 * a.toNat + 64 * b.toNat + 32 * c.toNat + 16 * d.toNat + 8 * e.toNat + 4 * true.toNat + 2 * g.toNat + i.toNat) ∧
    (x ||| 2 = 128 * a.toNat + 64 * b.toNat + 32 * c.toNat + 16 * d.toNat + 8 * e.toNat + 4 * f.toNat + 2 * true.toNat + i.toNat) ∧
    (x ||| 1 = 128 * a.toNat + 64 * b.toNat + 32 * c.toNat + 16 * d.toNat + 8 * e.toNat + 4 * f.toNat + 2 * g.toNat + true.toNat) := by decide +kernel

theorem tb_tab : ∀ a b c d e f g i : Bool,
    let x := 128 * a.toNat + 64 * b.toNat + 32 * c.toNat + 16 * d.toNat + 8 * e.toNat + 4 * f.toNat + 2 * g.toNat + i.toNat
    x.testBit 7 = a ∧ x.testBit 6 = b ∧ x.testBit 5 = c ∧ x.testBit 4 = d ∧ x.testBit 3 = e ∧ x.testBit 2 = f ∧ x.testBit 1 = g ∧ x.testBit 0 = i := by decide +kernel

theorem b8_or (f : Nat → Bool) (k : Nat) (hk : k < 8) : b8 f ||| (128 / 2 ^ k) = b8 (fun j => if j = k then true else f j) := by
  have h := or_tab (f 0) (f 1) (f 2) (f 3) (f 4) (f 5) (f 6) (f 7)
  simp only [] at h
  rcases lt8 hk with rfl | rfl | rfl | rfl | rfl | rfl | rfl | rfl <;> simp only [b8] <;> simp <;> simp at h <;> (first | exact h.1 | exact h.2.1 | exact h.2.2.1 | exact h.2.2.2.1 | exact h.2.2.2.2.1 | exact h.2.2.2.2.2.1 | exact h.2.2.2.2.2.2.1 | exact h.2.2.2.2.2.2.2)

theorem b8_bit (f : Nat → Bool) (k : Nat) (hk : k < 8) : (b8 f).testBit (7 - k) = f k := by
  have h := tb_tab (f 0) (f 1) (f 2) (f 3) (f 4) (f 5) (f 6) (f 7)
  simp only [] at h
  rcases lt8 hk with rfl | rfl | rfl | rfl | rfl | rfl | rfl | rfl <;> (first | exact h.1 | exact h.2.1 | exact h.2.2.1 | exact h.2.2.2.1 | exact h.2.2.2.2.1 | exact h.2.2.2.2.2.1 | exact h.2.2.2.2.2.2.1 | exact h.2.2.2.2.2.2.2)

theorem b8_of (x : Nat) (hx : x < 256) : b8 (fun k => x.testBit (7 - k)) = x := by
  have h : ∀ x : Fin 256, b8 (fun k => x.val.testBit (7 - k)) = x.val := by decide +kernel
  exact h ⟨x, hx⟩

/-- Two bytes with the same bits are one. -/
theorem byte_ext {x y : Nat} (hx : x < 256) (hy : y < 256) (h : ∀ k, k < 8 → x.testBit (7 - k) = y.testBit (7 - k)) : x = y := by
  rw [← b8_of x hx, ← b8_of y hy]; exact b8_congr h

theorem byteAt_lt (l : List Bool) (j : Nat) : byteAt l j < 256 := b8_lt _
theorem byteAt_bit (l : List Bool) (j k : Nat) (hk : k < 8) : (byteAt l j).testBit (7 - k) = l.getD (8 * j + k) false := by
  unfold byteAt; rw [b8_bit _ _ hk]

@[simp] theorem packN_length (l : List Bool) (m : Nat) : (packN l m).length = m := by simp [packN]
@[simp] theorem pack_length (l : List Bool) : (pack l).length = nbs l.length := by simp [pack]
@[simp] theorem unpack_length (bs : List Nat) (n : Nat) : (unpack bs n).length = n := by simp [unpack]
@[simp] theorem numBits_length (v n : Nat) : (numBits v n).length = n := by simp [numBits]
theorem packN_getElem (l : List Bool) (m j : Nat) (h : j < (packN l m).length) : (packN l m)[j] = byteAt l j := by simp [packN]
theorem packN_get? (l : List Bool) (m j : Nat) (h : j < m) : (packN l m)[j]? = some (byteAt l j) := by simp [packN, h]
theorem packN_getD (l : List Bool) (m j : Nat) (h : j < m) : (packN l m).getD j 0 = byteAt l j := by simp [packN, h]
theorem packN_lt (l : List Bool) (m : Nat) : ∀ x ∈ packN l m, x < 256 := by
  intro x hx
  simp only [packN, List.mem_map] at hx
  obtain ⟨j, _, rfl⟩ := hx
  exact byteAt_lt _ _

theorem packN_succ (l : List Bool) (m : Nat) (h : l.length ≤ 8 * m) : packN l (m + 1) = packN l m ++ [0] := by
  simp only [packN, List.range_succ, List.map_append, List.map_cons, List.map_nil]
  congr 2
  unfold byteAt
  rw [b8_congr (g := fun _ => false)]
  · rfl
  · intro k _
    rw [List.getD_eq_getElem?_getD, List.getElem?_eq_none (by omega)]; rfl

theorem packN_false (l : List Bool) (m : Nat) : packN (l ++ [false]) m = packN l m := by
  simp only [packN]
  refine List.map_congr_left fun j _ => ?_
  unfold byteAt
  refine b8_congr fun k _ => ?_
  simp only [List.getD_eq_getElem?_getD, List.getElem?_append]
  split
  · rfl
  · next h =>
    rw [List.getElem?_eq_none (l := l) (by omega)]
    by_cases e : 8 * j + k - l.length = 0
    · rw [e]; rfl
    · rw [List.getElem?_eq_none (by simp; omega)]

theorem packN_true (l : List Bool) (m : Nat) :
    packN (l ++ [true]) m = (packN l m).set (l.length / 8) (byteAt l (l.length / 8) ||| mk l.length) := by
  apply List.ext_getElem
  · simp
  · intro j h1 h2
    simp only [packN_length] at h1
    rw [packN_getElem, List.getElem_set]
    split
    · next e =>
      subst e
      unfold byteAt mk
      rw [b8_or _ _ (by omega)]
      refine b8_congr fun k hk => ?_
      simp only [List.getD_eq_getElem?_getD, List.getElem?_append]
      by_cases e : k = l.length % 8
      · rw [if_pos e, if_neg (by omega), show 8 * (l.length / 8) + k - l.length = 0 from by omega]; rfl
      · rw [if_neg e]
        split
        · rfl
        · rw [List.getElem?_eq_none (l := l) (by omega), List.getElem?_eq_none (by simp; omega)]
    · next e =>
      rw [packN_getElem]
      unfold byteAt
      refine b8_congr fun k hk => ?_
      simp only [List.getD_eq_getElem?_getD, List.getElem?_append]
      split
      · rfl
      · rw [List.getElem?_eq_none (l := l) (by omega), List.getElem?_eq_none (by simp; omega)]

theorem bitAt_packN (l : List Bool) (m i : Nat) (h : i < 8 * m) : bitAt (packN l m) i = l.getD i false := by
  unfold bitAt
  rw [packN_getD _ _ _ (by omega), byteAt_bit _ _ _ (by omega)]
  congr 1; omega

/-- What is packed and read again. -/
theorem unpack_pack (l : List Bool) : unpack (pack l) l.length = l := by
  apply List.ext_getElem
  · simp
  · intro i h1 h2
    simp only [unpack, List.getElem_map, List.getElem_range]
    unfold pack nbs
    rw [bitAt_packN _ _ _ (by omega)]
    simp [h2]

theorem unpack_take (bs : List Nat) (n k : Nat) (h : k ≤ n) : (unpack bs n).take k = unpack bs k := by
  apply List.ext_getElem
  · simp; omega
  · intro i h1 h2; simp [unpack]

theorem unpack_getD (bs : List Nat) (n i : Nat) (h : i < n) : (unpack bs n).getD i false = bitAt bs i := by simp [unpack, h]

/-- The mask's bit is the byte's. -/
theorem and_mk (x i : Nat) (hx : x < 256) : (x &&& mk i != 0) = x.testBit (7 - i % 8) := by
  have h : ∀ x : Fin 256, ∀ k : Fin 8, (x.val &&& (128 / 2 ^ k.val) != 0) = x.val.testBit (7 - k.val) := by decide +kernel
  exact h ⟨x, hx⟩ ⟨i % 8, by omega⟩

theorem mk_pos (i : Nat) : 0 < mk i := by
  have h : ∀ k : Fin 8, 0 < 128 / 2 ^ k.val := by decide
  exact h ⟨i % 8, by omega⟩
theorem mk_lt (i : Nat) : mk i < 256 := Nat.lt_of_le_of_lt (Nat.div_le_self _ _) (by omega)
theorem or_lt (x y : Nat) (hx : x < 256) (hy : y < 256) : x ||| y < 256 := Nat.or_lt_two_pow (n := 8) hx hy

theorem getD_lt {bs : List Nat} (hb : ∀ x ∈ bs, x < 256) (j : Nat) : bs.getD j 0 < 256 := by
  rw [List.getD_eq_getElem?_getD]
  by_cases h : j < bs.length
  · rw [List.getElem?_eq_getElem h]; exact hb _ (List.getElem_mem _)
  · rw [List.getElem?_eq_none (by omega)]; decide

theorem byteAt_unpack (bs : List Nat) (n j : Nat) (hb : ∀ x ∈ bs, x < 256) (hj : j < nbs n) :
    byteAt (unpack bs n) j = if 8 * j + 8 ≤ n then bs.getD j 0 else bs.getD j 0 &&& (255 - 255 / 2 ^ (n % 8)) := by
  have hm : ∀ x : Fin 256, ∀ r k : Fin 8, (x.val &&& (255 - 255 / 2 ^ r.val)).testBit (7 - k.val) = (x.val.testBit (7 - k.val) && decide (k.val < r.val)) := by decide +kernel
  unfold nbs at hj
  have hx := getD_lt hb j
  apply byte_ext (byteAt_lt _ _)
  · split
    · exact hx
    · exact Nat.lt_of_le_of_lt Nat.and_le_left hx
  · intro k hk
    rw [byteAt_bit _ _ _ hk]
    split
    · rw [unpack_getD _ _ _ (by omega)]
      unfold bitAt
      rw [show (8 * j + k) / 8 = j from by omega, show (8 * j + k) % 8 = k from by omega]
    · have := hm ⟨bs.getD j 0, hx⟩ ⟨n % 8, by omega⟩ ⟨k, hk⟩
      simp only [] at this
      rw [this]
      by_cases e : 8 * j + k < n
      · rw [unpack_getD _ _ _ e]
        unfold bitAt
        rw [show (8 * j + k) / 8 = j from by omega, show (8 * j + k) % 8 = k from by omega, decide_eq_true (by omega), Bool.and_true]
      · rw [List.getD_eq_getElem?_getD, List.getElem?_eq_none (by simp; omega), decide_eq_false (by omega), Bool.and_false]; rfl

theorem getD_get (bs : List Nat) (j : Nat) (h : j < bs.length) : bs.getD j 0 = bs[j] := by
  rw [List.getD_eq_getElem?_getD, List.getElem?_eq_getElem h]; rfl

/-- The first n bits of bytes, packed: the bytes' own. -/
theorem pack_unpack0 (bs : List Nat) (n : Nat) (hb : ∀ x ∈ bs, x < 256) (h : nbs n ≤ bs.length) (h0 : n % 8 = 0) : pack (unpack bs n) = bs.take (nbs n) := by
  apply List.ext_getElem
  · simp; omega
  · intro j h1 h2
    have h3 : j < nbs n := by simpa using h1
    have hp : (pack (unpack bs n))[j] = byteAt (unpack bs n) j := by simp [pack, packN]
    rw [hp, byteAt_unpack _ _ _ hb h3]
    unfold nbs at h3 h
    rw [if_pos (by omega), getD_get _ _ (by omega)]
    simp

/-- The first n bits of bytes, packed: the bytes' own, but for the last one's bits behind. -/
theorem pack_unpack1 (bs : List Nat) (n : Nat) (hb : ∀ x ∈ bs, x < 256) (h : nbs n ≤ bs.length) (h0 : n % 8 ≠ 0) :
    pack (unpack bs n) = (bs.take (nbs n)).set (nbs n - 1) (bs.getD (nbs n - 1) 0 &&& (255 - 255 / 2 ^ (n % 8))) := by
  apply List.ext_getElem
  · simp; omega
  · intro j h1 h2
    have h3 : j < nbs n := by simpa using h1
    have hp : (pack (unpack bs n))[j] = byteAt (unpack bs n) j := by simp [pack, packN]
    rw [hp, byteAt_unpack _ _ _ hb h3, List.getElem_set]
    by_cases c : 8 * j + 8 ≤ n
    · rw [if_pos c, if_neg (by unfold nbs; omega), getD_get _ _ (by omega)]
      simp
    · have ej : nbs n - 1 = j := by unfold nbs at h3 ⊢; omega
      rw [if_neg c, if_pos ej, ej]

/-! Numbers -/
theorem snoc_ind {p : List Bool → Prop} (h0 : p []) (h1 : ∀ l b, p l → p (l ++ [b])) (l : List Bool) : p l := by
  have h : ∀ r : List Bool, p r.reverse := by
    intro r
    induction r with
    | nil => exact h0
    | cons a r ih => rw [List.reverse_cons]; exact h1 _ _ ih
  have := h l.reverse
  rwa [List.reverse_reverse] at this

theorem val_snoc (l : List Bool) (b : Bool) : val (l ++ [b]) = 2 * val l + b.toNat := by simp [val]
theorem val_lt (l : List Bool) : val l < 2 ^ l.length := by
  refine snoc_ind (p := fun l => val l < 2 ^ l.length) (by simp [val]) (fun l b ih => ?_) l
  rw [val_snoc]
  simp only [List.length_append, List.length_cons, List.length_nil, Nat.zero_add]
  rw [Nat.pow_succ]
  cases b <;> simp <;> omega

theorem numBits_succ (v n : Nat) : numBits v (n + 1) = v.testBit n :: numBits v n := by
  simp only [numBits, List.range_succ_eq_map, List.map_cons, List.map_map]
  congr 1
  refine List.map_congr_left fun i _ => ?_
  simp only [Function.comp]
  congr 1; omega

theorem numBits_snoc (v n : Nat) : numBits v (n + 1) = numBits (v / 2) n ++ [v % 2 == 1] := by
  apply List.ext_getElem
  · simp
  · intro i h1 h2
    simp only [numBits, List.getElem_map, List.getElem_range]
    rw [List.getElem_append]
    split
    · next h =>
      simp only [List.length_map, List.length_range] at h
      simp only [List.getElem_map, List.getElem_range]
      rw [← Nat.testBit_succ]
      congr 1; omega
    · next h =>
      simp only [List.length_map, List.length_range] at h
      have h3 : i < n + 1 := by simpa using h1
      have e : i = n := by omega
      subst e
      simp [Nat.testBit_zero]
      rfl

theorem val_numBits (v n : Nat) : val (numBits v n) = v % 2 ^ n := by
  induction n generalizing v with
  | zero => simp [numBits, val, Nat.mod_one]
  | succ n ih =>
    rw [numBits_snoc, val_snoc, ih, Nat.pow_succ, Nat.mul_comm (2 ^ n) 2, Nat.mod_mul]
    have : (v % 2 == 1).toNat = v % 2 := by
      rcases Nat.mod_two_eq_zero_or_one v with h | h <;> simp [h]
    omega

theorem numBits_val (l : List Bool) : numBits (val l) l.length = l := by
  refine snoc_ind (p := fun l => numBits (val l) l.length = l) rfl (fun l b ih => ?_) l
  simp only [List.length_append, List.length_cons, List.length_nil, Nat.zero_add]
  rw [numBits_snoc, val_snoc]
  have h1 : (2 * val l + b.toNat) / 2 = val l := by cases b <;> simp <;> omega
  have h2 : ((2 * val l + b.toNat) % 2 == 1) = b := by cases b <;> simp <;> omega
  rw [h1, h2, ih]

/-- Numbers with the same lowest bits have the same bits. -/
theorem numBits_mod (v n : Nat) : numBits (v % 2 ^ n) n = numBits v n := by
  have h := numBits_val (numBits v n)
  rwa [val_numBits, numBits_length] at h

end Go.Proofs.YtkphonepblkcdaaGreatDoor.Bits
