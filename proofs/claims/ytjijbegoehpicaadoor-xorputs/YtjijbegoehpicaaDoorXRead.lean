/-
  Package xor: Get: what was put is read, and where nothing is left it is short.
-/
import Derived.Test.YtjijbegoehpicaaDoorXNext
namespace Go.Proofs.YtjijbegoehpicaaDoor
open Go.RowKit Mem Bits Windows
set_option linter.unusedSimpArgs false
set_option linter.unusedVariables false

set_option maxRecDepth 100000 in
set_option maxHeartbeats 1000000 in
theorem xgetV_of (w : World) (p q g : Nat) (s : XRow) (l : List Bool) (P lim : Nat) (sh : Bool) (V A W : Nat) (hx : Xr w p s) (hr : Rd w q g l 0 0 sh ∨ q < w.heap.size ∧ g < w.heap.size) (hpq : p ≠ q) (hpg : p ≠ g) (hn : s.n ≤ 1000000000)
    (hN : Calls Tryd.prog 31 #[.pointer (some ⟨p, 0, none⟩), .pointer (some ⟨q, 0, none⟩)] w fun e w' => e = .returned (.tuple #[.int .u64 (V : Int), win A W, .int .i64 0]) ∧ Rd w' q g l P lim sh ∧ Fr [q] w w') :
    Calls Tryd.prog 19 #[.pointer (some ⟨p, 0, none⟩), .pointer (some ⟨q, 0, none⟩)] w fun e w' => e = .returned (.tuple #[.int .u64 (V : Int), .int .i64 0]) ∧ Xr w' p ⟨V, s.n + 1, A, W⟩ ∧ Rd w' q g l P lim sh ∧ Fr [p, q] w w' := by
  have hxl := hx.lt
  go_enter Tryd.func19, Tryd.ntmps19
  go_wp2_with fail
  refine hN.mono ?_
  rintro e w2 ⟨rfl, hr2, hF2⟩
  have hx2 := hx.kept hF2 (by simp; omega)
  clear hx hN hr
  have hfZ : Fr [] w2 (w2.alloc (.cells #[.int .i64 (A : Int), .int .i64 (W : Int)] 55)) := (Fr.refl _ _).alloc _
  have hZ : (w2.alloc (.cells #[.int .i64 (A : Int), .int .i64 (W : Int)] 55)).heap[w2.heap.size]? = some (.cells #[.int .i64 (A : Int), .int .i64 (W : Int)] 55 (0, 0)) := heap_alloc_new _ _
  have hx3 := hx2.kept hfZ (by simp)
  have k0 : (w2.alloc (.cells #[.int .i64 (A : Int), .int .i64 (W : Int)] 55)).cell? ⟨w2.heap.size, 0, none⟩ = some (.int .i64 (A : Int)) := by rw [cell_at hZ]; rfl
  have k1 : (w2.alloc (.cells #[.int .i64 (A : Int), .int .i64 (W : Int)] 55)).cell? ⟨w2.heap.size, 1, none⟩ = some (.int .i64 (W : Int)) := by rw [cell_at hZ]; rfl
  have c2 := hx3.c2
  have c3 := hx3.c3
  have f2 := frozen_at hx3 2
  have f3 := frozen_at hx3 3
  have HX3 : Hid (Xr _ p s) := hx3
  clear hZ hx3
  go_wp2_with fail
  generalize w2.alloc (.cells #[.int .i64 (A : Int), .int .i64 (W : Int)] 55) = w3 at *
  have hr3 := hr2.kept hfZ (by simp) (by simp)
  have hF3 : Fr [q] w w3 := hF2.trans hfZ (by simp)
  clear hr2 hx2 hF2 hfZ
  have hff : Fr [p] w3 ((w3.setCell ⟨p, 2, none⟩ (.int .i64 (A : Int))).setCell ⟨p, 3, none⟩ (.int .i64 (W : Int))) := ((Fr.refl [p] w3).setCell _ _ (.inl (by simp))).setCell _ _ (.inl (by simp))
  have hx4 : Xr ((w3.setCell ⟨p, 2, none⟩ (.int .i64 (A : Int))).setCell ⟨p, 3, none⟩ (.int .i64 (W : Int))) p ⟨s.last, s.n, A, W⟩ := by
    have := HX3.out
    unfold Xr at this ⊢
    simp [World.setCell, Array.getElem?_modify, this]
  generalize (w3.setCell ⟨p, 2, none⟩ (.int .i64 (A : Int))).setCell ⟨p, 3, none⟩ (.int .i64 (W : Int)) = w4 at *
  have hr4 := hr3.kept hff (by simp; omega) (by simp; omega)
  have hF4 : Fr [p, q] w w4 := (hF3.mono (S' := [p, q]) (by simp)).trans hff (by simp)
  clear hr3 hF3 k0 k1 c2 c3 f2 f3 HX3 hff
  refine (xadd_any w4 p ⟨s.last, s.n, A, W⟩ V hx4 hn).mono ?_
  rintro e w5 ⟨rfl, hx5, hf5⟩
  have hr5 := hr4.kept hf5 (by simp; omega) (by simp; omega)
  have hF5 : Fr [p, q] w w5 := hF4.trans hf5 (by simp)
  clear hr4 hF4 hf5 hx4
  go_wp2_with fail
  go_ret2
  exact ⟨by first | rfl | trivial, hx5, hr5, hF5⟩

set_option maxRecDepth 100000 in
set_option maxHeartbeats 1000000 in
theorem xgetV_short (w : World) (p q g : Nat) (s : XRow) (l : List Bool) (pos lim : Nat) (sh : Bool) (hx : Xr w p s) (h : Rd w q g l pos lim sh) (hb : l.length ≤ 4294967296) (h3 : lim < pos + 1) (hpq : p ≠ q) (hn : s.n ≠ 0) :
    Calls Tryd.prog 19 #[.pointer (some ⟨p, 0, none⟩), .pointer (some ⟨q, 0, none⟩)] w fun e w' => e = .returned (.tuple #[.int .u64 0, .int .i64 16]) ∧ Xr w' p s ∧ Rd w' q g l pos lim sh ∧ Fr [q] w w' := by
  have hN := next_short w p q g s l pos lim sh hx h hb h3 hpq hn
  clear h
  go_enter Tryd.func19, Tryd.ntmps19
  go_wp2_with fail
  refine hN.mono ?_
  rintro e w2 ⟨rfl, hr2, hF2⟩
  have hx2 := hx.kept hF2 (by simp; omega)
  clear hx hN
  go_wp2_with fail
  go_ret2
  exact ⟨by first | rfl | trivial, hx2.kept ((Fr.refl [] w2).alloc _) (by simp), hr2.kept ((Fr.refl [] w2).alloc _) (by simp) (by simp), hF2.alloc _⟩

/-- What was put is read. -/
theorem xgetV_put (w : World) (p q g : Nat) (s : XRow) (x z : List Bool) (lim : Nat) (sh : Bool) (V : Nat) (hT : XTab w) (hqV : 0 < q) (hx : Xr w p s) (h : Rd w q g (x ++ xbits s V ++ z) x.length lim sh) (hb : (x ++ xbits s V ++ z).length ≤ 4294967296)
    (h3 : x.length + (xbits s V).length ≤ lim) (hpq : p ≠ q) (hpg : p ≠ g) (hs : s.ok) (hn : s.n ≤ 1000000000) (hV : V < 18446744073709551616) :
    Calls Tryd.prog 19 #[.pointer (some ⟨p, 0, none⟩), .pointer (some ⟨q, 0, none⟩)] w fun e w' => e = .returned (.tuple #[.int .u64 (V : Int), .int .i64 0]) ∧ Xr w' p (xnext s V) ∧ Rd w' q g (x ++ xbits s V ++ z) (x.length + (xbits s V).length) lim sh ∧ Fr [p, q] w w' := by
  obtain ⟨l, hl⟩ : ∃ l, l = x ++ xbits s V ++ z := ⟨_, rfl⟩
  rw [← hl] at h hb ⊢
  unfold xnext
  unfold xbits at hl h3 ⊢
  by_cases h0 : s.n = 0
  · rw [if_pos h0] at hl h3 ⊢
    rw [if_pos h0]
    simp only [numBits_length] at h3 ⊢
    refine xgetV_of w p q g s l _ lim sh V s.a s.b hx (.inr h.lt) hpq hpg hn (next_first w p q g s l x.length lim sh V hx h hb h3 hpq h0 ?_)
    rw [rd_at hl rfl (by simp), val_numBits, Nat.mod_eq_of_lt (by omega)]
  · rw [if_neg h0] at hl h3 ⊢
    rw [if_neg h0]
    by_cases hd : V ^^^ s.last = 0
    · rw [if_pos hd] at hl h3 ⊢
      rw [if_pos hd]
      have e : V = s.last := xor_zero.1 hd
      rw [e]
      exact xgetV_of w p q g s l _ lim sh s.last s.a s.b hx (.inr h.lt) hpq hpg hn (next_same w p q g s l x.length lim sh hx h hb h3 hpq h0 (rd_at (y := [false]) hl rfl rfl))
    · rw [if_neg hd] at hl h3 ⊢
      rw [if_neg hd]
      have hD := xor_lt hV hs.1
      have hxo := xor_int hs.1 hD (xor_back s.last V)
      obtain ⟨D, hDe⟩ : ∃ D, D = V ^^^ s.last := ⟨_, rfl⟩
      rw [← hDe] at hd hD hxo hl h3 ⊢
      simp only [List.length_cons] at h3 ⊢
      have hl2 : l = x ++ [true] ++ diffBits s.a s.b D ++ z := by rw [hl]; simp
      have e1 : rd l x.length 1 = 1 := rd_at (y := [true]) (x := x) (z := diffBits s.a s.b D ++ z) (by rw [hl]; simp) rfl rfl
      have hxl : (x ++ [true]).length = x.length + 1 := by simp
      refine xgetV_of w p q g s l _ lim sh V _ _ hx (.inr h.lt) hpq hpg hn (next_diff w p q g s l x.length lim sh D _ _ _ V hx h hb (by omega) hpq h0 e1 hxo ?_)
      intro wx hfx hxx hrx
      by_cases hh : hasW s.a s.b D = true
      · obtain ⟨u1, u2, u3, u4⟩ := own_put (x ++ [true]) z hs.2 hd hD hh
        rw [← hl2, hxl] at u1 u2
        rw [u4]
        have e3 : x.length + ((diffBits s.a s.b D).length + 1) = x.length + 1 + 1 + s.b := by omega
        rw [e3]
        exact getDiff_own wx p q g s l (x.length + 1) lim sh _ _ D hxx hrx hb (by omega) hpq hs.2.le.2 u1 rfl rfl u2 hd hD
      · have hh' : hasW s.a s.b D = false := by simpa using hh
        obtain ⟨u1, u2, u3, u4, u5, u6, u7⟩ := told_put (x ++ [true]) z hd hD hh'
        rw [← hl2, hxl] at u1 u2 u3 u5
        rw [u7]
        have e3 : x.length + ((diffBits s.a s.b D).length + 1) = x.length + 1 + 12 + wb D := by omega
        rw [e3]
        have := wa_wb hd hD
        exact getDiff_told wx p q g s l (x.length + 1) lim sh _ _ _ _ _ D (hT.kept hfx (by simp; omega)) hqV hxx hrx hb (by omega) hpq hs.2.le.2 u1 u2 u3 u4 (by omega) rfl rfl u5 hd hD hh' rfl rfl
end Go.Proofs.YtjijbegoehpicaaDoor
