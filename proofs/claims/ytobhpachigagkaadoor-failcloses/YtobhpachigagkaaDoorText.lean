/-
  fail.Text over a chain; (*fail.Error).Error.
-/
import Derived.Test.YtobhpachigagkaaDoorTextStep
namespace Go.Proofs.YtobhpachigagkaaDoor
open Go.RowKit Go.Extern.Stop Go.Stop Go.Extern Mem
set_option linter.unusedVariables false
set_option maxRecDepth 100000

set_option maxHeartbeats 1000000 in
theorem cause_nil (c : Int) (h0 : -9223372036854775808 ≤ c) (h1 : c ≤ 9223372036854775807) (sa : Addr) (w : World) (hE : Env sa w) :
    Calls Tryd.prog 30 #[.nilIface, .int .i64 c] w fun e w' => e = .returned (.string ⟨(Lib.itoa c).toArray⟩) ∧ Fr [] w w' := by
  have HE : Hid (Env sa w) := hE
  clear hE
  go_enter Tryd.func30, Tryd.ntmps30
  go_wp2_with fail
  refine (itoa_any c h0 h1 _ HE.out.tab).mono ?_
  rintro e w1 ⟨rfl, f1⟩
  go_wp2_with fail
  go_ret
  exact ⟨rfl, f1⟩

def closedBytes : List UInt8 := [99, 108, 111, 115, 101, 100]

set_option maxHeartbeats 1000000 in
theorem cause_sent (c : Int) (sa : Addr) (w : World) (hE : Env sa w) :
    Calls Tryd.prog 30 #[sentOf sa, .int .i64 c] w fun e w' => e = .returned (.string ⟨closedBytes.toArray⟩) ∧ Fr [] w w' := by
  have HE : Hid (Env sa w) := hE
  clear hE
  unfold sentOf
  go_enter Tryd.func30, Tryd.ntmps30
  go_wp2_with fail
  refine (closed_chain sa (sentOf sa) [] (sentOf sa) _ HE.out (.inr rfl) rfl).mono ?_
  rintro e w1 ⟨rfl, f1⟩
  have hb : endsB (sentOf sa) = true := rfl
  rw [hb]
  go_wp2_with fail
  go_ret
  exact ⟨rfl, f1⟩

/-- The text's end. -/
def causeOf (last : Value) (l : List Node) : List UInt8 := if endsB last = true then closedBytes else Lib.itoa (codeOf last l)
/-- The text of a chain. -/
def textOf (last : Value) (l : List Node) : List UInt8 := (l.map part).flatten ++ causeOf last l

theorem cause_any (sa : Addr) (last : Value) (l : List Node) (w : World) (hE : Env sa w) (hl : IsLast sa last) (h0 : -9223372036854775808 ≤ codeOf last l) (h1 : codeOf last l ≤ 9223372036854775807) :
    Calls Tryd.prog 30 #[last, .int .i64 (codeOf last l)] w fun e w' => e = .returned (.string ⟨(causeOf last l).toArray⟩) ∧ Fr [] w w' := by
  rcases hl with rfl | rfl
  · exact cause_nil _ h0 h1 sa w hE
  · exact cause_sent _ sa w hE

theorem builder_set {w : World} {B b : Nat} {bs : List Value} {bw : Nat} {x : Value} (h : Lib.IsBuilderF 64 5 B b bs w) (hv : ErrVar w bw x) (hne : bw ≠ b) (u : Value) :
    Lib.IsBuilderF 64 5 B b bs (w.setCell ⟨bw, 0, none⟩ u) := by
  have key : ∀ p, Lib.BuilderAtF 64 5 B b p bs w → Lib.BuilderAtF 64 5 B b p bs (w.setCell ⟨bw, 0, none⟩ u) := by
    rintro p ⟨hB, v, hb, hown, hn⟩
    refine ⟨hB, v, (Below.heap_setCell _ _ _ _ (fun e => hne e.symm)).trans hb, ?_, hn⟩
    refine hown.kept (row := some bw) ⟨rfl, rfl, rfl, by simp [World.setCell], fun k _ hk => Below.heap_setCell _ _ _ _ (fun e => hk (by simp [e]))⟩ ?_
    exact Or.inr (Lib.ownBlock_neF hown hv (by decide))
  exact h.elim (fun x => .inl (key _ x)) (fun x => .inr (key _ x))

theorem Chain.shape {sa : Addr} {w : World} {last : Value} (hl : IsLast sa last) : ∀ {l : List Node} {v : Value}, Chain w last l v → v = .nilIface ∨ ∃ t p, v = .iface t p
  | [], v, h => by
    have : v = last := h
    subst this
    rcases hl with rfl | rfl
    · exact .inl rfl
    · exact .inr ⟨_, _, rfl⟩
  | n :: r, v, h => .inr ⟨_, _, h.1⟩

/-- What a chain has that text may be made of. -/
def Fits (l : List Node) : Prop := l.length ≤ 1000 ∧ ∀ n ∈ l, n.p.size ≤ 1000 ∧ -9223372036854775808 ≤ n.a ∧ n.a ≤ 9223372036854775807 ∧ -9223372036854775808 ≤ n.c ∧ n.c ≤ 9223372036854775807
theorem part_len (n : Node) (h : n.p.size ≤ 1000) (h0 : -9223372036854775808 ≤ n.a) (h1 : n.a ≤ 9223372036854775807) : (part n).length ≤ 1100 := by
  have hi := itoa_len n.a h0 h1
  have hs : n.p.data.toList.length = n.p.size := by rw [Array.length_toList]; rfl
  unfold part
  split
  · simp
  · simp only [List.length_append, hs, List.length_cons, List.length_nil]
    omega
theorem parts_len : ∀ (l : List Node), (∀ n ∈ l, n.p.size ≤ 1000 ∧ -9223372036854775808 ≤ n.a ∧ n.a ≤ 9223372036854775807 ∧ -9223372036854775808 ≤ n.c ∧ n.c ≤ 9223372036854775807) → ((l.map part).flatten).length ≤ 1100 * l.length
  | [], _ => by simp
  | n :: r, h => by
    have h1 := h n (by simp)
    have := part_len n h1.1 h1.2.1 h1.2.2.1
    have := parts_len r (fun m hm => h m (by simp [hm]))
    simp only [List.map_cons, List.flatten_cons, List.length_append, List.length_cons]
    omega
theorem codeOf_range (last : Value) (l : List Node) (h : Fits l) : -9223372036854775808 ≤ codeOf last l ∧ codeOf last l ≤ 9223372036854775807 := by
  rcases l with _ | ⟨n, r⟩
  · show -9223372036854775808 ≤ (if endsB last then (10 : Int) else 0) ∧ (if endsB last then (10 : Int) else 0) ≤ 9223372036854775807
    split <;> omega
  · have := h.2 n (by simp); exact ⟨this.2.2.2.1, this.2.2.2.2⟩

theorem parts_snoc (pre : List Node) (n : Node) : ((pre ++ [n]).map part).flatten = (pre.map part).flatten ++ part n := by simp

set_option maxHeartbeats 2000000 in
/-- What fail.Text hands to fail.each, over one *fail.Error of the chain. -/
theorem text_step (sa : Addr) (last : Value) (l pre r : List Node) (n : Node) (v : Value) (B : Nat) (w0 w : World) (hlp : l = pre ++ n :: r) (hl : IsLast sa last) (hfit : Fits l) (hlt : ∀ m ∈ l, m.b < B) (hG : 5 ≤ B)
    (hE : Env sa w) (hC : Chain w last l v) (hb : Lib.IsBuilderF 64 5 B B (Lib.byteCells (pre.map part).flatten) w) (x : Value) (hx : ErrVar w (B + 1) x) (hbel : Below B w0 w) (hB0 : B ≤ w0.heap.size) :
    Calls Tryd.prog 27 #[.pointer (some ⟨n.b, 0, none⟩), .pointer (some ⟨B, 0, none⟩), .pointer (some ⟨B + 1, 0, none⟩)] w fun e w' => e = .returned (.bool true) ∧
      Lib.IsBuilderF 64 5 B B (Lib.byteCells ((pre ++ [n]).map part).flatten) w' ∧ Below B w0 w' ∧ ∃ u, ErrVar w' (B + 1) u ∧ Chain w' last r u := by
  have hC' := hC
  rw [hlp] at hC'
  obtain ⟨u, hu, hc⟩ := Chain.at hC'
  have hn : n ∈ l := by rw [hlp]; simp
  have hr : ∀ m ∈ r, m ∈ l := fun m hm => by rw [hlp]; simp [hm]
  have hBw : B ≤ w.heap.size := by have := hbel.size; omega
  have hsh := Chain.shape hl hc
  have hf := hfit.2 n hn
  have hal : ((pre.map part).flatten).length ≤ 100000000 := by
    have h1 := parts_len pre (fun m hm => hfit.2 m (by rw [hlp]; simp [hm]))
    have h2 := hfit.1
    rw [hlp] at h2
    simp at h2
    omega
  by_cases he : (n.p.toList == []) = true
  · refine (text_empty n u x B (B + 1) w hu hx hsh he).mono ?_
    rintro e w' ⟨rfl, rfl⟩
    have hbs : Below B w (w.setCell ⟨B + 1, 0, none⟩ u) := (Below.refl B w).setCell (p := ⟨B + 1, 0, none⟩) (by show B ≤ B + 1; omega) _
    refine ⟨rfl, ?_, hbel.trans hbs, u, hx.set u, hc.below hbs (fun m hm => hlt m (hr m hm))⟩
    rw [parts_snoc, part, if_pos he, List.append_nil]
    exact builder_set hb hx (by omega) u
  · have he' : (n.p.toList == []) = false := by simpa using he
    refine (text_part n u x B B (B + 1) _ w hE.tab hu hx hsh he' hb hBw (hlt n hn) (by omega) hf.2.1 hf.2.2.1 (by omega) hal).mono ?_
    rintro e w' ⟨rfl, w1, h1, h2, h3, rfl⟩
    have hbs : Below B w1 (w1.setCell ⟨B + 1, 0, none⟩ u) := (Below.refl B w1).setCell (p := ⟨B + 1, 0, none⟩) (by show B ≤ B + 1; omega) _
    refine ⟨rfl, ?_, (hbel.trans h2).trans hbs, u, h3.set u, (hc.below h2 (fun m hm => hlt m (hr m hm))).below hbs (fun m hm => hlt m (hr m hm))⟩
    rw [parts_snoc]
    exact builder_set h1 h3 (by omega) u

set_option maxHeartbeats 2000000 in
theorem text_chain (sa : Addr) (last : Value) (l : List Node) (t : TypeId) (p : Value) (w : World) (hE : Env sa w) (hl : IsLast sa last) (h : Chain w last l (.iface t p)) (hfit : Fits l) (hw : 5 ≤ w.heap.size) :
    Calls Tryd.prog 16 #[.iface t p] w fun e w' => e = .returned (.string ⟨(textOf last l).toArray⟩) ∧ Fr [] w w' := by
  have HE : Hid (Env sa w) := hE
  have HL : Hid (IsLast sa last) := hl
  have HC : Hid (Chain w last l (.iface t p)) := h
  have HF : Hid (Fits l) := hfit
  have hlt : Hid (∀ n ∈ l, n.b < w.heap.size) := h.lt
  clear hE hl h hfit
  go_enter Tryd.func16, Tryd.ntmps16
  go_wp2_with fail
  have hb0 : Below w.heap.size w ((w.alloc (.cells #[.pointer none, .slice none 0 0] 64)).alloc (.cells #[.iface t p] 27)) := ((Below.refl _ w).alloc (Nat.le_refl _) _).alloc (by simp) _
  have hx0 : ErrVar ((w.alloc (.cells #[.pointer none, .slice none 0 0] 64)).alloc (.cells #[.iface t p] 27)) (w.heap.size + 1) (.iface t p) := by
    have := heap_alloc_new (w.alloc (.cells #[.pointer none, .slice none 0 0] 64)) (.cells #[.iface t p] 27)
    simpa [ErrVar] using this
  have hB0 : Lib.IsBuilderF 64 5 w.heap.size w.heap.size [] ((w.alloc (.cells #[.pointer none, .slice none 0 0] 64)).alloc (.cells #[.iface t p] 27)) :=
    (Lib.IsBuilderF.of (Lib.fresh_isBuilder 64 5 w)).alloc _
  have H0 : Hid (Below w.heap.size w ((w.alloc (.cells #[.pointer none, .slice none 0 0] 64)).alloc (.cells #[.iface t p] 27)) ∧ ErrVar ((w.alloc (.cells #[.pointer none, .slice none 0 0] 64)).alloc (.cells #[.iface t p] 27)) (w.heap.size + 1) (.iface t p) ∧ Lib.IsBuilderF 64 5 w.heap.size w.heap.size [] ((w.alloc (.cells #[.pointer none, .slice none 0 0] 64)).alloc (.cells #[.iface t p] 27))) := ⟨hb0, hx0, hB0⟩
  clear hb0 hx0 hB0
  refine (each_chain sa last l (.iface t p) 27 _ enters_text
    (fun r w' => ∃ pre x, l = pre ++ r ∧ Lib.IsBuilderF 64 5 w.heap.size w.heap.size (Lib.byteCells (pre.map part).flatten) w' ∧ ErrVar w' (w.heap.size + 1) x ∧ Chain w' last r x ∧ Below w.heap.size w w')
    (fun w' => False) _ HL.out ?_ ?_ ?_ ?_).mono ?_
  · rintro r w' ⟨pre, x, _, _, _, _, f⟩
    exact ⟨HE.out.below f hw, HC.out.below f hlt.out⟩
  · rintro r w1 w2 ⟨pre, x, hp, h1, h2, h3, f⟩ f2
    refine ⟨pre, x, hp, builder_kept h1 f2, f2.heap h2 (by simp), h3.kept0 f2, f.trans (f2.below ?_ (by simp))⟩
    exact f.size
  · rintro pre n r w1 hp ⟨pre', x, hp', h1, h2, h3, f⟩
    have hpp : pre = pre' := by
      rw [hp] at hp'
      exact (List.append_inj_left' hp' rfl)
    subst hpp
    refine (text_step sa last l pre r n (.iface t p) w.heap.size w w1 hp HL.out HF.out hlt.out hw (HE.out.below f hw) (HC.out.below f hlt.out) h1 x h2 f (Nat.le_refl _)).mono ?_
    rintro e w' ⟨rfl, h4, h5, u, h6, h7⟩
    exact ⟨true, rfl, fun _ => ⟨pre ++ [n], u, by rw [hp]; simp, h4, h6, h7, h5⟩, fun h => by cases h⟩
  · refine ⟨[], .iface t p, rfl, H0.out.2.2, H0.out.2.1, ?_, H0.out.1⟩
    exact HC.out.below H0.out.1 hlt.out
  · rintro e w1 ⟨rfl, ⟨pre, x, hp, h1, h2, h3, f⟩ | hf⟩
    · have hx : x = last := h3
      subst hx
      have hpre : pre = l := by rw [hp]; simp
      subst hpre
      clear h3 hp
      have hc1 : w1.cell? ⟨w.heap.size + 1, 0, none⟩ = some x := by rw [cell_at h2]; rfl
      have E1 : Hid (Env sa w1) := HE.out.below f hw
      have C1 : Hid (Chain w1 x pre (.iface t p)) := HC.out.below f hlt.out
      have B1 : Hid (Lib.IsBuilderF 64 5 w.heap.size w.heap.size (Lib.byteCells (pre.map part).flatten) w1) := h1
      have V1 : Hid (ErrVar w1 (w.heap.size + 1) x) := h2
      have F1 : Hid (Below w.heap.size w w1) := f
      have R : Hid (-9223372036854775808 ≤ codeOf x pre ∧ codeOf x pre ≤ 9223372036854775807) := codeOf_range x pre HF.out
      clear h1 h2 f H0
      go_wp2
      have hcl : (causeOf x pre).length ≤ 20 := by
        unfold causeOf
        split
        · decide
        · exact itoa_len _ R.out.1 R.out.2
      have hal : ((pre.map part).flatten).length ≤ 100000000 := by
        have h1 := parts_len pre HF.out.2
        have h2 := HF.out.1
        omega
      have hsm := size_mk (causeOf x pre)
      have hz1 : w.heap.size ≤ w1.heap.size := F1.out.size
      go_region_held3 (fun w' => w'.cell? ⟨w.heap.size + 1, 0, none⟩ = some x) (go_keep) (first
        | (go_at_call 10; refine (code_chain sa x pre (.iface t p) _ ?_ HL.out ?_).mono ?_; exact E1.out.kept0 (Fr.refl [] w1).drew; exact C1.out.kept0 (Fr.refl [] w1).drew; rintro e w2 ⟨rfl, f2⟩; have k1 := f2.cell_some (p := ⟨w.heap.size + 1, 0, none⟩) (v := x) hc1 (by simp))
        | (go_at_call 30; refine (cause_any sa x pre _ ?_ HL.out R.out.1 R.out.2).mono ?_; exact (E1.out.kept0 (Fr.refl [] w1).drew).kept0 f2; rintro e w3 ⟨rfl, f3⟩; have k2 := f3.cell_some (p := ⟨w.heap.size + 1, 0, none⟩) (v := x) k1 (by simp))
        | (go_at_call 28; refine (writeString_any w.heap.size w.heap.size (Lib.byteCells (pre.map part).flatten) _ _ (builder_kept (builder_kept (builder_kept B1.out (Fr.refl [] w1).drew) f2) f3) (by rw [Lib.byteCells_length]; omega) (by have h2 := f2.size; have h3 := f3.size; simp at h2; omega)).mono ?_; rintro e w4 ⟨rfl, b4, l4, o4⟩; have k3 : w4.cell? ⟨w.heap.size + 1, 0, none⟩ = some x := by rw [cell_at (o4 _ _ (f3.heap (f2.heap (((Fr.refl [] w1).drew).heap V1.out (by simp)) (by simp)) (by simp)) (by simp) (by intro c fz hc; cases hc))]; rfl))
      have L4 : Below w.heap.size w w4 := ((F1.out.trans ((((Fr.refl [] w1).drew).below hz1 (by simp)).trans (f2.below (by simpa using hz1) (by simp)))).trans (f3.below (by have := f2.size; simp at this; omega) (by simp))).trans l4
      have B4 : Lib.IsBuilderF 64 5 w.heap.size w.heap.size (Lib.byteCells (textOf x pre)) w4 := by
        have e1 : Lib.byteCells (textOf x pre) = Lib.byteCells (pre.map part).flatten ++ Lib.strCells ⟨(causeOf x pre).toArray⟩ := by
          rw [textOf, Lib.byteCells_append, Lib.strCells_eq]
        rw [e1]
        exact .inr b4
      have HL4 : Hid (Below w.heap.size w w4) := L4
      have HB4 : Hid (Lib.IsBuilderF 64 5 w.heap.size w.heap.size (Lib.byteCells (textOf x pre)) w4) := B4
      clear L4 B4 b4 l4 o4 k1 k2 k3 f2 f3 hc1
      go_wp2_with fail
      refine (Tryd.Builder_String_any_k w.heap.size w.heap.size (textOf x pre) _ HB4.out HL4.out.size).mono ?_
      rintro e w5 ⟨rfl, -, l5, -⟩
      go_wp2_with fail
      go_ret
      exact ⟨rfl, Fr.ofBelow (HL4.out.trans l5)⟩
    · exact hf.elim

set_option maxHeartbeats 1000000 in
/-- (*fail.Error).Error: the text of the chain that begins with it. -/
theorem error_chain (sa : Addr) (last : Value) (n : Node) (r : List Node) (w : World) (hE : Env sa w) (hl : IsLast sa last) (h : Chain w last (n :: r) (errOf n.b)) (hfit : Fits (n :: r)) (hw : 5 ≤ w.heap.size) :
    Calls Tryd.prog 20 #[.pointer (some ⟨n.b, 0, none⟩)] w fun e w' => e = .returned (.string ⟨(textOf last (n :: r)).toArray⟩) ∧ Fr [] w w' := by
  have HE : Hid (Env sa w) := hE
  have HL : Hid (IsLast sa last) := hl
  have HC : Hid (Chain w last (n :: r) (errOf n.b)) := h
  have HF : Hid (Fits (n :: r)) := hfit
  clear hE hl h hfit
  go_enter Tryd.func20, Tryd.ntmps20
  go_wp2_with fail
  refine (text_chain sa last (n :: r) _ _ _ HE.out HL.out HC.out HF.out hw).mono ?_
  rintro e w1 ⟨rfl, f1⟩
  go_wp2_with fail
  go_ret
  exact ⟨rfl, f1⟩
end Go.Proofs.YtobhpachigagkaaDoor
