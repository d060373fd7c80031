/-
  fail.Text's function for each *fail.Error, and fail.cause.
-/
import Derived.Test.YtobhpachigagkaaDoorBuild
import Derived.Lib.AppendIntMem
import Derived.Deep.RegionHeld3
namespace Go.Proofs.YtobhpachigagkaaDoor
open Go.RowKit Go.Extern.Stop Go.Stop Go.Extern Mem
set_option linter.unusedVariables false
set_option maxRecDepth 100000

theorem itoa_any (n : Int) (h0 : -9223372036854775808 ≤ n) (h1 : n ≤ 9223372036854775807) (w : World) (htab : Lib.TabIs Tryd.prog w "internal/strconv.uint64pow10" .u64 Lib.pow10Tab) :
    Calls Tryd.prog 29 #[.int .i64 n] w fun e w' => e = .returned (.string ⟨(Lib.itoa n).toArray⟩) ∧ Fr [] w w' := by
  refine (Tryd.strconv_Itoa n h0 h1 w htab).mono ?_
  rintro e w' ⟨rfl, k, os, rfl⟩
  exact ⟨rfl, Fr.ofBelow (Lib.below_grow w.heap.size w (Nat.le_refl _) k os)⟩

theorem builder_kept {w w' : World} {B b : Nat} {bs : List Value} (h : Lib.IsBuilderF 64 5 B b bs w) (f : Fr [] w w') : Lib.IsBuilderF 64 5 B b bs w' := by
  have key : ∀ p, Lib.BuilderAtF 64 5 B b p bs w → Lib.BuilderAtF 64 5 B b p bs w' := by
    rintro p ⟨hB, v, hb, hown, hne⟩
    exact ⟨hB, v, f.heap hb (by simp), hown.kept (row := none) ⟨f.os, f.tape, f.output, f.size, fun k hk _ => f.block k hk (by simp)⟩ (by cases hv : v.ownBlock <;> simp), hne⟩
  exact h.elim (fun x => .inl (key _ x)) (fun x => .inr (key _ x))

theorem Env.below {sa : Addr} {w w' : World} {B : Nat} (h : Env sa w) (f : Below B w w') (hB : 5 ≤ B) : Env sa w' := by
  refine ⟨?_, ?_, ?_⟩
  · exact (f.cell (p := ⟨1, 0, none⟩) (by show 1 < B; omega)).trans h.ty
  · exact (f.cell (p := ⟨0, 0, none⟩) (by show 0 < B; omega)).trans h.sent
  · have ht := h.tab
    unfold Lib.TabIs World.var? at ht ⊢
    simp only [Tryd.tabName, Option.bind_some] at ht ⊢
    rw [f.block _ (by omega)]
    exact ht
theorem Chain.below {w w' : World} {last : Value} {B : Nat} (f : Below B w w') : ∀ {l : List Node} {v : Value}, Chain w last l v → (∀ n ∈ l, n.b < B) → Chain w' last l v
  | [], v, h, _ => h
  | n :: r, v, ⟨h1, h2, u, h3, h4⟩, hs => ⟨h1, h2, u, (f.block _ (hs n (by simp))).trans h3, Chain.below f h4 (fun m hm => hs m (by simp [hm]))⟩

theorem itoa_len (n : Int) (h0 : -9223372036854775808 ≤ n) (h1 : n ≤ 9223372036854775807) : (Lib.itoa n).length ≤ 20 := by
  have key : ∀ k u : Nat, u < 10 ^ (k + 1) → (Lib.decDigits u).length ≤ k + 1 := by
    intro k
    induction k with
    | zero => intro u hu; rw [Lib.decDigits]; simp at hu; simp [hu]
    | succ k ih =>
      intro u hu
      rw [Lib.decDigits]
      split
      · simp
      · have := ih (u / 10) (by rw [Nat.div_lt_iff_lt_mul (by decide)]; rw [Nat.pow_succ] at hu; exact hu)
        simp
        omega
  unfold Lib.itoa
  split
  · have := key 18 n.natAbs (by have : (10 : Nat) ^ (18 + 1) = 10000000000000000000 := by decide
                                omega)
    simp
    omega
  · have := key 18 n.toNat (by have : (10 : Nat) ^ (18 + 1) = 10000000000000000000 := by decide
                               omega)
    omega

/-- What one *fail.Error has in the text. -/
def part (n : Node) : List UInt8 := if (n.p.toList == []) = true then [] else n.p.data.toList ++ [32] ++ Lib.itoa n.a ++ [58, 32]

/-- A variable of an error's, in a block of its own. -/
def ErrVar (w : World) (b : Nat) (v : Value) : Prop := w.heap[b]? = some (.cells #[v] 27 (0, 0))
theorem ErrVar.set {w : World} {b : Nat} {v : Value} (h : ErrVar w b v) (u : Value) : ErrVar (w.setCell ⟨b, 0, none⟩ u) b u := by
  simp [ErrVar, World.setCell, Array.getElem?_modify]
  rw [ErrVar] at h
  simp [h]

set_option maxHeartbeats 2000000 in
theorem text_empty (n : Node) (u x : Value) (b bw : Nat) (w : World) (hn : w.heap[n.b]? = some (.cells #[.int .i64 n.c, .string n.p, .int .i64 n.a, u] 54 (0, 0)))
    (hv : ErrVar w bw x) (hu : u = .nilIface ∨ ∃ t p, u = .iface t p) (he : (n.p.toList == []) = true) :
    Calls Tryd.prog 27 #[.pointer (some ⟨n.b, 0, none⟩), .pointer (some ⟨b, 0, none⟩), .pointer (some ⟨bw, 0, none⟩)] w fun e w' => e = .returned (.bool true) ∧ w' = w.setCell ⟨bw, 0, none⟩ u := by
  have h1 : w.cell? ⟨n.b, 1, none⟩ = some (.string n.p) := by rw [cell_at hn]; rfl
  have h2 : w.cell? ⟨n.b, 3, none⟩ = some u := by rw [cell_at hn]; rfl
  have h3 : w.cell? ⟨bw, 0, none⟩ = some x := by rw [cell_at hv]; rfl
  have h4 : w.frozen? ⟨bw, 0, none⟩ = false := frozen_at hv 0
  clear hn hv
  rcases hu with rfl | ⟨t, p, rfl⟩
  all_goals
    go_enter Tryd.func27, Tryd.ntmps27
    go_wp2
    go_ret
    exact ⟨rfl, rfl⟩

theorem size_mk (l : List UInt8) : (ByteArray.mk l.toArray).size = l.length := by simp [ByteArray.size]
theorem adds (a b : ByteArray) (h : a.size + b.size ≤ 9223372036854775807) (w : World) : (Op.stringOp .add a b).run Tryd.prog w = .ok (.string (a ++ b)) w := run_string_add_sum w a b h
theorem data_append (a b : ByteArray) : (a ++ b).data.toList = a.data.toList ++ b.data.toList := by simp [ByteArray.data_append]

set_option maxHeartbeats 2000000 in
theorem text_part (n : Node) (u x : Value) (B b bw : Nat) (acc : List UInt8) (w : World) (htab : Lib.TabIs Tryd.prog w "internal/strconv.uint64pow10" .u64 Lib.pow10Tab) (hn : w.heap[n.b]? = some (.cells #[.int .i64 n.c, .string n.p, .int .i64 n.a, u] 54 (0, 0)))
    (hv : ErrVar w bw x) (hu : u = .nilIface ∨ ∃ t p, u = .iface t p) (he : (n.p.toList == []) = false) (hb : Lib.IsBuilderF 64 5 B b (Lib.byteCells acc) w) (hBw : B ≤ w.heap.size) (hnB : n.b < B) (hbw : bw ≠ b)
    (ha0 : -9223372036854775808 ≤ n.a) (ha1 : n.a ≤ 9223372036854775807) (hp : n.p.size ≤ 1000000) (hl : acc.length ≤ 100000000) :
    Calls Tryd.prog 27 #[.pointer (some ⟨n.b, 0, none⟩), .pointer (some ⟨b, 0, none⟩), .pointer (some ⟨bw, 0, none⟩)] w fun e w' => e = .returned (.bool true) ∧ ∃ w1, Lib.IsBuilderF 64 5 B b (Lib.byteCells (acc ++ part n)) w1 ∧ Below B w w1 ∧ ErrVar w1 bw x ∧ w' = w1.setCell ⟨bw, 0, none⟩ u := by
  have h1 : w.cell? ⟨n.b, 1, none⟩ = some (.string n.p) := by rw [cell_at hn]; rfl
  have h1' : w.cell? ⟨n.b, 2, none⟩ = some (.int .i64 n.a) := by rw [cell_at hn]; rfl
  have h2 : w.cell? ⟨n.b, 3, none⟩ = some u := by rw [cell_at hn]; rfl
  have hil := itoa_len n.a ha0 ha1
  have s1 : (ByteArray.mk #[32]).size = 1 := rfl
  have s2 : (ByteArray.mk #[58, 32]).size = 2 := rfl
  have s3 := size_mk (Lib.itoa n.a)
  have a1 := adds n.p ⟨#[32]⟩ (by omega)
  have a2 := adds (n.p ++ ⟨#[32]⟩) ⟨(Lib.itoa n.a).toArray⟩ (by rw [ByteArray.size_append]; omega)
  have a3 := adds ((n.p ++ ⟨#[32]⟩) ++ ⟨(Lib.itoa n.a).toArray⟩) ⟨#[58, 32]⟩ (by rw [ByteArray.size_append, ByteArray.size_append]; omega)
  have HS : Hid ((((n.p ++ ⟨#[32]⟩) ++ ⟨(Lib.itoa n.a).toArray⟩ : ByteArray) ++ ⟨#[58, 32]⟩).size ≤ 1000023) := by
    rw [Hid, ByteArray.size_append, ByteArray.size_append, ByteArray.size_append]; omega
  have HN : Hid (w.heap[n.b]? = some (.cells #[.int .i64 n.c, .string n.p, .int .i64 n.a, u] 54 (0, 0))) := hn
  have HV : Hid (ErrVar w bw x) := hv
  have HB : Hid (Lib.IsBuilderF 64 5 B b (Lib.byteCells acc) w) := hb
  have HT : Hid (Lib.TabIs Tryd.prog w "internal/strconv.uint64pow10" .u64 Lib.pow10Tab) := htab
  clear hn hv hb htab hil s1 s2 s3
  go_enter Tryd.func27, Tryd.ntmps27
  go_wp2
  go_region_held3 (fun w' => w'.cell? ⟨n.b, 1, none⟩ = some (.string n.p) ∧ w'.cell? ⟨n.b, 2, none⟩ = some (.int .i64 n.a)) (go_keep) (first
    | (go_at_call 29; refine (itoa_any n.a ha0 ha1 _ ?_).mono ?_; exact HT.out; rintro e w1 ⟨rfl, f1⟩; have k1 := f1.cell_some (p := ⟨n.b, 1, none⟩) (v := .string n.p) h1 (by simp); have k2 := f1.cell_some (p := ⟨n.b, 2, none⟩) (v := .int .i64 n.a) h1' (by simp))
    | (go_at_call 28; refine (writeString_any B b (Lib.byteCells acc) _ _ (builder_kept HB.out ⟨f1.os, f1.tape, f1.output, f1.size, f1.block⟩) (by rw [Lib.byteCells_length]; have := HS.out; omega) (by have := f1.size; simp at this; omega)).mono ?_; rintro e w2 ⟨rfl, b2, l2, o2⟩; have m1 : w2.cell? ⟨n.b, 1, none⟩ = some (.string n.p) := (l2.cell (p := ⟨n.b, 1, none⟩) hnB).trans k1; have m2 : w2.cell? ⟨n.b, 2, none⟩ = some (.int .i64 n.a) := (l2.cell (p := ⟨n.b, 2, none⟩) hnB).trans k2))
  have F1 : Fr [] w w1 := ⟨f1.os, f1.tape, f1.output, f1.size, f1.block⟩
  have L2 : Below B w w2 := (F1.below hBw (by simp)).trans l2
  have m3 : w2.cell? ⟨n.b, 3, none⟩ = some u := (L2.cell (p := ⟨n.b, 3, none⟩) hnB).trans h2
  have V2 : ErrVar w2 bw x := o2 bw _ (F1.heap HV.out (by simp)) (by simpa using hbw) (by intro c fz hc; cases hc)
  have m4 : w2.cell? ⟨bw, 0, none⟩ = some x := by rw [cell_at V2]; rfl
  have m5 : w2.frozen? ⟨bw, 0, none⟩ = false := frozen_at V2 0
  have B2 : Lib.IsBuilderF 64 5 B b (Lib.byteCells (acc ++ part n)) w2 := by
    have e1 : Lib.byteCells (acc ++ part n) = Lib.byteCells acc ++ Lib.strCells (((n.p ++ ⟨#[32]⟩) ++ ⟨(Lib.itoa n.a).toArray⟩ : ByteArray) ++ ⟨#[58, 32]⟩) := by
      rw [Lib.byteCells_append, Lib.strCells_eq, data_append, data_append, data_append, part, if_neg (by rw [he]; simp)]
    rw [e1]
    exact .inr b2
  have HX : Hid (Lib.IsBuilderF 64 5 B b (Lib.byteCells (acc ++ part n)) w2 ∧ Below B w w2 ∧ ErrVar w2 bw x) := ⟨B2, L2, V2⟩
  clear f1 k1 k2 b2 l2 o2 m1 m2 F1 L2 V2 B2 HV HB HT HN HS a1 a2 a3
  rcases hu with rfl | ⟨t, p, rfl⟩
  all_goals
    go_wp2
    go_ret
    exact ⟨rfl, w2, HX.out.1, HX.out.2.1, HX.out.2.2, rfl⟩
end Go.Proofs.YtobhpachigagkaaDoor
