/-
  fail.At over a chain: the number of the first *fail.Error whose place it is.
-/
import Derived.Test.YtkphonepblkcdaaGreatDoorEach
import Derived.Deep.QuietTactic
import Derived.BigQuiet
namespace Go.Proofs.YtkphonepblkcdaaGreatDoor
open Go.RowKit Go.Extern.Stop Go.Stop Go.Extern Mem
set_option linter.unusedVariables false
set_option maxRecDepth 100000

theorem Mem.Fr.drewN {S : List Nat} {a b : World} (h : Fr S a b) (n : Nat) : Fr S a (b.drewN n) := ⟨h.os, h.tape, h.output, h.size, h.block⟩

def BoolVar (w : World) (b : Nat) (n : Bool) : Prop := w.heap[b]? = some (.cells #[.bool n] 4 (0, 0))
theorem BoolVar.kept {w w' : World} {b : Nat} {n : Bool} {S : List Nat} (h : BoolVar w b n) (f : Fr S w w') (hn : b ∉ S) : BoolVar w' b n := f.heap h hn
theorem BoolVar.set {w : World} {b : Nat} {n : Bool} (h : BoolVar w b n) (m : Bool) : BoolVar (w.setCell ⟨b, 0, none⟩ (.bool m)) b m := by
  simp [BoolVar, World.setCell, Array.getElem?_modify]
  rw [BoolVar] at h
  simp [h]
def StrVar (w : World) (b : Nat) (s : ByteArray) : Prop := w.heap[b]? = some (.cells #[.string s] 9 (0, 0))
theorem StrVar.kept {w w' : World} {b : Nat} {n : ByteArray} {S : List Nat} (h : StrVar w b n) (f : Fr S w w') (hn : b ∉ S) : StrVar w' b n := f.heap h hn

/-- The number of the first one whose place it is. -/
def atOf (name : ByteArray) : List Node → Option Int
  | [] => none
  | n :: r => if n.p.toList == name.toList then some n.a else atOf name r
theorem atOf_append (name : ByteArray) : ∀ (pre r : List Node), (∀ n ∈ pre, (n.p.toList == name.toList) = false) → atOf name (pre ++ r) = atOf name r
  | [], _, _ => rfl
  | m :: pre, r, h => by
    rw [List.cons_append, atOf, if_neg (by rw [h m (by simp)]; simp), atOf_append name pre r (fun n hn => h n (by simp [hn]))]

set_option maxHeartbeats 1000000 in
theorem at_miss (n : Node) (u : Value) (bs bi bb : Nat) (s : ByteArray) (w : World) (hn : w.heap[n.b]? = some (.cells #[.int .i64 n.c, .string n.p, .int .i64 n.a, u] 112 (0, 0)))
    (hs : StrVar w bs s) (hb : BoolVar w bb false) (hne : (n.p.toList == s.toList) = false) :
    Calls Tryz.prog 63 #[.pointer (some ⟨n.b, 0, none⟩), .pointer (some ⟨bs, 0, none⟩), .pointer (some ⟨bi, 0, none⟩), .pointer (some ⟨bb, 0, none⟩)] w fun e w' => e = .returned (.bool true) ∧ Fr [] w w' := by
  have h1 : w.cell? ⟨n.b, 1, none⟩ = some (.string n.p) := by rw [cell_at hn]; rfl
  have h2 : w.cell? ⟨bs, 0, none⟩ = some (.string s) := by rw [cell_at hs]; rfl
  have h3 : w.cell? ⟨bb, 0, none⟩ = some (.bool false) := by rw [cell_at hb]; rfl
  clear hn hs hb
  go_enter Tryz.func63, Tryz.ntmps63
  go_wp2
  go_quiet (fail)
  go_wp2
  go_ret
  exact ⟨rfl, (Fr.refl _ _).drewN _⟩

set_option maxHeartbeats 1000000 in
theorem at_hit (n : Node) (u : Value) (bs bi bb : Nat) (s : ByteArray) (w : World) (hn : w.heap[n.b]? = some (.cells #[.int .i64 n.c, .string n.p, .int .i64 n.a, u] 112 (0, 0)))
    (hs : StrVar w bs s) (hi : IntVar w bi 0) (hb : BoolVar w bb false) (hne : (n.p.toList == s.toList) = true) (hd : bi ≠ bb) :
    Calls Tryz.prog 63 #[.pointer (some ⟨n.b, 0, none⟩), .pointer (some ⟨bs, 0, none⟩), .pointer (some ⟨bi, 0, none⟩), .pointer (some ⟨bb, 0, none⟩)] w fun e w' => e = .returned (.bool false) ∧ IntVar w' bi n.a ∧ BoolVar w' bb true ∧ Fr [bi, bb] w w' := by
  have h1 : w.cell? ⟨n.b, 1, none⟩ = some (.string n.p) := by rw [cell_at hn]; rfl
  have h1' : w.cell? ⟨n.b, 2, none⟩ = some (.int .i64 n.a) := by rw [cell_at hn]; rfl
  have h2 : w.cell? ⟨bs, 0, none⟩ = some (.string s) := by rw [cell_at hs]; rfl
  have h3 : w.cell? ⟨bb, 0, none⟩ = some (.bool false) := by rw [cell_at hb]; rfl
  have h4 : w.cell? ⟨bi, 0, none⟩ = some (.int .i64 0) := by rw [cell_at hi]; rfl
  have h5 : w.frozen? ⟨bi, 0, none⟩ = false := frozen_at hi 0
  have h6 : w.frozen? ⟨bb, 0, none⟩ = false := frozen_at hb 0
  have hd' : ¬ bb = bi := fun h => hd h.symm
  have HI : Hid (IntVar w bi 0) := hi
  have HB : Hid (BoolVar w bb false) := hb
  clear hn hs hb hi
  go_enter Tryz.func63, Tryz.ntmps63
  go_wp2
  go_quiet (fail)
  go_wp2
  go_ret
  have hI1 : IntVar ((w.drewN nq).setCell ⟨bi, 0, none⟩ (.int .i64 n.a)) bi n.a := IntVar.set (w := w.drewN nq) HI.out n.a
  have hB1 : BoolVar ((w.drewN nq).setCell ⟨bi, 0, none⟩ (.int .i64 n.a)) bb false := BoolVar.kept (w := w.drewN nq) HB.out ((Fr.refl [bi] _).setCell _ _ (.inl (by simp))) (by simpa using hd')
  refine ⟨rfl, ?_, ?_, ?_⟩
  · exact hI1.kept ((Fr.refl [bb] _).setCell ⟨bb, 0, none⟩ (.bool true) (.inl (by simp))) (by simpa using hd)
  · exact hB1.set true
  · exact ((((Fr.refl [bi, bb] w).drewN nq).setCell ⟨bi, 0, none⟩ _ (.inl (by simp))).setCell ⟨bb, 0, none⟩ _ (.inl (by simp)))

/-- What fail.At answers. -/
def atRes (name : ByteArray) (l : List Node) : Value := .tuple #[.int .i64 ((atOf name l).getD 0), .bool (atOf name l).isSome]

set_option maxHeartbeats 2000000 in
theorem at_chain (sa : Addr) (last : Value) (l : List Node) (v : Value) (name : ByteArray) (w : World) (hE : Env sa w) (hl : IsLast sa last) (h : Chain w last l v) (hw : 2 ≤ w.heap.size) :
    Calls Tryz.prog 28 #[v, .string name] w fun e w' => e = .returned (atRes name l) ∧ Fr [] w w' := by
  have HE : Hid (Env sa w) := hE
  have HL : Hid (IsLast sa last) := hl
  have HC : Hid (Chain w last l v) := h
  have hlt : Hid (∀ n ∈ l, n.b < w.heap.size) := h.lt
  clear hE hl h
  go_enter Tryz.func28, Tryz.ntmps28
  go_wp2_with fail
  have s1 : ((w.alloc (.cells #[.string name] 9)).alloc (.cells #[.int .i64 0] 3)).heap[w.heap.size]? = some (.cells #[.string name] 9) := by
    rw [Below.heap_alloc _ _ _ (by simp)]
    exact heap_alloc_new w _
  have s2 : ((w.alloc (.cells #[.string name] 9)).alloc (.cells #[.int .i64 0] 3)).heap[w.heap.size + 1]? = some (.cells #[.int .i64 0] 3) := by
    have := heap_alloc_new (w.alloc (.cells #[.string name] 9)) (.cells #[.int .i64 0] 3)
    simpa using this
  have s3 : (((w.alloc (.cells #[.string name] 9)).alloc (.cells #[.int .i64 0] 3)).alloc (.cells #[.bool false] 4)).heap[w.heap.size + 2]? = some (.cells #[.bool false] 4) := by
    have := heap_alloc_new ((w.alloc (.cells #[.string name] 9)).alloc (.cells #[.int .i64 0] 3)) (.cells #[.bool false] 4)
    simpa using this
  have HV : Hid (StrVar (((w.alloc (.cells #[.string name] 9)).alloc (.cells #[.int .i64 0] 3)).alloc (.cells #[.bool false] 4)) w.heap.size name ∧ IntVar (((w.alloc (.cells #[.string name] 9)).alloc (.cells #[.int .i64 0] 3)).alloc (.cells #[.bool false] 4)) (w.heap.size + 1) 0 ∧ BoolVar (((w.alloc (.cells #[.string name] 9)).alloc (.cells #[.int .i64 0] 3)).alloc (.cells #[.bool false] 4)) (w.heap.size + 2) false) := by
    refine ⟨?_, ?_, s3⟩
    · unfold StrVar; rw [Below.heap_alloc _ _ _ (by simp; omega)]; exact s1
    · unfold IntVar; rw [Below.heap_alloc _ _ _ (by simp)]; exact s2
  have HF0 : Hid (Fr [] w (((w.alloc (.cells #[.string name] 9)).alloc (.cells #[.int .i64 0] 3)).alloc (.cells #[.bool false] 4))) := (((Fr.refl [] w).alloc _).alloc _).alloc _
  clear s1 s2 s3
  refine (each_chain sa last l v 63 _ enters_at
    (fun r w' => ∃ pre, l = pre ++ r ∧ (∀ n ∈ pre, (n.p.toList == name.toList) = false) ∧ StrVar w' w.heap.size name ∧ IntVar w' (w.heap.size + 1) 0 ∧ BoolVar w' (w.heap.size + 2) false ∧ Fr [] w w')
    (fun w' => ∃ a, atOf name l = some a ∧ IntVar w' (w.heap.size + 1) a ∧ BoolVar w' (w.heap.size + 2) true ∧ Fr [] w w') _ HL.out ?_ ?_ ?_ ?_).mono ?_
  · rintro r w' ⟨pre, _, _, _, _, _, f⟩
    exact ⟨HE.out.kept0 f, HC.out.kept0 f⟩
  · rintro r w1 w2 ⟨pre, hp, hn, h1, h2, h3, f⟩ f2
    exact ⟨pre, hp, hn, h1.kept f2 (by simp), h2.kept f2 (by simp), h3.kept f2 (by simp), f.trans f2 (by simp)⟩
  · rintro pre n r w1 hp ⟨pre', hp', hn, h1, h2, h3, f⟩
    have hpp : pre = pre' := by
      rw [hp] at hp'
      exact (List.append_inj_left' hp' rfl)
    subst hpp
    have hC1 := HC.out.kept0 f
    rw [hp] at hC1
    obtain ⟨u, hu, -⟩ := Chain.at hC1
    by_cases hq : (n.p.toList == name.toList) = true
    · refine (at_hit n u w.heap.size (w.heap.size + 1) (w.heap.size + 2) name w1 hu h1 h2 h3 hq (by omega)).mono ?_
      rintro e w2 ⟨rfl, hi, hb, f2⟩
      refine ⟨false, rfl, (fun h => by cases h), fun _ => ⟨n.a, ?_, hi, hb, f.trans f2 ?_⟩⟩
      · rw [hp, atOf_append name pre _ hn, atOf, if_pos hq]
      · simp
    · have hq' : (n.p.toList == name.toList) = false := by simpa using hq
      refine (at_miss n u w.heap.size (w.heap.size + 1) (w.heap.size + 2) name w1 hu h1 h3 hq').mono ?_
      rintro e w2 ⟨rfl, f2⟩
      refine ⟨true, rfl, fun _ => ⟨pre ++ [n], by rw [hp]; simp, ?_, h1.kept f2 (by simp), h2.kept f2 (by simp), h3.kept f2 (by simp), f.trans f2 (by simp)⟩, fun h => by cases h⟩
      intro m hm
      rcases List.mem_append.1 hm with h | h
      · exact hn m h
      · rw [List.mem_singleton.1 h]; exact hq'
  · exact ⟨[], rfl, by simp, HV.out.1, HV.out.2.1, HV.out.2.2, HF0.out⟩
  · rintro e w1 ⟨rfl, h⟩
    have HX : Hid (∃ a, w1.cell? ⟨w.heap.size + 1, 0, none⟩ = some (.int .i64 a) ∧ ∃ b, w1.cell? ⟨w.heap.size + 2, 0, none⟩ = some (.bool b) ∧ atRes name l = .tuple #[.int .i64 a, .bool b] ∧ Fr [] w w1) := by
      rcases h with ⟨pre, hp, hn, h1, h2, h3, f⟩ | ⟨a, ha, h2, h3, f⟩
      · refine ⟨0, by rw [cell_at h2]; rfl, false, by rw [cell_at h3]; rfl, ?_, f⟩
        have e1 : atOf name l = none := by rw [hp, atOf_append name pre [] hn]; rfl
        rw [atRes, e1]; rfl
      · refine ⟨a, by rw [cell_at h2]; rfl, true, by rw [cell_at h3]; rfl, ?_, f⟩
        rw [atRes, ha]; rfl
    clear h
    obtain ⟨a, ha, b, hb, hr, f⟩ := HX.out
    have HR : Hid (atRes name l = .tuple #[.int .i64 a, .bool b]) := hr
    have HF : Hid (Fr [] w w1) := f
    clear HX hr f
    go_wp2
    go_quiet (fail)
    go_wp2
    go_ret2
    exact ⟨by rw [HR.out]; rfl, HF.out.drewN _⟩
end Go.Proofs.YtkphonepblkcdaaGreatDoor
