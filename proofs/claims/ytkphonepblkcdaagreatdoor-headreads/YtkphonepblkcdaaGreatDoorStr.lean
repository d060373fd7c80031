/-
  Bytes as strings, and slices of bytes that came in: what later layers ask of package stream beside its calls. (The same declarations stand in Ref, RefBytes, Awake and Args of layer 1: never import both.)
-/
import Derived.Test.YtkphonepblkcdaaGreatDoorPut
import Derived.Test.YtkphonepblkcdaaGreatDoorGet
import Derived.Laws.BytesString
import Derived.Laws.BytesArg
namespace Go.Proofs.YtkphonepblkcdaaGreatDoor
open Go.RowKit Mem Bits
set_option linter.unusedSimpArgs false
set_option linter.unusedVariables false

/-- A string of bytes. -/
def str (bs : List Nat) : ByteArray := ⟨(bs.map UInt8.ofNat).toArray⟩
theorem str_size (bs : List Nat) : (str bs).size = bs.length := by simp [str, ByteArray.size]
theorem str_at (bs : List Nat) (i : Nat) (hb : ∀ x ∈ bs, x < 256) (h : i < (str bs).size) : (str bs)[i].toNat = bs.getD i 0 := by
  have hi : i < bs.length := by rw [str_size] at h; exact h
  have : (str bs)[i] = (bs.map UInt8.ofNat)[i]'(by simpa using hi) := rfl
  rw [this, List.getElem_map, List.getD_eq_getElem?_getD, List.getElem?_eq_getElem hi, UInt8.toNat_ofNat']
  exact Nat.mod_eq_of_lt (hb _ (List.getElem_mem _))

theorem str_append (l m : List Nat) : str l ++ str m = str (l ++ m) := by
  apply ByteArray.ext
  rw [ByteArray.data_append]
  simp [str]

/-- string(b) of a slice of bytes, wherever it lies. -/
theorem run_str {w : World} {v : Value} {bs : List Nat} (h : Src w v bs) : (convert 54 9 v).run Tryz.prog w = .ok (.string (str bs)) w := by
  obtain ⟨ao, cap, rfl, hc1, hc2, hcell, h256⟩ := h
  have e : strOfNums (bs.map (fun x : Nat => (x : Int))) = str bs := by
    apply ByteArray.ext
    simp [strOfNums, str]
  by_cases h0 : bs.length = 0
  · have : bs = [] := List.eq_nil_of_length_eq_zero h0
    subst this
    cases ao with
    | none => rw [run_convert_bytes_nil w 54 5 Tryz.underlying54 Tryz.underlying5 _ _ 9 Tryz.underlying9]; rfl
    | some a =>
      obtain ⟨b, off, spot⟩ := a
      have hl : (loadCells ⟨b, off, spot⟩ 0).run Tryz.prog w = .ok (([] : List Int).map (Value.int .u8)).toArray w := run_loadCells_list (P := Tryz.prog) w ⟨b, off, spot⟩ [] (fun j v hj => by simp at hj)
      rw [run_convert_bytes_string w 54 9 5 _ _ _ Tryz.underlying54 Tryz.underlying5 Tryz.underlying9]
      have := run_bytesToString (P := Tryz.prog) w ⟨b, off, spot⟩ 0 cap [] hl
      rw [List.length_nil, this]; rfl
  · obtain ⟨b, off, rfl, hc⟩ := hcell (by omega)
    rw [run_convert_bytes_arg w 54 5 Tryz.underlying54 Tryz.underlying5 b off bs.length cap (bs.map (fun x : Nat => (x : Int))) (by simp) (fun i hi => by rw [hc i hi]; simp [hi, u8]) 9 Tryz.underlying9, e]

theorem Src.one (w : World) (x : Nat) (hx : x < 256) : Src (w.alloc (.cells #[.int .u8 (x : Int)] 5)) (.slice (some ⟨w.heap.size, 0, none⟩) 1 1) [x] := by
  refine ⟨_, 1, rfl, Nat.le_refl _, by unfold maxLen; omega, fun _ => ⟨w.heap.size, 0, rfl, fun j hj => ?_⟩, by simpa using hx⟩
  have : j = 0 := by simpa using hj
  subst this
  rw [World.cell?_alloc_at _ _ _ _ rfl]; rfl

theorem Src.nil (w : World) : Src w (.slice none 0 0) [] := ⟨none, 0, rfl, Nat.le_refl _, Nat.zero_le _, fun h => by simp at h, fun x hx => by simp at hx⟩

/-- What the walk is told of a slice of integers that came in: it is nil; or it leads to a row of 'cap' cells, the numbers 'zs' (the first 'len' are its elements, the rest its spare room), each fitting its kind. -/
def IsRow (k : IntKind) (w : World) (a : Option Addr) (len cap : Nat) (zs : List Int) : Prop :=
  (a = none ∧ len = 0 ∧ cap = 0 ∧ zs = []) ∨
  ∃ x, a = some x ∧ len ≤ cap ∧ cap ≤ maxLen ∧ zs.length = cap ∧ (∀ i, i < zs.length → w.cell? (x.add i) = some (.int k (zs.getD i 0))) ∧ ∀ n ∈ zs, (Lit.int k n).wf = true

theorem IsRow.src {w : World} {a : Option Addr} {len cap : Nat} {zs : List Int} (h : IsRow .u8 w a len cap zs) : ∃ bs : List Nat, bs.length = len ∧ Src w (.slice a len cap) bs := by
  rcases h with ⟨rfl, rfl, rfl, rfl⟩ | ⟨x, rfl, hl, hm, hz, hc, hw⟩
  · exact ⟨[], rfl, Src.nil w⟩
  · have hlen : ((zs.take len).map Int.toNat).length = len := by simp; omega
    refine ⟨(zs.take len).map Int.toNat, hlen, ?_⟩
    have hbd : ∀ z ∈ zs, 0 ≤ z ∧ z < 256 := by
      intro z hzm
      have := hw z hzm
      simp [Lit.wf, IntKind.min, IntKind.max, IntKind.bits, IntKind.signed] at this
      omega
    refine ⟨some x, cap, by rw [hlen], by omega, hm, ?_, ?_⟩
    · intro h0
      rw [hlen] at h0
      obtain ⟨b, off, spot⟩ := x
      have hc0 := hc 0 (by omega)
      have hspot : spot = none := by simpa [Addr.add] using World.cell?_spot hc0
      subst hspot
      refine ⟨b, off, rfl, fun j hj => ?_⟩
      rw [hlen] at hj
      have e1 : (⟨b, off, none⟩ : Addr).add j = ⟨b, off + j, none⟩ := by unfold Addr.add; split <;> simp_all
      rw [← e1, hc j (by omega)]
      have hjz : j < zs.length := by omega
      have hmem := hbd (zs[j]) (List.getElem_mem hjz)
      simp [u8, List.getElem?_take, hj, hjz]
      omega
    · intro y hy
      simp only [List.mem_map] at hy
      obtain ⟨z, hzm, rfl⟩ := hy
      have := hbd z (List.mem_of_mem_take hzm)
      omega

theorem Src.kept {w w' : World} {v : Value} {bs : List Nat} {S : List Nat} (h : Src w v bs) (f : Fr S w w') (hS : ∀ x ∈ S, w.heap.size ≤ x) : Src w' v bs := by
  obtain ⟨ao, cap, rfl, h1, h2, h3, h4⟩ := h
  refine ⟨ao, cap, rfl, h1, h2, fun h0 => ?_, h4⟩
  obtain ⟨b, off, rfl, hc⟩ := h3 h0
  refine ⟨b, off, rfl, fun j hj => ?_⟩
  have hcj := hc j hj
  refine f.cell_some hcj (fun hm => ?_)
  have := World.block_lt_of_cell? w _ hcj
  have := hS _ hm
  simp at *
  omega

theorem nbs_le {n len : Nat} (h : n ≤ 8 * len) : nbs n ≤ len := by unfold nbs; omega
theorem nbs_gt {n len : Nat} (h : 8 * len < n) : len < nbs n := by unfold nbs; omega
/-- Len, Bytes and string(Bytes), in whatever world comes behind wr with nothing turned. -/
theorem bytes_later {wr : World} {p g : Nat} {l : List Bool} (h : Wr wr p g l) (hl : l.length ≤ 4294967296) (wx : World) (hf : Fr [] wr wx) :
    Calls Tryz.prog 22 #[.pointer (some ⟨p, 0, none⟩)] wx fun e w' => ∃ g', e = .returned (.slice (some ⟨g', 0, none⟩) (nbs l.length) (nbs l.length)) ∧
      Fr [] wr w' ∧ Fr [] wx w' ∧ Fr [] w' w' ∧ ∀ wy, Fr [] w' wy → (convert 54 9 (.slice (some ⟨g', 0, none⟩) (nbs l.length) (nbs l.length))).run Tryz.prog wy = .ok (.string (str (pack l))) wy := by
  refine (bytes_any wx p g l (h.kept hf (by simp) (by simp)) hl).mono ?_
  rintro e w' ⟨g', rfl, hg, hz, hf2⟩
  refine ⟨g', rfl, hf.trans hf2 (by simp), hf2, Fr.refl _ _, fun wy hy => ?_⟩
  have hrow : Row wy 5 1 (.slice (some ⟨g', 0, none⟩) (nbs l.length) (nbs l.length)) g' (nbs l.length) ((pack l).map u8) :=
    Row.made (hy.heap hg (by simp)) (by unfold maxLen nbs; omega) (by simp)
  exact run_str (Wr.src hrow)
theorem len_later {wr : World} {p g : Nat} {l : List Bool} (h : Wr wr p g l) (wx : World) (hf : Fr [] wr wx) :
    Calls Tryz.prog 17 #[.pointer (some ⟨p, 0, none⟩)] wx fun e w' => e = .returned (.int .i64 (l.length : Int)) ∧ wx = w' :=
  len_any wx p g l (h.kept hf (by simp) (by simp))

end Go.Proofs.YtkphonepblkcdaaGreatDoor
