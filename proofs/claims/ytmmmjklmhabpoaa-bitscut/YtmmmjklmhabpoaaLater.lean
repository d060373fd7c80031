/-
  Package stream: the writer's Len and Bytes in whatever world comes behind, with nothing turned.
-/
import Derived.Test.YtmmmjklmhabpoaaArgs
namespace Go.Proofs.Ytmmmjklmhabpoaa
open Go.RowKit Mem Bits
set_option linter.unusedSimpArgs false
set_option linter.unusedVariables false

/-- Len, Bytes and string(Bytes), in whatever world comes behind wr with nothing turned. -/
theorem bytes_later {wr : World} {p g : Nat} {l : List Bool} (h : Wr wr p g l) (hl : l.length ≤ 4294967296) (wx : World) (hf : Fr [] wr wx) :
    Calls Try.prog 16 #[.pointer (some ⟨p, 0, none⟩)] wx fun e w' => ∃ g', e = .returned (.slice (some ⟨g', 0, none⟩) (nbs l.length) (nbs l.length)) ∧
      Fr [] wr w' ∧ Fr [] wx w' ∧ Fr [] w' w' ∧ ∀ wy, Fr [] w' wy → (convert 22 9 (.slice (some ⟨g', 0, none⟩) (nbs l.length) (nbs l.length))).run Try.prog wy = .ok (.string (str (pack l))) wy := by
  refine (bytes_any wx p g l (h.kept hf (by simp) (by simp)) hl).mono ?_
  rintro e w' ⟨g', rfl, hg, hz, hf2⟩
  refine ⟨g', rfl, hf.trans hf2 (by simp), hf2, Fr.refl _ _, fun wy hy => ?_⟩
  have hrow : Row wy 5 1 (.slice (some ⟨g', 0, none⟩) (nbs l.length) (nbs l.length)) g' (nbs l.length) ((pack l).map u8) :=
    Row.made (hy.heap hg (by simp)) (by unfold maxLen nbs; omega) (by simp)
  exact run_str (Wr.src hrow)
theorem len_later {wr : World} {p g : Nat} {l : List Bool} (h : Wr wr p g l) (wx : World) (hf : Fr [] wr wx) :
    Calls Try.prog 15 #[.pointer (some ⟨p, 0, none⟩)] wx fun e w' => e = .returned (.int .i64 (l.length : Int)) ∧ wx = w' :=
  len_any wx p g l (h.kept hf (by simp) (by simp))

end Go.Proofs.Ytmmmjklmhabpoaa
