/-
  No cell of these rows narrows 'for every input' (looked for: loops, veiled, ifaces, maps, wideKeys, modest, calm, conditions, laid).
  DERIVED. THE GIVEN ROWS OF THIS SEAT. 7 by the template 'for every input the law returns true; each argument reads behind the call as it read before'; 0 by the template 'total and deterministic' (their statements: YtjkiiccdcjcfbaaTotals.lean).
  GIVEN WITH THE SEED: the statements are not yours to turn. If you find one false, say at which input.
  Laid BY PROGRAM, IN A SANDBOX (cutbox-rows.mjs): the forced cells as the released guide's own fill.sh prints them over the translation 790a1aae1c6e0eff… (all of the seat's roots in one cut). By AI agents, Wed Nov 11 2026. No macro, syntax, notation, axiom, sorry.
-/
import Derived.Test.YtjkiiccdcjcfbaaChecked
import GoSem.Claim
import GoSem.ClaimJoined
import GoSem.ClaimMapViews
import Derived.JoinedTies
import Derived.KernelRfl
namespace Go.Proofs.Ytjkiiccdcjcfbaa
/- THE CELL 'sum', in the pinned program and in every row, IS THE sha256 OF THE DUMP (.gsa) THAT YtjkiiccdcjcfbaaProg.lean LOADS. Nothing in Lean hashes anything: it is a label: what it is worth is what the hold of that sum in a sandbox is worth. -/
noncomputable def Try.pinned : Pinned := { name := "ytjkiiccdcjcfbaa", sum := "790a1aae1c6e0eff01dafb874e0194bc60394c184bccb5ce4913311ad8463e43", checked := Try.checked }
namespace Rows
def none {H : Type} : Left H := { results := [], args := [] }

/-- 'tidepolelaw09.HistChecks': WHATEVER THE INPUT: true; the input reads as it did. -/
def histChecksSpec : ChangeSpec := { name := "histChecks", fn := fun _ => fun
  | [d1, d2] => { results := [.lit (.bool true)], args := [d1, d2] }
  | _ => none }
def histChecksRow : OpenClaim := { program := "ytjkiiccdcjcfbaa", sum := "790a1aae1c6e0eff01dafb874e0194bc60394c184bccb5ce4913311ad8463e43", func := "tidepole/tidepolelaw09.HistChecks", spec := "histChecks", unfollowed := true, recurses := true, apart := false }
def HistChecksSaid : Prop := histChecksRow.holds Try.pinned (OpenSpec.ofChange histChecksSpec)

/-- ITS FALSE NEIGHBOUR: 'it returns false'. Refute it at one input. -/
def histChecksWrong : ChangeSpec := { name := "histChecks", fn := fun _ => fun
  | [d1, d2] => { results := [.lit (.bool false)], args := [d1, d2] }
  | _ => none }
def HistChecksWrongFalsely : Prop := histChecksRow.holds Try.pinned (OpenSpec.ofChange histChecksWrong)

/-- 'tidepolelaw09.HistPairs': WHATEVER THE INPUT: true; the input reads as it did. -/
def histPairsSpec : ChangeSpec := { name := "histPairs", fn := fun _ => fun
  | [d1, d2] => { results := [.lit (.bool true)], args := [d1, d2] }
  | _ => none }
def histPairsRow : OpenClaim := { program := "ytjkiiccdcjcfbaa", sum := "790a1aae1c6e0eff01dafb874e0194bc60394c184bccb5ce4913311ad8463e43", func := "tidepole/tidepolelaw09.HistPairs", spec := "histPairs", unfollowed := true, recurses := true, apart := false }
def HistPairsSaid : Prop := histPairsRow.holds Try.pinned (OpenSpec.ofChange histPairsSpec)

/-- ITS FALSE NEIGHBOUR: 'it returns false'. Refute it at one input. -/
def histPairsWrong : ChangeSpec := { name := "histPairs", fn := fun _ => fun
  | [d1, d2] => { results := [.lit (.bool false)], args := [d1, d2] }
  | _ => none }
def HistPairsWrongFalsely : Prop := histPairsRow.holds Try.pinned (OpenSpec.ofChange histPairsWrong)

/-- 'tidepolelaw09.HistMakes': WHATEVER THE INPUT: true; the input reads as it did. -/
def histMakesSpec : ChangeSpec := { name := "histMakes", fn := fun _ => fun
  | [d1, d2, d3] => { results := [.lit (.bool true)], args := [d1, d2, d3] }
  | _ => none }
def histMakesRow : OpenClaim := { program := "ytjkiiccdcjcfbaa", sum := "790a1aae1c6e0eff01dafb874e0194bc60394c184bccb5ce4913311ad8463e43", func := "tidepole/tidepolelaw09.HistMakes", spec := "histMakes", unfollowed := true, recurses := true, apart := false }
def HistMakesSaid : Prop := histMakesRow.holds Try.pinned (OpenSpec.ofChange histMakesSpec)

/-- ITS FALSE NEIGHBOUR: 'it returns false'. Refute it at one input. -/
def histMakesWrong : ChangeSpec := { name := "histMakes", fn := fun _ => fun
  | [d1, d2, d3] => { results := [.lit (.bool false)], args := [d1, d2, d3] }
  | _ => none }
def HistMakesWrongFalsely : Prop := histMakesRow.holds Try.pinned (OpenSpec.ofChange histMakesWrong)

/-- 'tidepolelaw09.HistCanon': WHATEVER THE INPUT: true; the input reads as it did. -/
def histCanonSpec : ChangeSpec := { name := "histCanon", fn := fun _ => fun
  | [d] => { results := [.lit (.bool true)], args := [d] }
  | _ => none }
def histCanonRow : OpenClaim := { program := "ytjkiiccdcjcfbaa", sum := "790a1aae1c6e0eff01dafb874e0194bc60394c184bccb5ce4913311ad8463e43", func := "tidepole/tidepolelaw09.HistCanon", spec := "histCanon", unfollowed := true, recurses := true, apart := false }
def HistCanonSaid : Prop := histCanonRow.holds Try.pinned (OpenSpec.ofChange histCanonSpec)

/-- ITS FALSE NEIGHBOUR: 'it returns false'. Refute it at one input. -/
def histCanonWrong : ChangeSpec := { name := "histCanon", fn := fun _ => fun
  | [d] => { results := [.lit (.bool false)], args := [d] }
  | _ => none }
def HistCanonWrongFalsely : Prop := histCanonRow.holds Try.pinned (OpenSpec.ofChange histCanonWrong)

/-- 'tidepolelaw09.HistEqual': WHATEVER THE INPUT: true; the input reads as it did. -/
def histEqualSpec : ChangeSpec := { name := "histEqual", fn := fun _ => fun
  | [d1, d2] => { results := [.lit (.bool true)], args := [d1, d2] }
  | _ => none }
def histEqualRow : OpenClaim := { program := "ytjkiiccdcjcfbaa", sum := "790a1aae1c6e0eff01dafb874e0194bc60394c184bccb5ce4913311ad8463e43", func := "tidepole/tidepolelaw09.HistEqual", spec := "histEqual", unfollowed := true, recurses := true, apart := false }
def HistEqualSaid : Prop := histEqualRow.holds Try.pinned (OpenSpec.ofChange histEqualSpec)

/-- ITS FALSE NEIGHBOUR: 'it returns false'. Refute it at one input. -/
def histEqualWrong : ChangeSpec := { name := "histEqual", fn := fun _ => fun
  | [d1, d2] => { results := [.lit (.bool false)], args := [d1, d2] }
  | _ => none }
def HistEqualWrongFalsely : Prop := histEqualRow.holds Try.pinned (OpenSpec.ofChange histEqualWrong)

/-- 'tidepolelaw09.HistOver': WHATEVER THE INPUT: true; the input reads as it did. -/
def histOverSpec : ChangeSpec := { name := "histOver", fn := fun _ => fun
  | [d1, d2, d3] => { results := [.lit (.bool true)], args := [d1, d2, d3] }
  | _ => none }
def histOverRow : OpenClaim := { program := "ytjkiiccdcjcfbaa", sum := "790a1aae1c6e0eff01dafb874e0194bc60394c184bccb5ce4913311ad8463e43", func := "tidepole/tidepolelaw09.HistOver", spec := "histOver", unfollowed := true, recurses := true, apart := false }
def HistOverSaid : Prop := histOverRow.holds Try.pinned (OpenSpec.ofChange histOverSpec)

/-- ITS FALSE NEIGHBOUR: 'it returns false'. Refute it at one input. -/
def histOverWrong : ChangeSpec := { name := "histOver", fn := fun _ => fun
  | [d1, d2, d3] => { results := [.lit (.bool false)], args := [d1, d2, d3] }
  | _ => none }
def HistOverWrongFalsely : Prop := histOverRow.holds Try.pinned (OpenSpec.ofChange histOverWrong)

/-- 'tidepolelaw09.HistWalks': WHATEVER THE INPUT: true; the input reads as it did. -/
def histWalksSpec : ChangeSpec := { name := "histWalks", fn := fun _ => fun
  | [d1, d2] => { results := [.lit (.bool true)], args := [d1, d2] }
  | _ => none }
def histWalksRow : OpenClaim := { program := "ytjkiiccdcjcfbaa", sum := "790a1aae1c6e0eff01dafb874e0194bc60394c184bccb5ce4913311ad8463e43", func := "tidepole/tidepolelaw09.HistWalks", spec := "histWalks", unfollowed := true, recurses := true, apart := false }
def HistWalksSaid : Prop := histWalksRow.holds Try.pinned (OpenSpec.ofChange histWalksSpec)

/-- ITS FALSE NEIGHBOUR: 'it returns false'. Refute it at one input. -/
def histWalksWrong : ChangeSpec := { name := "histWalks", fn := fun _ => fun
  | [d1, d2] => { results := [.lit (.bool false)], args := [d1, d2] }
  | _ => none }
def HistWalksWrongFalsely : Prop := histWalksRow.holds Try.pinned (OpenSpec.ofChange histWalksWrong)

/- THE SECOND FORM. 'bulk': how many values and letters a reading holds, each counted each time it is reached (what is shared counts as often as it is met; a slice's spare places count too). A statement '..UptoSaid' is the law's where the arguments, and the package variables that the reading takes, are together of bulk at most 1048576: NARROWER than '..Said'. Prove '..Said' where nothing that the law and all that it calls make is longer than what came in: it says more and counts as full. Else prove '..UptoSaid'. A law counts once. -/
mutual
def uptoBulk {H : Type} : DataW H → Nat
  | .lit (.string bytes) => bytes.length + 1
  | .lit _ => 1
  | .nil => 1
  | .ptr d => uptoBulk d + 1
  | .slice elems spare => uptoBulkAll elems + uptoBulkAll spare + 1
  | .agg parts => uptoBulkAll parts + 1
  | .iface _ d => uptoBulk d + 1
  | .map entries => uptoBulkEntries entries + 1
  | .held _ => 1
def uptoBulkAll {H : Type} : List (DataW H) → Nat
  | [] => 0
  | d :: r => uptoBulk d + uptoBulkAll r
def uptoBulkEntries {H : Type} : List (Lit × DataW H) → Nat
  | [] => 0
  | x :: r => uptoBulkEntry x + uptoBulkEntries r
def uptoBulkEntry {H : Type} : Lit × DataW H → Nat
  | (.string bytes, d) => bytes.length + uptoBulk d + 1
  | (_, d) => uptoBulk d + 1
 end
def uptoSmall : (H : Type) → List (DataW H) → Bool := fun _ ds => decide (uptoBulkAll ds ≤ 1048576)
def OpenSpec.upto (s : _root_.Go.ChangeSpec) : _root_.Go.OpenSpec := { _root_.Go.OpenSpec.ofChange s with cond := some uptoSmall }

/-- 'tidepolelaw09.HistChecks', WHERE WHAT IT READS IS OF BULK AT MOST 1048576: true; the input reads as it did. -/
def histChecksUptoRow : OpenClaim := { program := "ytjkiiccdcjcfbaa", sum := "790a1aae1c6e0eff01dafb874e0194bc60394c184bccb5ce4913311ad8463e43", func := "tidepole/tidepolelaw09.HistChecks", spec := "histChecks", unfollowed := true, recurses := true, apart := false, narrowed := true }
def HistChecksUptoSaid : Prop := histChecksUptoRow.holds Try.pinned (OpenSpec.upto histChecksSpec)

/-- 'tidepolelaw09.HistPairs', WHERE WHAT IT READS IS OF BULK AT MOST 1048576: true; the input reads as it did. -/
def histPairsUptoRow : OpenClaim := { program := "ytjkiiccdcjcfbaa", sum := "790a1aae1c6e0eff01dafb874e0194bc60394c184bccb5ce4913311ad8463e43", func := "tidepole/tidepolelaw09.HistPairs", spec := "histPairs", unfollowed := true, recurses := true, apart := false, narrowed := true }
def HistPairsUptoSaid : Prop := histPairsUptoRow.holds Try.pinned (OpenSpec.upto histPairsSpec)

/-- 'tidepolelaw09.HistMakes', WHERE WHAT IT READS IS OF BULK AT MOST 1048576: true; the input reads as it did. -/
def histMakesUptoRow : OpenClaim := { program := "ytjkiiccdcjcfbaa", sum := "790a1aae1c6e0eff01dafb874e0194bc60394c184bccb5ce4913311ad8463e43", func := "tidepole/tidepolelaw09.HistMakes", spec := "histMakes", unfollowed := true, recurses := true, apart := false, narrowed := true }
def HistMakesUptoSaid : Prop := histMakesUptoRow.holds Try.pinned (OpenSpec.upto histMakesSpec)

/-- 'tidepolelaw09.HistCanon', WHERE WHAT IT READS IS OF BULK AT MOST 1048576: true; the input reads as it did. -/
def histCanonUptoRow : OpenClaim := { program := "ytjkiiccdcjcfbaa", sum := "790a1aae1c6e0eff01dafb874e0194bc60394c184bccb5ce4913311ad8463e43", func := "tidepole/tidepolelaw09.HistCanon", spec := "histCanon", unfollowed := true, recurses := true, apart := false, narrowed := true }
def HistCanonUptoSaid : Prop := histCanonUptoRow.holds Try.pinned (OpenSpec.upto histCanonSpec)

/-- 'tidepolelaw09.HistEqual', WHERE WHAT IT READS IS OF BULK AT MOST 1048576: true; the input reads as it did. -/
def histEqualUptoRow : OpenClaim := { program := "ytjkiiccdcjcfbaa", sum := "790a1aae1c6e0eff01dafb874e0194bc60394c184bccb5ce4913311ad8463e43", func := "tidepole/tidepolelaw09.HistEqual", spec := "histEqual", unfollowed := true, recurses := true, apart := false, narrowed := true }
def HistEqualUptoSaid : Prop := histEqualUptoRow.holds Try.pinned (OpenSpec.upto histEqualSpec)

/-- 'tidepolelaw09.HistOver', WHERE WHAT IT READS IS OF BULK AT MOST 1048576: true; the input reads as it did. -/
def histOverUptoRow : OpenClaim := { program := "ytjkiiccdcjcfbaa", sum := "790a1aae1c6e0eff01dafb874e0194bc60394c184bccb5ce4913311ad8463e43", func := "tidepole/tidepolelaw09.HistOver", spec := "histOver", unfollowed := true, recurses := true, apart := false, narrowed := true }
def HistOverUptoSaid : Prop := histOverUptoRow.holds Try.pinned (OpenSpec.upto histOverSpec)

/-- 'tidepolelaw09.HistWalks', WHERE WHAT IT READS IS OF BULK AT MOST 1048576: true; the input reads as it did. -/
def histWalksUptoRow : OpenClaim := { program := "ytjkiiccdcjcfbaa", sum := "790a1aae1c6e0eff01dafb874e0194bc60394c184bccb5ce4913311ad8463e43", func := "tidepole/tidepolelaw09.HistWalks", spec := "histWalks", unfollowed := true, recurses := true, apart := false, narrowed := true }
def HistWalksUptoSaid : Prop := histWalksUptoRow.holds Try.pinned (OpenSpec.upto histWalksSpec)

end Rows
end Go.Proofs.Ytjkiiccdcjcfbaa
