/-
  No cell of these rows narrows 'for every input' (looked for: loops, veiled, ifaces, maps, wideKeys, modest, calm, conditions, laid).
  DERIVED. THE GIVEN ROWS OF THIS SEAT. 9 by the template 'for every input the law returns true; each argument reads behind the call as it read before'; 0 by the template 'total and deterministic' (their statements: YtoaibabkkphlaaaTotals.lean).
  GIVEN WITH THE SEED: the statements are not yours to turn. If you find one false, say at which input.
  Laid BY PROGRAM, IN A SANDBOX (cutbox-rows.mjs): the forced cells as the released guide's own fill.sh prints them over the translation 3846869aac55f78e… (all of the seat's roots in one cut). By AI agents, Wed Nov 11 2026. No macro, syntax, notation, axiom, sorry.
-/
import Derived.Test.YtoaibabkkphlaaaChecked
import GoSem.Claim
import GoSem.ClaimJoined
import GoSem.ClaimMapViews
import Derived.JoinedTies
import Derived.KernelRfl
namespace Go.Proofs.Ytoaibabkkphlaaa
/- THE CELL 'sum', in the pinned program and in every row, IS THE sha256 OF THE DUMP (.gsa) THAT YtoaibabkkphlaaaProg.lean LOADS. Nothing in Lean hashes anything: it is a label: what it is worth is what the hold of that sum in a sandbox is worth. -/
noncomputable def Try.pinned : Pinned := { name := "ytoaibabkkphlaaa", sum := "3846869aac55f78ec943fdeac1f3af51a60327c178ab0c11a1d91ef433aba6a6", checked := Try.checked }
namespace Rows
def none {H : Type} : Left H := { results := [], args := [] }

/-- 'tidepolelaw10.FhistChecks': WHATEVER THE INPUT: true; the input reads as it did. -/
def fhistChecksSpec : ChangeSpec := { name := "fhistChecks", fn := fun _ => fun
  | [d1, d2] => { results := [.lit (.bool true)], args := [d1, d2] }
  | _ => none }
def fhistChecksRow : OpenClaim := { program := "ytoaibabkkphlaaa", sum := "3846869aac55f78ec943fdeac1f3af51a60327c178ab0c11a1d91ef433aba6a6", func := "tidepole/tidepolelaw10.FhistChecks", spec := "fhistChecks", inPlace := ["math.Float64frombits", "math.Float64bits"], unfollowed := true, recurses := true, apart := false }
def FhistChecksSaid : Prop := fhistChecksRow.holds Try.pinned (OpenSpec.ofChange fhistChecksSpec)

/-- ITS FALSE NEIGHBOUR: 'it returns false'. Refute it at one input. -/
def fhistChecksWrong : ChangeSpec := { name := "fhistChecks", fn := fun _ => fun
  | [d1, d2] => { results := [.lit (.bool false)], args := [d1, d2] }
  | _ => none }
def FhistChecksWrongFalsely : Prop := fhistChecksRow.holds Try.pinned (OpenSpec.ofChange fhistChecksWrong)

/-- 'tidepolelaw10.FhistPairs': WHATEVER THE INPUT: true; the input reads as it did. -/
def fhistPairsSpec : ChangeSpec := { name := "fhistPairs", fn := fun _ => fun
  | [d1, d2] => { results := [.lit (.bool true)], args := [d1, d2] }
  | _ => none }
def fhistPairsRow : OpenClaim := { program := "ytoaibabkkphlaaa", sum := "3846869aac55f78ec943fdeac1f3af51a60327c178ab0c11a1d91ef433aba6a6", func := "tidepole/tidepolelaw10.FhistPairs", spec := "fhistPairs", inPlace := ["math.Float64frombits", "math.Float64bits"], unfollowed := true, recurses := true, apart := false }
def FhistPairsSaid : Prop := fhistPairsRow.holds Try.pinned (OpenSpec.ofChange fhistPairsSpec)

/-- ITS FALSE NEIGHBOUR: 'it returns false'. Refute it at one input. -/
def fhistPairsWrong : ChangeSpec := { name := "fhistPairs", fn := fun _ => fun
  | [d1, d2] => { results := [.lit (.bool false)], args := [d1, d2] }
  | _ => none }
def FhistPairsWrongFalsely : Prop := fhistPairsRow.holds Try.pinned (OpenSpec.ofChange fhistPairsWrong)

/-- 'tidepolelaw10.FhistMakes': WHATEVER THE INPUT: true; the input reads as it did. -/
def fhistMakesSpec : ChangeSpec := { name := "fhistMakes", fn := fun _ => fun
  | [d1, d2, d3] => { results := [.lit (.bool true)], args := [d1, d2, d3] }
  | _ => none }
def fhistMakesRow : OpenClaim := { program := "ytoaibabkkphlaaa", sum := "3846869aac55f78ec943fdeac1f3af51a60327c178ab0c11a1d91ef433aba6a6", func := "tidepole/tidepolelaw10.FhistMakes", spec := "fhistMakes", inPlace := ["math.Float64frombits", "math.Float64bits"], unfollowed := true, recurses := true, apart := false }
def FhistMakesSaid : Prop := fhistMakesRow.holds Try.pinned (OpenSpec.ofChange fhistMakesSpec)

/-- ITS FALSE NEIGHBOUR: 'it returns false'. Refute it at one input. -/
def fhistMakesWrong : ChangeSpec := { name := "fhistMakes", fn := fun _ => fun
  | [d1, d2, d3] => { results := [.lit (.bool false)], args := [d1, d2, d3] }
  | _ => none }
def FhistMakesWrongFalsely : Prop := fhistMakesRow.holds Try.pinned (OpenSpec.ofChange fhistMakesWrong)

/-- 'tidepolelaw10.FhistCanon': WHATEVER THE INPUT: true; the input reads as it did. -/
def fhistCanonSpec : ChangeSpec := { name := "fhistCanon", fn := fun _ => fun
  | [d] => { results := [.lit (.bool true)], args := [d] }
  | _ => none }
def fhistCanonRow : OpenClaim := { program := "ytoaibabkkphlaaa", sum := "3846869aac55f78ec943fdeac1f3af51a60327c178ab0c11a1d91ef433aba6a6", func := "tidepole/tidepolelaw10.FhistCanon", spec := "fhistCanon", inPlace := ["math.Float64frombits", "math.Float64bits"], unfollowed := true, recurses := true, apart := false }
def FhistCanonSaid : Prop := fhistCanonRow.holds Try.pinned (OpenSpec.ofChange fhistCanonSpec)

/-- ITS FALSE NEIGHBOUR: 'it returns false'. Refute it at one input. -/
def fhistCanonWrong : ChangeSpec := { name := "fhistCanon", fn := fun _ => fun
  | [d] => { results := [.lit (.bool false)], args := [d] }
  | _ => none }
def FhistCanonWrongFalsely : Prop := fhistCanonRow.holds Try.pinned (OpenSpec.ofChange fhistCanonWrong)

/-- 'tidepolelaw10.FhistEqual': WHATEVER THE INPUT: true; the input reads as it did. -/
def fhistEqualSpec : ChangeSpec := { name := "fhistEqual", fn := fun _ => fun
  | [d1, d2] => { results := [.lit (.bool true)], args := [d1, d2] }
  | _ => none }
def fhistEqualRow : OpenClaim := { program := "ytoaibabkkphlaaa", sum := "3846869aac55f78ec943fdeac1f3af51a60327c178ab0c11a1d91ef433aba6a6", func := "tidepole/tidepolelaw10.FhistEqual", spec := "fhistEqual", inPlace := ["math.Float64frombits", "math.Float64bits"], unfollowed := true, recurses := true, apart := false }
def FhistEqualSaid : Prop := fhistEqualRow.holds Try.pinned (OpenSpec.ofChange fhistEqualSpec)

/-- ITS FALSE NEIGHBOUR: 'it returns false'. Refute it at one input. -/
def fhistEqualWrong : ChangeSpec := { name := "fhistEqual", fn := fun _ => fun
  | [d1, d2] => { results := [.lit (.bool false)], args := [d1, d2] }
  | _ => none }
def FhistEqualWrongFalsely : Prop := fhistEqualRow.holds Try.pinned (OpenSpec.ofChange fhistEqualWrong)

/-- 'tidepolelaw10.FhistOver': WHATEVER THE INPUT: true; the input reads as it did. -/
def fhistOverSpec : ChangeSpec := { name := "fhistOver", fn := fun _ => fun
  | [d1, d2, d3] => { results := [.lit (.bool true)], args := [d1, d2, d3] }
  | _ => none }
def fhistOverRow : OpenClaim := { program := "ytoaibabkkphlaaa", sum := "3846869aac55f78ec943fdeac1f3af51a60327c178ab0c11a1d91ef433aba6a6", func := "tidepole/tidepolelaw10.FhistOver", spec := "fhistOver", inPlace := ["math.Float64frombits", "math.Float64bits"], unfollowed := true, recurses := true, apart := false }
def FhistOverSaid : Prop := fhistOverRow.holds Try.pinned (OpenSpec.ofChange fhistOverSpec)

/-- ITS FALSE NEIGHBOUR: 'it returns false'. Refute it at one input. -/
def fhistOverWrong : ChangeSpec := { name := "fhistOver", fn := fun _ => fun
  | [d1, d2, d3] => { results := [.lit (.bool false)], args := [d1, d2, d3] }
  | _ => none }
def FhistOverWrongFalsely : Prop := fhistOverRow.holds Try.pinned (OpenSpec.ofChange fhistOverWrong)

/-- 'tidepolelaw10.FhistFloats': WHATEVER THE INPUT: true; the input reads as it did. -/
def fhistFloatsSpec : ChangeSpec := { name := "fhistFloats", fn := fun _ => fun
  | [d1, d2, d3] => { results := [.lit (.bool true)], args := [d1, d2, d3] }
  | _ => none }
def fhistFloatsRow : OpenClaim := { program := "ytoaibabkkphlaaa", sum := "3846869aac55f78ec943fdeac1f3af51a60327c178ab0c11a1d91ef433aba6a6", func := "tidepole/tidepolelaw10.FhistFloats", spec := "fhistFloats", inPlace := ["math.Float64frombits", "math.Float64bits"], unfollowed := true, recurses := true, apart := false }
def FhistFloatsSaid : Prop := fhistFloatsRow.holds Try.pinned (OpenSpec.ofChange fhistFloatsSpec)

/-- ITS FALSE NEIGHBOUR: 'it returns false'. Refute it at one input. -/
def fhistFloatsWrong : ChangeSpec := { name := "fhistFloats", fn := fun _ => fun
  | [d1, d2, d3] => { results := [.lit (.bool false)], args := [d1, d2, d3] }
  | _ => none }
def FhistFloatsWrongFalsely : Prop := fhistFloatsRow.holds Try.pinned (OpenSpec.ofChange fhistFloatsWrong)

/-- 'tidepolelaw10.FhistFrom': WHATEVER THE INPUT: true; the input reads as it did. -/
def fhistFromSpec : ChangeSpec := { name := "fhistFrom", fn := fun _ => fun
  | [d] => { results := [.lit (.bool true)], args := [d] }
  | _ => none }
def fhistFromRow : OpenClaim := { program := "ytoaibabkkphlaaa", sum := "3846869aac55f78ec943fdeac1f3af51a60327c178ab0c11a1d91ef433aba6a6", func := "tidepole/tidepolelaw10.FhistFrom", spec := "fhistFrom", inPlace := ["math.Float64frombits", "math.Float64bits"], unfollowed := true, recurses := true, apart := false }
def FhistFromSaid : Prop := fhistFromRow.holds Try.pinned (OpenSpec.ofChange fhistFromSpec)

/-- ITS FALSE NEIGHBOUR: 'it returns false'. Refute it at one input. -/
def fhistFromWrong : ChangeSpec := { name := "fhistFrom", fn := fun _ => fun
  | [d] => { results := [.lit (.bool false)], args := [d] }
  | _ => none }
def FhistFromWrongFalsely : Prop := fhistFromRow.holds Try.pinned (OpenSpec.ofChange fhistFromWrong)

/-- 'tidepolelaw10.FhistBack': WHATEVER THE INPUT: true; the input reads as it did. -/
def fhistBackSpec : ChangeSpec := { name := "fhistBack", fn := fun _ => fun
  | [d] => { results := [.lit (.bool true)], args := [d] }
  | _ => none }
def fhistBackRow : OpenClaim := { program := "ytoaibabkkphlaaa", sum := "3846869aac55f78ec943fdeac1f3af51a60327c178ab0c11a1d91ef433aba6a6", func := "tidepole/tidepolelaw10.FhistBack", spec := "fhistBack", inPlace := ["math.Float64frombits", "math.Float64bits"], unfollowed := true, recurses := true, apart := false }
def FhistBackSaid : Prop := fhistBackRow.holds Try.pinned (OpenSpec.ofChange fhistBackSpec)

/-- ITS FALSE NEIGHBOUR: 'it returns false'. Refute it at one input. -/
def fhistBackWrong : ChangeSpec := { name := "fhistBack", fn := fun _ => fun
  | [d] => { results := [.lit (.bool false)], args := [d] }
  | _ => none }
def FhistBackWrongFalsely : Prop := fhistBackRow.holds Try.pinned (OpenSpec.ofChange fhistBackWrong)

/- THE SECOND FORM. 'bulk': how many values and letters a reading holds, each counted each time it is reached (what is shared counts as often as it is met; a slice's spare places count too). A statement '..UptoSaid' is the law's where the arguments, and the package variables that the reading takes, are together of bulk at most 1048576: NARROWER than '..Said'. Prove '..Said' where nothing that the law and all that it calls make is longer than what came in: it says more and counts as full. Else prove '..UptoSaid'. A law counts once. -/
mutual
def uptoBulk {H : Type} : DataW H → Nat
  | .lit (.string bytes) => bytes.length + 1
  | .lit _ => 1
  | .nil => 1
  | .ptr d => uptoBulk d + 1
  | .slice elems spare => uptoBulkAll elems + uptoBulkAll spare + 1
  | .agg parts => uptoBulkAll parts + 1
  | .iface _ d => uptoBulk d + 1
  | .map entries => uptoBulkEntries entries + 1
  | .held _ => 1
def uptoBulkAll {H : Type} : List (DataW H) → Nat
  | [] => 0
  | d :: r => uptoBulk d + uptoBulkAll r
def uptoBulkEntries {H : Type} : List (Lit × DataW H) → Nat
  | [] => 0
  | x :: r => uptoBulkEntry x + uptoBulkEntries r
def uptoBulkEntry {H : Type} : Lit × DataW H → Nat
  | (.string bytes, d) => bytes.length + uptoBulk d + 1
  | (_, d) => uptoBulk d + 1
 end
def uptoSmall : (H : Type) → List (DataW H) → Bool := fun _ ds => decide (uptoBulkAll ds ≤ 1048576)
def OpenSpec.upto (s : _root_.Go.ChangeSpec) : _root_.Go.OpenSpec := { _root_.Go.OpenSpec.ofChange s with cond := some uptoSmall }

/-- 'tidepolelaw10.FhistChecks', WHERE WHAT IT READS IS OF BULK AT MOST 1048576: true; the input reads as it did. -/
def fhistChecksUptoRow : OpenClaim := { program := "ytoaibabkkphlaaa", sum := "3846869aac55f78ec943fdeac1f3af51a60327c178ab0c11a1d91ef433aba6a6", func := "tidepole/tidepolelaw10.FhistChecks", spec := "fhistChecks", inPlace := ["math.Float64frombits", "math.Float64bits"], unfollowed := true, recurses := true, apart := false, narrowed := true }
def FhistChecksUptoSaid : Prop := fhistChecksUptoRow.holds Try.pinned (OpenSpec.upto fhistChecksSpec)

/-- 'tidepolelaw10.FhistPairs', WHERE WHAT IT READS IS OF BULK AT MOST 1048576: true; the input reads as it did. -/
def fhistPairsUptoRow : OpenClaim := { program := "ytoaibabkkphlaaa", sum := "3846869aac55f78ec943fdeac1f3af51a60327c178ab0c11a1d91ef433aba6a6", func := "tidepole/tidepolelaw10.FhistPairs", spec := "fhistPairs", inPlace := ["math.Float64frombits", "math.Float64bits"], unfollowed := true, recurses := true, apart := false, narrowed := true }
def FhistPairsUptoSaid : Prop := fhistPairsUptoRow.holds Try.pinned (OpenSpec.upto fhistPairsSpec)

/-- 'tidepolelaw10.FhistMakes', WHERE WHAT IT READS IS OF BULK AT MOST 1048576: true; the input reads as it did. -/
def fhistMakesUptoRow : OpenClaim := { program := "ytoaibabkkphlaaa", sum := "3846869aac55f78ec943fdeac1f3af51a60327c178ab0c11a1d91ef433aba6a6", func := "tidepole/tidepolelaw10.FhistMakes", spec := "fhistMakes", inPlace := ["math.Float64frombits", "math.Float64bits"], unfollowed := true, recurses := true, apart := false, narrowed := true }
def FhistMakesUptoSaid : Prop := fhistMakesUptoRow.holds Try.pinned (OpenSpec.upto fhistMakesSpec)

/-- 'tidepolelaw10.FhistCanon', WHERE WHAT IT READS IS OF BULK AT MOST 1048576: true; the input reads as it did. -/
def fhistCanonUptoRow : OpenClaim := { program := "ytoaibabkkphlaaa", sum := "3846869aac55f78ec943fdeac1f3af51a60327c178ab0c11a1d91ef433aba6a6", func := "tidepole/tidepolelaw10.FhistCanon", spec := "fhistCanon", inPlace := ["math.Float64frombits", "math.Float64bits"], unfollowed := true, recurses := true, apart := false, narrowed := true }
def FhistCanonUptoSaid : Prop := fhistCanonUptoRow.holds Try.pinned (OpenSpec.upto fhistCanonSpec)

/-- 'tidepolelaw10.FhistEqual', WHERE WHAT IT READS IS OF BULK AT MOST 1048576: true; the input reads as it did. -/
def fhistEqualUptoRow : OpenClaim := { program := "ytoaibabkkphlaaa", sum := "3846869aac55f78ec943fdeac1f3af51a60327c178ab0c11a1d91ef433aba6a6", func := "tidepole/tidepolelaw10.FhistEqual", spec := "fhistEqual", inPlace := ["math.Float64frombits", "math.Float64bits"], unfollowed := true, recurses := true, apart := false, narrowed := true }
def FhistEqualUptoSaid : Prop := fhistEqualUptoRow.holds Try.pinned (OpenSpec.upto fhistEqualSpec)

/-- 'tidepolelaw10.FhistOver', WHERE WHAT IT READS IS OF BULK AT MOST 1048576: true; the input reads as it did. -/
def fhistOverUptoRow : OpenClaim := { program := "ytoaibabkkphlaaa", sum := "3846869aac55f78ec943fdeac1f3af51a60327c178ab0c11a1d91ef433aba6a6", func := "tidepole/tidepolelaw10.FhistOver", spec := "fhistOver", inPlace := ["math.Float64frombits", "math.Float64bits"], unfollowed := true, recurses := true, apart := false, narrowed := true }
def FhistOverUptoSaid : Prop := fhistOverUptoRow.holds Try.pinned (OpenSpec.upto fhistOverSpec)

/-- 'tidepolelaw10.FhistFloats', WHERE WHAT IT READS IS OF BULK AT MOST 1048576: true; the input reads as it did. -/
def fhistFloatsUptoRow : OpenClaim := { program := "ytoaibabkkphlaaa", sum := "3846869aac55f78ec943fdeac1f3af51a60327c178ab0c11a1d91ef433aba6a6", func := "tidepole/tidepolelaw10.FhistFloats", spec := "fhistFloats", inPlace := ["math.Float64frombits", "math.Float64bits"], unfollowed := true, recurses := true, apart := false, narrowed := true }
def FhistFloatsUptoSaid : Prop := fhistFloatsUptoRow.holds Try.pinned (OpenSpec.upto fhistFloatsSpec)

/-- 'tidepolelaw10.FhistFrom', WHERE WHAT IT READS IS OF BULK AT MOST 1048576: true; the input reads as it did. -/
def fhistFromUptoRow : OpenClaim := { program := "ytoaibabkkphlaaa", sum := "3846869aac55f78ec943fdeac1f3af51a60327c178ab0c11a1d91ef433aba6a6", func := "tidepole/tidepolelaw10.FhistFrom", spec := "fhistFrom", inPlace := ["math.Float64frombits", "math.Float64bits"], unfollowed := true, recurses := true, apart := false, narrowed := true }
def FhistFromUptoSaid : Prop := fhistFromUptoRow.holds Try.pinned (OpenSpec.upto fhistFromSpec)

/-- 'tidepolelaw10.FhistBack', WHERE WHAT IT READS IS OF BULK AT MOST 1048576: true; the input reads as it did. -/
def fhistBackUptoRow : OpenClaim := { program := "ytoaibabkkphlaaa", sum := "3846869aac55f78ec943fdeac1f3af51a60327c178ab0c11a1d91ef433aba6a6", func := "tidepole/tidepolelaw10.FhistBack", spec := "fhistBack", inPlace := ["math.Float64frombits", "math.Float64bits"], unfollowed := true, recurses := true, apart := false, narrowed := true }
def FhistBackUptoSaid : Prop := fhistBackUptoRow.holds Try.pinned (OpenSpec.upto fhistBackSpec)

end Rows
end Go.Proofs.Ytoaibabkkphlaaa
