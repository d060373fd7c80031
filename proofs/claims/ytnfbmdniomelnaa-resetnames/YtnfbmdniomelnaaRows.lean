/-
  No cell of these rows narrows 'for every input' (looked for: loops, veiled, ifaces, maps, wideKeys, modest, calm, conditions, laid).
  DERIVED. THE GIVEN ROWS OF THIS SEAT. 6 by the template 'for every input the law returns true; each argument reads behind the call as it read before'; 0 by the template 'total and deterministic' (their statements: YtnfbmdniomelnaaTotals.lean).
  GIVEN WITH THE SEED: the statements are not yours to turn. If you find one false, say at which input.
  Laid BY PROGRAM, IN A SANDBOX (cutbox-rows.mjs): the forced cells as the released guide's own fill.sh prints them over the translation 2521fa403de74bef… (all of the seat's roots in one cut). By AI agents, Wed Nov 11 2026. No macro, syntax, notation, axiom, sorry.
-/
import Derived.Test.YtnfbmdniomelnaaChecked
import GoSem.Claim
import GoSem.ClaimJoined
import GoSem.ClaimMapViews
import Derived.JoinedTies
import Derived.KernelRfl
namespace Go.Proofs.Ytnfbmdniomelnaa
/- THE CELL 'sum', in the pinned program and in every row, IS THE sha256 OF THE DUMP (.gsa) THAT YtnfbmdniomelnaaProg.lean LOADS. Nothing in Lean hashes anything: it is a label: what it is worth is what the hold of that sum in a sandbox is worth. -/
noncomputable def Try.pinned : Pinned := { name := "ytnfbmdniomelnaa", sum := "2521fa403de74bef582bc00d4d0c48e623b566389bf756c5e095dd4448e5b304", checked := Try.checked }
namespace Rows
def none {H : Type} : Left H := { results := [], args := [] }

/-- 'tidepolelaw11.ResetInts': WHATEVER THE INPUT: true; the input reads as it did. -/
def resetIntsSpec : ChangeSpec := { name := "resetInts", fn := fun _ => fun
  | [d1, d2] => { results := [.lit (.bool true)], args := [d1, d2] }
  | _ => none }
def resetIntsRow : OpenClaim := { program := "ytnfbmdniomelnaa", sum := "2521fa403de74bef582bc00d4d0c48e623b566389bf756c5e095dd4448e5b304", func := "tidepole/tidepolelaw11.ResetInts", spec := "resetInts", unfollowed := true, recurses := true, apart := false }
def ResetIntsSaid : Prop := resetIntsRow.holds Try.pinned (OpenSpec.ofChange resetIntsSpec)

/-- ITS FALSE NEIGHBOUR: 'it returns false'. Refute it at one input. -/
def resetIntsWrong : ChangeSpec := { name := "resetInts", fn := fun _ => fun
  | [d1, d2] => { results := [.lit (.bool false)], args := [d1, d2] }
  | _ => none }
def ResetIntsWrongFalsely : Prop := resetIntsRow.holds Try.pinned (OpenSpec.ofChange resetIntsWrong)

/-- 'tidepolelaw11.ResetFloats': WHATEVER THE INPUT: true; the input reads as it did. -/
def resetFloatsSpec : ChangeSpec := { name := "resetFloats", fn := fun _ => fun
  | [d1, d2] => { results := [.lit (.bool true)], args := [d1, d2] }
  | _ => none }
def resetFloatsRow : OpenClaim := { program := "ytnfbmdniomelnaa", sum := "2521fa403de74bef582bc00d4d0c48e623b566389bf756c5e095dd4448e5b304", func := "tidepole/tidepolelaw11.ResetFloats", spec := "resetFloats", unfollowed := true, recurses := true, apart := false }
def ResetFloatsSaid : Prop := resetFloatsRow.holds Try.pinned (OpenSpec.ofChange resetFloatsSpec)

/-- ITS FALSE NEIGHBOUR: 'it returns false'. Refute it at one input. -/
def resetFloatsWrong : ChangeSpec := { name := "resetFloats", fn := fun _ => fun
  | [d1, d2] => { results := [.lit (.bool false)], args := [d1, d2] }
  | _ => none }
def ResetFloatsWrongFalsely : Prop := resetFloatsRow.holds Try.pinned (OpenSpec.ofChange resetFloatsWrong)

/-- 'tidepolelaw11.ResetGoes': WHATEVER THE INPUT: true; the input reads as it did. -/
def resetGoesSpec : ChangeSpec := { name := "resetGoes", fn := fun _ => fun
  | [d1, d2, d3] => { results := [.lit (.bool true)], args := [d1, d2, d3] }
  | _ => none }
def resetGoesRow : OpenClaim := { program := "ytnfbmdniomelnaa", sum := "2521fa403de74bef582bc00d4d0c48e623b566389bf756c5e095dd4448e5b304", func := "tidepole/tidepolelaw11.ResetGoes", spec := "resetGoes", unfollowed := true, recurses := true, apart := false }
def ResetGoesSaid : Prop := resetGoesRow.holds Try.pinned (OpenSpec.ofChange resetGoesSpec)

/-- ITS FALSE NEIGHBOUR: 'it returns false'. Refute it at one input. -/
def resetGoesWrong : ChangeSpec := { name := "resetGoes", fn := fun _ => fun
  | [d1, d2, d3] => { results := [.lit (.bool false)], args := [d1, d2, d3] }
  | _ => none }
def ResetGoesWrongFalsely : Prop := resetGoesRow.holds Try.pinned (OpenSpec.ofChange resetGoesWrong)

/-- 'tidepolelaw11.ResetLays': WHATEVER THE INPUT: true; the input reads as it did. -/
def resetLaysSpec : ChangeSpec := { name := "resetLays", fn := fun _ => fun
  | [d1, d2] => { results := [.lit (.bool true)], args := [d1, d2] }
  | _ => none }
def resetLaysRow : OpenClaim := { program := "ytnfbmdniomelnaa", sum := "2521fa403de74bef582bc00d4d0c48e623b566389bf756c5e095dd4448e5b304", func := "tidepole/tidepolelaw11.ResetLays", spec := "resetLays", unfollowed := true, recurses := true, apart := false }
def ResetLaysSaid : Prop := resetLaysRow.holds Try.pinned (OpenSpec.ofChange resetLaysSpec)

/-- ITS FALSE NEIGHBOUR: 'it returns false'. Refute it at one input. -/
def resetLaysWrong : ChangeSpec := { name := "resetLays", fn := fun _ => fun
  | [d1, d2] => { results := [.lit (.bool false)], args := [d1, d2] }
  | _ => none }
def ResetLaysWrongFalsely : Prop := resetLaysRow.holds Try.pinned (OpenSpec.ofChange resetLaysWrong)

/-- 'tidepolelaw11.ResetBoth': WHATEVER THE INPUT: true; the input reads as it did. -/
def resetBothSpec : ChangeSpec := { name := "resetBoth", fn := fun _ => fun
  | [d1, d2] => { results := [.lit (.bool true)], args := [d1, d2] }
  | _ => none }
def resetBothRow : OpenClaim := { program := "ytnfbmdniomelnaa", sum := "2521fa403de74bef582bc00d4d0c48e623b566389bf756c5e095dd4448e5b304", func := "tidepole/tidepolelaw11.ResetBoth", spec := "resetBoth", inPlace := ["math.Float64bits"], unfollowed := true, recurses := true, apart := false }
def ResetBothSaid : Prop := resetBothRow.holds Try.pinned (OpenSpec.ofChange resetBothSpec)

/-- ITS FALSE NEIGHBOUR: 'it returns false'. Refute it at one input. -/
def resetBothWrong : ChangeSpec := { name := "resetBoth", fn := fun _ => fun
  | [d1, d2] => { results := [.lit (.bool false)], args := [d1, d2] }
  | _ => none }
def ResetBothWrongFalsely : Prop := resetBothRow.holds Try.pinned (OpenSpec.ofChange resetBothWrong)

/-- 'tidepolelaw11.ResetNames': WHATEVER THE INPUT: true; the input reads as it did. -/
def resetNamesSpec : ChangeSpec := { name := "resetNames", fn := fun _ => fun
  | [d1, d2] => { results := [.lit (.bool true)], args := [d1, d2] }
  | _ => none }
def resetNamesRow : OpenClaim := { program := "ytnfbmdniomelnaa", sum := "2521fa403de74bef582bc00d4d0c48e623b566389bf756c5e095dd4448e5b304", func := "tidepole/tidepolelaw11.ResetNames", spec := "resetNames", unfollowed := true, recurses := true, apart := false }
def ResetNamesSaid : Prop := resetNamesRow.holds Try.pinned (OpenSpec.ofChange resetNamesSpec)

/-- ITS FALSE NEIGHBOUR: 'it returns false'. Refute it at one input. -/
def resetNamesWrong : ChangeSpec := { name := "resetNames", fn := fun _ => fun
  | [d1, d2] => { results := [.lit (.bool false)], args := [d1, d2] }
  | _ => none }
def ResetNamesWrongFalsely : Prop := resetNamesRow.holds Try.pinned (OpenSpec.ofChange resetNamesWrong)

/- THE SECOND FORM. 'bulk': how many values and letters a reading holds, each counted each time it is reached (what is shared counts as often as it is met; a slice's spare places count too). A statement '..UptoSaid' is the law's where the arguments, and the package variables that the reading takes, are together of bulk at most 1048576: NARROWER than '..Said'. Prove '..Said' where nothing that the law and all that it calls make is longer than what came in: it says more and counts as full. Else prove '..UptoSaid'. A law counts once. -/
mutual
def uptoBulk {H : Type} : DataW H → Nat
  | .lit (.string bytes) => bytes.length + 1
  | .lit _ => 1
  | .nil => 1
  | .ptr d => uptoBulk d + 1
  | .slice elems spare => uptoBulkAll elems + uptoBulkAll spare + 1
  | .agg parts => uptoBulkAll parts + 1
  | .iface _ d => uptoBulk d + 1
  | .map entries => uptoBulkEntries entries + 1
  | .held _ => 1
def uptoBulkAll {H : Type} : List (DataW H) → Nat
  | [] => 0
  | d :: r => uptoBulk d + uptoBulkAll r
def uptoBulkEntries {H : Type} : List (Lit × DataW H) → Nat
  | [] => 0
  | x :: r => uptoBulkEntry x + uptoBulkEntries r
def uptoBulkEntry {H : Type} : Lit × DataW H → Nat
  | (.string bytes, d) => bytes.length + uptoBulk d + 1
  | (_, d) => uptoBulk d + 1
 end
def uptoSmall : (H : Type) → List (DataW H) → Bool := fun _ ds => decide (uptoBulkAll ds ≤ 1048576)
def OpenSpec.upto (s : _root_.Go.ChangeSpec) : _root_.Go.OpenSpec := { _root_.Go.OpenSpec.ofChange s with cond := some uptoSmall }

/-- 'tidepolelaw11.ResetInts', WHERE WHAT IT READS IS OF BULK AT MOST 1048576: true; the input reads as it did. -/
def resetIntsUptoRow : OpenClaim := { program := "ytnfbmdniomelnaa", sum := "2521fa403de74bef582bc00d4d0c48e623b566389bf756c5e095dd4448e5b304", func := "tidepole/tidepolelaw11.ResetInts", spec := "resetInts", unfollowed := true, recurses := true, apart := false, narrowed := true }
def ResetIntsUptoSaid : Prop := resetIntsUptoRow.holds Try.pinned (OpenSpec.upto resetIntsSpec)

/-- 'tidepolelaw11.ResetFloats', WHERE WHAT IT READS IS OF BULK AT MOST 1048576: true; the input reads as it did. -/
def resetFloatsUptoRow : OpenClaim := { program := "ytnfbmdniomelnaa", sum := "2521fa403de74bef582bc00d4d0c48e623b566389bf756c5e095dd4448e5b304", func := "tidepole/tidepolelaw11.ResetFloats", spec := "resetFloats", unfollowed := true, recurses := true, apart := false, narrowed := true }
def ResetFloatsUptoSaid : Prop := resetFloatsUptoRow.holds Try.pinned (OpenSpec.upto resetFloatsSpec)

/-- 'tidepolelaw11.ResetGoes', WHERE WHAT IT READS IS OF BULK AT MOST 1048576: true; the input reads as it did. -/
def resetGoesUptoRow : OpenClaim := { program := "ytnfbmdniomelnaa", sum := "2521fa403de74bef582bc00d4d0c48e623b566389bf756c5e095dd4448e5b304", func := "tidepole/tidepolelaw11.ResetGoes", spec := "resetGoes", unfollowed := true, recurses := true, apart := false, narrowed := true }
def ResetGoesUptoSaid : Prop := resetGoesUptoRow.holds Try.pinned (OpenSpec.upto resetGoesSpec)

/-- 'tidepolelaw11.ResetLays', WHERE WHAT IT READS IS OF BULK AT MOST 1048576: true; the input reads as it did. -/
def resetLaysUptoRow : OpenClaim := { program := "ytnfbmdniomelnaa", sum := "2521fa403de74bef582bc00d4d0c48e623b566389bf756c5e095dd4448e5b304", func := "tidepole/tidepolelaw11.ResetLays", spec := "resetLays", unfollowed := true, recurses := true, apart := false, narrowed := true }
def ResetLaysUptoSaid : Prop := resetLaysUptoRow.holds Try.pinned (OpenSpec.upto resetLaysSpec)

/-- 'tidepolelaw11.ResetBoth', WHERE WHAT IT READS IS OF BULK AT MOST 1048576: true; the input reads as it did. -/
def resetBothUptoRow : OpenClaim := { program := "ytnfbmdniomelnaa", sum := "2521fa403de74bef582bc00d4d0c48e623b566389bf756c5e095dd4448e5b304", func := "tidepole/tidepolelaw11.ResetBoth", spec := "resetBoth", inPlace := ["math.Float64bits"], unfollowed := true, recurses := true, apart := false, narrowed := true }
def ResetBothUptoSaid : Prop := resetBothUptoRow.holds Try.pinned (OpenSpec.upto resetBothSpec)

/-- 'tidepolelaw11.ResetNames', WHERE WHAT IT READS IS OF BULK AT MOST 1048576: true; the input reads as it did. -/
def resetNamesUptoRow : OpenClaim := { program := "ytnfbmdniomelnaa", sum := "2521fa403de74bef582bc00d4d0c48e623b566389bf756c5e095dd4448e5b304", func := "tidepole/tidepolelaw11.ResetNames", spec := "resetNames", unfollowed := true, recurses := true, apart := false, narrowed := true }
def ResetNamesUptoSaid : Prop := resetNamesUptoRow.holds Try.pinned (OpenSpec.upto resetNamesSpec)

end Rows
end Go.Proofs.Ytnfbmdniomelnaa
