/-
  No cell of these rows narrows 'for every input' (looked for: loops, veiled, ifaces, maps, wideKeys, modest, calm, conditions, laid).
  DERIVED. THE GIVEN ROWS OF THIS SEAT. 4 by the template 'for every input the law returns true; each argument reads behind the call as it read before'; 0 by the template 'total and deterministic' (their statements: YtpomcakkpjmjiaaTotals.lean).
  GIVEN WITH THE SEED: the statements are not yours to turn. If you find one false, say at which input.
  Laid BY PROGRAM, IN A SANDBOX (cutbox-rows.mjs): the forced cells as the released guide's own fill.sh prints them over the translation b5f2b6d8d7ce31af… (all of the seat's roots in one cut). By AI agents, Wed Nov 11 2026. No macro, syntax, notation, axiom, sorry.
-/
import Derived.Test.YtpomcakkpjmjiaaChecked
import GoSem.Claim
import GoSem.ClaimJoined
import GoSem.ClaimMapViews
import Derived.JoinedTies
import Derived.KernelRfl
namespace Go.Proofs.Ytpomcakkpjmjiaa
/- THE CELL 'sum', in the pinned program and in every row, IS THE sha256 OF THE DUMP (.gsa) THAT YtpomcakkpjmjiaaProg.lean LOADS. Nothing in Lean hashes anything: it is a label: what it is worth is what the hold of that sum in a sandbox is worth. -/
noncomputable def Try.pinned : Pinned := { name := "ytpomcakkpjmjiaa", sum := "b5f2b6d8d7ce31af43dcf7dffe4ba8a7883907c86d63109c093f7f336f60e949", checked := Try.checked }
namespace Rows
def none {H : Type} : Left H := { results := [], args := [] }

/-- 'tidepolelaw12.ThresholdPuts': WHATEVER THE INPUT: true; the input reads as it did. -/
def thresholdPutsSpec : ChangeSpec := { name := "thresholdPuts", fn := fun _ => fun
  | [d1, d2] => { results := [.lit (.bool true)], args := [d1, d2] }
  | _ => none }
def thresholdPutsRow : OpenClaim := { program := "ytpomcakkpjmjiaa", sum := "b5f2b6d8d7ce31af43dcf7dffe4ba8a7883907c86d63109c093f7f336f60e949", func := "tidepole/tidepolelaw12.ThresholdPuts", spec := "thresholdPuts", apart := false }
def ThresholdPutsSaid : Prop := thresholdPutsRow.holds Try.pinned (OpenSpec.ofChange thresholdPutsSpec)

/-- ITS FALSE NEIGHBOUR: 'it returns false'. Refute it at one input. -/
def thresholdPutsWrong : ChangeSpec := { name := "thresholdPuts", fn := fun _ => fun
  | [d1, d2] => { results := [.lit (.bool false)], args := [d1, d2] }
  | _ => none }
def ThresholdPutsWrongFalsely : Prop := thresholdPutsRow.holds Try.pinned (OpenSpec.ofChange thresholdPutsWrong)

/-- 'tidepolelaw12.ThresholdReads': WHATEVER THE INPUT: true; the input reads as it did. -/
def thresholdReadsSpec : ChangeSpec := { name := "thresholdReads", fn := fun _ => fun
  | [d1, d2] => { results := [.lit (.bool true)], args := [d1, d2] }
  | _ => none }
def thresholdReadsRow : OpenClaim := { program := "ytpomcakkpjmjiaa", sum := "b5f2b6d8d7ce31af43dcf7dffe4ba8a7883907c86d63109c093f7f336f60e949", func := "tidepole/tidepolelaw12.ThresholdReads", spec := "thresholdReads", apart := false }
def ThresholdReadsSaid : Prop := thresholdReadsRow.holds Try.pinned (OpenSpec.ofChange thresholdReadsSpec)

/-- ITS FALSE NEIGHBOUR: 'it returns false'. Refute it at one input. -/
def thresholdReadsWrong : ChangeSpec := { name := "thresholdReads", fn := fun _ => fun
  | [d1, d2] => { results := [.lit (.bool false)], args := [d1, d2] }
  | _ => none }
def ThresholdReadsWrongFalsely : Prop := thresholdReadsRow.holds Try.pinned (OpenSpec.ofChange thresholdReadsWrong)

/-- 'tidepolelaw12.ThresholdPowers': WHATEVER THE INPUT: true; the input reads as it did. -/
def thresholdPowersSpec : ChangeSpec := { name := "thresholdPowers", fn := fun _ => fun
  | [d1, d2] => { results := [.lit (.bool true)], args := [d1, d2] }
  | _ => none }
def thresholdPowersRow : OpenClaim := { program := "ytpomcakkpjmjiaa", sum := "b5f2b6d8d7ce31af43dcf7dffe4ba8a7883907c86d63109c093f7f336f60e949", func := "tidepole/tidepolelaw12.ThresholdPowers", spec := "thresholdPowers", apart := false }
def ThresholdPowersSaid : Prop := thresholdPowersRow.holds Try.pinned (OpenSpec.ofChange thresholdPowersSpec)

/-- ITS FALSE NEIGHBOUR: 'it returns false'. Refute it at one input. -/
def thresholdPowersWrong : ChangeSpec := { name := "thresholdPowers", fn := fun _ => fun
  | [d1, d2] => { results := [.lit (.bool false)], args := [d1, d2] }
  | _ => none }
def ThresholdPowersWrongFalsely : Prop := thresholdPowersRow.holds Try.pinned (OpenSpec.ofChange thresholdPowersWrong)

/-- 'tidepolelaw12.ThresholdOrder': WHATEVER THE INPUT: true; the input reads as it did. -/
def thresholdOrderSpec : ChangeSpec := { name := "thresholdOrder", fn := fun _ => fun
  | [d1, d2] => { results := [.lit (.bool true)], args := [d1, d2] }
  | _ => none }
def thresholdOrderRow : OpenClaim := { program := "ytpomcakkpjmjiaa", sum := "b5f2b6d8d7ce31af43dcf7dffe4ba8a7883907c86d63109c093f7f336f60e949", func := "tidepole/tidepolelaw12.ThresholdOrder", spec := "thresholdOrder", apart := false }
def ThresholdOrderSaid : Prop := thresholdOrderRow.holds Try.pinned (OpenSpec.ofChange thresholdOrderSpec)

/-- ITS FALSE NEIGHBOUR: 'it returns false'. Refute it at one input. -/
def thresholdOrderWrong : ChangeSpec := { name := "thresholdOrder", fn := fun _ => fun
  | [d1, d2] => { results := [.lit (.bool false)], args := [d1, d2] }
  | _ => none }
def ThresholdOrderWrongFalsely : Prop := thresholdOrderRow.holds Try.pinned (OpenSpec.ofChange thresholdOrderWrong)

/- THE SECOND FORM. 'bulk': how many values and letters a reading holds, each counted each time it is reached (what is shared counts as often as it is met; a slice's spare places count too). A statement '..UptoSaid' is the law's where the arguments, and the package variables that the reading takes, are together of bulk at most 1048576: NARROWER than '..Said'. Prove '..Said' where nothing that the law and all that it calls make is longer than what came in: it says more and counts as full. Else prove '..UptoSaid'. A law counts once. -/
mutual
def uptoBulk {H : Type} : DataW H → Nat
  | .lit (.string bytes) => bytes.length + 1
  | .lit _ => 1
  | .nil => 1
  | .ptr d => uptoBulk d + 1
  | .slice elems spare => uptoBulkAll elems + uptoBulkAll spare + 1
  | .agg parts => uptoBulkAll parts + 1
  | .iface _ d => uptoBulk d + 1
  | .map entries => uptoBulkEntries entries + 1
  | .held _ => 1
def uptoBulkAll {H : Type} : List (DataW H) → Nat
  | [] => 0
  | d :: r => uptoBulk d + uptoBulkAll r
def uptoBulkEntries {H : Type} : List (Lit × DataW H) → Nat
  | [] => 0
  | x :: r => uptoBulkEntry x + uptoBulkEntries r
def uptoBulkEntry {H : Type} : Lit × DataW H → Nat
  | (.string bytes, d) => bytes.length + uptoBulk d + 1
  | (_, d) => uptoBulk d + 1
 end
def uptoSmall : (H : Type) → List (DataW H) → Bool := fun _ ds => decide (uptoBulkAll ds ≤ 1048576)
def OpenSpec.upto (s : _root_.Go.ChangeSpec) : _root_.Go.OpenSpec := { _root_.Go.OpenSpec.ofChange s with cond := some uptoSmall }

/-- 'tidepolelaw12.ThresholdPuts', WHERE WHAT IT READS IS OF BULK AT MOST 1048576: true; the input reads as it did. -/
def thresholdPutsUptoRow : OpenClaim := { program := "ytpomcakkpjmjiaa", sum := "b5f2b6d8d7ce31af43dcf7dffe4ba8a7883907c86d63109c093f7f336f60e949", func := "tidepole/tidepolelaw12.ThresholdPuts", spec := "thresholdPuts", apart := false, narrowed := true }
def ThresholdPutsUptoSaid : Prop := thresholdPutsUptoRow.holds Try.pinned (OpenSpec.upto thresholdPutsSpec)

/-- 'tidepolelaw12.ThresholdReads', WHERE WHAT IT READS IS OF BULK AT MOST 1048576: true; the input reads as it did. -/
def thresholdReadsUptoRow : OpenClaim := { program := "ytpomcakkpjmjiaa", sum := "b5f2b6d8d7ce31af43dcf7dffe4ba8a7883907c86d63109c093f7f336f60e949", func := "tidepole/tidepolelaw12.ThresholdReads", spec := "thresholdReads", apart := false, narrowed := true }
def ThresholdReadsUptoSaid : Prop := thresholdReadsUptoRow.holds Try.pinned (OpenSpec.upto thresholdReadsSpec)

/-- 'tidepolelaw12.ThresholdPowers', WHERE WHAT IT READS IS OF BULK AT MOST 1048576: true; the input reads as it did. -/
def thresholdPowersUptoRow : OpenClaim := { program := "ytpomcakkpjmjiaa", sum := "b5f2b6d8d7ce31af43dcf7dffe4ba8a7883907c86d63109c093f7f336f60e949", func := "tidepole/tidepolelaw12.ThresholdPowers", spec := "thresholdPowers", apart := false, narrowed := true }
def ThresholdPowersUptoSaid : Prop := thresholdPowersUptoRow.holds Try.pinned (OpenSpec.upto thresholdPowersSpec)

/-- 'tidepolelaw12.ThresholdOrder', WHERE WHAT IT READS IS OF BULK AT MOST 1048576: true; the input reads as it did. -/
def thresholdOrderUptoRow : OpenClaim := { program := "ytpomcakkpjmjiaa", sum := "b5f2b6d8d7ce31af43dcf7dffe4ba8a7883907c86d63109c093f7f336f60e949", func := "tidepole/tidepolelaw12.ThresholdOrder", spec := "thresholdOrder", apart := false, narrowed := true }
def ThresholdOrderUptoSaid : Prop := thresholdOrderUptoRow.holds Try.pinned (OpenSpec.upto thresholdOrderSpec)

end Rows
end Go.Proofs.Ytpomcakkpjmjiaa
