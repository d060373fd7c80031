/-
  No cell of these rows narrows 'for every input' (looked for: loops, veiled, ifaces, maps, wideKeys, modest, calm, conditions, laid).
  DERIVED. THE GIVEN ROWS OF THIS SEAT. 5 by the template 'for every input the law returns true; each argument reads behind the call as it read before'; 0 by the template 'total and deterministic' (their statements: YtlcnjiibapehbaaTotals.lean).
  GIVEN WITH THE SEED: the statements are not yours to turn. If you find one false, say at which input.
  Laid BY PROGRAM, IN A SANDBOX (cutbox-rows.mjs): the forced cells as the released guide's own fill.sh prints them over the translation 1d4ba04a73cf5375… (all of the seat's roots in one cut). By AI agents, Wed Nov 11 2026. No macro, syntax, notation, axiom, sorry.
-/
import Derived.Test.YtlcnjiibapehbaaChecked
import GoSem.Claim
import GoSem.ClaimJoined
import GoSem.ClaimMapViews
import Derived.JoinedTies
import Derived.KernelRfl
namespace Go.Proofs.Ytlcnjiibapehbaa
/- THE CELL 'sum', in the pinned program and in every row, IS THE sha256 OF THE DUMP (.gsa) THAT YtlcnjiibapehbaaProg.lean LOADS. Nothing in Lean hashes anything: it is a label: what it is worth is what the hold of that sum in a sandbox is worth. -/
noncomputable def Try.pinned : Pinned := { name := "ytlcnjiibapehbaa", sum := "1d4ba04a73cf53756d8ab48b5f001821637cbf16f5f8d4137ec90a4debe1d536", checked := Try.checked }
namespace Rows
def none {H : Type} : Left H := { results := [], args := [] }

/-- 'tidepolelaw07.PairsZip': WHATEVER THE INPUT: true; the input reads as it did. -/
def pairsZipSpec : ChangeSpec := { name := "pairsZip", fn := fun _ => fun
  | [d1, d2] => { results := [.lit (.bool true)], args := [d1, d2] }
  | _ => none }
def pairsZipRow : OpenClaim := { program := "ytlcnjiibapehbaa", sum := "1d4ba04a73cf53756d8ab48b5f001821637cbf16f5f8d4137ec90a4debe1d536", func := "tidepole/tidepolelaw07.PairsZip", spec := "pairsZip", unfollowed := true, recurses := true, apart := false }
def PairsZipSaid : Prop := pairsZipRow.holds Try.pinned (OpenSpec.ofChange pairsZipSpec)

/-- ITS FALSE NEIGHBOUR: 'it returns false'. Refute it at one input. -/
def pairsZipWrong : ChangeSpec := { name := "pairsZip", fn := fun _ => fun
  | [d1, d2] => { results := [.lit (.bool false)], args := [d1, d2] }
  | _ => none }
def PairsZipWrongFalsely : Prop := pairsZipRow.holds Try.pinned (OpenSpec.ofChange pairsZipWrong)

/-- 'tidepolelaw07.PairsUnzip': WHATEVER THE INPUT: true; the input reads as it did. -/
def pairsUnzipSpec : ChangeSpec := { name := "pairsUnzip", fn := fun _ => fun
  | [d] => { results := [.lit (.bool true)], args := [d] }
  | _ => none }
def pairsUnzipRow : OpenClaim := { program := "ytlcnjiibapehbaa", sum := "1d4ba04a73cf53756d8ab48b5f001821637cbf16f5f8d4137ec90a4debe1d536", func := "tidepole/tidepolelaw07.PairsUnzip", spec := "pairsUnzip", unfollowed := true, recurses := true, apart := false }
def PairsUnzipSaid : Prop := pairsUnzipRow.holds Try.pinned (OpenSpec.ofChange pairsUnzipSpec)

/-- ITS FALSE NEIGHBOUR: 'it returns false'. Refute it at one input. -/
def pairsUnzipWrong : ChangeSpec := { name := "pairsUnzip", fn := fun _ => fun
  | [d] => { results := [.lit (.bool false)], args := [d] }
  | _ => none }
def PairsUnzipWrongFalsely : Prop := pairsUnzipRow.holds Try.pinned (OpenSpec.ofChange pairsUnzipWrong)

/-- 'tidepolelaw07.PairsFinds': WHATEVER THE INPUT: true; the input reads as it did. -/
def pairsFindsSpec : ChangeSpec := { name := "pairsFinds", fn := fun _ => fun
  | [d1, d2, d3] => { results := [.lit (.bool true)], args := [d1, d2, d3] }
  | _ => none }
def pairsFindsRow : OpenClaim := { program := "ytlcnjiibapehbaa", sum := "1d4ba04a73cf53756d8ab48b5f001821637cbf16f5f8d4137ec90a4debe1d536", func := "tidepole/tidepolelaw07.PairsFinds", spec := "pairsFinds", unfollowed := true, recurses := true, apart := false }
def PairsFindsSaid : Prop := pairsFindsRow.holds Try.pinned (OpenSpec.ofChange pairsFindsSpec)

/-- ITS FALSE NEIGHBOUR: 'it returns false'. Refute it at one input. -/
def pairsFindsWrong : ChangeSpec := { name := "pairsFinds", fn := fun _ => fun
  | [d1, d2, d3] => { results := [.lit (.bool false)], args := [d1, d2, d3] }
  | _ => none }
def PairsFindsWrongFalsely : Prop := pairsFindsRow.holds Try.pinned (OpenSpec.ofChange pairsFindsWrong)

/-- 'tidepolelaw07.PairsMerge': WHATEVER THE INPUT: true; the input reads as it did. -/
def pairsMergeSpec : ChangeSpec := { name := "pairsMerge", fn := fun _ => fun
  | [d1, d2] => { results := [.lit (.bool true)], args := [d1, d2] }
  | _ => none }
def pairsMergeRow : OpenClaim := { program := "ytlcnjiibapehbaa", sum := "1d4ba04a73cf53756d8ab48b5f001821637cbf16f5f8d4137ec90a4debe1d536", func := "tidepole/tidepolelaw07.PairsMerge", spec := "pairsMerge", unfollowed := true, recurses := true, apart := false }
def PairsMergeSaid : Prop := pairsMergeRow.holds Try.pinned (OpenSpec.ofChange pairsMergeSpec)

/-- ITS FALSE NEIGHBOUR: 'it returns false'. Refute it at one input. -/
def pairsMergeWrong : ChangeSpec := { name := "pairsMerge", fn := fun _ => fun
  | [d1, d2] => { results := [.lit (.bool false)], args := [d1, d2] }
  | _ => none }
def PairsMergeWrongFalsely : Prop := pairsMergeRow.holds Try.pinned (OpenSpec.ofChange pairsMergeWrong)

/-- 'tidepolelaw07.PairsDeltas': WHATEVER THE INPUT: true; the input reads as it did. -/
def pairsDeltasSpec : ChangeSpec := { name := "pairsDeltas", fn := fun _ => fun
  | [d] => { results := [.lit (.bool true)], args := [d] }
  | _ => none }
def pairsDeltasRow : OpenClaim := { program := "ytlcnjiibapehbaa", sum := "1d4ba04a73cf53756d8ab48b5f001821637cbf16f5f8d4137ec90a4debe1d536", func := "tidepole/tidepolelaw07.PairsDeltas", spec := "pairsDeltas", unfollowed := true, recurses := true, apart := false }
def PairsDeltasSaid : Prop := pairsDeltasRow.holds Try.pinned (OpenSpec.ofChange pairsDeltasSpec)

/-- ITS FALSE NEIGHBOUR: 'it returns false'. Refute it at one input. -/
def pairsDeltasWrong : ChangeSpec := { name := "pairsDeltas", fn := fun _ => fun
  | [d] => { results := [.lit (.bool false)], args := [d] }
  | _ => none }
def PairsDeltasWrongFalsely : Prop := pairsDeltasRow.holds Try.pinned (OpenSpec.ofChange pairsDeltasWrong)

/- THE SECOND FORM. 'bulk': how many values and letters a reading holds, each counted each time it is reached (what is shared counts as often as it is met; a slice's spare places count too). A statement '..UptoSaid' is the law's where the arguments, and the package variables that the reading takes, are together of bulk at most 1048576: NARROWER than '..Said'. Prove '..Said' where nothing that the law and all that it calls make is longer than what came in: it says more and counts as full. Else prove '..UptoSaid'. A law counts once. -/
mutual
def uptoBulk {H : Type} : DataW H → Nat
  | .lit (.string bytes) => bytes.length + 1
  | .lit _ => 1
  | .nil => 1
  | .ptr d => uptoBulk d + 1
  | .slice elems spare => uptoBulkAll elems + uptoBulkAll spare + 1
  | .agg parts => uptoBulkAll parts + 1
  | .iface _ d => uptoBulk d + 1
  | .map entries => uptoBulkEntries entries + 1
  | .held _ => 1
def uptoBulkAll {H : Type} : List (DataW H) → Nat
  | [] => 0
  | d :: r => uptoBulk d + uptoBulkAll r
def uptoBulkEntries {H : Type} : List (Lit × DataW H) → Nat
  | [] => 0
  | x :: r => uptoBulkEntry x + uptoBulkEntries r
def uptoBulkEntry {H : Type} : Lit × DataW H → Nat
  | (.string bytes, d) => bytes.length + uptoBulk d + 1
  | (_, d) => uptoBulk d + 1
 end
def uptoSmall : (H : Type) → List (DataW H) → Bool := fun _ ds => decide (uptoBulkAll ds ≤ 1048576)
def OpenSpec.upto (s : _root_.Go.ChangeSpec) : _root_.Go.OpenSpec := { _root_.Go.OpenSpec.ofChange s with cond := some uptoSmall }

/-- 'tidepolelaw07.PairsZip', WHERE WHAT IT READS IS OF BULK AT MOST 1048576: true; the input reads as it did. -/
def pairsZipUptoRow : OpenClaim := { program := "ytlcnjiibapehbaa", sum := "1d4ba04a73cf53756d8ab48b5f001821637cbf16f5f8d4137ec90a4debe1d536", func := "tidepole/tidepolelaw07.PairsZip", spec := "pairsZip", unfollowed := true, recurses := true, apart := false, narrowed := true }
def PairsZipUptoSaid : Prop := pairsZipUptoRow.holds Try.pinned (OpenSpec.upto pairsZipSpec)

/-- 'tidepolelaw07.PairsUnzip', WHERE WHAT IT READS IS OF BULK AT MOST 1048576: true; the input reads as it did. -/
def pairsUnzipUptoRow : OpenClaim := { program := "ytlcnjiibapehbaa", sum := "1d4ba04a73cf53756d8ab48b5f001821637cbf16f5f8d4137ec90a4debe1d536", func := "tidepole/tidepolelaw07.PairsUnzip", spec := "pairsUnzip", unfollowed := true, recurses := true, apart := false, narrowed := true }
def PairsUnzipUptoSaid : Prop := pairsUnzipUptoRow.holds Try.pinned (OpenSpec.upto pairsUnzipSpec)

/-- 'tidepolelaw07.PairsFinds', WHERE WHAT IT READS IS OF BULK AT MOST 1048576: true; the input reads as it did. -/
def pairsFindsUptoRow : OpenClaim := { program := "ytlcnjiibapehbaa", sum := "1d4ba04a73cf53756d8ab48b5f001821637cbf16f5f8d4137ec90a4debe1d536", func := "tidepole/tidepolelaw07.PairsFinds", spec := "pairsFinds", unfollowed := true, recurses := true, apart := false, narrowed := true }
def PairsFindsUptoSaid : Prop := pairsFindsUptoRow.holds Try.pinned (OpenSpec.upto pairsFindsSpec)

/-- 'tidepolelaw07.PairsMerge', WHERE WHAT IT READS IS OF BULK AT MOST 1048576: true; the input reads as it did. -/
def pairsMergeUptoRow : OpenClaim := { program := "ytlcnjiibapehbaa", sum := "1d4ba04a73cf53756d8ab48b5f001821637cbf16f5f8d4137ec90a4debe1d536", func := "tidepole/tidepolelaw07.PairsMerge", spec := "pairsMerge", unfollowed := true, recurses := true, apart := false, narrowed := true }
def PairsMergeUptoSaid : Prop := pairsMergeUptoRow.holds Try.pinned (OpenSpec.upto pairsMergeSpec)

/-- 'tidepolelaw07.PairsDeltas', WHERE WHAT IT READS IS OF BULK AT MOST 1048576: true; the input reads as it did. -/
def pairsDeltasUptoRow : OpenClaim := { program := "ytlcnjiibapehbaa", sum := "1d4ba04a73cf53756d8ab48b5f001821637cbf16f5f8d4137ec90a4debe1d536", func := "tidepole/tidepolelaw07.PairsDeltas", spec := "pairsDeltas", unfollowed := true, recurses := true, apart := false, narrowed := true }
def PairsDeltasUptoSaid : Prop := pairsDeltasUptoRow.holds Try.pinned (OpenSpec.upto pairsDeltasSpec)

end Rows
end Go.Proofs.Ytlcnjiibapehbaa
