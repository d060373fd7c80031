/-
  NARROWER THAN 'FOR EVERY INPUT', by the rows' own cells (each row's printed sentence says how): HeadChecks: laid · HeadPuts: laid · HeadReads: laid.
  DERIVED. THE GIVEN ROWS OF THIS SEAT. 3 by the template 'for every input the law returns true; each argument reads behind the call as it read before'; 0 by the template 'total and deterministic' (their statements: YtkphonepblkcdaaGreatDoorTotals.lean).
  GIVEN WITH THE SEED: the statements are not yours to turn. If you find one false, say at which input.
  Laid BY PROGRAM, IN A SANDBOX (cutbox-rows.mjs): the forced cells as the released guide's own fill.sh prints them over the translation 859fdaae2cd0757c… (all of the seat's roots in one cut). By AI agents, Wed Nov 11 2026. No macro, syntax, notation, axiom, sorry.
-/
import Derived.Test.YtkphonepblkcdaaGreatDoorChecked
import GoSem.Claim
import GoSem.ClaimJoined
import GoSem.ClaimMapViews
import Derived.JoinedTies
import Derived.KernelRfl
namespace Go.Proofs.YtkphonepblkcdaaGreatDoor
/- THE CELL 'sum', in the pinned program and in every row, IS THE sha256 OF THE DUMP (.gsa) THAT YtkphonepblkcdaaGreatDoorProg.lean LOADS. Nothing in Lean hashes anything: it is a label: what it is worth is what the hold of that sum in a sandbox is worth. -/
noncomputable def Tryz.pinned : Pinned := { name := "ytkphonepblkcdaagreatdoor", sum := "859fdaae2cd0757c36a8974c6b91ca002ebd026b4eb0337ae55d10f965d6677c", checked := Tryz.checked }
namespace Rows
def none {H : Type} : Left H := { results := [], args := [] }

/- WHAT THE LISTED PACKAGE-LEVEL VARIABLES READ AS WHEN THE CALL BEGINS. Each datum BY PROGRAM (the guide's laid-datum.mjs) off the statement by which the dump's own 'gosem.cut.vars' lays the variable. In a bare row this is a premise. The card (YtkphonepblkcdaaGreatDoorCards.lean) ties it to the program's text. -/
def laid_tidepole_varbit_behind {H : Type} : DataW H := .agg [.lit (.int .i64 0), .lit (.int .i64 3), .lit (.int .i64 6), .lit (.int .i64 9), .lit (.int .i64 12), .lit (.int .i64 18), .lit (.int .i64 25), .lit (.int .i64 56), .lit (.int .i64 64)]
def laid_errors_errorType {H : Type} : DataW H := .iface "internal/reflectlite.rtype" (.agg [.ptr (.lit (.string [101, 114, 114, 111, 114]))])

/-- 'tidepolelaw14.HeadChecks': WHATEVER THE INPUT: true; the input reads as it did. -/
def headChecksSpec : ChangeSpec := { name := "headChecks", fn := fun _ => fun
  | [d1, d2] => { results := [.lit (.bool true)], args := [d1, d2] }
  | _ => none }
def headChecksRow : OpenClaim := { program := "ytkphonepblkcdaagreatdoor", sum := "859fdaae2cd0757c36a8974c6b91ca002ebd026b4eb0337ae55d10f965d6677c", func := "tidepole/tidepolelaw14.HeadChecks", spec := "headChecks", inPlace := ["internal/reflectlite.ValueOf", "(internal/reflectlite.Value).Type", "(internal/reflectlite.Value).IsNil", "internal/reflectlite.TypeOf", "(internal/reflectlite.Value).Elem", "(internal/reflectlite.Value).Set"], unfollowed := true, recurses := true, named := ["errors.errorType", "tidepole/varbit.behind"], apart := false, laid := [("tidepole/varbit.behind", laid_tidepole_varbit_behind), ("errors.errorType", laid_errors_errorType)] }
def HeadChecksSaid : Prop := headChecksRow.holds Tryz.pinned (OpenSpec.ofChange headChecksSpec)

/-- ITS FALSE NEIGHBOUR: 'it returns false'. Refute it at one input. -/
def headChecksWrong : ChangeSpec := { name := "headChecks", fn := fun _ => fun
  | [d1, d2] => { results := [.lit (.bool false)], args := [d1, d2] }
  | _ => none }
def HeadChecksWrongFalsely : Prop := headChecksRow.holds Tryz.pinned (OpenSpec.ofChange headChecksWrong)

/-- 'tidepolelaw14.HeadPuts': WHATEVER THE INPUT: true; the input reads as it did. -/
def headPutsSpec : ChangeSpec := { name := "headPuts", fn := fun _ => fun
  | [d1, d2] => { results := [.lit (.bool true)], args := [d1, d2] }
  | _ => none }
def headPutsRow : OpenClaim := { program := "ytkphonepblkcdaagreatdoor", sum := "859fdaae2cd0757c36a8974c6b91ca002ebd026b4eb0337ae55d10f965d6677c", func := "tidepole/tidepolelaw14.HeadPuts", spec := "headPuts", inPlace := ["internal/reflectlite.ValueOf", "(internal/reflectlite.Value).Type", "(internal/reflectlite.Value).IsNil", "internal/reflectlite.TypeOf", "(internal/reflectlite.Value).Elem", "(internal/reflectlite.Value).Set"], unfollowed := true, recurses := true, named := ["errors.errorType", "tidepole/varbit.behind"], apart := false, laid := [("tidepole/varbit.behind", laid_tidepole_varbit_behind), ("errors.errorType", laid_errors_errorType)] }
def HeadPutsSaid : Prop := headPutsRow.holds Tryz.pinned (OpenSpec.ofChange headPutsSpec)

/-- ITS FALSE NEIGHBOUR: 'it returns false'. Refute it at one input. -/
def headPutsWrong : ChangeSpec := { name := "headPuts", fn := fun _ => fun
  | [d1, d2] => { results := [.lit (.bool false)], args := [d1, d2] }
  | _ => none }
def HeadPutsWrongFalsely : Prop := headPutsRow.holds Tryz.pinned (OpenSpec.ofChange headPutsWrong)

/-- 'tidepolelaw14.HeadReads': WHATEVER THE INPUT: true; the input reads as it did. -/
def headReadsSpec : ChangeSpec := { name := "headReads", fn := fun _ => fun
  | [d1, d2] => { results := [.lit (.bool true)], args := [d1, d2] }
  | _ => none }
def headReadsRow : OpenClaim := { program := "ytkphonepblkcdaagreatdoor", sum := "859fdaae2cd0757c36a8974c6b91ca002ebd026b4eb0337ae55d10f965d6677c", func := "tidepole/tidepolelaw14.HeadReads", spec := "headReads", inPlace := ["internal/reflectlite.ValueOf", "(internal/reflectlite.Value).Type", "(internal/reflectlite.Value).IsNil", "internal/reflectlite.TypeOf", "(internal/reflectlite.Value).Elem", "(internal/reflectlite.Value).Set"], unfollowed := true, recurses := true, named := ["errors.errorType", "tidepole/varbit.behind"], apart := false, laid := [("tidepole/varbit.behind", laid_tidepole_varbit_behind), ("errors.errorType", laid_errors_errorType)] }
def HeadReadsSaid : Prop := headReadsRow.holds Tryz.pinned (OpenSpec.ofChange headReadsSpec)

/-- ITS FALSE NEIGHBOUR: 'it returns false'. Refute it at one input. -/
def headReadsWrong : ChangeSpec := { name := "headReads", fn := fun _ => fun
  | [d1, d2] => { results := [.lit (.bool false)], args := [d1, d2] }
  | _ => none }
def HeadReadsWrongFalsely : Prop := headReadsRow.holds Tryz.pinned (OpenSpec.ofChange headReadsWrong)

/- THE SECOND FORM. 'bulk': how many values and letters a reading holds, each counted each time it is reached (what is shared counts as often as it is met; a slice's spare places count too). A statement '..UptoSaid' is the law's where the arguments, and the package variables that the reading takes, are together of bulk at most 1048576: NARROWER than '..Said'. Prove '..Said' where nothing that the law and all that it calls make is longer than what came in: it says more and counts as full. Else prove '..UptoSaid'. A law counts once. -/
mutual
def uptoBulk {H : Type} : DataW H → Nat
  | .lit (.string bytes) => bytes.length + 1
  | .lit _ => 1
  | .nil => 1
  | .ptr d => uptoBulk d + 1
  | .slice elems spare => uptoBulkAll elems + uptoBulkAll spare + 1
  | .agg parts => uptoBulkAll parts + 1
  | .iface _ d => uptoBulk d + 1
  | .map entries => uptoBulkEntries entries + 1
  | .held _ => 1
def uptoBulkAll {H : Type} : List (DataW H) → Nat
  | [] => 0
  | d :: r => uptoBulk d + uptoBulkAll r
def uptoBulkEntries {H : Type} : List (Lit × DataW H) → Nat
  | [] => 0
  | x :: r => uptoBulkEntry x + uptoBulkEntries r
def uptoBulkEntry {H : Type} : Lit × DataW H → Nat
  | (.string bytes, d) => bytes.length + uptoBulk d + 1
  | (_, d) => uptoBulk d + 1
 end
def uptoSmall : (H : Type) → List (DataW H) → Bool := fun _ ds => decide (uptoBulkAll ds ≤ 1048576)
def OpenSpec.upto (s : _root_.Go.ChangeSpec) : _root_.Go.OpenSpec := { _root_.Go.OpenSpec.ofChange s with cond := some uptoSmall }

/-- 'tidepolelaw14.HeadChecks', WHERE WHAT IT READS IS OF BULK AT MOST 1048576: true; the input reads as it did. -/
def headChecksUptoRow : OpenClaim := { program := "ytkphonepblkcdaagreatdoor", sum := "859fdaae2cd0757c36a8974c6b91ca002ebd026b4eb0337ae55d10f965d6677c", func := "tidepole/tidepolelaw14.HeadChecks", spec := "headChecks", inPlace := ["internal/reflectlite.ValueOf", "(internal/reflectlite.Value).Type", "(internal/reflectlite.Value).IsNil", "internal/reflectlite.TypeOf", "(internal/reflectlite.Value).Elem", "(internal/reflectlite.Value).Set"], unfollowed := true, recurses := true, named := ["errors.errorType", "tidepole/varbit.behind"], apart := false, laid := [("tidepole/varbit.behind", laid_tidepole_varbit_behind), ("errors.errorType", laid_errors_errorType)], narrowed := true }
def HeadChecksUptoSaid : Prop := headChecksUptoRow.holds Tryz.pinned (OpenSpec.upto headChecksSpec)

/-- 'tidepolelaw14.HeadPuts', WHERE WHAT IT READS IS OF BULK AT MOST 1048576: true; the input reads as it did. -/
def headPutsUptoRow : OpenClaim := { program := "ytkphonepblkcdaagreatdoor", sum := "859fdaae2cd0757c36a8974c6b91ca002ebd026b4eb0337ae55d10f965d6677c", func := "tidepole/tidepolelaw14.HeadPuts", spec := "headPuts", inPlace := ["internal/reflectlite.ValueOf", "(internal/reflectlite.Value).Type", "(internal/reflectlite.Value).IsNil", "internal/reflectlite.TypeOf", "(internal/reflectlite.Value).Elem", "(internal/reflectlite.Value).Set"], unfollowed := true, recurses := true, named := ["errors.errorType", "tidepole/varbit.behind"], apart := false, laid := [("tidepole/varbit.behind", laid_tidepole_varbit_behind), ("errors.errorType", laid_errors_errorType)], narrowed := true }
def HeadPutsUptoSaid : Prop := headPutsUptoRow.holds Tryz.pinned (OpenSpec.upto headPutsSpec)

/-- 'tidepolelaw14.HeadReads', WHERE WHAT IT READS IS OF BULK AT MOST 1048576: true; the input reads as it did. -/
def headReadsUptoRow : OpenClaim := { program := "ytkphonepblkcdaagreatdoor", sum := "859fdaae2cd0757c36a8974c6b91ca002ebd026b4eb0337ae55d10f965d6677c", func := "tidepole/tidepolelaw14.HeadReads", spec := "headReads", inPlace := ["internal/reflectlite.ValueOf", "(internal/reflectlite.Value).Type", "(internal/reflectlite.Value).IsNil", "internal/reflectlite.TypeOf", "(internal/reflectlite.Value).Elem", "(internal/reflectlite.Value).Set"], unfollowed := true, recurses := true, named := ["errors.errorType", "tidepole/varbit.behind"], apart := false, laid := [("tidepole/varbit.behind", laid_tidepole_varbit_behind), ("errors.errorType", laid_errors_errorType)], narrowed := true }
def HeadReadsUptoSaid : Prop := headReadsUptoRow.holds Tryz.pinned (OpenSpec.upto headReadsSpec)

end Rows
end Go.Proofs.YtkphonepblkcdaaGreatDoor
