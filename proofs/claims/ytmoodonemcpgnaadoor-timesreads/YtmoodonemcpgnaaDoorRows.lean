/-
  NARROWER THAN 'FOR EVERY INPUT', by the rows' own cells (each row's printed sentence says how): TimesPuts: laid · TimesRound: laid · TimesReads: laid · TimesEven: laid.
  DERIVED. THE GIVEN ROWS OF THIS SEAT. 4 by the template 'for every input the law returns true; each argument reads behind the call as it read before'; 0 by the template 'total and deterministic' (their statements: YtmoodonemcpgnaaDoorTotals.lean).
  GIVEN WITH THE SEED: the statements are not yours to turn. If you find one false, say at which input.
  Laid BY PROGRAM, IN A SANDBOX (cutbox-rows.mjs): the forced cells as the released guide's own fill.sh prints them over the translation 09a32e2054781f9a… (all of the seat's roots in one cut). By AI agents, Wed Nov 11 2026. No macro, syntax, notation, axiom, sorry.
-/
import Derived.Test.YtmoodonemcpgnaaDoorChecked
import GoSem.Claim
import GoSem.ClaimJoined
import GoSem.ClaimMapViews
import Derived.JoinedTies
import Derived.KernelRfl
namespace Go.Proofs.YtmoodonemcpgnaaDoor
/- THE CELL 'sum', in the pinned program and in every row, IS THE sha256 OF THE DUMP (.gsa) THAT YtmoodonemcpgnaaDoorProg.lean LOADS. Nothing in Lean hashes anything: it is a label: what it is worth is what the hold of that sum in a sandbox is worth. -/
noncomputable def Tryd.pinned : Pinned := { name := "ytmoodonemcpgnaadoor", sum := "09a32e2054781f9aa3a84d8d528081559ed8fda1209561fbfc21abdd629e809b", checked := Tryd.checked }
namespace Rows
def none {H : Type} : Left H := { results := [], args := [] }

/- WHAT THE LISTED PACKAGE-LEVEL VARIABLES READ AS WHEN THE CALL BEGINS. Each datum BY PROGRAM (the guide's laid-datum.mjs) off the statement by which the dump's own 'gosem.cut.vars' lays the variable. In a bare row this is a premise. The card (YtmoodonemcpgnaaDoorCards.lean) ties it to the program's text. -/
def laid_tidepole_varbit_behind {H : Type} : DataW H := .agg [.lit (.int .i64 0), .lit (.int .i64 3), .lit (.int .i64 6), .lit (.int .i64 9), .lit (.int .i64 12), .lit (.int .i64 18), .lit (.int .i64 25), .lit (.int .i64 56), .lit (.int .i64 64)]

/-- 'tidepolelaw13.TimesPuts': WHATEVER THE INPUT: true; the input reads as it did. -/
def timesPutsSpec : ChangeSpec := { name := "timesPuts", fn := fun _ => fun
  | [d] => { results := [.lit (.bool true)], args := [d] }
  | _ => none }
def timesPutsRow : OpenClaim := { program := "ytmoodonemcpgnaadoor", sum := "09a32e2054781f9aa3a84d8d528081559ed8fda1209561fbfc21abdd629e809b", func := "tidepole/tidepolelaw13.TimesPuts", spec := "timesPuts", named := ["tidepole/varbit.behind"], apart := false, laid := [("tidepole/varbit.behind", laid_tidepole_varbit_behind)] }
def TimesPutsSaid : Prop := timesPutsRow.holds Tryd.pinned (OpenSpec.ofChange timesPutsSpec)

/-- ITS FALSE NEIGHBOUR: 'it returns false'. Refute it at one input. -/
def timesPutsWrong : ChangeSpec := { name := "timesPuts", fn := fun _ => fun
  | [d] => { results := [.lit (.bool false)], args := [d] }
  | _ => none }
def TimesPutsWrongFalsely : Prop := timesPutsRow.holds Tryd.pinned (OpenSpec.ofChange timesPutsWrong)

/-- 'tidepolelaw13.TimesRound': WHATEVER THE INPUT: true; the input reads as it did. -/
def timesRoundSpec : ChangeSpec := { name := "timesRound", fn := fun _ => fun
  | [d1, d2] => { results := [.lit (.bool true)], args := [d1, d2] }
  | _ => none }
def timesRoundRow : OpenClaim := { program := "ytmoodonemcpgnaadoor", sum := "09a32e2054781f9aa3a84d8d528081559ed8fda1209561fbfc21abdd629e809b", func := "tidepole/tidepolelaw13.TimesRound", spec := "timesRound", named := ["tidepole/varbit.behind"], apart := false, laid := [("tidepole/varbit.behind", laid_tidepole_varbit_behind)] }
def TimesRoundSaid : Prop := timesRoundRow.holds Tryd.pinned (OpenSpec.ofChange timesRoundSpec)

/-- ITS FALSE NEIGHBOUR: 'it returns false'. Refute it at one input. -/
def timesRoundWrong : ChangeSpec := { name := "timesRound", fn := fun _ => fun
  | [d1, d2] => { results := [.lit (.bool false)], args := [d1, d2] }
  | _ => none }
def TimesRoundWrongFalsely : Prop := timesRoundRow.holds Tryd.pinned (OpenSpec.ofChange timesRoundWrong)

/-- 'tidepolelaw13.TimesReads': WHATEVER THE INPUT: true; the input reads as it did. -/
def timesReadsSpec : ChangeSpec := { name := "timesReads", fn := fun _ => fun
  | [d1, d2, d3] => { results := [.lit (.bool true)], args := [d1, d2, d3] }
  | _ => none }
def timesReadsRow : OpenClaim := { program := "ytmoodonemcpgnaadoor", sum := "09a32e2054781f9aa3a84d8d528081559ed8fda1209561fbfc21abdd629e809b", func := "tidepole/tidepolelaw13.TimesReads", spec := "timesReads", named := ["tidepole/varbit.behind"], apart := false, laid := [("tidepole/varbit.behind", laid_tidepole_varbit_behind)] }
def TimesReadsSaid : Prop := timesReadsRow.holds Tryd.pinned (OpenSpec.ofChange timesReadsSpec)

/-- ITS FALSE NEIGHBOUR: 'it returns false'. Refute it at one input. -/
def timesReadsWrong : ChangeSpec := { name := "timesReads", fn := fun _ => fun
  | [d1, d2, d3] => { results := [.lit (.bool false)], args := [d1, d2, d3] }
  | _ => none }
def TimesReadsWrongFalsely : Prop := timesReadsRow.holds Tryd.pinned (OpenSpec.ofChange timesReadsWrong)

/-- 'tidepolelaw13.TimesEven': WHATEVER THE INPUT: true; the input reads as it did. -/
def timesEvenSpec : ChangeSpec := { name := "timesEven", fn := fun _ => fun
  | [d1, d2, d3] => { results := [.lit (.bool true)], args := [d1, d2, d3] }
  | _ => none }
def timesEvenRow : OpenClaim := { program := "ytmoodonemcpgnaadoor", sum := "09a32e2054781f9aa3a84d8d528081559ed8fda1209561fbfc21abdd629e809b", func := "tidepole/tidepolelaw13.TimesEven", spec := "timesEven", named := ["tidepole/varbit.behind"], apart := false, laid := [("tidepole/varbit.behind", laid_tidepole_varbit_behind)] }
def TimesEvenSaid : Prop := timesEvenRow.holds Tryd.pinned (OpenSpec.ofChange timesEvenSpec)

/-- ITS FALSE NEIGHBOUR: 'it returns false'. Refute it at one input. -/
def timesEvenWrong : ChangeSpec := { name := "timesEven", fn := fun _ => fun
  | [d1, d2, d3] => { results := [.lit (.bool false)], args := [d1, d2, d3] }
  | _ => none }
def TimesEvenWrongFalsely : Prop := timesEvenRow.holds Tryd.pinned (OpenSpec.ofChange timesEvenWrong)

/- THE SECOND FORM. 'bulk': how many values and letters a reading holds, each counted each time it is reached (what is shared counts as often as it is met; a slice's spare places count too). A statement '..UptoSaid' is the law's where the arguments, and the package variables that the reading takes, are together of bulk at most 1048576: NARROWER than '..Said'. Prove '..Said' where nothing that the law and all that it calls make is longer than what came in: it says more and counts as full. Else prove '..UptoSaid'. A law counts once. -/
mutual
def uptoBulk {H : Type} : DataW H → Nat
  | .lit (.string bytes) => bytes.length + 1
  | .lit _ => 1
  | .nil => 1
  | .ptr d => uptoBulk d + 1
  | .slice elems spare => uptoBulkAll elems + uptoBulkAll spare + 1
  | .agg parts => uptoBulkAll parts + 1
  | .iface _ d => uptoBulk d + 1
  | .map entries => uptoBulkEntries entries + 1
  | .held _ => 1
def uptoBulkAll {H : Type} : List (DataW H) → Nat
  | [] => 0
  | d :: r => uptoBulk d + uptoBulkAll r
def uptoBulkEntries {H : Type} : List (Lit × DataW H) → Nat
  | [] => 0
  | x :: r => uptoBulkEntry x + uptoBulkEntries r
def uptoBulkEntry {H : Type} : Lit × DataW H → Nat
  | (.string bytes, d) => bytes.length + uptoBulk d + 1
  | (_, d) => uptoBulk d + 1
 end
def uptoSmall : (H : Type) → List (DataW H) → Bool := fun _ ds => decide (uptoBulkAll ds ≤ 1048576)
def OpenSpec.upto (s : _root_.Go.ChangeSpec) : _root_.Go.OpenSpec := { _root_.Go.OpenSpec.ofChange s with cond := some uptoSmall }

/-- 'tidepolelaw13.TimesPuts', WHERE WHAT IT READS IS OF BULK AT MOST 1048576: true; the input reads as it did. -/
def timesPutsUptoRow : OpenClaim := { program := "ytmoodonemcpgnaadoor", sum := "09a32e2054781f9aa3a84d8d528081559ed8fda1209561fbfc21abdd629e809b", func := "tidepole/tidepolelaw13.TimesPuts", spec := "timesPuts", named := ["tidepole/varbit.behind"], apart := false, laid := [("tidepole/varbit.behind", laid_tidepole_varbit_behind)], narrowed := true }
def TimesPutsUptoSaid : Prop := timesPutsUptoRow.holds Tryd.pinned (OpenSpec.upto timesPutsSpec)

/-- 'tidepolelaw13.TimesRound', WHERE WHAT IT READS IS OF BULK AT MOST 1048576: true; the input reads as it did. -/
def timesRoundUptoRow : OpenClaim := { program := "ytmoodonemcpgnaadoor", sum := "09a32e2054781f9aa3a84d8d528081559ed8fda1209561fbfc21abdd629e809b", func := "tidepole/tidepolelaw13.TimesRound", spec := "timesRound", named := ["tidepole/varbit.behind"], apart := false, laid := [("tidepole/varbit.behind", laid_tidepole_varbit_behind)], narrowed := true }
def TimesRoundUptoSaid : Prop := timesRoundUptoRow.holds Tryd.pinned (OpenSpec.upto timesRoundSpec)

/-- 'tidepolelaw13.TimesReads', WHERE WHAT IT READS IS OF BULK AT MOST 1048576: true; the input reads as it did. -/
def timesReadsUptoRow : OpenClaim := { program := "ytmoodonemcpgnaadoor", sum := "09a32e2054781f9aa3a84d8d528081559ed8fda1209561fbfc21abdd629e809b", func := "tidepole/tidepolelaw13.TimesReads", spec := "timesReads", named := ["tidepole/varbit.behind"], apart := false, laid := [("tidepole/varbit.behind", laid_tidepole_varbit_behind)], narrowed := true }
def TimesReadsUptoSaid : Prop := timesReadsUptoRow.holds Tryd.pinned (OpenSpec.upto timesReadsSpec)

/-- 'tidepolelaw13.TimesEven', WHERE WHAT IT READS IS OF BULK AT MOST 1048576: true; the input reads as it did. -/
def timesEvenUptoRow : OpenClaim := { program := "ytmoodonemcpgnaadoor", sum := "09a32e2054781f9aa3a84d8d528081559ed8fda1209561fbfc21abdd629e809b", func := "tidepole/tidepolelaw13.TimesEven", spec := "timesEven", named := ["tidepole/varbit.behind"], apart := false, laid := [("tidepole/varbit.behind", laid_tidepole_varbit_behind)], narrowed := true }
def TimesEvenUptoSaid : Prop := timesEvenUptoRow.holds Tryd.pinned (OpenSpec.upto timesEvenSpec)

end Rows
end Go.Proofs.YtmoodonemcpgnaaDoor
