/-
  No cell of these rows narrows 'for every input' (looked for: loops, veiled, ifaces, maps, wideKeys, modest, calm, conditions, laid).
  DERIVED. THE GIVEN ROWS OF THIS SEAT. 4 by the template 'for every input the law returns true; each argument reads behind the call as it read before'; 0 by the template 'total and deterministic' (their statements: YtakjfggkfhjeaaaTotals.lean).
  GIVEN WITH THE SEED: the statements are not yours to turn. If you find one false, say at which input.
  Laid BY PROGRAM, IN A SANDBOX (cutbox-rows.mjs): the forced cells as the released guide's own fill.sh prints them over the translation c67a9faf30d83d98… (all of the seat's roots in one cut). By AI agents, Wed Nov 11 2026. No macro, syntax, notation, axiom, sorry.
-/
import Derived.Test.YtakjfggkfhjeaaaChecked
import GoSem.Claim
import GoSem.ClaimJoined
import GoSem.ClaimMapViews
import Derived.JoinedTies
import Derived.KernelRfl
namespace Go.Proofs.Ytakjfggkfhjeaaa
/- THE CELL 'sum', in the pinned program and in every row, IS THE sha256 OF THE DUMP (.gsa) THAT YtakjfggkfhjeaaaProg.lean LOADS. Nothing in Lean hashes anything: it is a label: what it is worth is what the hold of that sum in a sandbox is worth. -/
noncomputable def Try.pinned : Pinned := { name := "ytakjfggkfhjeaaa", sum := "c67a9faf30d83d98e53af5ab028537681042470709aab198982380146ce84678", checked := Try.checked }
namespace Rows
def none {H : Type} : Left H := { results := [], args := [] }

/-- 'tidepolelaw08.LayoutCompares': WHATEVER THE INPUT: true; the input reads as it did. -/
def layoutComparesSpec : ChangeSpec := { name := "layoutCompares", fn := fun _ => fun
  | [d1, d2, d3] => { results := [.lit (.bool true)], args := [d1, d2, d3] }
  | _ => none }
def layoutComparesRow : OpenClaim := { program := "ytakjfggkfhjeaaa", sum := "c67a9faf30d83d98e53af5ab028537681042470709aab198982380146ce84678", func := "tidepole/tidepolelaw08.LayoutCompares", spec := "layoutCompares", unfollowed := true, recurses := true, apart := false }
def LayoutComparesSaid : Prop := layoutComparesRow.holds Try.pinned (OpenSpec.ofChange layoutComparesSpec)

/-- ITS FALSE NEIGHBOUR: 'it returns false'. Refute it at one input. -/
def layoutComparesWrong : ChangeSpec := { name := "layoutCompares", fn := fun _ => fun
  | [d1, d2, d3] => { results := [.lit (.bool false)], args := [d1, d2, d3] }
  | _ => none }
def LayoutComparesWrongFalsely : Prop := layoutComparesRow.holds Try.pinned (OpenSpec.ofChange layoutComparesWrong)

/-- 'tidepolelaw08.LayoutExpands': WHATEVER THE INPUT: true; the input reads as it did. -/
def layoutExpandsSpec : ChangeSpec := { name := "layoutExpands", fn := fun _ => fun
  | [d1, d2, d3] => { results := [.lit (.bool true)], args := [d1, d2, d3] }
  | _ => none }
def layoutExpandsRow : OpenClaim := { program := "ytakjfggkfhjeaaa", sum := "c67a9faf30d83d98e53af5ab028537681042470709aab198982380146ce84678", func := "tidepole/tidepolelaw08.LayoutExpands", spec := "layoutExpands", unfollowed := true, recurses := true, apart := false }
def LayoutExpandsSaid : Prop := layoutExpandsRow.holds Try.pinned (OpenSpec.ofChange layoutExpandsSpec)

/-- ITS FALSE NEIGHBOUR: 'it returns false'. Refute it at one input. -/
def layoutExpandsWrong : ChangeSpec := { name := "layoutExpands", fn := fun _ => fun
  | [d1, d2, d3] => { results := [.lit (.bool false)], args := [d1, d2, d3] }
  | _ => none }
def LayoutExpandsWrongFalsely : Prop := layoutExpandsRow.holds Try.pinned (OpenSpec.ofChange layoutExpandsWrong)

/-- 'tidepolelaw08.LayoutDeltas': WHATEVER THE INPUT: true; the input reads as it did. -/
def layoutDeltasSpec : ChangeSpec := { name := "layoutDeltas", fn := fun _ => fun
  | [d1, d2] => { results := [.lit (.bool true)], args := [d1, d2] }
  | _ => none }
def layoutDeltasRow : OpenClaim := { program := "ytakjfggkfhjeaaa", sum := "c67a9faf30d83d98e53af5ab028537681042470709aab198982380146ce84678", func := "tidepole/tidepolelaw08.LayoutDeltas", spec := "layoutDeltas", unfollowed := true, recurses := true, apart := false }
def LayoutDeltasSaid : Prop := layoutDeltasRow.holds Try.pinned (OpenSpec.ofChange layoutDeltasSpec)

/-- ITS FALSE NEIGHBOUR: 'it returns false'. Refute it at one input. -/
def layoutDeltasWrong : ChangeSpec := { name := "layoutDeltas", fn := fun _ => fun
  | [d1, d2] => { results := [.lit (.bool false)], args := [d1, d2] }
  | _ => none }
def LayoutDeltasWrongFalsely : Prop := layoutDeltasRow.holds Try.pinned (OpenSpec.ofChange layoutDeltasWrong)

/-- 'tidepolelaw08.LayoutSelf': WHATEVER THE INPUT: true; the input reads as it did. -/
def layoutSelfSpec : ChangeSpec := { name := "layoutSelf", fn := fun _ => fun
  | [d1, d2] => { results := [.lit (.bool true)], args := [d1, d2] }
  | _ => none }
def layoutSelfRow : OpenClaim := { program := "ytakjfggkfhjeaaa", sum := "c67a9faf30d83d98e53af5ab028537681042470709aab198982380146ce84678", func := "tidepole/tidepolelaw08.LayoutSelf", spec := "layoutSelf", unfollowed := true, recurses := true, apart := false }
def LayoutSelfSaid : Prop := layoutSelfRow.holds Try.pinned (OpenSpec.ofChange layoutSelfSpec)

/-- ITS FALSE NEIGHBOUR: 'it returns false'. Refute it at one input. -/
def layoutSelfWrong : ChangeSpec := { name := "layoutSelf", fn := fun _ => fun
  | [d1, d2] => { results := [.lit (.bool false)], args := [d1, d2] }
  | _ => none }
def LayoutSelfWrongFalsely : Prop := layoutSelfRow.holds Try.pinned (OpenSpec.ofChange layoutSelfWrong)

/- THE SECOND FORM. 'bulk': how many values and letters a reading holds, each counted each time it is reached (what is shared counts as often as it is met; a slice's spare places count too). A statement '..UptoSaid' is the law's where the arguments, and the package variables that the reading takes, are together of bulk at most 1048576: NARROWER than '..Said'. Prove '..Said' where nothing that the law and all that it calls make is longer than what came in: it says more and counts as full. Else prove '..UptoSaid'. A law counts once. -/
mutual
def uptoBulk {H : Type} : DataW H → Nat
  | .lit (.string bytes) => bytes.length + 1
  | .lit _ => 1
  | .nil => 1
  | .ptr d => uptoBulk d + 1
  | .slice elems spare => uptoBulkAll elems + uptoBulkAll spare + 1
  | .agg parts => uptoBulkAll parts + 1
  | .iface _ d => uptoBulk d + 1
  | .map entries => uptoBulkEntries entries + 1
  | .held _ => 1
def uptoBulkAll {H : Type} : List (DataW H) → Nat
  | [] => 0
  | d :: r => uptoBulk d + uptoBulkAll r
def uptoBulkEntries {H : Type} : List (Lit × DataW H) → Nat
  | [] => 0
  | x :: r => uptoBulkEntry x + uptoBulkEntries r
def uptoBulkEntry {H : Type} : Lit × DataW H → Nat
  | (.string bytes, d) => bytes.length + uptoBulk d + 1
  | (_, d) => uptoBulk d + 1
 end
def uptoSmall : (H : Type) → List (DataW H) → Bool := fun _ ds => decide (uptoBulkAll ds ≤ 1048576)
def OpenSpec.upto (s : _root_.Go.ChangeSpec) : _root_.Go.OpenSpec := { _root_.Go.OpenSpec.ofChange s with cond := some uptoSmall }

/-- 'tidepolelaw08.LayoutCompares', WHERE WHAT IT READS IS OF BULK AT MOST 1048576: true; the input reads as it did. -/
def layoutComparesUptoRow : OpenClaim := { program := "ytakjfggkfhjeaaa", sum := "c67a9faf30d83d98e53af5ab028537681042470709aab198982380146ce84678", func := "tidepole/tidepolelaw08.LayoutCompares", spec := "layoutCompares", unfollowed := true, recurses := true, apart := false, narrowed := true }
def LayoutComparesUptoSaid : Prop := layoutComparesUptoRow.holds Try.pinned (OpenSpec.upto layoutComparesSpec)

/-- 'tidepolelaw08.LayoutExpands', WHERE WHAT IT READS IS OF BULK AT MOST 1048576: true; the input reads as it did. -/
def layoutExpandsUptoRow : OpenClaim := { program := "ytakjfggkfhjeaaa", sum := "c67a9faf30d83d98e53af5ab028537681042470709aab198982380146ce84678", func := "tidepole/tidepolelaw08.LayoutExpands", spec := "layoutExpands", unfollowed := true, recurses := true, apart := false, narrowed := true }
def LayoutExpandsUptoSaid : Prop := layoutExpandsUptoRow.holds Try.pinned (OpenSpec.upto layoutExpandsSpec)

/-- 'tidepolelaw08.LayoutDeltas', WHERE WHAT IT READS IS OF BULK AT MOST 1048576: true; the input reads as it did. -/
def layoutDeltasUptoRow : OpenClaim := { program := "ytakjfggkfhjeaaa", sum := "c67a9faf30d83d98e53af5ab028537681042470709aab198982380146ce84678", func := "tidepole/tidepolelaw08.LayoutDeltas", spec := "layoutDeltas", unfollowed := true, recurses := true, apart := false, narrowed := true }
def LayoutDeltasUptoSaid : Prop := layoutDeltasUptoRow.holds Try.pinned (OpenSpec.upto layoutDeltasSpec)

/-- 'tidepolelaw08.LayoutSelf', WHERE WHAT IT READS IS OF BULK AT MOST 1048576: true; the input reads as it did. -/
def layoutSelfUptoRow : OpenClaim := { program := "ytakjfggkfhjeaaa", sum := "c67a9faf30d83d98e53af5ab028537681042470709aab198982380146ce84678", func := "tidepole/tidepolelaw08.LayoutSelf", spec := "layoutSelf", unfollowed := true, recurses := true, apart := false, narrowed := true }
def LayoutSelfUptoSaid : Prop := layoutSelfUptoRow.holds Try.pinned (OpenSpec.upto layoutSelfSpec)

end Rows
end Go.Proofs.Ytakjfggkfhjeaaa
