/-
  DERIVED. GIVEN WITH THE SEED: THE CARDS: each row of YtpjhniklieaekaaDoorRows.lean that lists a variable, with what it lists TIED to the program's text (the seventh form; the later family's looks); each row that meets fmt, with fmt's text TOLD by the authors' own Lean function (tested against real Go, not proved from fmt's source: count such statements apart). THE CARD IS WHAT COUNTS. Prove the row's statement (the work); the ties are given (YtpjhniklieaekaaDoorTie.lean); close each card by the builder's one call (the guide's Derived/Test/ToyasCard.lean, 'card_holds'). Laid BY PROGRAM, IN A SANDBOX (cutbox-door.mjs). By AI agents, Wed Nov 11 2026. No macro, syntax, notation, axiom, sorry.
-/
import Derived.Test.YtpjhniklieaekaaDoorRows
import GoSem.ClaimSeven
namespace Go.Proofs.YtpjhniklieaekaaDoor
namespace Rows

/-- THE TIED CARD OF 'tidepolelaw04.VarbitPuts'. -/
def varbitPutsCard : Claim7 := { stood := { row := varbitPutsRow, standIns := [], harness := (true, "bb3a91a83c5c736f78980a666e95c47e2630c62b16df1649486f65d57209ce99"), looks := false }, kinds := [], alts := [], laidByText := true, laidKinds := [.data], laidTests := true, laidLooks := .later }
def VarbitPutsCardSaid : Prop := Claim7.holds Tryd.pinned (.plain (OpenSpec.ofChange varbitPutsSpec)) varbitPutsCard

/-- THE TIED CARD OF 'tidepolelaw04.VarbitReads'. -/
def varbitReadsCard : Claim7 := { stood := { row := varbitReadsRow, standIns := [], harness := (true, "bb3a91a83c5c736f78980a666e95c47e2630c62b16df1649486f65d57209ce99"), looks := false }, kinds := [], alts := [], laidByText := true, laidKinds := [.data], laidTests := true, laidLooks := .later }
def VarbitReadsCardSaid : Prop := Claim7.holds Tryd.pinned (.plain (OpenSpec.ofChange varbitReadsSpec)) varbitReadsCard

/-- THE TIED CARD OF 'tidepolelaw04.VarbitRows'. -/
def varbitRowsCard : Claim7 := { stood := { row := varbitRowsRow, standIns := [], harness := (true, "bb3a91a83c5c736f78980a666e95c47e2630c62b16df1649486f65d57209ce99"), looks := false }, kinds := [], alts := [], laidByText := true, laidKinds := [.data], laidTests := true, laidLooks := .later }
def VarbitRowsCardSaid : Prop := Claim7.holds Tryd.pinned (.plain (OpenSpec.ofChange varbitRowsSpec)) varbitRowsCard

/-- THE TIED CARD OF 'tidepolelaw04.VarbitGrows'. -/
def varbitGrowsCard : Claim7 := { stood := { row := varbitGrowsRow, standIns := [], harness := (true, "bb3a91a83c5c736f78980a666e95c47e2630c62b16df1649486f65d57209ce99"), looks := false }, kinds := [], alts := [], laidByText := true, laidKinds := [.data], laidTests := true, laidLooks := .later }
def VarbitGrowsCardSaid : Prop := Claim7.holds Tryd.pinned (.plain (OpenSpec.ofChange varbitGrowsSpec)) varbitGrowsCard

/-- THE SECOND FORM's CARD OF 'tidepolelaw04.VarbitPuts'. -/
def varbitPutsUptoCard : Claim7 := { stood := { row := varbitPutsUptoRow, standIns := [], harness := (true, "bb3a91a83c5c736f78980a666e95c47e2630c62b16df1649486f65d57209ce99"), looks := false }, kinds := [], alts := [], laidByText := true, laidKinds := [.data], laidTests := true, laidLooks := .later }
def VarbitPutsUptoCardSaid : Prop := Claim7.holds Tryd.pinned (.plain (OpenSpec.upto varbitPutsSpec)) varbitPutsUptoCard

/-- THE SECOND FORM's CARD OF 'tidepolelaw04.VarbitReads'. -/
def varbitReadsUptoCard : Claim7 := { stood := { row := varbitReadsUptoRow, standIns := [], harness := (true, "bb3a91a83c5c736f78980a666e95c47e2630c62b16df1649486f65d57209ce99"), looks := false }, kinds := [], alts := [], laidByText := true, laidKinds := [.data], laidTests := true, laidLooks := .later }
def VarbitReadsUptoCardSaid : Prop := Claim7.holds Tryd.pinned (.plain (OpenSpec.upto varbitReadsSpec)) varbitReadsUptoCard

/-- THE SECOND FORM's CARD OF 'tidepolelaw04.VarbitRows'. -/
def varbitRowsUptoCard : Claim7 := { stood := { row := varbitRowsUptoRow, standIns := [], harness := (true, "bb3a91a83c5c736f78980a666e95c47e2630c62b16df1649486f65d57209ce99"), looks := false }, kinds := [], alts := [], laidByText := true, laidKinds := [.data], laidTests := true, laidLooks := .later }
def VarbitRowsUptoCardSaid : Prop := Claim7.holds Tryd.pinned (.plain (OpenSpec.upto varbitRowsSpec)) varbitRowsUptoCard

/-- THE SECOND FORM's CARD OF 'tidepolelaw04.VarbitGrows'. -/
def varbitGrowsUptoCard : Claim7 := { stood := { row := varbitGrowsUptoRow, standIns := [], harness := (true, "bb3a91a83c5c736f78980a666e95c47e2630c62b16df1649486f65d57209ce99"), looks := false }, kinds := [], alts := [], laidByText := true, laidKinds := [.data], laidTests := true, laidLooks := .later }
def VarbitGrowsUptoCardSaid : Prop := Claim7.holds Tryd.pinned (.plain (OpenSpec.upto varbitGrowsSpec)) varbitGrowsUptoCard
end Rows
end Go.Proofs.YtpjhniklieaekaaDoor
