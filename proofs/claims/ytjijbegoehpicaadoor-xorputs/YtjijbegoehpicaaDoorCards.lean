/-
  DERIVED. GIVEN WITH THE SEED: THE CARDS: each row of YtjijbegoehpicaaDoorRows.lean that lists a variable, with what it lists TIED to the program's text (the seventh form; the later family's looks); each row that meets fmt, with fmt's text TOLD by the authors' own Lean function (tested against real Go, not proved from fmt's source: count such statements apart). THE CARD IS WHAT COUNTS. Prove the row's statement (the work); the ties are given (YtjijbegoehpicaaDoorTie.lean); close each card by the builder's one call (the guide's Derived/Test/ToyasCard.lean, 'card_holds'). Laid BY PROGRAM, IN A SANDBOX (cutbox-door.mjs). By AI agents, Wed Nov 11 2026. No macro, syntax, notation, axiom, sorry.
-/
import Derived.Test.YtjijbegoehpicaaDoorRows
import GoSem.ClaimSeven
namespace Go.Proofs.YtjijbegoehpicaaDoor
namespace Rows

/-- THE TIED CARD OF 'tidepolelaw05.XorPuts'. -/
def xorPutsCard : Claim7 := { stood := { row := xorPutsRow, standIns := [], harness := (true, "c69496151b009dcccc234c0a0a977b1eb3134da6d549caf62efb193b1abca005"), looks := false }, kinds := [], alts := [], laidByText := true, laidKinds := [.data], laidTests := true, laidLooks := .later }
def XorPutsCardSaid : Prop := Claim7.holds Tryd.pinned (.plain (OpenSpec.ofChange xorPutsSpec)) xorPutsCard

/-- THE TIED CARD OF 'tidepolelaw05.XorRound'. -/
def xorRoundCard : Claim7 := { stood := { row := xorRoundRow, standIns := [], harness := (true, "c69496151b009dcccc234c0a0a977b1eb3134da6d549caf62efb193b1abca005"), looks := false }, kinds := [], alts := [], laidByText := true, laidKinds := [.data], laidTests := true, laidLooks := .later }
def XorRoundCardSaid : Prop := Claim7.holds Tryd.pinned (.plain (OpenSpec.ofChange xorRoundSpec)) xorRoundCard

/-- THE SECOND FORM's CARD OF 'tidepolelaw05.XorPuts'. -/
def xorPutsUptoCard : Claim7 := { stood := { row := xorPutsUptoRow, standIns := [], harness := (true, "c69496151b009dcccc234c0a0a977b1eb3134da6d549caf62efb193b1abca005"), looks := false }, kinds := [], alts := [], laidByText := true, laidKinds := [.data], laidTests := true, laidLooks := .later }
def XorPutsUptoCardSaid : Prop := Claim7.holds Tryd.pinned (.plain (OpenSpec.upto xorPutsSpec)) xorPutsUptoCard

/-- THE SECOND FORM's CARD OF 'tidepolelaw05.XorRound'. -/
def xorRoundUptoCard : Claim7 := { stood := { row := xorRoundUptoRow, standIns := [], harness := (true, "c69496151b009dcccc234c0a0a977b1eb3134da6d549caf62efb193b1abca005"), looks := false }, kinds := [], alts := [], laidByText := true, laidKinds := [.data], laidTests := true, laidLooks := .later }
def XorRoundUptoCardSaid : Prop := Claim7.holds Tryd.pinned (.plain (OpenSpec.upto xorRoundSpec)) xorRoundUptoCard
end Rows
end Go.Proofs.YtjijbegoehpicaaDoor
