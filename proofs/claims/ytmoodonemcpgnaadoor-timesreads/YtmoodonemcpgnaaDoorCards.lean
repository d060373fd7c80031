/-
  DERIVED. GIVEN WITH THE SEED: THE CARDS: each row of YtmoodonemcpgnaaDoorRows.lean that lists a variable, with what it lists TIED to the program's text (the seventh form; the later family's looks); each row that meets fmt, with fmt's text TOLD by the authors' own Lean function (tested against real Go, not proved from fmt's source: count such statements apart). THE CARD IS WHAT COUNTS. Prove the row's statement (the work); the ties are given (YtmoodonemcpgnaaDoorTie.lean); close each card by the builder's one call (the guide's Derived/Test/ToyasCard.lean, 'card_holds'). Laid BY PROGRAM, IN A SANDBOX (cutbox-door.mjs). By AI agents, Wed Nov 11 2026. No macro, syntax, notation, axiom, sorry.
-/
import Derived.Test.YtmoodonemcpgnaaDoorRows
import GoSem.ClaimSeven
namespace Go.Proofs.YtmoodonemcpgnaaDoor
namespace Rows

/-- THE TIED CARD OF 'tidepolelaw13.TimesPuts'. -/
def timesPutsCard : Claim7 := { stood := { row := timesPutsRow, standIns := [], harness := (true, "78c9e39b896ba3f1ab97fb8846808d5f99f3179351242dbe35cb180f1d76e0b4"), looks := false }, kinds := [], alts := [], laidByText := true, laidKinds := [.data], laidTests := true, laidLooks := .later }
def TimesPutsCardSaid : Prop := Claim7.holds Tryd.pinned (.plain (OpenSpec.ofChange timesPutsSpec)) timesPutsCard

/-- THE TIED CARD OF 'tidepolelaw13.TimesRound'. -/
def timesRoundCard : Claim7 := { stood := { row := timesRoundRow, standIns := [], harness := (true, "78c9e39b896ba3f1ab97fb8846808d5f99f3179351242dbe35cb180f1d76e0b4"), looks := false }, kinds := [], alts := [], laidByText := true, laidKinds := [.data], laidTests := true, laidLooks := .later }
def TimesRoundCardSaid : Prop := Claim7.holds Tryd.pinned (.plain (OpenSpec.ofChange timesRoundSpec)) timesRoundCard

/-- THE TIED CARD OF 'tidepolelaw13.TimesReads'. -/
def timesReadsCard : Claim7 := { stood := { row := timesReadsRow, standIns := [], harness := (true, "78c9e39b896ba3f1ab97fb8846808d5f99f3179351242dbe35cb180f1d76e0b4"), looks := false }, kinds := [], alts := [], laidByText := true, laidKinds := [.data], laidTests := true, laidLooks := .later }
def TimesReadsCardSaid : Prop := Claim7.holds Tryd.pinned (.plain (OpenSpec.ofChange timesReadsSpec)) timesReadsCard

/-- THE TIED CARD OF 'tidepolelaw13.TimesEven'. -/
def timesEvenCard : Claim7 := { stood := { row := timesEvenRow, standIns := [], harness := (true, "78c9e39b896ba3f1ab97fb8846808d5f99f3179351242dbe35cb180f1d76e0b4"), looks := false }, kinds := [], alts := [], laidByText := true, laidKinds := [.data], laidTests := true, laidLooks := .later }
def TimesEvenCardSaid : Prop := Claim7.holds Tryd.pinned (.plain (OpenSpec.ofChange timesEvenSpec)) timesEvenCard

/-- THE SECOND FORM's CARD OF 'tidepolelaw13.TimesPuts'. -/
def timesPutsUptoCard : Claim7 := { stood := { row := timesPutsUptoRow, standIns := [], harness := (true, "78c9e39b896ba3f1ab97fb8846808d5f99f3179351242dbe35cb180f1d76e0b4"), looks := false }, kinds := [], alts := [], laidByText := true, laidKinds := [.data], laidTests := true, laidLooks := .later }
def TimesPutsUptoCardSaid : Prop := Claim7.holds Tryd.pinned (.plain (OpenSpec.upto timesPutsSpec)) timesPutsUptoCard

/-- THE SECOND FORM's CARD OF 'tidepolelaw13.TimesRound'. -/
def timesRoundUptoCard : Claim7 := { stood := { row := timesRoundUptoRow, standIns := [], harness := (true, "78c9e39b896ba3f1ab97fb8846808d5f99f3179351242dbe35cb180f1d76e0b4"), looks := false }, kinds := [], alts := [], laidByText := true, laidKinds := [.data], laidTests := true, laidLooks := .later }
def TimesRoundUptoCardSaid : Prop := Claim7.holds Tryd.pinned (.plain (OpenSpec.upto timesRoundSpec)) timesRoundUptoCard

/-- THE SECOND FORM's CARD OF 'tidepolelaw13.TimesReads'. -/
def timesReadsUptoCard : Claim7 := { stood := { row := timesReadsUptoRow, standIns := [], harness := (true, "78c9e39b896ba3f1ab97fb8846808d5f99f3179351242dbe35cb180f1d76e0b4"), looks := false }, kinds := [], alts := [], laidByText := true, laidKinds := [.data], laidTests := true, laidLooks := .later }
def TimesReadsUptoCardSaid : Prop := Claim7.holds Tryd.pinned (.plain (OpenSpec.upto timesReadsSpec)) timesReadsUptoCard

/-- THE SECOND FORM's CARD OF 'tidepolelaw13.TimesEven'. -/
def timesEvenUptoCard : Claim7 := { stood := { row := timesEvenUptoRow, standIns := [], harness := (true, "78c9e39b896ba3f1ab97fb8846808d5f99f3179351242dbe35cb180f1d76e0b4"), looks := false }, kinds := [], alts := [], laidByText := true, laidKinds := [.data], laidTests := true, laidLooks := .later }
def TimesEvenUptoCardSaid : Prop := Claim7.holds Tryd.pinned (.plain (OpenSpec.upto timesEvenSpec)) timesEvenUptoCard
end Rows
end Go.Proofs.YtmoodonemcpgnaaDoor
