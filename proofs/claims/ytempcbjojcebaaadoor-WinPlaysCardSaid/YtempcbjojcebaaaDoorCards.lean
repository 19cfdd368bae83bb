/-
  DERIVED. GIVEN WITH THE SEED: THE CARDS: each row of YtempcbjojcebaaaDoorRows.lean that lists a variable, with what it lists TIED to the program's text (the seventh form; the later family's looks); each row that meets fmt, with fmt's text TOLD by the authors' own Lean function (tested against real Go, not proved from fmt's source: count such statements apart). THE CARD IS WHAT COUNTS. Prove the row's statement (the work); the ties are given (YtempcbjojcebaaaDoorTie.lean); close each card by the builder's one call (the guide's Derived/Test/ToyasCard.lean, 'card_holds'). Laid BY PROGRAM, IN A SANDBOX (cutbox-door.mjs). By AI agents, Wed Nov 11 2026. No macro, syntax, notation, axiom, sorry.
-/
import Derived.Test.YtempcbjojcebaaaDoorRows
import GoSem.ClaimSeven
namespace Go.Proofs.YtempcbjojcebaaaDoor
namespace Rows

/-- THE TIED CARD OF 'muezzinlaw15.WinPlays'. -/
def winPlaysCard : Claim7 := { stood := { row := winPlaysRow, standIns := [], harness := (true, "48457d70c9a23281331b7a981defccd519ac4bf03d0f22e44e03a8050d5da5a6"), looks := true }, kinds := [], alts := [], laidByText := true, laidKinds := [.data, .sentinel, .sentinel, .sentinel, .sentinel, .sentinel, .sentinel, .sentinel, .sentinel, .sentinel, .sentinel, .sentinel, .sentinel, .sentinel, .sentinel], laidTests := true, laidLooks := .later }
def WinPlaysCardSaid : Prop := Claim7.holds Tryd.pinned (.plain (OpenSpec.ofChange winPlaysSpec)) winPlaysCard

/-- THE TIED CARD OF 'muezzinlaw15.WinHolds'. -/
def winHoldsCard : Claim7 := { stood := { row := winHoldsRow, standIns := [], harness := (true, "48457d70c9a23281331b7a981defccd519ac4bf03d0f22e44e03a8050d5da5a6"), looks := true }, kinds := [], alts := [], laidByText := true, laidKinds := [.data, .sentinel, .sentinel], laidTests := true, laidLooks := .later }
def WinHoldsCardSaid : Prop := Claim7.holds Tryd.pinned (.plain (OpenSpec.ofChange winHoldsSpec)) winHoldsCard

/-- THE TIED CARD OF 'muezzinlaw15.WinRound'. -/
def winRoundCard : Claim7 := { stood := { row := winRoundRow, standIns := [], harness := (true, "48457d70c9a23281331b7a981defccd519ac4bf03d0f22e44e03a8050d5da5a6"), looks := true }, kinds := [], alts := [], laidByText := true, laidKinds := [.data, .sentinel, .sentinel], laidTests := true, laidLooks := .later }
def WinRoundCardSaid : Prop := Claim7.holds Tryd.pinned (.plain (OpenSpec.ofChange winRoundSpec)) winRoundCard

/-- THE TIED CARD OF 'muezzinlaw15.WinGaps'. -/
def winGapsCard : Claim7 := { stood := { row := winGapsRow, standIns := [], harness := (true, "48457d70c9a23281331b7a981defccd519ac4bf03d0f22e44e03a8050d5da5a6"), looks := true }, kinds := [], alts := [], laidByText := true, laidKinds := [.data, .sentinel, .sentinel, .sentinel, .sentinel, .sentinel, .sentinel, .sentinel, .sentinel, .sentinel, .sentinel, .sentinel, .sentinel, .sentinel, .sentinel], laidTests := true, laidLooks := .later }
def WinGapsCardSaid : Prop := Claim7.holds Tryd.pinned (.plain (OpenSpec.ofChange winGapsSpec)) winGapsCard

/-- THE SECOND FORM's CARD OF 'muezzinlaw15.WinPlays'. -/
def winPlaysUptoCard : Claim7 := { stood := { row := winPlaysUptoRow, standIns := [], harness := (true, "48457d70c9a23281331b7a981defccd519ac4bf03d0f22e44e03a8050d5da5a6"), looks := true }, kinds := [], alts := [], laidByText := true, laidKinds := [.data, .sentinel, .sentinel, .sentinel, .sentinel, .sentinel, .sentinel, .sentinel, .sentinel, .sentinel, .sentinel, .sentinel, .sentinel, .sentinel, .sentinel], laidTests := true, laidLooks := .later }
def WinPlaysUptoCardSaid : Prop := Claim7.holds Tryd.pinned (.plain (OpenSpec.upto winPlaysSpec)) winPlaysUptoCard

/-- THE SECOND FORM's CARD OF 'muezzinlaw15.WinHolds'. -/
def winHoldsUptoCard : Claim7 := { stood := { row := winHoldsUptoRow, standIns := [], harness := (true, "48457d70c9a23281331b7a981defccd519ac4bf03d0f22e44e03a8050d5da5a6"), looks := true }, kinds := [], alts := [], laidByText := true, laidKinds := [.data, .sentinel, .sentinel], laidTests := true, laidLooks := .later }
def WinHoldsUptoCardSaid : Prop := Claim7.holds Tryd.pinned (.plain (OpenSpec.upto winHoldsSpec)) winHoldsUptoCard

/-- THE SECOND FORM's CARD OF 'muezzinlaw15.WinRound'. -/
def winRoundUptoCard : Claim7 := { stood := { row := winRoundUptoRow, standIns := [], harness := (true, "48457d70c9a23281331b7a981defccd519ac4bf03d0f22e44e03a8050d5da5a6"), looks := true }, kinds := [], alts := [], laidByText := true, laidKinds := [.data, .sentinel, .sentinel], laidTests := true, laidLooks := .later }
def WinRoundUptoCardSaid : Prop := Claim7.holds Tryd.pinned (.plain (OpenSpec.upto winRoundSpec)) winRoundUptoCard

/-- THE SECOND FORM's CARD OF 'muezzinlaw15.WinGaps'. -/
def winGapsUptoCard : Claim7 := { stood := { row := winGapsUptoRow, standIns := [], harness := (true, "48457d70c9a23281331b7a981defccd519ac4bf03d0f22e44e03a8050d5da5a6"), looks := true }, kinds := [], alts := [], laidByText := true, laidKinds := [.data, .sentinel, .sentinel, .sentinel, .sentinel, .sentinel, .sentinel, .sentinel, .sentinel, .sentinel, .sentinel, .sentinel, .sentinel, .sentinel, .sentinel], laidTests := true, laidLooks := .later }
def WinGapsUptoCardSaid : Prop := Claim7.holds Tryd.pinned (.plain (OpenSpec.upto winGapsSpec)) winGapsUptoCard
end Rows
end Go.Proofs.YtempcbjojcebaaaDoor
