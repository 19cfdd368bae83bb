/-
  DERIVED. GIVEN WITH THE SEED: THE CARDS: each row of YtlbfioknkagboaaDoorRows.lean that lists a variable, with what it lists TIED to the program's text (the seventh form; the later family's looks); each row that meets fmt, with fmt's text TOLD by the authors' own Lean function (tested against real Go, not proved from fmt's source: count such statements apart). THE CARD IS WHAT COUNTS. Prove the row's statement (the work); the ties are given (YtlbfioknkagboaaDoorTie.lean); close each card by the builder's one call (the guide's Derived/Test/ToyasCard.lean, 'card_holds'). Laid BY PROGRAM, IN A SANDBOX (cutbox-door.mjs). By AI agents, Wed Nov 11 2026. No macro, syntax, notation, axiom, sorry.
-/
import Derived.Test.YtlbfioknkagboaaDoorRows
import GoSem.ClaimSeven
namespace Go.Proofs.YtlbfioknkagboaaDoor
namespace Rows

/-- THE TIED CARD OF 'muezzinlaw16.BaOnce'. -/
def baOnceCard : Claim7 := { stood := { row := baOnceRow, standIns := [], harness := (true, "a7f234f8e0a53f8cbbff1c962a9dcf5191ecdb62e07356a5289e51e384c7c0e6"), looks := true }, kinds := [], alts := [], laidByText := true, laidKinds := [.data, .sentinel, .sentinel, .sentinel, .sentinel, .sentinel], laidTests := true, laidLooks := .later }
def BaOnceCardSaid : Prop := Claim7.holds Tryd.pinned (.plain (OpenSpec.ofChange baOnceSpec)) baOnceCard

/-- THE TIED CARD OF 'muezzinlaw16.BaHears'. -/
def baHearsCard : Claim7 := { stood := { row := baHearsRow, standIns := [], harness := (true, "a7f234f8e0a53f8cbbff1c962a9dcf5191ecdb62e07356a5289e51e384c7c0e6"), looks := true }, kinds := [], alts := [], laidByText := true, laidKinds := [.data, .sentinel, .sentinel, .sentinel, .sentinel, .sentinel], laidTests := true, laidLooks := .later }
def BaHearsCardSaid : Prop := Claim7.holds Tryd.pinned (.plain (OpenSpec.ofChange baHearsSpec)) baHearsCard

/-- THE TIED CARD OF 'muezzinlaw16.BaAsks'. -/
def baAsksCard : Claim7 := { stood := { row := baAsksRow, standIns := [], harness := (true, "a7f234f8e0a53f8cbbff1c962a9dcf5191ecdb62e07356a5289e51e384c7c0e6"), looks := true }, kinds := [], alts := [], laidByText := true, laidKinds := [.data, .sentinel, .sentinel, .sentinel, .sentinel, .sentinel, .sentinel, .sentinel, .sentinel, .sentinel, .sentinel, .sentinel, .sentinel, .sentinel, .sentinel], laidTests := true, laidLooks := .later }
def BaAsksCardSaid : Prop := Claim7.holds Tryd.pinned (.plain (OpenSpec.ofChange baAsksSpec)) baAsksCard

/-- THE TIED CARD OF 'muezzinlaw16.BaLives'. -/
def baLivesCard : Claim7 := { stood := { row := baLivesRow, standIns := [], harness := (true, "a7f234f8e0a53f8cbbff1c962a9dcf5191ecdb62e07356a5289e51e384c7c0e6"), looks := true }, kinds := [], alts := [], laidByText := true, laidKinds := [.data, .sentinel, .sentinel, .sentinel, .sentinel], laidTests := true, laidLooks := .later }
def BaLivesCardSaid : Prop := Claim7.holds Tryd.pinned (.plain (OpenSpec.ofChange baLivesSpec)) baLivesCard

/-- THE TIED CARD OF 'muezzinlaw16.BaStates'. -/
def baStatesCard : Claim7 := { stood := { row := baStatesRow, standIns := [], harness := (true, "a7f234f8e0a53f8cbbff1c962a9dcf5191ecdb62e07356a5289e51e384c7c0e6"), looks := true }, kinds := [], alts := [], laidByText := true, laidKinds := [.data, .sentinel, .sentinel, .sentinel, .sentinel, .sentinel, .sentinel, .sentinel, .sentinel, .sentinel, .sentinel, .sentinel, .sentinel, .sentinel, .sentinel], laidTests := true, laidLooks := .later }
def BaStatesCardSaid : Prop := Claim7.holds Tryd.pinned (.plain (OpenSpec.ofChange baStatesSpec)) baStatesCard

/-- THE TIED CARD OF 'muezzinlaw16.BaSeqs'. -/
def baSeqsCard : Claim7 := { stood := { row := baSeqsRow, standIns := [], harness := (true, "a7f234f8e0a53f8cbbff1c962a9dcf5191ecdb62e07356a5289e51e384c7c0e6"), looks := true }, kinds := [], alts := [], laidByText := true, laidKinds := [.data, .sentinel, .sentinel, .sentinel, .sentinel, .sentinel, .sentinel, .sentinel, .sentinel, .sentinel, .sentinel, .sentinel, .sentinel, .sentinel, .sentinel], laidTests := true, laidLooks := .later }
def BaSeqsCardSaid : Prop := Claim7.holds Tryd.pinned (.plain (OpenSpec.ofChange baSeqsSpec)) baSeqsCard

/-- THE SECOND FORM's CARD OF 'muezzinlaw16.BaOnce'. -/
def baOnceUptoCard : Claim7 := { stood := { row := baOnceUptoRow, standIns := [], harness := (true, "a7f234f8e0a53f8cbbff1c962a9dcf5191ecdb62e07356a5289e51e384c7c0e6"), looks := true }, kinds := [], alts := [], laidByText := true, laidKinds := [.data, .sentinel, .sentinel, .sentinel, .sentinel, .sentinel], laidTests := true, laidLooks := .later }
def BaOnceUptoCardSaid : Prop := Claim7.holds Tryd.pinned (.plain (OpenSpec.upto baOnceSpec)) baOnceUptoCard

/-- THE SECOND FORM's CARD OF 'muezzinlaw16.BaHears'. -/
def baHearsUptoCard : Claim7 := { stood := { row := baHearsUptoRow, standIns := [], harness := (true, "a7f234f8e0a53f8cbbff1c962a9dcf5191ecdb62e07356a5289e51e384c7c0e6"), looks := true }, kinds := [], alts := [], laidByText := true, laidKinds := [.data, .sentinel, .sentinel, .sentinel, .sentinel, .sentinel], laidTests := true, laidLooks := .later }
def BaHearsUptoCardSaid : Prop := Claim7.holds Tryd.pinned (.plain (OpenSpec.upto baHearsSpec)) baHearsUptoCard

/-- THE SECOND FORM's CARD OF 'muezzinlaw16.BaAsks'. -/
def baAsksUptoCard : Claim7 := { stood := { row := baAsksUptoRow, standIns := [], harness := (true, "a7f234f8e0a53f8cbbff1c962a9dcf5191ecdb62e07356a5289e51e384c7c0e6"), looks := true }, kinds := [], alts := [], laidByText := true, laidKinds := [.data, .sentinel, .sentinel, .sentinel, .sentinel, .sentinel, .sentinel, .sentinel, .sentinel, .sentinel, .sentinel, .sentinel, .sentinel, .sentinel, .sentinel], laidTests := true, laidLooks := .later }
def BaAsksUptoCardSaid : Prop := Claim7.holds Tryd.pinned (.plain (OpenSpec.upto baAsksSpec)) baAsksUptoCard

/-- THE SECOND FORM's CARD OF 'muezzinlaw16.BaLives'. -/
def baLivesUptoCard : Claim7 := { stood := { row := baLivesUptoRow, standIns := [], harness := (true, "a7f234f8e0a53f8cbbff1c962a9dcf5191ecdb62e07356a5289e51e384c7c0e6"), looks := true }, kinds := [], alts := [], laidByText := true, laidKinds := [.data, .sentinel, .sentinel, .sentinel, .sentinel], laidTests := true, laidLooks := .later }
def BaLivesUptoCardSaid : Prop := Claim7.holds Tryd.pinned (.plain (OpenSpec.upto baLivesSpec)) baLivesUptoCard

/-- THE SECOND FORM's CARD OF 'muezzinlaw16.BaStates'. -/
def baStatesUptoCard : Claim7 := { stood := { row := baStatesUptoRow, standIns := [], harness := (true, "a7f234f8e0a53f8cbbff1c962a9dcf5191ecdb62e07356a5289e51e384c7c0e6"), looks := true }, kinds := [], alts := [], laidByText := true, laidKinds := [.data, .sentinel, .sentinel, .sentinel, .sentinel, .sentinel, .sentinel, .sentinel, .sentinel, .sentinel, .sentinel, .sentinel, .sentinel, .sentinel, .sentinel], laidTests := true, laidLooks := .later }
def BaStatesUptoCardSaid : Prop := Claim7.holds Tryd.pinned (.plain (OpenSpec.upto baStatesSpec)) baStatesUptoCard

/-- THE SECOND FORM's CARD OF 'muezzinlaw16.BaSeqs'. -/
def baSeqsUptoCard : Claim7 := { stood := { row := baSeqsUptoRow, standIns := [], harness := (true, "a7f234f8e0a53f8cbbff1c962a9dcf5191ecdb62e07356a5289e51e384c7c0e6"), looks := true }, kinds := [], alts := [], laidByText := true, laidKinds := [.data, .sentinel, .sentinel, .sentinel, .sentinel, .sentinel, .sentinel, .sentinel, .sentinel, .sentinel, .sentinel, .sentinel, .sentinel, .sentinel, .sentinel], laidTests := true, laidLooks := .later }
def BaSeqsUptoCardSaid : Prop := Claim7.holds Tryd.pinned (.plain (OpenSpec.upto baSeqsSpec)) baSeqsUptoCard
end Rows
end Go.Proofs.YtlbfioknkagboaaDoor
