/-
  DERIVED. GIVEN WITH THE SEED: THE CARDS: each row of YtlkoleannlpflaaDoorRows.lean that lists a variable, with what it lists TIED to the program's text (the seventh form; the later family's looks); each row that meets fmt, with fmt's text TOLD by the authors' own Lean function (tested against real Go, not proved from fmt's source: count such statements apart). THE CARD IS WHAT COUNTS. Prove the row's statement (the work); the ties are given (YtlkoleannlpflaaDoorTie.lean); close each card by the builder's one call (the guide's Derived/Test/ToyasCard.lean, 'card_holds'). Laid BY PROGRAM, IN A SANDBOX (cutbox-door.mjs). By AI agents, Wed Nov 11 2026. No macro, syntax, notation, axiom, sorry.
-/
import Derived.Test.YtlkoleannlpflaaDoorRows
import GoSem.ClaimSeven
namespace Go.Proofs.YtlkoleannlpflaaDoor
namespace Rows

/-- THE TIED CARD OF 'muezzinlaw17.BuildSays'. -/
def buildSaysCard : Claim7 := { stood := { row := buildSaysRow, standIns := [], harness := (true, "1b04f113969413c590b89d97f151606c171c8126626363f14e419f62490384a8"), looks := false }, kinds := [], alts := [], laidByText := true, laidKinds := [.data, .data], laidTests := true, laidLooks := .later }
def BuildSaysCardSaid : Prop := Claim7.holds Tryd.pinned (.plain (OpenSpec.ofChange buildSaysSpec)) buildSaysCard

/-- THE TIED CARD OF 'muezzinlaw17.BuildMost'. -/
def buildMostCard : Claim7 := { stood := { row := buildMostRow, standIns := [], harness := (true, "1b04f113969413c590b89d97f151606c171c8126626363f14e419f62490384a8"), looks := false }, kinds := [], alts := [], laidByText := true, laidKinds := [.data, .data], laidTests := true, laidLooks := .later }
def BuildMostCardSaid : Prop := Claim7.holds Tryd.pinned (.plain (OpenSpec.ofChange buildMostSpec)) buildMostCard

/-- THE TIED CARD OF 'muezzinlaw17.BuildAlone'. -/
def buildAloneCard : Claim7 := { stood := { row := buildAloneRow, standIns := [], harness := (true, "1b04f113969413c590b89d97f151606c171c8126626363f14e419f62490384a8"), looks := false }, kinds := [], alts := [], laidByText := true, laidKinds := [.data, .data], laidTests := true, laidLooks := .later }
def BuildAloneCardSaid : Prop := Claim7.holds Tryd.pinned (.plain (OpenSpec.ofChange buildAloneSpec)) buildAloneCard

/-- THE TIED CARD OF 'muezzinlaw17.BuildSame'. -/
def buildSameCard : Claim7 := { stood := { row := buildSameRow, standIns := [], harness := (true, "1b04f113969413c590b89d97f151606c171c8126626363f14e419f62490384a8"), looks := false }, kinds := [], alts := [], laidByText := true, laidKinds := [.data, .data], laidTests := true, laidLooks := .later }
def BuildSameCardSaid : Prop := Claim7.holds Tryd.pinned (.plain (OpenSpec.ofChange buildSameSpec)) buildSameCard

/-- THE SECOND FORM's CARD OF 'muezzinlaw17.BuildSays'. -/
def buildSaysUptoCard : Claim7 := { stood := { row := buildSaysUptoRow, standIns := [], harness := (true, "1b04f113969413c590b89d97f151606c171c8126626363f14e419f62490384a8"), looks := false }, kinds := [], alts := [], laidByText := true, laidKinds := [.data, .data], laidTests := true, laidLooks := .later }
def BuildSaysUptoCardSaid : Prop := Claim7.holds Tryd.pinned (.plain (OpenSpec.upto buildSaysSpec)) buildSaysUptoCard

/-- THE SECOND FORM's CARD OF 'muezzinlaw17.BuildMost'. -/
def buildMostUptoCard : Claim7 := { stood := { row := buildMostUptoRow, standIns := [], harness := (true, "1b04f113969413c590b89d97f151606c171c8126626363f14e419f62490384a8"), looks := false }, kinds := [], alts := [], laidByText := true, laidKinds := [.data, .data], laidTests := true, laidLooks := .later }
def BuildMostUptoCardSaid : Prop := Claim7.holds Tryd.pinned (.plain (OpenSpec.upto buildMostSpec)) buildMostUptoCard

/-- THE SECOND FORM's CARD OF 'muezzinlaw17.BuildAlone'. -/
def buildAloneUptoCard : Claim7 := { stood := { row := buildAloneUptoRow, standIns := [], harness := (true, "1b04f113969413c590b89d97f151606c171c8126626363f14e419f62490384a8"), looks := false }, kinds := [], alts := [], laidByText := true, laidKinds := [.data, .data], laidTests := true, laidLooks := .later }
def BuildAloneUptoCardSaid : Prop := Claim7.holds Tryd.pinned (.plain (OpenSpec.upto buildAloneSpec)) buildAloneUptoCard

/-- THE SECOND FORM's CARD OF 'muezzinlaw17.BuildSame'. -/
def buildSameUptoCard : Claim7 := { stood := { row := buildSameUptoRow, standIns := [], harness := (true, "1b04f113969413c590b89d97f151606c171c8126626363f14e419f62490384a8"), looks := false }, kinds := [], alts := [], laidByText := true, laidKinds := [.data, .data], laidTests := true, laidLooks := .later }
def BuildSameUptoCardSaid : Prop := Claim7.holds Tryd.pinned (.plain (OpenSpec.upto buildSameSpec)) buildSameUptoCard
end Rows
end Go.Proofs.YtlkoleannlpflaaDoor
