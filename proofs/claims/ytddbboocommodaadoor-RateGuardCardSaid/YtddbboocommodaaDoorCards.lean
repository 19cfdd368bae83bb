/-
  DERIVED. GIVEN WITH THE SEED: THE CARDS: each row of YtddbboocommodaaDoorRows.lean that lists a variable, with what it lists TIED to the program's text (the seventh form; the later family's looks); each row that meets fmt, with fmt's text TOLD by the authors' own Lean function (tested against real Go, not proved from fmt's source: count such statements apart). THE CARD IS WHAT COUNTS. Prove the row's statement (the work); the ties are given (YtddbboocommodaaDoorTie.lean); close each card by the builder's one call (the guide's Derived/Test/ToyasCard.lean, 'card_holds'). Laid BY PROGRAM, IN A SANDBOX (cutbox-door.mjs). By AI agents, Wed Nov 11 2026. No macro, syntax, notation, axiom, sorry.
-/
import Derived.Test.YtddbboocommodaaDoorRows
import GoSem.ClaimSeven
namespace Go.Proofs.YtddbboocommodaaDoor
namespace Rows

/-- THE TIED CARD OF 'muezzinlaw8.RateGuard'. -/
def rateGuardCard : Claim7 := { stood := { row := rateGuardRow, standIns := [], harness := (true, "ff94b89131d58c1ec9dd80a951445cf3bc59e882743277213e0bcf35a10a35d5"), looks := false }, kinds := [], alts := [], laidByText := true, laidKinds := [.data, .data], laidTests := true, laidLooks := .later }
def RateGuardCardSaid : Prop := Claim7.holds Tryd.pinned (.plain (OpenSpec.ofChange rateGuardSpec)) rateGuardCard

/-- THE TIED CARD OF 'muezzinlaw8.RateSays'. -/
def rateSaysCard : Claim7 := { stood := { row := rateSaysRow, standIns := [], harness := (true, "ff94b89131d58c1ec9dd80a951445cf3bc59e882743277213e0bcf35a10a35d5"), looks := false }, kinds := [], alts := [], laidByText := true, laidKinds := [.data, .data], laidTests := true, laidLooks := .later }
def RateSaysCardSaid : Prop := Claim7.holds Tryd.pinned (.plain (OpenSpec.ofChange rateSaysSpec)) rateSaysCard

/-- THE TIED CARD OF 'muezzinlaw8.RateGrows'. -/
def rateGrowsCard : Claim7 := { stood := { row := rateGrowsRow, standIns := [], harness := (true, "ff94b89131d58c1ec9dd80a951445cf3bc59e882743277213e0bcf35a10a35d5"), looks := false }, kinds := [], alts := [], laidByText := true, laidKinds := [.data, .data], laidTests := true, laidLooks := .later }
def RateGrowsCardSaid : Prop := Claim7.holds Tryd.pinned (.plain (OpenSpec.ofChange rateGrowsSpec)) rateGrowsCard

/-- THE TIED CARD OF 'muezzinlaw8.RateMany'. -/
def rateManyCard : Claim7 := { stood := { row := rateManyRow, standIns := [], harness := (true, "ff94b89131d58c1ec9dd80a951445cf3bc59e882743277213e0bcf35a10a35d5"), looks := false }, kinds := [], alts := [], laidByText := true, laidKinds := [.data, .data], laidTests := true, laidLooks := .later }
def RateManyCardSaid : Prop := Claim7.holds Tryd.pinned (.plain (OpenSpec.ofChange rateManySpec)) rateManyCard

/-- THE SECOND FORM's CARD OF 'muezzinlaw8.RateGuard'. -/
def rateGuardUptoCard : Claim7 := { stood := { row := rateGuardUptoRow, standIns := [], harness := (true, "ff94b89131d58c1ec9dd80a951445cf3bc59e882743277213e0bcf35a10a35d5"), looks := false }, kinds := [], alts := [], laidByText := true, laidKinds := [.data, .data], laidTests := true, laidLooks := .later }
def RateGuardUptoCardSaid : Prop := Claim7.holds Tryd.pinned (.plain (OpenSpec.upto rateGuardSpec)) rateGuardUptoCard

/-- THE SECOND FORM's CARD OF 'muezzinlaw8.RateSays'. -/
def rateSaysUptoCard : Claim7 := { stood := { row := rateSaysUptoRow, standIns := [], harness := (true, "ff94b89131d58c1ec9dd80a951445cf3bc59e882743277213e0bcf35a10a35d5"), looks := false }, kinds := [], alts := [], laidByText := true, laidKinds := [.data, .data], laidTests := true, laidLooks := .later }
def RateSaysUptoCardSaid : Prop := Claim7.holds Tryd.pinned (.plain (OpenSpec.upto rateSaysSpec)) rateSaysUptoCard

/-- THE SECOND FORM's CARD OF 'muezzinlaw8.RateGrows'. -/
def rateGrowsUptoCard : Claim7 := { stood := { row := rateGrowsUptoRow, standIns := [], harness := (true, "ff94b89131d58c1ec9dd80a951445cf3bc59e882743277213e0bcf35a10a35d5"), looks := false }, kinds := [], alts := [], laidByText := true, laidKinds := [.data, .data], laidTests := true, laidLooks := .later }
def RateGrowsUptoCardSaid : Prop := Claim7.holds Tryd.pinned (.plain (OpenSpec.upto rateGrowsSpec)) rateGrowsUptoCard

/-- THE SECOND FORM's CARD OF 'muezzinlaw8.RateMany'. -/
def rateManyUptoCard : Claim7 := { stood := { row := rateManyUptoRow, standIns := [], harness := (true, "ff94b89131d58c1ec9dd80a951445cf3bc59e882743277213e0bcf35a10a35d5"), looks := false }, kinds := [], alts := [], laidByText := true, laidKinds := [.data, .data], laidTests := true, laidLooks := .later }
def RateManyUptoCardSaid : Prop := Claim7.holds Tryd.pinned (.plain (OpenSpec.upto rateManySpec)) rateManyUptoCard
end Rows
end Go.Proofs.YtddbboocommodaaDoor
