/-
  DERIVED. GIVEN WITH THE SEED: THE CARDS: each row of YtaibopaagjodoaaDoorRows.lean that lists a variable, with what it lists TIED to the program's text (the seventh form; the later family's looks); each row that meets fmt, with fmt's text TOLD by the authors' own Lean function (tested against real Go, not proved from fmt's source: count such statements apart). THE CARD IS WHAT COUNTS. Prove the row's statement (the work); the ties are given (YtaibopaagjodoaaDoorTie.lean); close each card by the builder's one call (the guide's Derived/Test/ToyasCard.lean, 'card_holds'). Laid BY PROGRAM, IN A SANDBOX (cutbox-door.mjs). By AI agents, Wed Nov 11 2026. No macro, syntax, notation, axiom, sorry.
-/
import Derived.Test.YtaibopaagjodoaaDoorRows
import GoSem.ClaimSeven
namespace Go.Proofs.YtaibopaagjodoaaDoor
namespace Rows

/-- THE TIED CARD OF 'muezzinlaw14.PoolLimits'. -/
def poolLimitsCard : Claim7 := { stood := { row := poolLimitsRow, standIns := [], harness := (true, "5023b79d83d875d066c6068ccb76a4f2abf9b20e5af913572d7aa0366ee1a20c"), looks := true }, kinds := [], alts := [], laidByText := true, laidKinds := [.sentinel], laidTests := true, laidLooks := .later }
def PoolLimitsCardSaid : Prop := Claim7.holds Tryd.pinned (.plain (OpenSpec.ofChange poolLimitsSpec)) poolLimitsCard

/-- THE TIED CARD OF 'muezzinlaw14.PoolFattest'. -/
def poolFattestCard : Claim7 := { stood := { row := poolFattestRow, standIns := [], harness := (true, "5023b79d83d875d066c6068ccb76a4f2abf9b20e5af913572d7aa0366ee1a20c"), looks := true }, kinds := [], alts := [], laidByText := true, laidKinds := [.sentinel], laidTests := true, laidLooks := .later }
def PoolFattestCardSaid : Prop := Claim7.holds Tryd.pinned (.plain (OpenSpec.ofChange poolFattestSpec)) poolFattestCard

/-- THE TIED CARD OF 'muezzinlaw14.PoolApart'. -/
def poolApartCard : Claim7 := { stood := { row := poolApartRow, standIns := [], harness := (true, "5023b79d83d875d066c6068ccb76a4f2abf9b20e5af913572d7aa0366ee1a20c"), looks := true }, kinds := [], alts := [], laidByText := true, laidKinds := [.sentinel, .sentinel, .sentinel, .sentinel, .sentinel, .sentinel, .sentinel, .sentinel, .sentinel, .sentinel, .sentinel, .sentinel, .sentinel, .sentinel], laidTests := true, laidLooks := .later }
def PoolApartCardSaid : Prop := Claim7.holds Tryd.pinned (.plain (OpenSpec.ofChange poolApartSpec)) poolApartCard

/-- THE SECOND FORM's CARD OF 'muezzinlaw14.PoolLimits'. -/
def poolLimitsUptoCard : Claim7 := { stood := { row := poolLimitsUptoRow, standIns := [], harness := (true, "5023b79d83d875d066c6068ccb76a4f2abf9b20e5af913572d7aa0366ee1a20c"), looks := true }, kinds := [], alts := [], laidByText := true, laidKinds := [.sentinel], laidTests := true, laidLooks := .later }
def PoolLimitsUptoCardSaid : Prop := Claim7.holds Tryd.pinned (.plain (OpenSpec.upto poolLimitsSpec)) poolLimitsUptoCard

/-- THE SECOND FORM's CARD OF 'muezzinlaw14.PoolFattest'. -/
def poolFattestUptoCard : Claim7 := { stood := { row := poolFattestUptoRow, standIns := [], harness := (true, "5023b79d83d875d066c6068ccb76a4f2abf9b20e5af913572d7aa0366ee1a20c"), looks := true }, kinds := [], alts := [], laidByText := true, laidKinds := [.sentinel], laidTests := true, laidLooks := .later }
def PoolFattestUptoCardSaid : Prop := Claim7.holds Tryd.pinned (.plain (OpenSpec.upto poolFattestSpec)) poolFattestUptoCard

/-- THE SECOND FORM's CARD OF 'muezzinlaw14.PoolApart'. -/
def poolApartUptoCard : Claim7 := { stood := { row := poolApartUptoRow, standIns := [], harness := (true, "5023b79d83d875d066c6068ccb76a4f2abf9b20e5af913572d7aa0366ee1a20c"), looks := true }, kinds := [], alts := [], laidByText := true, laidKinds := [.sentinel, .sentinel, .sentinel, .sentinel, .sentinel, .sentinel, .sentinel, .sentinel, .sentinel, .sentinel, .sentinel, .sentinel, .sentinel, .sentinel], laidTests := true, laidLooks := .later }
def PoolApartUptoCardSaid : Prop := Claim7.holds Tryd.pinned (.plain (OpenSpec.upto poolApartSpec)) poolApartUptoCard
end Rows
end Go.Proofs.YtaibopaagjodoaaDoor
