/-
  DERIVED. GIVEN WITH THE SEED: THE CARDS: each row of YtndkmgcmegcieaaDoorRows.lean that lists a variable, with what it lists TIED to the program's text (the seventh form; the later family's looks); each row that meets fmt, with fmt's text TOLD by the authors' own Lean function (tested against real Go, not proved from fmt's source: count such statements apart). THE CARD IS WHAT COUNTS. Prove the row's statement (the work); the ties are given (YtndkmgcmegcieaaDoorTie.lean); close each card by the builder's one call (the guide's Derived/Test/ToyasCard.lean, 'card_holds'). Laid BY PROGRAM, IN A SANDBOX (cutbox-door.mjs). By AI agents, Wed Nov 11 2026. No macro, syntax, notation, axiom, sorry.
-/
import Derived.Test.YtndkmgcmegcieaaDoorRows
import GoSem.ClaimSeven
namespace Go.Proofs.YtndkmgcmegcieaaDoor
namespace Rows

/-- THE TIED CARD OF 'muezzinlaw18.EdcaPlays'. -/
def edcaPlaysCard : Claim7 := { stood := { row := edcaPlaysRow, standIns := [], harness := (true, "7fce502d0522256295953e8f7a5d577840b793226f771a51842000fcdaf08970"), looks := true }, kinds := [], alts := [], laidByText := true, laidKinds := [.sentinel, .sentinel, .sentinel, .sentinel, .sentinel, .sentinel, .sentinel, .sentinel, .sentinel, .sentinel, .sentinel, .sentinel, .sentinel, .sentinel, .data], laidTests := true, laidLooks := .later }
def EdcaPlaysCardSaid : Prop := Claim7.holds Tryd.pinned (.plain (OpenSpec.ofChange edcaPlaysSpec)) edcaPlaysCard

/-- THE TIED CARD OF 'muezzinlaw18.EdcaAlone'. -/
def edcaAloneCard : Claim7 := { stood := { row := edcaAloneRow, standIns := [], harness := (true, "7fce502d0522256295953e8f7a5d577840b793226f771a51842000fcdaf08970"), looks := true }, kinds := [], alts := [], laidByText := true, laidKinds := [.sentinel, .sentinel, .sentinel, .sentinel, .sentinel, .sentinel, .sentinel, .sentinel, .sentinel, .sentinel, .sentinel, .sentinel, .sentinel, .sentinel, .data], laidTests := true, laidLooks := .later }
def EdcaAloneCardSaid : Prop := Claim7.holds Tryd.pinned (.plain (OpenSpec.ofChange edcaAloneSpec)) edcaAloneCard

/-- THE TIED CARD OF 'muezzinlaw18.EdcaFirst'. -/
def edcaFirstCard : Claim7 := { stood := { row := edcaFirstRow, standIns := [], harness := (true, "7fce502d0522256295953e8f7a5d577840b793226f771a51842000fcdaf08970"), looks := true }, kinds := [], alts := [], laidByText := true, laidKinds := [.data], laidTests := true, laidLooks := .later }
def EdcaFirstCardSaid : Prop := Claim7.holds Tryd.pinned (.plain (OpenSpec.ofChange edcaFirstSpec)) edcaFirstCard

/-- THE TIED CARD OF 'muezzinlaw18.EdcaNone'. -/
def edcaNoneCard : Claim7 := { stood := { row := edcaNoneRow, standIns := [], harness := (true, "7fce502d0522256295953e8f7a5d577840b793226f771a51842000fcdaf08970"), looks := true }, kinds := [], alts := [], laidByText := true, laidKinds := [.data], laidTests := true, laidLooks := .later }
def EdcaNoneCardSaid : Prop := Claim7.holds Tryd.pinned (.plain (OpenSpec.ofChange edcaNoneSpec)) edcaNoneCard

/-- THE SECOND FORM's CARD OF 'muezzinlaw18.EdcaPlays'. -/
def edcaPlaysUptoCard : Claim7 := { stood := { row := edcaPlaysUptoRow, standIns := [], harness := (true, "7fce502d0522256295953e8f7a5d577840b793226f771a51842000fcdaf08970"), looks := true }, kinds := [], alts := [], laidByText := true, laidKinds := [.sentinel, .sentinel, .sentinel, .sentinel, .sentinel, .sentinel, .sentinel, .sentinel, .sentinel, .sentinel, .sentinel, .sentinel, .sentinel, .sentinel, .data], laidTests := true, laidLooks := .later }
def EdcaPlaysUptoCardSaid : Prop := Claim7.holds Tryd.pinned (.plain (OpenSpec.upto edcaPlaysSpec)) edcaPlaysUptoCard

/-- THE SECOND FORM's CARD OF 'muezzinlaw18.EdcaAlone'. -/
def edcaAloneUptoCard : Claim7 := { stood := { row := edcaAloneUptoRow, standIns := [], harness := (true, "7fce502d0522256295953e8f7a5d577840b793226f771a51842000fcdaf08970"), looks := true }, kinds := [], alts := [], laidByText := true, laidKinds := [.sentinel, .sentinel, .sentinel, .sentinel, .sentinel, .sentinel, .sentinel, .sentinel, .sentinel, .sentinel, .sentinel, .sentinel, .sentinel, .sentinel, .data], laidTests := true, laidLooks := .later }
def EdcaAloneUptoCardSaid : Prop := Claim7.holds Tryd.pinned (.plain (OpenSpec.upto edcaAloneSpec)) edcaAloneUptoCard

/-- THE SECOND FORM's CARD OF 'muezzinlaw18.EdcaFirst'. -/
def edcaFirstUptoCard : Claim7 := { stood := { row := edcaFirstUptoRow, standIns := [], harness := (true, "7fce502d0522256295953e8f7a5d577840b793226f771a51842000fcdaf08970"), looks := true }, kinds := [], alts := [], laidByText := true, laidKinds := [.data], laidTests := true, laidLooks := .later }
def EdcaFirstUptoCardSaid : Prop := Claim7.holds Tryd.pinned (.plain (OpenSpec.upto edcaFirstSpec)) edcaFirstUptoCard

/-- THE SECOND FORM's CARD OF 'muezzinlaw18.EdcaNone'. -/
def edcaNoneUptoCard : Claim7 := { stood := { row := edcaNoneUptoRow, standIns := [], harness := (true, "7fce502d0522256295953e8f7a5d577840b793226f771a51842000fcdaf08970"), looks := true }, kinds := [], alts := [], laidByText := true, laidKinds := [.data], laidTests := true, laidLooks := .later }
def EdcaNoneUptoCardSaid : Prop := Claim7.holds Tryd.pinned (.plain (OpenSpec.upto edcaNoneSpec)) edcaNoneUptoCard
end Rows
end Go.Proofs.YtndkmgcmegcieaaDoor
