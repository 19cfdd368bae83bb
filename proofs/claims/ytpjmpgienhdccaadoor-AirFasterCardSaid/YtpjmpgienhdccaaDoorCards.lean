/-
  DERIVED. GIVEN WITH THE SEED: THE CARDS: each row of YtpjmpgienhdccaaDoorRows.lean that lists a variable, with what it lists TIED to the program's text (the seventh form; the later family's looks); each row that meets fmt, with fmt's text TOLD by the authors' own Lean function (tested against real Go, not proved from fmt's source: count such statements apart). THE CARD IS WHAT COUNTS. Prove the row's statement (the work); the ties are given (YtpjmpgienhdccaaDoorTie.lean); close each card by the builder's one call (the guide's Derived/Test/ToyasCard.lean, 'card_holds'). Laid BY PROGRAM, IN A SANDBOX (cutbox-door.mjs). By AI agents, Wed Nov 11 2026. No macro, syntax, notation, axiom, sorry.
-/
import Derived.Test.YtpjmpgienhdccaaDoorRows
import GoSem.ClaimSeven
namespace Go.Proofs.YtpjmpgienhdccaaDoor
namespace Rows

/-- THE TIED CARD OF 'muezzinlaw9.AirFaster'. -/
def airFasterCard : Claim7 := { stood := { row := airFasterRow, standIns := [], harness := (true, "cb46f14004371d6c0d7880d63ea016540992a8dabb302f74583192a08661b691"), looks := false }, kinds := [], alts := [], laidByText := true, laidKinds := [.data, .data], laidTests := true, laidLooks := .later }
def AirFasterCardSaid : Prop := Claim7.holds Tryd.pinned (.plain (OpenSpec.ofChange airFasterSpec)) airFasterCard

/-- THE TIED CARD OF 'muezzinlaw9.AirSays'. -/
def airSaysCard : Claim7 := { stood := { row := airSaysRow, standIns := [], harness := (true, "cb46f14004371d6c0d7880d63ea016540992a8dabb302f74583192a08661b691"), looks := false }, kinds := [], alts := [], laidByText := true, laidKinds := [.data, .data], laidTests := true, laidLooks := .later }
def AirSaysCardSaid : Prop := Claim7.holds Tryd.pinned (.plain (OpenSpec.ofChange airSaysSpec)) airSaysCard

/-- THE TIED CARD OF 'muezzinlaw9.AirGrows'. -/
def airGrowsCard : Claim7 := { stood := { row := airGrowsRow, standIns := [], harness := (true, "cb46f14004371d6c0d7880d63ea016540992a8dabb302f74583192a08661b691"), looks := false }, kinds := [], alts := [], laidByText := true, laidKinds := [.data, .data], laidTests := true, laidLooks := .later }
def AirGrowsCardSaid : Prop := Claim7.holds Tryd.pinned (.plain (OpenSpec.ofChange airGrowsSpec)) airGrowsCard

/-- THE TIED CARD OF 'muezzinlaw9.AirMost'. -/
def airMostCard : Claim7 := { stood := { row := airMostRow, standIns := [], harness := (true, "cb46f14004371d6c0d7880d63ea016540992a8dabb302f74583192a08661b691"), looks := false }, kinds := [], alts := [], laidByText := true, laidKinds := [.data, .data], laidTests := true, laidLooks := .later }
def AirMostCardSaid : Prop := Claim7.holds Tryd.pinned (.plain (OpenSpec.ofChange airMostSpec)) airMostCard

/-- THE TIED CARD OF 'muezzinlaw9.AirLegacy'. -/
def airLegacyCard : Claim7 := { stood := { row := airLegacyRow, standIns := [], harness := (true, "cb46f14004371d6c0d7880d63ea016540992a8dabb302f74583192a08661b691"), looks := false }, kinds := [], alts := [], laidByText := true, laidKinds := [.data, .data], laidTests := true, laidLooks := .later }
def AirLegacyCardSaid : Prop := Claim7.holds Tryd.pinned (.plain (OpenSpec.ofChange airLegacySpec)) airLegacyCard

/-- THE SECOND FORM's CARD OF 'muezzinlaw9.AirFaster'. -/
def airFasterUptoCard : Claim7 := { stood := { row := airFasterUptoRow, standIns := [], harness := (true, "cb46f14004371d6c0d7880d63ea016540992a8dabb302f74583192a08661b691"), looks := false }, kinds := [], alts := [], laidByText := true, laidKinds := [.data, .data], laidTests := true, laidLooks := .later }
def AirFasterUptoCardSaid : Prop := Claim7.holds Tryd.pinned (.plain (OpenSpec.upto airFasterSpec)) airFasterUptoCard

/-- THE SECOND FORM's CARD OF 'muezzinlaw9.AirSays'. -/
def airSaysUptoCard : Claim7 := { stood := { row := airSaysUptoRow, standIns := [], harness := (true, "cb46f14004371d6c0d7880d63ea016540992a8dabb302f74583192a08661b691"), looks := false }, kinds := [], alts := [], laidByText := true, laidKinds := [.data, .data], laidTests := true, laidLooks := .later }
def AirSaysUptoCardSaid : Prop := Claim7.holds Tryd.pinned (.plain (OpenSpec.upto airSaysSpec)) airSaysUptoCard

/-- THE SECOND FORM's CARD OF 'muezzinlaw9.AirGrows'. -/
def airGrowsUptoCard : Claim7 := { stood := { row := airGrowsUptoRow, standIns := [], harness := (true, "cb46f14004371d6c0d7880d63ea016540992a8dabb302f74583192a08661b691"), looks := false }, kinds := [], alts := [], laidByText := true, laidKinds := [.data, .data], laidTests := true, laidLooks := .later }
def AirGrowsUptoCardSaid : Prop := Claim7.holds Tryd.pinned (.plain (OpenSpec.upto airGrowsSpec)) airGrowsUptoCard

/-- THE SECOND FORM's CARD OF 'muezzinlaw9.AirMost'. -/
def airMostUptoCard : Claim7 := { stood := { row := airMostUptoRow, standIns := [], harness := (true, "cb46f14004371d6c0d7880d63ea016540992a8dabb302f74583192a08661b691"), looks := false }, kinds := [], alts := [], laidByText := true, laidKinds := [.data, .data], laidTests := true, laidLooks := .later }
def AirMostUptoCardSaid : Prop := Claim7.holds Tryd.pinned (.plain (OpenSpec.upto airMostSpec)) airMostUptoCard

/-- THE SECOND FORM's CARD OF 'muezzinlaw9.AirLegacy'. -/
def airLegacyUptoCard : Claim7 := { stood := { row := airLegacyUptoRow, standIns := [], harness := (true, "cb46f14004371d6c0d7880d63ea016540992a8dabb302f74583192a08661b691"), looks := false }, kinds := [], alts := [], laidByText := true, laidKinds := [.data, .data], laidTests := true, laidLooks := .later }
def AirLegacyUptoCardSaid : Prop := Claim7.holds Tryd.pinned (.plain (OpenSpec.upto airLegacySpec)) airLegacyUptoCard
end Rows
end Go.Proofs.YtpjmpgienhdccaaDoor
