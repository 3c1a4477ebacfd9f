/-
  DERIVED. GIVEN WITH THE SEED: THE CARDS: each row of YtfflkodgojiklaaGreatDoorRows.lean that lists a variable, with what it lists TIED to the program's text (the seventh form; the later family's looks); each row that meets fmt, with fmt's text TOLD by the authors' own Lean function (tested against real Go, not proved from fmt's source: count such statements apart). THE CARD IS WHAT COUNTS. Prove the row's statement (the work); the ties are given (YtfflkodgojiklaaGreatDoorTie.lean); close each card by the builder's one call (the guide's Derived/Test/ToyasCard.lean, 'card_holds'). Laid BY PROGRAM, IN A SANDBOX (cutbox-door.mjs). By AI agents, Wed Nov 11 2026. No macro, syntax, notation, axiom, sorry.
-/
import Derived.Test.YtfflkodgojiklaaGreatDoorRows
import GoSem.ClaimSeven
namespace Go.Proofs.YtfflkodgojiklaaGreatDoor
namespace Rows

/-- THE TIED CARD OF 'bottomrylaw14.ContractMet'. -/
def contractMetCard : Claim7 := { stood := { row := contractMetRow, standIns := [], harness := (true, "62d42a72370e8d5d9d9274b655c81fe078436e62dc2a45d3c4050cc25e4074c2"), looks := true }, kinds := [], alts := [], laidByText := true, laidKinds := [.data, .data, .data, .data, .sentinel, .sentinel], laidTests := true, laidLooks := .later }
def ContractMetCardSaid : Prop := Claim7.holds Tryz.pinned (.plain (OpenSpec.ofChange contractMetSpec)) contractMetCard

/-- THE TIED CARD OF 'bottomrylaw14.ContractKeeps'. -/
def contractKeepsCard : Claim7 := { stood := { row := contractKeepsRow, standIns := [], harness := (true, "62d42a72370e8d5d9d9274b655c81fe078436e62dc2a45d3c4050cc25e4074c2"), looks := true }, kinds := [], alts := [], laidByText := true, laidKinds := [.data, .data, .data, .data, .sentinel, .sentinel], laidTests := true, laidLooks := .later }
def ContractKeepsCardSaid : Prop := Claim7.holds Tryz.pinned (.plain (OpenSpec.ofChange contractKeepsSpec)) contractKeepsCard

/-- THE TIED CARD OF 'bottomrylaw14.ContractApart'. -/
def contractApartCard : Claim7 := { stood := { row := contractApartRow, standIns := [], harness := (true, "62d42a72370e8d5d9d9274b655c81fe078436e62dc2a45d3c4050cc25e4074c2"), looks := true }, kinds := [], alts := [], laidByText := true, laidKinds := [.data, .data, .data, .data, .sentinel, .sentinel], laidTests := true, laidLooks := .later }
def ContractApartCardSaid : Prop := Claim7.holds Tryz.pinned (.plain (OpenSpec.ofChange contractApartSpec)) contractApartCard

/-- THE SECOND FORM's CARD OF 'bottomrylaw14.ContractMet'. -/
def contractMetUptoCard : Claim7 := { stood := { row := contractMetUptoRow, standIns := [], harness := (true, "62d42a72370e8d5d9d9274b655c81fe078436e62dc2a45d3c4050cc25e4074c2"), looks := true }, kinds := [], alts := [], laidByText := true, laidKinds := [.data, .data, .data, .data, .sentinel, .sentinel], laidTests := true, laidLooks := .later }
def ContractMetUptoCardSaid : Prop := Claim7.holds Tryz.pinned (.plain (OpenSpec.upto contractMetSpec)) contractMetUptoCard

/-- THE SECOND FORM's CARD OF 'bottomrylaw14.ContractKeeps'. -/
def contractKeepsUptoCard : Claim7 := { stood := { row := contractKeepsUptoRow, standIns := [], harness := (true, "62d42a72370e8d5d9d9274b655c81fe078436e62dc2a45d3c4050cc25e4074c2"), looks := true }, kinds := [], alts := [], laidByText := true, laidKinds := [.data, .data, .data, .data, .sentinel, .sentinel], laidTests := true, laidLooks := .later }
def ContractKeepsUptoCardSaid : Prop := Claim7.holds Tryz.pinned (.plain (OpenSpec.upto contractKeepsSpec)) contractKeepsUptoCard

/-- THE SECOND FORM's CARD OF 'bottomrylaw14.ContractApart'. -/
def contractApartUptoCard : Claim7 := { stood := { row := contractApartUptoRow, standIns := [], harness := (true, "62d42a72370e8d5d9d9274b655c81fe078436e62dc2a45d3c4050cc25e4074c2"), looks := true }, kinds := [], alts := [], laidByText := true, laidKinds := [.data, .data, .data, .data, .sentinel, .sentinel], laidTests := true, laidLooks := .later }
def ContractApartUptoCardSaid : Prop := Claim7.holds Tryz.pinned (.plain (OpenSpec.upto contractApartSpec)) contractApartUptoCard
end Rows
end Go.Proofs.YtfflkodgojiklaaGreatDoor
