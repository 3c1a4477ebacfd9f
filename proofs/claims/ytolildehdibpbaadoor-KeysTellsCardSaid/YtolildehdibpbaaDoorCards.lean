/-
  DERIVED. GIVEN WITH THE SEED: THE CARDS: each row of YtolildehdibpbaaDoorRows.lean that lists a variable, with what it lists TIED to the program's text (the seventh form; the later family's looks); each row that meets fmt, with fmt's text TOLD by the authors' own Lean function (tested against real Go, not proved from fmt's source: count such statements apart). THE CARD IS WHAT COUNTS. Prove the row's statement (the work); the ties are given (YtolildehdibpbaaDoorTie.lean); close each card by the builder's one call (the guide's Derived/Test/ToyasCard.lean, 'card_holds'). Laid BY PROGRAM, IN A SANDBOX (cutbox-door.mjs). By AI agents, Wed Nov 11 2026. No macro, syntax, notation, axiom, sorry.
-/
import Derived.Test.YtolildehdibpbaaDoorRows
import GoSem.ClaimSeven
namespace Go.Proofs.YtolildehdibpbaaDoor
namespace Rows

/-- THE TIED CARD OF 'bottomrylaw02.SumsSum'. -/
def sumsSumCard : Claim7 := { stood := { row := sumsSumRow, standIns := [], harness := (true, "ca13ed86b41c4ca3a23a060913d4555c89135783e9b57c8ad8a455614f248595"), looks := false }, kinds := [], alts := [], laidByText := true, laidKinds := [.data, .data], laidTests := true, laidLooks := .later }
def SumsSumCardSaid : Prop := Claim7.holds Tryd.pinned (.plain (OpenSpec.ofChange sumsSumSpec)) sumsSumCard

/-- THE TIED CARD OF 'bottomrylaw03.MacTags'. -/
def macTagsCard : Claim7 := { stood := { row := macTagsRow, standIns := [], harness := (true, "ca13ed86b41c4ca3a23a060913d4555c89135783e9b57c8ad8a455614f248595"), looks := false }, kinds := [], alts := [], laidByText := true, laidKinds := [.data, .data], laidTests := true, laidLooks := .later }
def MacTagsCardSaid : Prop := Claim7.holds Tryd.pinned (.plain (OpenSpec.ofChange macTagsSpec)) macTagsCard

/-- THE TIED CARD OF 'bottomrylaw03.MacChecks'. -/
def macChecksCard : Claim7 := { stood := { row := macChecksRow, standIns := [], harness := (true, "ca13ed86b41c4ca3a23a060913d4555c89135783e9b57c8ad8a455614f248595"), looks := false }, kinds := [], alts := [], laidByText := true, laidKinds := [.data, .data], laidTests := true, laidLooks := .later }
def MacChecksCardSaid : Prop := Claim7.holds Tryd.pinned (.plain (OpenSpec.ofChange macChecksSpec)) macChecksCard

/-- THE TIED CARD OF 'bottomrylaw03.MacLong'. -/
def macLongCard : Claim7 := { stood := { row := macLongRow, standIns := [], harness := (true, "ca13ed86b41c4ca3a23a060913d4555c89135783e9b57c8ad8a455614f248595"), looks := false }, kinds := [], alts := [], laidByText := true, laidKinds := [.data, .data], laidTests := true, laidLooks := .later }
def MacLongCardSaid : Prop := Claim7.holds Tryd.pinned (.plain (OpenSpec.ofChange macLongSpec)) macLongCard

/-- THE TIED CARD OF 'bottomrylaw04.KeysTells'. -/
def keysTellsCard : Claim7 := { stood := { row := keysTellsRow, standIns := [], harness := (true, "ca13ed86b41c4ca3a23a060913d4555c89135783e9b57c8ad8a455614f248595"), looks := false }, kinds := [], alts := [], laidByText := true, laidKinds := [.data, .data], laidTests := true, laidLooks := .later }
def KeysTellsCardSaid : Prop := Claim7.holds Tryd.pinned (.plain (OpenSpec.ofChange keysTellsSpec)) keysTellsCard

/-- THE TIED CARD OF 'bottomrylaw04.KeysChecks'. -/
def keysChecksCard : Claim7 := { stood := { row := keysChecksRow, standIns := [], harness := (true, "ca13ed86b41c4ca3a23a060913d4555c89135783e9b57c8ad8a455614f248595"), looks := false }, kinds := [], alts := [], laidByText := true, laidKinds := [.data, .data], laidTests := true, laidLooks := .later }
def KeysChecksCardSaid : Prop := Claim7.holds Tryd.pinned (.plain (OpenSpec.ofChange keysChecksSpec)) keysChecksCard

/-- THE SECOND FORM's CARD OF 'bottomrylaw02.SumsSum'. -/
def sumsSumUptoCard : Claim7 := { stood := { row := sumsSumUptoRow, standIns := [], harness := (true, "ca13ed86b41c4ca3a23a060913d4555c89135783e9b57c8ad8a455614f248595"), looks := false }, kinds := [], alts := [], laidByText := true, laidKinds := [.data, .data], laidTests := true, laidLooks := .later }
def SumsSumUptoCardSaid : Prop := Claim7.holds Tryd.pinned (.plain (OpenSpec.upto sumsSumSpec)) sumsSumUptoCard

/-- THE SECOND FORM's CARD OF 'bottomrylaw03.MacTags'. -/
def macTagsUptoCard : Claim7 := { stood := { row := macTagsUptoRow, standIns := [], harness := (true, "ca13ed86b41c4ca3a23a060913d4555c89135783e9b57c8ad8a455614f248595"), looks := false }, kinds := [], alts := [], laidByText := true, laidKinds := [.data, .data], laidTests := true, laidLooks := .later }
def MacTagsUptoCardSaid : Prop := Claim7.holds Tryd.pinned (.plain (OpenSpec.upto macTagsSpec)) macTagsUptoCard

/-- THE SECOND FORM's CARD OF 'bottomrylaw03.MacChecks'. -/
def macChecksUptoCard : Claim7 := { stood := { row := macChecksUptoRow, standIns := [], harness := (true, "ca13ed86b41c4ca3a23a060913d4555c89135783e9b57c8ad8a455614f248595"), looks := false }, kinds := [], alts := [], laidByText := true, laidKinds := [.data, .data], laidTests := true, laidLooks := .later }
def MacChecksUptoCardSaid : Prop := Claim7.holds Tryd.pinned (.plain (OpenSpec.upto macChecksSpec)) macChecksUptoCard

/-- THE SECOND FORM's CARD OF 'bottomrylaw03.MacLong'. -/
def macLongUptoCard : Claim7 := { stood := { row := macLongUptoRow, standIns := [], harness := (true, "ca13ed86b41c4ca3a23a060913d4555c89135783e9b57c8ad8a455614f248595"), looks := false }, kinds := [], alts := [], laidByText := true, laidKinds := [.data, .data], laidTests := true, laidLooks := .later }
def MacLongUptoCardSaid : Prop := Claim7.holds Tryd.pinned (.plain (OpenSpec.upto macLongSpec)) macLongUptoCard

/-- THE SECOND FORM's CARD OF 'bottomrylaw04.KeysTells'. -/
def keysTellsUptoCard : Claim7 := { stood := { row := keysTellsUptoRow, standIns := [], harness := (true, "ca13ed86b41c4ca3a23a060913d4555c89135783e9b57c8ad8a455614f248595"), looks := false }, kinds := [], alts := [], laidByText := true, laidKinds := [.data, .data], laidTests := true, laidLooks := .later }
def KeysTellsUptoCardSaid : Prop := Claim7.holds Tryd.pinned (.plain (OpenSpec.upto keysTellsSpec)) keysTellsUptoCard

/-- THE SECOND FORM's CARD OF 'bottomrylaw04.KeysChecks'. -/
def keysChecksUptoCard : Claim7 := { stood := { row := keysChecksUptoRow, standIns := [], harness := (true, "ca13ed86b41c4ca3a23a060913d4555c89135783e9b57c8ad8a455614f248595"), looks := false }, kinds := [], alts := [], laidByText := true, laidKinds := [.data, .data], laidTests := true, laidLooks := .later }
def KeysChecksUptoCardSaid : Prop := Claim7.holds Tryd.pinned (.plain (OpenSpec.upto keysChecksSpec)) keysChecksUptoCard
end Rows
end Go.Proofs.YtolildehdibpbaaDoor
