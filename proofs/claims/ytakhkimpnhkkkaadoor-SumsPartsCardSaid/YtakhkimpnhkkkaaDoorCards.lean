/-
  DERIVED. GIVEN WITH THE SEED: THE CARDS: each row of YtakhkimpnhkkkaaDoorRows.lean that lists a variable, with what it lists TIED to the program's text (the seventh form; the later family's looks); each row that meets fmt, with fmt's text TOLD by the authors' own Lean function (tested against real Go, not proved from fmt's source: count such statements apart). THE CARD IS WHAT COUNTS. Prove the row's statement (the work); the ties are given (YtakhkimpnhkkkaaDoorTie.lean); close each card by the builder's one call (the guide's Derived/Test/ToyasCard.lean, 'card_holds'). Laid BY PROGRAM, IN A SANDBOX (cutbox-door.mjs). By AI agents, Wed Nov 11 2026. No macro, syntax, notation, axiom, sorry.
-/
import Derived.Test.YtakhkimpnhkkkaaDoorRows
import GoSem.ClaimSeven
namespace Go.Proofs.YtakhkimpnhkkkaaDoor
namespace Rows

/-- THE TIED CARD OF 'bottomrylaw02.SumsSum'. -/
def sumsSumCard : Claim7 := { stood := { row := sumsSumRow, standIns := [], harness := (true, "52b7278f68176ff87054463c3a138a6f52b40339a147504922a756bc8d87036c"), looks := false }, kinds := [], alts := [], laidByText := true, laidKinds := [.data, .data], laidTests := true, laidLooks := .later }
def SumsSumCardSaid : Prop := Claim7.holds Tryd.pinned (.plain (OpenSpec.ofChange sumsSumSpec)) sumsSumCard

/-- THE TIED CARD OF 'bottomrylaw02.SumsParts'. -/
def sumsPartsCard : Claim7 := { stood := { row := sumsPartsRow, standIns := [], harness := (true, "52b7278f68176ff87054463c3a138a6f52b40339a147504922a756bc8d87036c"), looks := false }, kinds := [], alts := [], laidByText := true, laidKinds := [.data, .data], laidTests := true, laidLooks := .later }
def SumsPartsCardSaid : Prop := Claim7.holds Tryd.pinned (.plain (OpenSpec.ofChange sumsPartsSpec)) sumsPartsCard

/-- THE TIED CARD OF 'bottomrylaw02.SumsTurns'. -/
def sumsTurnsCard : Claim7 := { stood := { row := sumsTurnsRow, standIns := [], harness := (true, "52b7278f68176ff87054463c3a138a6f52b40339a147504922a756bc8d87036c"), looks := false }, kinds := [], alts := [], laidByText := true, laidKinds := [.data, .data], laidTests := true, laidLooks := .later }
def SumsTurnsCardSaid : Prop := Claim7.holds Tryd.pinned (.plain (OpenSpec.ofChange sumsTurnsSpec)) sumsTurnsCard

/-- THE SECOND FORM's CARD OF 'bottomrylaw02.SumsSum'. -/
def sumsSumUptoCard : Claim7 := { stood := { row := sumsSumUptoRow, standIns := [], harness := (true, "52b7278f68176ff87054463c3a138a6f52b40339a147504922a756bc8d87036c"), looks := false }, kinds := [], alts := [], laidByText := true, laidKinds := [.data, .data], laidTests := true, laidLooks := .later }
def SumsSumUptoCardSaid : Prop := Claim7.holds Tryd.pinned (.plain (OpenSpec.upto sumsSumSpec)) sumsSumUptoCard

/-- THE SECOND FORM's CARD OF 'bottomrylaw02.SumsParts'. -/
def sumsPartsUptoCard : Claim7 := { stood := { row := sumsPartsUptoRow, standIns := [], harness := (true, "52b7278f68176ff87054463c3a138a6f52b40339a147504922a756bc8d87036c"), looks := false }, kinds := [], alts := [], laidByText := true, laidKinds := [.data, .data], laidTests := true, laidLooks := .later }
def SumsPartsUptoCardSaid : Prop := Claim7.holds Tryd.pinned (.plain (OpenSpec.upto sumsPartsSpec)) sumsPartsUptoCard

/-- THE SECOND FORM's CARD OF 'bottomrylaw02.SumsTurns'. -/
def sumsTurnsUptoCard : Claim7 := { stood := { row := sumsTurnsUptoRow, standIns := [], harness := (true, "52b7278f68176ff87054463c3a138a6f52b40339a147504922a756bc8d87036c"), looks := false }, kinds := [], alts := [], laidByText := true, laidKinds := [.data, .data], laidTests := true, laidLooks := .later }
def SumsTurnsUptoCardSaid : Prop := Claim7.holds Tryd.pinned (.plain (OpenSpec.upto sumsTurnsSpec)) sumsTurnsUptoCard
end Rows
end Go.Proofs.YtakhkimpnhkkkaaDoor
