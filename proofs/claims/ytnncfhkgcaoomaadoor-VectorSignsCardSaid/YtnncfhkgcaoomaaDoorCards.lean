/-
  DERIVED. GIVEN WITH THE SEED: THE CARDS: each row of YtnncfhkgcaoomaaDoorRows.lean that lists a variable, with what it lists TIED to the program's text (the seventh form; the later family's looks); each row that meets fmt, with fmt's text TOLD by the authors' own Lean function (tested against real Go, not proved from fmt's source: count such statements apart). THE CARD IS WHAT COUNTS. Prove the row's statement (the work); the ties are given (YtnncfhkgcaoomaaDoorTie.lean); close each card by the builder's one call (the guide's Derived/Test/ToyasCard.lean, 'card_holds'). Laid BY PROGRAM, IN A SANDBOX (cutbox-door.mjs). By AI agents, Wed Nov 11 2026. No macro, syntax, notation, axiom, sorry.
-/
import Derived.Test.YtnncfhkgcaoomaaDoorRows
import GoSem.ClaimSeven
namespace Go.Proofs.YtnncfhkgcaoomaaDoor
namespace Rows

/-- THE TIED CARD OF 'bottomrylaw06.VectorSigns'. -/
def vectorSignsCard : Claim7 := { stood := { row := vectorSignsRow, standIns := [], harness := (true, "bc4ceb9a1b62b0f075e8c09884e57f1cc32bbc58a60c8cfcc98828e6b6131067"), looks := false }, kinds := [], alts := [], laidByText := true, laidKinds := [.data, .data], laidTests := true, laidLooks := .later }
def VectorSignsCardSaid : Prop := Claim7.holds Tryd.pinned (.plain (OpenSpec.ofChange vectorSignsSpec)) vectorSignsCard

/-- THE SECOND FORM's CARD OF 'bottomrylaw06.VectorSigns'. -/
def vectorSignsUptoCard : Claim7 := { stood := { row := vectorSignsUptoRow, standIns := [], harness := (true, "bc4ceb9a1b62b0f075e8c09884e57f1cc32bbc58a60c8cfcc98828e6b6131067"), looks := false }, kinds := [], alts := [], laidByText := true, laidKinds := [.data, .data], laidTests := true, laidLooks := .later }
def VectorSignsUptoCardSaid : Prop := Claim7.holds Tryd.pinned (.plain (OpenSpec.upto vectorSignsSpec)) vectorSignsUptoCard
end Rows
end Go.Proofs.YtnncfhkgcaoomaaDoor
