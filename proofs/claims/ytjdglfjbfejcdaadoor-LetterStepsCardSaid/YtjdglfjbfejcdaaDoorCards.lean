/-
  DERIVED. GIVEN WITH THE SEED: THE CARDS: each row of YtjdglfjbfejcdaaDoorRows.lean that lists a variable, with what it lists TIED to the program's text (the seventh form; the later family's looks); each row that meets fmt, with fmt's text TOLD by the authors' own Lean function (tested against real Go, not proved from fmt's source: count such statements apart). THE CARD IS WHAT COUNTS. Prove the row's statement (the work); the ties are given (YtjdglfjbfejcdaaDoorTie.lean); close each card by the builder's one call (the guide's Derived/Test/ToyasCard.lean, 'card_holds'). Laid BY PROGRAM, IN A SANDBOX (cutbox-door.mjs). By AI agents, Wed Nov 11 2026. No macro, syntax, notation, axiom, sorry.
-/
import Derived.Test.YtjdglfjbfejcdaaDoorRows
import GoSem.ClaimSeven
namespace Go.Proofs.YtjdglfjbfejcdaaDoor
namespace Rows

/-- THE TIED CARD OF 'bottomrylaw10.LetterSteps'. -/
def letterStepsCard : Claim7 := { stood := { row := letterStepsRow, standIns := [], harness := (true, "431565d4efc1206508f8d024aadafd0a3f29400e2623ced67985f28af0c538c2"), looks := false }, kinds := [], alts := [], laidByText := true, laidKinds := [.data], laidTests := true, laidLooks := .later }
def LetterStepsCardSaid : Prop := Claim7.holds Tryd.pinned (.plain (OpenSpec.ofChange letterStepsSpec)) letterStepsCard

/-- THE TIED CARD OF 'bottomrylaw10.LetterLives'. -/
def letterLivesCard : Claim7 := { stood := { row := letterLivesRow, standIns := [], harness := (true, "431565d4efc1206508f8d024aadafd0a3f29400e2623ced67985f28af0c538c2"), looks := false }, kinds := [], alts := [], laidByText := true, laidKinds := [.data], laidTests := true, laidLooks := .later }
def LetterLivesCardSaid : Prop := Claim7.holds Tryd.pinned (.plain (OpenSpec.ofChange letterLivesSpec)) letterLivesCard

/-- THE SECOND FORM's CARD OF 'bottomrylaw10.LetterSteps'. -/
def letterStepsUptoCard : Claim7 := { stood := { row := letterStepsUptoRow, standIns := [], harness := (true, "431565d4efc1206508f8d024aadafd0a3f29400e2623ced67985f28af0c538c2"), looks := false }, kinds := [], alts := [], laidByText := true, laidKinds := [.data], laidTests := true, laidLooks := .later }
def LetterStepsUptoCardSaid : Prop := Claim7.holds Tryd.pinned (.plain (OpenSpec.upto letterStepsSpec)) letterStepsUptoCard

/-- THE SECOND FORM's CARD OF 'bottomrylaw10.LetterLives'. -/
def letterLivesUptoCard : Claim7 := { stood := { row := letterLivesUptoRow, standIns := [], harness := (true, "431565d4efc1206508f8d024aadafd0a3f29400e2623ced67985f28af0c538c2"), looks := false }, kinds := [], alts := [], laidByText := true, laidKinds := [.data], laidTests := true, laidLooks := .later }
def LetterLivesUptoCardSaid : Prop := Claim7.holds Tryd.pinned (.plain (OpenSpec.upto letterLivesSpec)) letterLivesUptoCard
end Rows
end Go.Proofs.YtjdglfjbfejcdaaDoor
