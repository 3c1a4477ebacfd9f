/-
  DERIVED. GIVEN WITH THE SEED: THE CARDS: each row of YtgbobemhogeeeaaDoorRows.lean that lists a variable, with what it lists TIED to the program's text (the seventh form; the later family's looks); each row that meets fmt, with fmt's text TOLD by the authors' own Lean function (tested against real Go, not proved from fmt's source: count such statements apart). THE CARD IS WHAT COUNTS. Prove the row's statement (the work); the ties are given (YtgbobemhogeeeaaDoorTie.lean); close each card by the builder's one call (the guide's Derived/Test/ToyasCard.lean, 'card_holds'). Laid BY PROGRAM, IN A SANDBOX (cutbox-door.mjs). By AI agents, Wed Nov 11 2026. No macro, syntax, notation, axiom, sorry.
-/
import Derived.Test.YtgbobemhogeeeaaDoorRows
import GoSem.ClaimSeven
namespace Go.Proofs.YtgbobemhogeeeaaDoor
namespace Rows

/-- THE TIED CARD OF 'bottomrylaw15.BatchDigests'. -/
def batchDigestsCard : Claim7 := { stood := { row := batchDigestsRow, standIns := [], harness := (true, "44e656a20a8378d3f11e2e3c399dd58b514850528131ccf11b4ff44877ce50fb"), looks := false }, kinds := [], alts := [], laidByText := true, laidKinds := [.data, .data], laidTests := true, laidLooks := .later }
def BatchDigestsCardSaid : Prop := Claim7.holds Tryd.pinned (.plain (OpenSpec.ofChange batchDigestsSpec)) batchDigestsCard

/-- THE SECOND FORM's CARD OF 'bottomrylaw15.BatchDigests'. -/
def batchDigestsUptoCard : Claim7 := { stood := { row := batchDigestsUptoRow, standIns := [], harness := (true, "44e656a20a8378d3f11e2e3c399dd58b514850528131ccf11b4ff44877ce50fb"), looks := false }, kinds := [], alts := [], laidByText := true, laidKinds := [.data, .data], laidTests := true, laidLooks := .later }
def BatchDigestsUptoCardSaid : Prop := Claim7.holds Tryd.pinned (.plain (OpenSpec.upto batchDigestsSpec)) batchDigestsUptoCard
end Rows
end Go.Proofs.YtgbobemhogeeeaaDoor
