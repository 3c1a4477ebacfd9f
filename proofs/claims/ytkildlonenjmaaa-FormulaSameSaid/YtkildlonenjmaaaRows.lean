/-
  NARROWER THAN 'FOR EVERY INPUT', by the rows' own cells (each row's printed sentence says how): FormulaTells: loops · FormulaGrows: loops · FormulaSame: loops · FormulaStops: loops.
  DERIVED. THE GIVEN ROWS OF THIS SEAT. 6 by the template 'for every input the law returns true; each argument reads behind the call as it read before'; 0 by the template 'total and deterministic' (their statements: YtkildlonenjmaaaTotals.lean).
  GIVEN WITH THE SEED: the statements are not yours to turn. If you find one false, say at which input.
  Laid BY PROGRAM, IN A SANDBOX (cutbox-rows.mjs): the forced cells as the released guide's own fill.sh prints them over the translation e30d9f719528a881… (all of the seat's roots in one cut). By AI agents, Wed Nov 11 2026. No macro, syntax, notation, axiom, sorry.
-/
import Derived.Test.YtkildlonenjmaaaChecked
import GoSem.Claim
import GoSem.ClaimJoined
import GoSem.ClaimMapViews
import Derived.JoinedTies
import Derived.KernelRfl
namespace Go.Proofs.Ytkildlonenjmaaa
/- THE CELL 'sum', in the pinned program and in every row, IS THE sha256 OF THE DUMP (.gsa) THAT YtkildlonenjmaaaProg.lean LOADS. Nothing in Lean hashes anything: it is a label: what it is worth is what the hold of that sum in a sandbox is worth. -/
noncomputable def Try.pinned : Pinned := { name := "ytkildlonenjmaaa", sum := "e30d9f719528a881639ac531388bf1062157ae705efcbd436af97f3a8a2faf0f", checked := Try.checked }
namespace Rows
def none {H : Type} : Left H := { results := [], args := [] }

/-- 'bottomrylaw07.MoneyTells': WHATEVER THE INPUT: true; the input reads as it did. -/
def moneyTellsSpec : ChangeSpec := { name := "moneyTells", fn := fun _ => fun
  | [d1, d2] => { results := [.lit (.bool true)], args := [d1, d2] }
  | _ => none }
def moneyTellsRow : OpenClaim := { program := "ytkildlonenjmaaa", sum := "e30d9f719528a881639ac531388bf1062157ae705efcbd436af97f3a8a2faf0f", func := "bottomry/bottomrylaw07.MoneyTells", spec := "moneyTells", apart := false }
def MoneyTellsSaid : Prop := moneyTellsRow.holds Try.pinned (OpenSpec.ofChange moneyTellsSpec)

/-- ITS FALSE NEIGHBOUR: 'it returns false'. Refute it at one input. -/
def moneyTellsWrong : ChangeSpec := { name := "moneyTells", fn := fun _ => fun
  | [d1, d2] => { results := [.lit (.bool false)], args := [d1, d2] }
  | _ => none }
def MoneyTellsWrongFalsely : Prop := moneyTellsRow.holds Try.pinned (OpenSpec.ofChange moneyTellsWrong)

/-- 'bottomrylaw07.MoneySums': WHATEVER THE INPUT: true; the input reads as it did. -/
def moneySumsSpec : ChangeSpec := { name := "moneySums", fn := fun _ => fun
  | [d] => { results := [.lit (.bool true)], args := [d] }
  | _ => none }
def moneySumsRow : OpenClaim := { program := "ytkildlonenjmaaa", sum := "e30d9f719528a881639ac531388bf1062157ae705efcbd436af97f3a8a2faf0f", func := "bottomry/bottomrylaw07.MoneySums", spec := "moneySums", apart := false }
def MoneySumsSaid : Prop := moneySumsRow.holds Try.pinned (OpenSpec.ofChange moneySumsSpec)

/-- ITS FALSE NEIGHBOUR: 'it returns false'. Refute it at one input. -/
def moneySumsWrong : ChangeSpec := { name := "moneySums", fn := fun _ => fun
  | [d] => { results := [.lit (.bool false)], args := [d] }
  | _ => none }
def MoneySumsWrongFalsely : Prop := moneySumsRow.holds Try.pinned (OpenSpec.ofChange moneySumsWrong)

/-- 'bottomrylaw08.FormulaTells': WHATEVER THE INPUT: true; the input reads as it did. -/
def formulaTellsSpec : ChangeSpec := { name := "formulaTells", fn := fun _ => fun
  | [d1, d2, d3] => { results := [.lit (.bool true)], args := [d1, d2, d3] }
  | _ => none }
def formulaTellsRow : OpenClaim := { program := "ytkildlonenjmaaa", sum := "e30d9f719528a881639ac531388bf1062157ae705efcbd436af97f3a8a2faf0f", func := "bottomry/bottomrylaw08.FormulaTells", spec := "formulaTells", unfollowed := true, recurses := true, loops := true, apart := false }
def FormulaTellsSaid : Prop := formulaTellsRow.holds Try.pinned (OpenSpec.ofChange formulaTellsSpec)

/-- ITS FALSE NEIGHBOUR: 'it returns false'. Refute it at one input. -/
def formulaTellsWrong : ChangeSpec := { name := "formulaTells", fn := fun _ => fun
  | [d1, d2, d3] => { results := [.lit (.bool false)], args := [d1, d2, d3] }
  | _ => none }
def FormulaTellsWrongFalsely : Prop := formulaTellsRow.holds Try.pinned (OpenSpec.ofChange formulaTellsWrong)

/-- 'bottomrylaw08.FormulaGrows': WHATEVER THE INPUT: true; the input reads as it did. -/
def formulaGrowsSpec : ChangeSpec := { name := "formulaGrows", fn := fun _ => fun
  | [d1, d2, d3] => { results := [.lit (.bool true)], args := [d1, d2, d3] }
  | _ => none }
def formulaGrowsRow : OpenClaim := { program := "ytkildlonenjmaaa", sum := "e30d9f719528a881639ac531388bf1062157ae705efcbd436af97f3a8a2faf0f", func := "bottomry/bottomrylaw08.FormulaGrows", spec := "formulaGrows", unfollowed := true, recurses := true, loops := true, apart := false }
def FormulaGrowsSaid : Prop := formulaGrowsRow.holds Try.pinned (OpenSpec.ofChange formulaGrowsSpec)

/-- ITS FALSE NEIGHBOUR: 'it returns false'. Refute it at one input. -/
def formulaGrowsWrong : ChangeSpec := { name := "formulaGrows", fn := fun _ => fun
  | [d1, d2, d3] => { results := [.lit (.bool false)], args := [d1, d2, d3] }
  | _ => none }
def FormulaGrowsWrongFalsely : Prop := formulaGrowsRow.holds Try.pinned (OpenSpec.ofChange formulaGrowsWrong)

/-- 'bottomrylaw08.FormulaSame': WHATEVER THE INPUT: true; the input reads as it did. -/
def formulaSameSpec : ChangeSpec := { name := "formulaSame", fn := fun _ => fun
  | [d1, d2] => { results := [.lit (.bool true)], args := [d1, d2] }
  | _ => none }
def formulaSameRow : OpenClaim := { program := "ytkildlonenjmaaa", sum := "e30d9f719528a881639ac531388bf1062157ae705efcbd436af97f3a8a2faf0f", func := "bottomry/bottomrylaw08.FormulaSame", spec := "formulaSame", unfollowed := true, recurses := true, loops := true, apart := false }
def FormulaSameSaid : Prop := formulaSameRow.holds Try.pinned (OpenSpec.ofChange formulaSameSpec)

/-- ITS FALSE NEIGHBOUR: 'it returns false'. Refute it at one input. -/
def formulaSameWrong : ChangeSpec := { name := "formulaSame", fn := fun _ => fun
  | [d1, d2] => { results := [.lit (.bool false)], args := [d1, d2] }
  | _ => none }
def FormulaSameWrongFalsely : Prop := formulaSameRow.holds Try.pinned (OpenSpec.ofChange formulaSameWrong)

/-- 'bottomrylaw08.FormulaStops': WHATEVER THE INPUT: true; the input reads as it did. -/
def formulaStopsSpec : ChangeSpec := { name := "formulaStops", fn := fun _ => fun
  | [d1, d2] => { results := [.lit (.bool true)], args := [d1, d2] }
  | _ => none }
def formulaStopsRow : OpenClaim := { program := "ytkildlonenjmaaa", sum := "e30d9f719528a881639ac531388bf1062157ae705efcbd436af97f3a8a2faf0f", func := "bottomry/bottomrylaw08.FormulaStops", spec := "formulaStops", unfollowed := true, recurses := true, loops := true, apart := false }
def FormulaStopsSaid : Prop := formulaStopsRow.holds Try.pinned (OpenSpec.ofChange formulaStopsSpec)

/-- ITS FALSE NEIGHBOUR: 'it returns false'. Refute it at one input. -/
def formulaStopsWrong : ChangeSpec := { name := "formulaStops", fn := fun _ => fun
  | [d1, d2] => { results := [.lit (.bool false)], args := [d1, d2] }
  | _ => none }
def FormulaStopsWrongFalsely : Prop := formulaStopsRow.holds Try.pinned (OpenSpec.ofChange formulaStopsWrong)

/- THE SECOND FORM. 'bulk': how many values and letters a reading holds, each counted each time it is reached (what is shared counts as often as it is met; a slice's spare places count too). A statement '..UptoSaid' is the law's where the arguments, and the package variables that the reading takes, are together of bulk at most 1048576: NARROWER than '..Said'. Prove '..Said' where nothing that the law and all that it calls make is longer than what came in: it says more and counts as full. Else prove '..UptoSaid'. A law counts once. -/
mutual
def uptoBulk {H : Type} : DataW H → Nat
  | .lit (.string bytes) => bytes.length + 1
  | .lit _ => 1
  | .nil => 1
  | .ptr d => uptoBulk d + 1
  | .slice elems spare => uptoBulkAll elems + uptoBulkAll spare + 1
  | .agg parts => uptoBulkAll parts + 1
  | .iface _ d => uptoBulk d + 1
  | .map entries => uptoBulkEntries entries + 1
  | .held _ => 1
def uptoBulkAll {H : Type} : List (DataW H) → Nat
  | [] => 0
  | d :: r => uptoBulk d + uptoBulkAll r
def uptoBulkEntries {H : Type} : List (Lit × DataW H) → Nat
  | [] => 0
  | x :: r => uptoBulkEntry x + uptoBulkEntries r
def uptoBulkEntry {H : Type} : Lit × DataW H → Nat
  | (.string bytes, d) => bytes.length + uptoBulk d + 1
  | (_, d) => uptoBulk d + 1
 end
def uptoSmall : (H : Type) → List (DataW H) → Bool := fun _ ds => decide (uptoBulkAll ds ≤ 1048576)
def OpenSpec.upto (s : _root_.Go.ChangeSpec) : _root_.Go.OpenSpec := { _root_.Go.OpenSpec.ofChange s with cond := some uptoSmall }

/-- 'bottomrylaw07.MoneyTells', WHERE WHAT IT READS IS OF BULK AT MOST 1048576: true; the input reads as it did. -/
def moneyTellsUptoRow : OpenClaim := { program := "ytkildlonenjmaaa", sum := "e30d9f719528a881639ac531388bf1062157ae705efcbd436af97f3a8a2faf0f", func := "bottomry/bottomrylaw07.MoneyTells", spec := "moneyTells", apart := false, narrowed := true }
def MoneyTellsUptoSaid : Prop := moneyTellsUptoRow.holds Try.pinned (OpenSpec.upto moneyTellsSpec)

/-- 'bottomrylaw07.MoneySums', WHERE WHAT IT READS IS OF BULK AT MOST 1048576: true; the input reads as it did. -/
def moneySumsUptoRow : OpenClaim := { program := "ytkildlonenjmaaa", sum := "e30d9f719528a881639ac531388bf1062157ae705efcbd436af97f3a8a2faf0f", func := "bottomry/bottomrylaw07.MoneySums", spec := "moneySums", apart := false, narrowed := true }
def MoneySumsUptoSaid : Prop := moneySumsUptoRow.holds Try.pinned (OpenSpec.upto moneySumsSpec)

/-- 'bottomrylaw08.FormulaTells', WHERE WHAT IT READS IS OF BULK AT MOST 1048576: true; the input reads as it did. -/
def formulaTellsUptoRow : OpenClaim := { program := "ytkildlonenjmaaa", sum := "e30d9f719528a881639ac531388bf1062157ae705efcbd436af97f3a8a2faf0f", func := "bottomry/bottomrylaw08.FormulaTells", spec := "formulaTells", unfollowed := true, recurses := true, loops := true, apart := false, narrowed := true }
def FormulaTellsUptoSaid : Prop := formulaTellsUptoRow.holds Try.pinned (OpenSpec.upto formulaTellsSpec)

/-- 'bottomrylaw08.FormulaGrows', WHERE WHAT IT READS IS OF BULK AT MOST 1048576: true; the input reads as it did. -/
def formulaGrowsUptoRow : OpenClaim := { program := "ytkildlonenjmaaa", sum := "e30d9f719528a881639ac531388bf1062157ae705efcbd436af97f3a8a2faf0f", func := "bottomry/bottomrylaw08.FormulaGrows", spec := "formulaGrows", unfollowed := true, recurses := true, loops := true, apart := false, narrowed := true }
def FormulaGrowsUptoSaid : Prop := formulaGrowsUptoRow.holds Try.pinned (OpenSpec.upto formulaGrowsSpec)

/-- 'bottomrylaw08.FormulaSame', WHERE WHAT IT READS IS OF BULK AT MOST 1048576: true; the input reads as it did. -/
def formulaSameUptoRow : OpenClaim := { program := "ytkildlonenjmaaa", sum := "e30d9f719528a881639ac531388bf1062157ae705efcbd436af97f3a8a2faf0f", func := "bottomry/bottomrylaw08.FormulaSame", spec := "formulaSame", unfollowed := true, recurses := true, loops := true, apart := false, narrowed := true }
def FormulaSameUptoSaid : Prop := formulaSameUptoRow.holds Try.pinned (OpenSpec.upto formulaSameSpec)

/-- 'bottomrylaw08.FormulaStops', WHERE WHAT IT READS IS OF BULK AT MOST 1048576: true; the input reads as it did. -/
def formulaStopsUptoRow : OpenClaim := { program := "ytkildlonenjmaaa", sum := "e30d9f719528a881639ac531388bf1062157ae705efcbd436af97f3a8a2faf0f", func := "bottomry/bottomrylaw08.FormulaStops", spec := "formulaStops", unfollowed := true, recurses := true, loops := true, apart := false, narrowed := true }
def FormulaStopsUptoSaid : Prop := formulaStopsUptoRow.holds Try.pinned (OpenSpec.upto formulaStopsSpec)

end Rows
end Go.Proofs.Ytkildlonenjmaaa
