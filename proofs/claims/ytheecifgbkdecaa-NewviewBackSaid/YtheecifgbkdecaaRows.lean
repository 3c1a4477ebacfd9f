/-
  No cell of these rows narrows 'for every input' (looked for: loops, veiled, ifaces, maps, wideKeys, modest, calm, conditions, laid).
  DERIVED. THE GIVEN ROWS OF THIS SEAT. 5 by the template 'for every input the law returns true; each argument reads behind the call as it read before'; 0 by the template 'total and deterministic' (their statements: YtheecifgbkdecaaTotals.lean).
  GIVEN WITH THE SEED: the statements are not yours to turn. If you find one false, say at which input.
  Laid BY PROGRAM, IN A SANDBOX (cutbox-rows.mjs): the forced cells as the released guide's own fill.sh prints them over the translation ff18871d89031e21… (all of the seat's roots in one cut). By AI agents, Wed Nov 11 2026. No macro, syntax, notation, axiom, sorry.
-/
import Derived.Test.YtheecifgbkdecaaChecked
import GoSem.Claim
import GoSem.ClaimJoined
import GoSem.ClaimMapViews
import Derived.JoinedTies
import Derived.KernelRfl
namespace Go.Proofs.Ytheecifgbkdecaa
/- THE CELL 'sum', in the pinned program and in every row, IS THE sha256 OF THE DUMP (.gsa) THAT YtheecifgbkdecaaProg.lean LOADS. Nothing in Lean hashes anything: it is a label: what it is worth is what the hold of that sum in a sandbox is worth. -/
noncomputable def Try.pinned : Pinned := { name := "ytheecifgbkdecaa", sum := "ff18871d89031e21fecc7299d11b3a7c4c417f6e40e7e2e199d1fd05b67812ec", checked := Try.checked }
namespace Rows
def none {H : Type} : Left H := { results := [], args := [] }

/-- 'bottomrylaw18.ChangeBack': WHATEVER THE INPUT: true; the input reads as it did. -/
def changeBackSpec : ChangeSpec := { name := "changeBack", fn := fun _ => fun
  | [d1, d2] => { results := [.lit (.bool true)], args := [d1, d2] }
  | _ => none }
def changeBackRow : OpenClaim := { program := "ytheecifgbkdecaa", sum := "ff18871d89031e21fecc7299d11b3a7c4c417f6e40e7e2e199d1fd05b67812ec", func := "bottomry/bottomrylaw18.ChangeBack", spec := "changeBack", unfollowed := true, recurses := true, plainKeys := false, apart := false }
def ChangeBackSaid : Prop := changeBackRow.holds Try.pinned (OpenSpec.ofChange changeBackSpec)

/-- ITS FALSE NEIGHBOUR: 'it returns false'. Refute it at one input. -/
def changeBackWrong : ChangeSpec := { name := "changeBack", fn := fun _ => fun
  | [d1, d2] => { results := [.lit (.bool false)], args := [d1, d2] }
  | _ => none }
def ChangeBackWrongFalsely : Prop := changeBackRow.holds Try.pinned (OpenSpec.ofChange changeBackWrong)

/-- 'bottomrylaw18.ChangeReads': WHATEVER THE INPUT: true; the input reads as it did. -/
def changeReadsSpec : ChangeSpec := { name := "changeReads", fn := fun _ => fun
  | [d1, d2] => { results := [.lit (.bool true)], args := [d1, d2] }
  | _ => none }
def changeReadsRow : OpenClaim := { program := "ytheecifgbkdecaa", sum := "ff18871d89031e21fecc7299d11b3a7c4c417f6e40e7e2e199d1fd05b67812ec", func := "bottomry/bottomrylaw18.ChangeReads", spec := "changeReads", unfollowed := true, recurses := true, plainKeys := false, apart := false }
def ChangeReadsSaid : Prop := changeReadsRow.holds Try.pinned (OpenSpec.ofChange changeReadsSpec)

/-- ITS FALSE NEIGHBOUR: 'it returns false'. Refute it at one input. -/
def changeReadsWrong : ChangeSpec := { name := "changeReads", fn := fun _ => fun
  | [d1, d2] => { results := [.lit (.bool false)], args := [d1, d2] }
  | _ => none }
def ChangeReadsWrongFalsely : Prop := changeReadsRow.holds Try.pinned (OpenSpec.ofChange changeReadsWrong)

/-- 'bottomrylaw18.ChangeDigests': WHATEVER THE INPUT: true; the input reads as it did. -/
def changeDigestsSpec : ChangeSpec := { name := "changeDigests", fn := fun _ => fun
  | [d1, d2] => { results := [.lit (.bool true)], args := [d1, d2] }
  | _ => none }
def changeDigestsRow : OpenClaim := { program := "ytheecifgbkdecaa", sum := "ff18871d89031e21fecc7299d11b3a7c4c417f6e40e7e2e199d1fd05b67812ec", func := "bottomry/bottomrylaw18.ChangeDigests", spec := "changeDigests", unfollowed := true, recurses := true, plainKeys := false, apart := false }
def ChangeDigestsSaid : Prop := changeDigestsRow.holds Try.pinned (OpenSpec.ofChange changeDigestsSpec)

/-- ITS FALSE NEIGHBOUR: 'it returns false'. Refute it at one input. -/
def changeDigestsWrong : ChangeSpec := { name := "changeDigests", fn := fun _ => fun
  | [d1, d2] => { results := [.lit (.bool false)], args := [d1, d2] }
  | _ => none }
def ChangeDigestsWrongFalsely : Prop := changeDigestsRow.holds Try.pinned (OpenSpec.ofChange changeDigestsWrong)

/-- 'bottomrylaw19.NewviewBack': WHATEVER THE INPUT: true; the input reads as it did. -/
def newviewBackSpec : ChangeSpec := { name := "newviewBack", fn := fun _ => fun
  | [d1, d2, d3] => { results := [.lit (.bool true)], args := [d1, d2, d3] }
  | _ => none }
def newviewBackRow : OpenClaim := { program := "ytheecifgbkdecaa", sum := "ff18871d89031e21fecc7299d11b3a7c4c417f6e40e7e2e199d1fd05b67812ec", func := "bottomry/bottomrylaw19.NewviewBack", spec := "newviewBack", unfollowed := true, recurses := true, plainKeys := false, apart := false }
def NewviewBackSaid : Prop := newviewBackRow.holds Try.pinned (OpenSpec.ofChange newviewBackSpec)

/-- ITS FALSE NEIGHBOUR: 'it returns false'. Refute it at one input. -/
def newviewBackWrong : ChangeSpec := { name := "newviewBack", fn := fun _ => fun
  | [d1, d2, d3] => { results := [.lit (.bool false)], args := [d1, d2, d3] }
  | _ => none }
def NewviewBackWrongFalsely : Prop := newviewBackRow.holds Try.pinned (OpenSpec.ofChange newviewBackWrong)

/-- 'bottomrylaw19.NewviewReads': WHATEVER THE INPUT: true; the input reads as it did. -/
def newviewReadsSpec : ChangeSpec := { name := "newviewReads", fn := fun _ => fun
  | [d1, d2] => { results := [.lit (.bool true)], args := [d1, d2] }
  | _ => none }
def newviewReadsRow : OpenClaim := { program := "ytheecifgbkdecaa", sum := "ff18871d89031e21fecc7299d11b3a7c4c417f6e40e7e2e199d1fd05b67812ec", func := "bottomry/bottomrylaw19.NewviewReads", spec := "newviewReads", unfollowed := true, recurses := true, plainKeys := false, apart := false }
def NewviewReadsSaid : Prop := newviewReadsRow.holds Try.pinned (OpenSpec.ofChange newviewReadsSpec)

/-- ITS FALSE NEIGHBOUR: 'it returns false'. Refute it at one input. -/
def newviewReadsWrong : ChangeSpec := { name := "newviewReads", fn := fun _ => fun
  | [d1, d2] => { results := [.lit (.bool false)], args := [d1, d2] }
  | _ => none }
def NewviewReadsWrongFalsely : Prop := newviewReadsRow.holds Try.pinned (OpenSpec.ofChange newviewReadsWrong)

/- THE SECOND FORM. 'bulk': how many values and letters a reading holds, each counted each time it is reached (what is shared counts as often as it is met; a slice's spare places count too). A statement '..UptoSaid' is the law's where the arguments, and the package variables that the reading takes, are together of bulk at most 1048576: NARROWER than '..Said'. Prove '..Said' where nothing that the law and all that it calls make is longer than what came in: it says more and counts as full. Else prove '..UptoSaid'. A law counts once. -/
mutual
def uptoBulk {H : Type} : DataW H → Nat
  | .lit (.string bytes) => bytes.length + 1
  | .lit _ => 1
  | .nil => 1
  | .ptr d => uptoBulk d + 1
  | .slice elems spare => uptoBulkAll elems + uptoBulkAll spare + 1
  | .agg parts => uptoBulkAll parts + 1
  | .iface _ d => uptoBulk d + 1
  | .map entries => uptoBulkEntries entries + 1
  | .held _ => 1
def uptoBulkAll {H : Type} : List (DataW H) → Nat
  | [] => 0
  | d :: r => uptoBulk d + uptoBulkAll r
def uptoBulkEntries {H : Type} : List (Lit × DataW H) → Nat
  | [] => 0
  | x :: r => uptoBulkEntry x + uptoBulkEntries r
def uptoBulkEntry {H : Type} : Lit × DataW H → Nat
  | (.string bytes, d) => bytes.length + uptoBulk d + 1
  | (_, d) => uptoBulk d + 1
 end
def uptoSmall : (H : Type) → List (DataW H) → Bool := fun _ ds => decide (uptoBulkAll ds ≤ 1048576)
def OpenSpec.upto (s : _root_.Go.ChangeSpec) : _root_.Go.OpenSpec := { _root_.Go.OpenSpec.ofChange s with cond := some uptoSmall }

/-- 'bottomrylaw18.ChangeBack', WHERE WHAT IT READS IS OF BULK AT MOST 1048576: true; the input reads as it did. -/
def changeBackUptoRow : OpenClaim := { program := "ytheecifgbkdecaa", sum := "ff18871d89031e21fecc7299d11b3a7c4c417f6e40e7e2e199d1fd05b67812ec", func := "bottomry/bottomrylaw18.ChangeBack", spec := "changeBack", unfollowed := true, recurses := true, plainKeys := false, apart := false, narrowed := true }
def ChangeBackUptoSaid : Prop := changeBackUptoRow.holds Try.pinned (OpenSpec.upto changeBackSpec)

/-- 'bottomrylaw18.ChangeReads', WHERE WHAT IT READS IS OF BULK AT MOST 1048576: true; the input reads as it did. -/
def changeReadsUptoRow : OpenClaim := { program := "ytheecifgbkdecaa", sum := "ff18871d89031e21fecc7299d11b3a7c4c417f6e40e7e2e199d1fd05b67812ec", func := "bottomry/bottomrylaw18.ChangeReads", spec := "changeReads", unfollowed := true, recurses := true, plainKeys := false, apart := false, narrowed := true }
def ChangeReadsUptoSaid : Prop := changeReadsUptoRow.holds Try.pinned (OpenSpec.upto changeReadsSpec)

/-- 'bottomrylaw18.ChangeDigests', WHERE WHAT IT READS IS OF BULK AT MOST 1048576: true; the input reads as it did. -/
def changeDigestsUptoRow : OpenClaim := { program := "ytheecifgbkdecaa", sum := "ff18871d89031e21fecc7299d11b3a7c4c417f6e40e7e2e199d1fd05b67812ec", func := "bottomry/bottomrylaw18.ChangeDigests", spec := "changeDigests", unfollowed := true, recurses := true, plainKeys := false, apart := false, narrowed := true }
def ChangeDigestsUptoSaid : Prop := changeDigestsUptoRow.holds Try.pinned (OpenSpec.upto changeDigestsSpec)

/-- 'bottomrylaw19.NewviewBack', WHERE WHAT IT READS IS OF BULK AT MOST 1048576: true; the input reads as it did. -/
def newviewBackUptoRow : OpenClaim := { program := "ytheecifgbkdecaa", sum := "ff18871d89031e21fecc7299d11b3a7c4c417f6e40e7e2e199d1fd05b67812ec", func := "bottomry/bottomrylaw19.NewviewBack", spec := "newviewBack", unfollowed := true, recurses := true, plainKeys := false, apart := false, narrowed := true }
def NewviewBackUptoSaid : Prop := newviewBackUptoRow.holds Try.pinned (OpenSpec.upto newviewBackSpec)

/-- 'bottomrylaw19.NewviewReads', WHERE WHAT IT READS IS OF BULK AT MOST 1048576: true; the input reads as it did. -/
def newviewReadsUptoRow : OpenClaim := { program := "ytheecifgbkdecaa", sum := "ff18871d89031e21fecc7299d11b3a7c4c417f6e40e7e2e199d1fd05b67812ec", func := "bottomry/bottomrylaw19.NewviewReads", spec := "newviewReads", unfollowed := true, recurses := true, plainKeys := false, apart := false, narrowed := true }
def NewviewReadsUptoSaid : Prop := newviewReadsUptoRow.holds Try.pinned (OpenSpec.upto newviewReadsSpec)

end Rows
end Go.Proofs.Ytheecifgbkdecaa
