/-
  No cell of these rows narrows 'for every input' (looked for: loops, veiled, ifaces, maps, wideKeys, modest, calm, conditions, laid).
  DERIVED. THE GIVEN ROWS OF THIS SEAT. 3 by the template 'for every input the law returns true; each argument reads behind the call as it read before'; 0 by the template 'total and deterministic' (their statements: YtpolofehkckaoaaTotals.lean).
  GIVEN WITH THE SEED: the statements are not yours to turn. If you find one false, say at which input.
  Laid BY PROGRAM, IN A SANDBOX (cutbox-rows.mjs): the forced cells as the released guide's own fill.sh prints them over the translation b667a056690743c8… (all of the seat's roots in one cut). By AI agents, Wed Nov 11 2026. No macro, syntax, notation, axiom, sorry.
-/
import Derived.Test.YtpolofehkckaoaaChecked
import GoSem.Claim
import GoSem.ClaimJoined
import GoSem.ClaimMapViews
import Derived.JoinedTies
import Derived.KernelRfl
namespace Go.Proofs.Ytpolofehkckaoaa
/- THE CELL 'sum', in the pinned program and in every row, IS THE sha256 OF THE DUMP (.gsa) THAT YtpolofehkckaoaaProg.lean LOADS. Nothing in Lean hashes anything: it is a label: what it is worth is what the hold of that sum in a sandbox is worth. -/
noncomputable def Try.pinned : Pinned := { name := "ytpolofehkckaoaa", sum := "b667a056690743c8cbd86aab3dd9cdf742f295b4c318a461cc291609dac8e130", checked := Try.checked }
namespace Rows
def none {H : Type} : Left H := { results := [], args := [] }

/-- 'bottomrylaw23.PointsPlays': WHATEVER THE INPUT: true; the input reads as it did. -/
def pointsPlaysSpec : ChangeSpec := { name := "pointsPlays", fn := fun _ => fun
  | [d1, d2, d3, d4] => { results := [.lit (.bool true)], args := [d1, d2, d3, d4] }
  | _ => none }
def pointsPlaysRow : OpenClaim := { program := "ytpolofehkckaoaa", sum := "b667a056690743c8cbd86aab3dd9cdf742f295b4c318a461cc291609dac8e130", func := "bottomry/bottomrylaw23.PointsPlays", spec := "pointsPlays", inPlace := ["slices.overlaps[bottomry/api.Point]"], unfollowed := true, recurses := true, apart := false }
def PointsPlaysSaid : Prop := pointsPlaysRow.holds Try.pinned (OpenSpec.ofChange pointsPlaysSpec)

/-- ITS FALSE NEIGHBOUR: 'it returns false'. Refute it at one input. -/
def pointsPlaysWrong : ChangeSpec := { name := "pointsPlays", fn := fun _ => fun
  | [d1, d2, d3, d4] => { results := [.lit (.bool false)], args := [d1, d2, d3, d4] }
  | _ => none }
def PointsPlaysWrongFalsely : Prop := pointsPlaysRow.holds Try.pinned (OpenSpec.ofChange pointsPlaysWrong)

/-- 'bottomrylaw23.PointsHonest': WHATEVER THE INPUT: true; the input reads as it did. -/
def pointsHonestSpec : ChangeSpec := { name := "pointsHonest", fn := fun _ => fun
  | [d1, d2, d3, d4] => { results := [.lit (.bool true)], args := [d1, d2, d3, d4] }
  | _ => none }
def pointsHonestRow : OpenClaim := { program := "ytpolofehkckaoaa", sum := "b667a056690743c8cbd86aab3dd9cdf742f295b4c318a461cc291609dac8e130", func := "bottomry/bottomrylaw23.PointsHonest", spec := "pointsHonest", inPlace := ["slices.overlaps[bottomry/api.Point]"], unfollowed := true, recurses := true, apart := false }
def PointsHonestSaid : Prop := pointsHonestRow.holds Try.pinned (OpenSpec.ofChange pointsHonestSpec)

/-- ITS FALSE NEIGHBOUR: 'it returns false'. Refute it at one input. -/
def pointsHonestWrong : ChangeSpec := { name := "pointsHonest", fn := fun _ => fun
  | [d1, d2, d3, d4] => { results := [.lit (.bool false)], args := [d1, d2, d3, d4] }
  | _ => none }
def PointsHonestWrongFalsely : Prop := pointsHonestRow.holds Try.pinned (OpenSpec.ofChange pointsHonestWrong)

/-- 'bottomrylaw23.PointsTold': WHATEVER THE INPUT: true; the input reads as it did. -/
def pointsToldSpec : ChangeSpec := { name := "pointsTold", fn := fun _ => fun
  | [d] => { results := [.lit (.bool true)], args := [d] }
  | _ => none }
def pointsToldRow : OpenClaim := { program := "ytpolofehkckaoaa", sum := "b667a056690743c8cbd86aab3dd9cdf742f295b4c318a461cc291609dac8e130", func := "bottomry/bottomrylaw23.PointsTold", spec := "pointsTold", inPlace := ["slices.overlaps[bottomry/api.Point]"], unfollowed := true, recurses := true, apart := false }
def PointsToldSaid : Prop := pointsToldRow.holds Try.pinned (OpenSpec.ofChange pointsToldSpec)

/-- ITS FALSE NEIGHBOUR: 'it returns false'. Refute it at one input. -/
def pointsToldWrong : ChangeSpec := { name := "pointsTold", fn := fun _ => fun
  | [d] => { results := [.lit (.bool false)], args := [d] }
  | _ => none }
def PointsToldWrongFalsely : Prop := pointsToldRow.holds Try.pinned (OpenSpec.ofChange pointsToldWrong)

/- THE SECOND FORM. 'bulk': how many values and letters a reading holds, each counted each time it is reached (what is shared counts as often as it is met; a slice's spare places count too). A statement '..UptoSaid' is the law's where the arguments, and the package variables that the reading takes, are together of bulk at most 1048576: NARROWER than '..Said'. Prove '..Said' where nothing that the law and all that it calls make is longer than what came in: it says more and counts as full. Else prove '..UptoSaid'. A law counts once. -/
mutual
def uptoBulk {H : Type} : DataW H → Nat
  | .lit (.string bytes) => bytes.length + 1
  | .lit _ => 1
  | .nil => 1
  | .ptr d => uptoBulk d + 1
  | .slice elems spare => uptoBulkAll elems + uptoBulkAll spare + 1
  | .agg parts => uptoBulkAll parts + 1
  | .iface _ d => uptoBulk d + 1
  | .map entries => uptoBulkEntries entries + 1
  | .held _ => 1
def uptoBulkAll {H : Type} : List (DataW H) → Nat
  | [] => 0
  | d :: r => uptoBulk d + uptoBulkAll r
def uptoBulkEntries {H : Type} : List (Lit × DataW H) → Nat
  | [] => 0
  | x :: r => uptoBulkEntry x + uptoBulkEntries r
def uptoBulkEntry {H : Type} : Lit × DataW H → Nat
  | (.string bytes, d) => bytes.length + uptoBulk d + 1
  | (_, d) => uptoBulk d + 1
 end
def uptoSmall : (H : Type) → List (DataW H) → Bool := fun _ ds => decide (uptoBulkAll ds ≤ 1048576)
def OpenSpec.upto (s : _root_.Go.ChangeSpec) : _root_.Go.OpenSpec := { _root_.Go.OpenSpec.ofChange s with cond := some uptoSmall }

/-- 'bottomrylaw23.PointsPlays', WHERE WHAT IT READS IS OF BULK AT MOST 1048576: true; the input reads as it did. -/
def pointsPlaysUptoRow : OpenClaim := { program := "ytpolofehkckaoaa", sum := "b667a056690743c8cbd86aab3dd9cdf742f295b4c318a461cc291609dac8e130", func := "bottomry/bottomrylaw23.PointsPlays", spec := "pointsPlays", inPlace := ["slices.overlaps[bottomry/api.Point]"], unfollowed := true, recurses := true, apart := false, narrowed := true }
def PointsPlaysUptoSaid : Prop := pointsPlaysUptoRow.holds Try.pinned (OpenSpec.upto pointsPlaysSpec)

/-- 'bottomrylaw23.PointsHonest', WHERE WHAT IT READS IS OF BULK AT MOST 1048576: true; the input reads as it did. -/
def pointsHonestUptoRow : OpenClaim := { program := "ytpolofehkckaoaa", sum := "b667a056690743c8cbd86aab3dd9cdf742f295b4c318a461cc291609dac8e130", func := "bottomry/bottomrylaw23.PointsHonest", spec := "pointsHonest", inPlace := ["slices.overlaps[bottomry/api.Point]"], unfollowed := true, recurses := true, apart := false, narrowed := true }
def PointsHonestUptoSaid : Prop := pointsHonestUptoRow.holds Try.pinned (OpenSpec.upto pointsHonestSpec)

/-- 'bottomrylaw23.PointsTold', WHERE WHAT IT READS IS OF BULK AT MOST 1048576: true; the input reads as it did. -/
def pointsToldUptoRow : OpenClaim := { program := "ytpolofehkckaoaa", sum := "b667a056690743c8cbd86aab3dd9cdf742f295b4c318a461cc291609dac8e130", func := "bottomry/bottomrylaw23.PointsTold", spec := "pointsTold", inPlace := ["slices.overlaps[bottomry/api.Point]"], unfollowed := true, recurses := true, apart := false, narrowed := true }
def PointsToldUptoSaid : Prop := pointsToldUptoRow.holds Try.pinned (OpenSpec.upto pointsToldSpec)

end Rows
end Go.Proofs.Ytpolofehkckaoaa
