/-
  NARROWER THAN 'FOR EVERY INPUT', by the rows' own cells (each row's printed sentence says how): EndorseWith: loops.
  DERIVED. THE GIVEN ROWS OF THIS SEAT. 5 by the template 'for every input the law returns true; each argument reads behind the call as it read before'; 0 by the template 'total and deterministic' (their statements: YtfonkdcpghbaoaaTotals.lean).
  GIVEN WITH THE SEED: the statements are not yours to turn. If you find one false, say at which input.
  Laid BY PROGRAM, IN A SANDBOX (cutbox-rows.mjs): the forced cells as the released guide's own fill.sh prints them over the translation b48124255695d4ef… (all of the seat's roots in one cut). By AI agents, Wed Nov 11 2026. No macro, syntax, notation, axiom, sorry.
-/
import Derived.Test.YtfonkdcpghbaoaaChecked
import GoSem.Claim
import GoSem.ClaimJoined
import GoSem.ClaimMapViews
import Derived.JoinedTies
import Derived.KernelRfl
namespace Go.Proofs.Ytfonkdcpghbaoaa
/- THE CELL 'sum', in the pinned program and in every row, IS THE sha256 OF THE DUMP (.gsa) THAT YtfonkdcpghbaoaaProg.lean LOADS. Nothing in Lean hashes anything: it is a label: what it is worth is what the hold of that sum in a sandbox is worth. -/
noncomputable def Try.pinned : Pinned := { name := "ytfonkdcpghbaoaa", sum := "b48124255695d4ef8a7a96293e7e8f32c3674fdf4cb29ed5d051f6b8555f0de4", checked := Try.checked }
namespace Rows
def none {H : Type} : Left H := { results := [], args := [] }

/-- 'bottomrylaw12.RequestCores': WHATEVER THE INPUT: true; the input reads as it did. -/
def requestCoresSpec : ChangeSpec := { name := "requestCores", fn := fun _ => fun
  | [d1, d2] => { results := [.lit (.bool true)], args := [d1, d2] }
  | _ => none }
def requestCoresRow : OpenClaim := { program := "ytfonkdcpghbaoaa", sum := "b48124255695d4ef8a7a96293e7e8f32c3674fdf4cb29ed5d051f6b8555f0de4", func := "bottomry/bottomrylaw12.RequestCores", spec := "requestCores", plainKeys := false, apart := false }
def RequestCoresSaid : Prop := requestCoresRow.holds Try.pinned (OpenSpec.ofChange requestCoresSpec)

/-- ITS FALSE NEIGHBOUR: 'it returns false'. Refute it at one input. -/
def requestCoresWrong : ChangeSpec := { name := "requestCores", fn := fun _ => fun
  | [d1, d2] => { results := [.lit (.bool false)], args := [d1, d2] }
  | _ => none }
def RequestCoresWrongFalsely : Prop := requestCoresRow.holds Try.pinned (OpenSpec.ofChange requestCoresWrong)

/-- 'bottomrylaw12.RequestReads': WHATEVER THE INPUT: true; the input reads as it did. -/
def requestReadsSpec : ChangeSpec := { name := "requestReads", fn := fun _ => fun
  | [d1, d2] => { results := [.lit (.bool true)], args := [d1, d2] }
  | _ => none }
def requestReadsRow : OpenClaim := { program := "ytfonkdcpghbaoaa", sum := "b48124255695d4ef8a7a96293e7e8f32c3674fdf4cb29ed5d051f6b8555f0de4", func := "bottomry/bottomrylaw12.RequestReads", spec := "requestReads", plainKeys := false, apart := false }
def RequestReadsSaid : Prop := requestReadsRow.holds Try.pinned (OpenSpec.ofChange requestReadsSpec)

/-- ITS FALSE NEIGHBOUR: 'it returns false'. Refute it at one input. -/
def requestReadsWrong : ChangeSpec := { name := "requestReads", fn := fun _ => fun
  | [d1, d2] => { results := [.lit (.bool false)], args := [d1, d2] }
  | _ => none }
def RequestReadsWrongFalsely : Prop := requestReadsRow.holds Try.pinned (OpenSpec.ofChange requestReadsWrong)

/-- 'bottomrylaw12.RequestBack': WHATEVER THE INPUT: true; the input reads as it did. -/
def requestBackSpec : ChangeSpec := { name := "requestBack", fn := fun _ => fun
  | [d1, d2] => { results := [.lit (.bool true)], args := [d1, d2] }
  | _ => none }
def requestBackRow : OpenClaim := { program := "ytfonkdcpghbaoaa", sum := "b48124255695d4ef8a7a96293e7e8f32c3674fdf4cb29ed5d051f6b8555f0de4", func := "bottomry/bottomrylaw12.RequestBack", spec := "requestBack", plainKeys := false, apart := false }
def RequestBackSaid : Prop := requestBackRow.holds Try.pinned (OpenSpec.ofChange requestBackSpec)

/-- ITS FALSE NEIGHBOUR: 'it returns false'. Refute it at one input. -/
def requestBackWrong : ChangeSpec := { name := "requestBack", fn := fun _ => fun
  | [d1, d2] => { results := [.lit (.bool false)], args := [d1, d2] }
  | _ => none }
def RequestBackWrongFalsely : Prop := requestBackRow.holds Try.pinned (OpenSpec.ofChange requestBackWrong)

/-- 'bottomrylaw13.EndorseMasks': WHATEVER THE INPUT: true; the input reads as it did. -/
def endorseMasksSpec : ChangeSpec := { name := "endorseMasks", fn := fun _ => fun
  | [d1, d2, d3, d4] => { results := [.lit (.bool true)], args := [d1, d2, d3, d4] }
  | _ => none }
def endorseMasksRow : OpenClaim := { program := "ytfonkdcpghbaoaa", sum := "b48124255695d4ef8a7a96293e7e8f32c3674fdf4cb29ed5d051f6b8555f0de4", func := "bottomry/bottomrylaw13.EndorseMasks", spec := "endorseMasks", unfollowed := true, recurses := true, plainKeys := false, apart := false }
def EndorseMasksSaid : Prop := endorseMasksRow.holds Try.pinned (OpenSpec.ofChange endorseMasksSpec)

/-- ITS FALSE NEIGHBOUR: 'it returns false'. Refute it at one input. -/
def endorseMasksWrong : ChangeSpec := { name := "endorseMasks", fn := fun _ => fun
  | [d1, d2, d3, d4] => { results := [.lit (.bool false)], args := [d1, d2, d3, d4] }
  | _ => none }
def EndorseMasksWrongFalsely : Prop := endorseMasksRow.holds Try.pinned (OpenSpec.ofChange endorseMasksWrong)

/-- 'bottomrylaw13.EndorseWith': WHATEVER THE INPUT: true; the input reads as it did. -/
def endorseWithSpec : ChangeSpec := { name := "endorseWith", fn := fun _ => fun
  | [d1, d2, d3, d4, d5] => { results := [.lit (.bool true)], args := [d1, d2, d3, d4, d5] }
  | _ => none }
def endorseWithRow : OpenClaim := { program := "ytfonkdcpghbaoaa", sum := "b48124255695d4ef8a7a96293e7e8f32c3674fdf4cb29ed5d051f6b8555f0de4", func := "bottomry/bottomrylaw13.EndorseWith", spec := "endorseWith", unfollowed := true, recurses := true, loops := true, plainKeys := false, apart := false }
def EndorseWithSaid : Prop := endorseWithRow.holds Try.pinned (OpenSpec.ofChange endorseWithSpec)

/-- ITS FALSE NEIGHBOUR: 'it returns false'. Refute it at one input. -/
def endorseWithWrong : ChangeSpec := { name := "endorseWith", fn := fun _ => fun
  | [d1, d2, d3, d4, d5] => { results := [.lit (.bool false)], args := [d1, d2, d3, d4, d5] }
  | _ => none }
def EndorseWithWrongFalsely : Prop := endorseWithRow.holds Try.pinned (OpenSpec.ofChange endorseWithWrong)

/- THE SECOND FORM. 'bulk': how many values and letters a reading holds, each counted each time it is reached (what is shared counts as often as it is met; a slice's spare places count too). A statement '..UptoSaid' is the law's where the arguments, and the package variables that the reading takes, are together of bulk at most 1048576: NARROWER than '..Said'. Prove '..Said' where nothing that the law and all that it calls make is longer than what came in: it says more and counts as full. Else prove '..UptoSaid'. A law counts once. -/
mutual
def uptoBulk {H : Type} : DataW H → Nat
  | .lit (.string bytes) => bytes.length + 1
  | .lit _ => 1
  | .nil => 1
  | .ptr d => uptoBulk d + 1
  | .slice elems spare => uptoBulkAll elems + uptoBulkAll spare + 1
  | .agg parts => uptoBulkAll parts + 1
  | .iface _ d => uptoBulk d + 1
  | .map entries => uptoBulkEntries entries + 1
  | .held _ => 1
def uptoBulkAll {H : Type} : List (DataW H) → Nat
  | [] => 0
  | d :: r => uptoBulk d + uptoBulkAll r
def uptoBulkEntries {H : Type} : List (Lit × DataW H) → Nat
  | [] => 0
  | x :: r => uptoBulkEntry x + uptoBulkEntries r
def uptoBulkEntry {H : Type} : Lit × DataW H → Nat
  | (.string bytes, d) => bytes.length + uptoBulk d + 1
  | (_, d) => uptoBulk d + 1
 end
def uptoSmall : (H : Type) → List (DataW H) → Bool := fun _ ds => decide (uptoBulkAll ds ≤ 1048576)
def OpenSpec.upto (s : _root_.Go.ChangeSpec) : _root_.Go.OpenSpec := { _root_.Go.OpenSpec.ofChange s with cond := some uptoSmall }

/-- 'bottomrylaw12.RequestCores', WHERE WHAT IT READS IS OF BULK AT MOST 1048576: true; the input reads as it did. -/
def requestCoresUptoRow : OpenClaim := { program := "ytfonkdcpghbaoaa", sum := "b48124255695d4ef8a7a96293e7e8f32c3674fdf4cb29ed5d051f6b8555f0de4", func := "bottomry/bottomrylaw12.RequestCores", spec := "requestCores", plainKeys := false, apart := false, narrowed := true }
def RequestCoresUptoSaid : Prop := requestCoresUptoRow.holds Try.pinned (OpenSpec.upto requestCoresSpec)

/-- 'bottomrylaw12.RequestReads', WHERE WHAT IT READS IS OF BULK AT MOST 1048576: true; the input reads as it did. -/
def requestReadsUptoRow : OpenClaim := { program := "ytfonkdcpghbaoaa", sum := "b48124255695d4ef8a7a96293e7e8f32c3674fdf4cb29ed5d051f6b8555f0de4", func := "bottomry/bottomrylaw12.RequestReads", spec := "requestReads", plainKeys := false, apart := false, narrowed := true }
def RequestReadsUptoSaid : Prop := requestReadsUptoRow.holds Try.pinned (OpenSpec.upto requestReadsSpec)

/-- 'bottomrylaw12.RequestBack', WHERE WHAT IT READS IS OF BULK AT MOST 1048576: true; the input reads as it did. -/
def requestBackUptoRow : OpenClaim := { program := "ytfonkdcpghbaoaa", sum := "b48124255695d4ef8a7a96293e7e8f32c3674fdf4cb29ed5d051f6b8555f0de4", func := "bottomry/bottomrylaw12.RequestBack", spec := "requestBack", plainKeys := false, apart := false, narrowed := true }
def RequestBackUptoSaid : Prop := requestBackUptoRow.holds Try.pinned (OpenSpec.upto requestBackSpec)

/-- 'bottomrylaw13.EndorseMasks', WHERE WHAT IT READS IS OF BULK AT MOST 1048576: true; the input reads as it did. -/
def endorseMasksUptoRow : OpenClaim := { program := "ytfonkdcpghbaoaa", sum := "b48124255695d4ef8a7a96293e7e8f32c3674fdf4cb29ed5d051f6b8555f0de4", func := "bottomry/bottomrylaw13.EndorseMasks", spec := "endorseMasks", unfollowed := true, recurses := true, plainKeys := false, apart := false, narrowed := true }
def EndorseMasksUptoSaid : Prop := endorseMasksUptoRow.holds Try.pinned (OpenSpec.upto endorseMasksSpec)

/-- 'bottomrylaw13.EndorseWith', WHERE WHAT IT READS IS OF BULK AT MOST 1048576: true; the input reads as it did. -/
def endorseWithUptoRow : OpenClaim := { program := "ytfonkdcpghbaoaa", sum := "b48124255695d4ef8a7a96293e7e8f32c3674fdf4cb29ed5d051f6b8555f0de4", func := "bottomry/bottomrylaw13.EndorseWith", spec := "endorseWith", unfollowed := true, recurses := true, loops := true, plainKeys := false, apart := false, narrowed := true }
def EndorseWithUptoSaid : Prop := endorseWithUptoRow.holds Try.pinned (OpenSpec.upto endorseWithSpec)

end Rows
end Go.Proofs.Ytfonkdcpghbaoaa
