/-
  Joined: TaP.
-/
import Derived.Laws.AppendOwn
import Derived.Test.YtkpgjcahmpekbaaTU19
import Derived.Test.YtkpgjcahmpekbaaTU9
namespace Go.Proofs.Ytkpgjcahmpekbaa
open Go.RowKit

def Vo.eqb (a b : Vo) : Bool := (a.vw == b.vw) && (a.sq == b.sq) && (a.dg == b.dg)
theorem Vo.eqb_iff {a b : Vo} : a.eqb b = true ↔ a = b := by
 obtain ⟨a1, a2, a3⟩ := a
 obtain ⟨b1, b2, b3⟩ := b
 simp [Vo.eqb, and_assoc]
def voZ : Vo := ⟨0, 0, List.replicate 32 0⟩
abbrev Tl := List (Int × Vo)
def ofL : Tl → Int → Option Vo
 | [], _ => none
 | x :: l, who => if x.1 = who then some x.2 else ofL l who
/-- what is put ahead of, or in place of, those that stand from here on -/
def chGo (who : Int) (v : Vo) : Tl → Bool → Tl → Tl
 | [], placed, out => if placed = true then out else out ++ [(who, v)]
 | x :: l, placed, out =>
  if placed = false ∧ who ≤ x.1 then (if x.1 = who then chGo who v l true (out ++ [(who, v)]) else chGo who v l true (out ++ [(who, v)] ++ [x]))
  else (if x.1 = who then chGo who v l placed out else chGo who v l placed (out ++ [x]))
def chL (l : Tl) (who : Int) (v : Vo) : Tl := chGo who v l false []
def whoL (l : Tl) (v : Vo) : List Int := (l.filter (fun x => x.2.eqb v)).map (·.1)
end Go.Proofs.Ytkpgjcahmpekbaa
