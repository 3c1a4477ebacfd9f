/-
  The program's Parse of a request, walked.
-/
import Derived.Test.YtgbobemhogeeeaaRqQ
import Derived.Test.YtgbobemhogeeeaaRqB
namespace Go.Proofs.Ytgbobemhogeeeaa
open Go.RowKit

theorem OEs.es {w : World} {B : Nat} {A : Option Addr} {n c : Nat} {es : List En} (h : OEs w B (.slice A n c) es) : EsIn w A n es := by
  obtain ⟨A', c', hv, _, _, h1⟩ := h.out
  injection hv with e1 e2 _
  subst e1; subst e2
  exact h1

end Go.Proofs.Ytgbobemhogeeeaa
