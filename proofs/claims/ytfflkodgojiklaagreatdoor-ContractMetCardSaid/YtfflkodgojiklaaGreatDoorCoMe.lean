/-
  The law ContractMet, whatever its arguments.
-/
import Derived.Test.YtfflkodgojiklaaGreatDoorCoMN
import Derived.Test.YtfflkodgojiklaaGreatDoorCoMP
import Derived.Test.YtfflkodgojiklaaGreatDoorCoMO
namespace Go.Proofs.YtfflkodgojiklaaGreatDoor
open Go.RowKit

theorem met_any (l : Lg) (y : Ey) (A : Option Addr) (n c : Nat) (B : Option Addr) (m d : Nat) (w : World) (hI : LgIn w A n B m l) (hnc : n ≤ c) (hmd : m ≤ d) (hn : n ≤ maxLen) (hLe : Led w) (hEv : EV w) (hs : y.ms < 4294967296) :
    Calls Tryz.prog 3 #[l.val A n c B m d, .agg y.cells.toArray] w fun e w' => e = .returned (.bool true) ∧ Below w.heap.size w w' := by
  cases hq : fewC l [y] with
  | false => exact met_few l y A n c B m d w hI hn hLe hEv hs hq
  | true =>
    by_cases hr : (doL l y 4).2 = 0
    · cases hf : findL y.co.lt l.ls with
      | none => exact met_ok_new l y A n c B m d w hI hnc hmd hn hLe hEv hs hq hr hf
      | some z =>
        by_cases ho : y.co.op = 1
        · exact met_ok_app l y A n c B m d w hI hnc hmd hn hLe hEv hs hq hr z hf ho
        · exact met_ok_oth l y A n c B m d w hI hnc hmd hn hLe hEv hs hq hr z hf ho
    · exact met_bad l y A n c B m d w hI hnc hmd hn hLe hEv hs hq hr

end Go.Proofs.YtfflkodgojiklaaGreatDoor
