/-
  The law ContractApart, whatever its arguments.
-/
import Derived.Test.YtfflkodgojiklaaGreatDoorCoA2
import Derived.Test.YtfflkodgojiklaaGreatDoorCoA3
import Derived.Test.YtfflkodgojiklaaGreatDoorCoAO
namespace Go.Proofs.YtfflkodgojiklaaGreatDoor
open Go.RowKit

theorem apart_any (l : Lg) (a b : Ey) (A : Option Addr) (n c : Nat) (B : Option Addr) (m d : Nat) (w : World) (hI : LgIn w A n B m l) (hnc : n ≤ c) (hmd : m ≤ d) (hn : n ≤ maxLen) (hLe : Led w) (hEv : EV w) (ha : a.ms < 4294967296) (hb : b.ms < 4294967296) :
    Calls Tryz.prog 5 #[l.val A n c B m d, .agg a.cells.toArray, .agg b.cells.toArray] w fun e w' => e = .returned (.bool true) ∧ Below w.heap.size w w' := by
  cases hq : fewC l [a, b] with
  | false => exact apart_few l a b A n c B m d w hI hn hLe hEv ha hb hq
  | true =>
    cases hR : l.right with
    | false => exact apart_right l a b A n c B m d w hI hn hLe hEv ha hb hq hR
    | true =>
      by_cases hl : l.ls.length ≤ 10
      case neg => exact apart_len l a b A n c B m d w hI hn hLe hEv ha hb hq hR hl
      case pos =>
        by_cases k4 : a.co.cl = b.co.cl
        case pos => exact apart_cl l a b A n c B m d w hI hn hLe hEv ha hb hq hR hl k4
        case neg =>
          by_cases k5 : a.co.lt = b.co.lt
          case pos => exact apart_lt l a b A n c B m d w hI hn hLe hEv ha hb hq hR hl k4 k5
          case neg =>
            by_cases k6 : a.co.op = 7
            case pos => exact apart_a l a b A n c B m d w hI hn hLe hEv ha hb hq hR hl k4 k5 k6
            case neg =>
              by_cases k7 : b.co.op = 7
              case pos => exact apart_b l a b A n c B m d w hI hn hLe hEv ha hb hq hR hl k4 k5 k6 k7
              case neg => exact apart_ok l a b A n c B m d w hI hn hLe hEv ha hb hnc hmd hq hR hl k4 k5 k6 k7

end Go.Proofs.YtfflkodgojiklaaGreatDoor
