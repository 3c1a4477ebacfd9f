/-
  Do: an entry is done.
-/
import Derived.Test.YtfflkodgojiklaaGreatDoorCoDO
import Derived.Test.YtfflkodgojiklaaGreatDoorCoDW
namespace Go.Proofs.YtfflkodgojiklaaGreatDoor
open Go.RowKit
theorem do_any (y : Ey) (n : Int) (l : Lg) (A : Option Addr) (nn c : Nat) (B : Option Addr) (m d : Nat) (w : World) (hL : LgIn w A nn B m l) (hnc : nn ≤ c) (hmd : m ≤ d) (hn : nn ≤ 900) (hm : m ≤ 900) (hLe : Led w) (hE : EV w) (hs : y.ms < 4294967296) (hlt : y.co.lt.length ≤ 140737488355328) (ht : (textL l y.co).length ≤ 1000) :
    Calls Tryz.prog 8 #[.agg #[.int .i64 l.sq, .int .i64 l.tt, .slice A nn c, .slice B m d], .agg #[.int .i64 y.co.cl, .int .i64 y.co.sp, .int .i64 y.co.op, .string (ba y.co.lt), .int .i64 y.co.a, .int .i64 y.co.b, .string (ba y.co.tx), .int .u32 (y.ms : Int)], .int .i64 n] w (LgOutCE w (doL l y n).1 (doL l y n).2) := by
  unfold doL
  cases hq : staleL l y.co with
  | true => rw [if_pos rfl]; exact do_stale y n l A nn c B m d w hL hn hm hlt hq
  | false =>
    rw [if_neg (by simp)]
    by_cases hk : chkC y.co n = 0
    · rw [if_neg (by simp [hk])]
      have HH : ∀ g gs, w.heap.size + 3 ≤ g → gs ≠ g → DHyp w g gs y l A nn c B m := fun g gs hg hne => ⟨hL, hnc, hn, hm, hLe, hE, hs, hlt, ht, hg, hne⟩
      by_cases h0 : (resD l y n).2 = 0
      · exact do_ok y n l A nn c B m d w hL hn hm hlt hmd HH hq hk h0
      · exact do_wrong y n l A nn c B m d w hL hn hm hlt hmd HH hq hk h0
    · rw [if_pos hk]
      exact do_bad y n l A nn c B m d w hL hn hm hlt hq hk

end Go.Proofs.YtfflkodgojiklaaGreatDoor
