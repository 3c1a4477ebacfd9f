/-
  Two cores, two tags, compared. No walk here.
-/
import Derived.Test.YtpngcdafamkhcaaRqQ
import Derived.Test.YtpngcdafamkhcaaB2
namespace Go.Proofs.Ytpngcdafamkhcaa
open Go.RowKit

theorem Blk.whole {w : World} {g : Nat} {t : TypeId} {cs : List Value} (h : Blk w g t cs) : w.rangeAt g 0 cs := Blk.range (pre := []) (post := []) (by simpa using h)
theorem eqb_ba (a b : List UInt8) : ((ba a).toList == (ba b).toList) = (a == b) := by rw [ba_list, ba_list]
set_option maxHeartbeats 4000000 in
theorem eq_cr (c d : Cr) (w : World) : (binOp .eql 27 (.agg #[.int .i64 c.cl, .int .i64 c.sp, .int .i64 c.op, .string (ba c.lt), .int .i64 c.a, .int .i64 c.b, .string (ba c.tx)]) (.agg #[.int .i64 d.cl, .int .i64 d.sp, .int .i64 d.op, .string (ba d.lt), .int .i64 d.a, .int .i64 d.b, .string (ba d.tx)])).run Try.prog w = .ok (.bool (c.eqb d)) w := by
  unfold Cr.eqb
  cases h0 : (c.cl == d.cl) with
  | false => simp [go_sem, eqb_ba, h0]
  | true =>
    cases h1 : (c.sp == d.sp) with
    | false => simp [go_sem, eqb_ba, h0, h1]
    | true =>
      cases h2 : (c.op == d.op) with
      | false => simp [go_sem, eqb_ba, h0, h1, h2]
      | true =>
        cases h3 : (c.lt == d.lt) with
        | false => simp [go_sem, eqb_ba, h0, h1, h2, h3]
        | true =>
          cases h4 : (c.a == d.a) with
          | false => simp [go_sem, eqb_ba, h0, h1, h2, h3, h4]
          | true =>
            cases h5 : (c.b == d.b) with
            | false => simp [go_sem, eqb_ba, h0, h1, h2, h3, h4, h5]
            | true =>
              cases h6 : (c.tx == d.tx) with
              | false => simp [go_sem, eqb_ba, h0, h1, h2, h3, h4, h5, h6]
              | true =>
                simp [go_sem, eqb_ba, h0, h1, h2, h3, h4, h5, h6]

theorem neq_cr (c d : Cr) (w : World) : (binOp .neq 27 (.agg #[.int .i64 c.cl, .int .i64 c.sp, .int .i64 c.op, .string (ba c.lt), .int .i64 c.a, .int .i64 c.b, .string (ba c.tx)]) (.agg #[.int .i64 d.cl, .int .i64 d.sp, .int .i64 d.op, .string (ba d.lt), .int .i64 d.a, .int .i64 d.b, .string (ba d.tx)])).run Try.prog w = .ok (.bool (!(c.eqb d))) w := arr_neq (fun w => eq_cr c d w) w

end Go.Proofs.Ytpngcdafamkhcaa
