/-
  The program's addLetter, addOutcome.
-/
import Derived.Test.YtkbeodlihmmdbaaPgP
import Derived.Test.YtkbeodlihmmdbaaLgBy
namespace Go.Proofs.Ytkbeodlihmmdbaa
open Go.RowKit

theorem wpList_str_bytes {ops : Array Oper} {rest : List Oper} {o : Oper} {a : Act} {w : World} {Q : Exit → Act → World → Prop} (hgd : o.guard = none) (x : Operand) (ho : o.op = .convert 9 43 x)
    (l : List UInt8) (hx : a.eval x = .string (ba l)) (h : ∀ A c w', By w' (fun _ => True) A l.length l → Below w.heap.size w w' → wpList Try.prog ops Q rest (a.put o.dst (.slice A l.length c)) w') : wpList Try.prog ops Q (o :: rest) a w := by
  refine wpList_plain hgd fun K hK => ?_
  have hrun := Lib.run_convert_string_bytes (P := Try.prog) w 9 43 5 (ba l) Try.underlying9 Try.underlying43 Try.underlying5
  rw [ba_size] at hrun
  unfold Oper.wp execOp
  simp only [ho, hx, Sem.run_bind, hrun, Result.andThen_ok]
  exact hK _ _ (h _ _ _ (by_bytes w l) (below_bytes w _))
theorem put1_by {Q : Nat → Prop} {A : Option Addr} {n c : Nat} {xs : List UInt8} {w : World} (v : Nat) (hv : v < 18446744073709551616) (h : By w Q A n xs) (hn : xs.length ≤ 1099511627776) (hnc : n ≤ c) :
    Calls Try.prog 36 #[.slice A n c, .int .u64 v, .int .i64 1] w (Byt w (xs ++ beB v 1)) := put_by 1 rfl v hv h hn hnc
theorem put2_by {Q : Nat → Prop} {A : Option Addr} {n c : Nat} {xs : List UInt8} {w : World} (v : Nat) (hv : v < 18446744073709551616) (h : By w Q A n xs) (hn : xs.length ≤ 1099511627776) (hnc : n ≤ c) :
    Calls Try.prog 36 #[.slice A n c, .int .u64 v, .int .i64 2] w (Byt w (xs ++ beB v 2)) := put_by 2 rfl v hv h hn hnc
theorem put8_by {Q : Nat → Prop} {A : Option Addr} {n c : Nat} {xs : List UInt8} {w : World} (v : Nat) (hv : v < 18446744073709551616) (h : By w Q A n xs) (hn : xs.length ≤ 1099511627776) (hnc : n ≤ c) :
    Calls Try.prog 36 #[.slice A n c, .int .u64 v, .int .i64 8] w (Byt w (xs ++ beB v 8)) := put_by 8 rfl v hv h hn hnc

set_option maxHeartbeats 8000000 in
set_option maxRecDepth 100000 in
theorem addletter_any (x : Lt) (A : Option Addr) (n c : Nat) (xs : List UInt8) (w : World) (h : By w (fun _ => True) A n xs) (hnc : n ≤ c) (hl : xs.length ≤ 1000000) (hx : x.nm.length ≤ 1000 ∧ x.po.length ≤ 1000 ∧ x.pa.length ≤ 1000) :
    Calls Try.prog 38 #[.slice A n c, .agg #[.string (ba x.nm), .int .i64 x.st, .int .i64 x.am, .int .i64 x.du, .string (ba x.po), .string (ba x.pa)]] w (Byt w (xs ++ encLt x)) := by
  have hcv0 := fun (v : Int) (W : World) => conv_u64 2 61 Try.underlying2 Try.underlying61 v W
  have hcv1 := fun (v : Int) (W : World) => conv_u64 3 61 Try.underlying3 Try.underlying61 v W
  have H0 : Hid (Blk (w.alloc (.cells #[.string (ba x.nm), .int .i64 x.st, .int .i64 x.am, .int .i64 x.du, .string (ba x.po), .string (ba x.pa)] 27)) w.heap.size 27 [.string (ba x.nm), .int .i64 x.st, .int .i64 x.am, .int .i64 x.du, .string (ba x.po), .string (ba x.pa)]) := Lib.hid (Blk.fresh rfl rfl)
  have HX0 : Hid (Below w.heap.size w (w.alloc (.cells #[.string (ba x.nm), .int .i64 x.st, .int .i64 x.am, .int .i64 x.du, .string (ba x.po), .string (ba x.pa)] 27))) := Lib.hid (below1 w _)
  have HY0 := Lib.hid (h.alloc (.cells #[.string (ba x.nm), .int .i64 x.st, .int .i64 x.am, .int .i64 x.du, .string (ba x.po), .string (ba x.pa)] 27))
  have HC0 := Lib.hid hnc
  have c0 := H0.out.cellAt (i := 0) rfl
  clear h
  go_enter Try.func38, Try.ntmps38
  go_wp2_with (first
    | (refine wpList_str_bytes rfl (.tmp 7) rfl x.nm rfl ?_; intro Bs0 cs0 v0 hys0 hbs0; have HYs0 := Lib.hid hys0; have Hs0 := Lib.hid (H0.out.through hbs0); have HXs0 : Hid (Below w.heap.size w v0) := Lib.hid (below_step HX0.out hbs0); have HYt0 := Lib.hid (HY0.out.through hbs0); clear hys0 hbs0)
    | (go_at_call 71; (with_reducible refine (row_by HYt0.out HYs0.out (by (try simp); omega) (by omega) HC0.out).mono ?_); rintro e w1 ⟨A1, n1, c1', rfl, hy1, hc1, hm1, hb1⟩; have HM1 := Lib.hid hm1; clear hm1; have H1 := Lib.hid (Hs0.out.through hb1); have HX1 : Hid (Below w.heap.size w w1) := Lib.hid (below_step HXs0.out hb1); have HY1 := Lib.hid hy1; have HC1 := Lib.hid hc1; have c1 := H1.out.cellAt (i := 1) rfl; clear hy1 hb1 hc1)
    | (go_at_call 36; (with_reducible refine (put1_by (u64N x.st) (u64N_lt64 _) HY1.out (by (try simp); omega) HC1.out).mono ?_); rintro e w2 ⟨A2, n2, c2', rfl, hy2, hc2, hm2, hb2⟩; have HM2 := Lib.hid hm2; clear hm2; have H2 := Lib.hid (H1.out.through hb2); have HX2 : Hid (Below w.heap.size w w2) := Lib.hid (below_step HX1.out hb2); have HY2 := Lib.hid hy2; have HC2 := Lib.hid hc2; have c2 := H2.out.cellAt (i := 2) rfl; clear hy2 hb2 hc2)
    | (go_at_call 36; (with_reducible refine (put8_by (u64N x.am) (u64N_lt64 _) HY2.out (by (try simp); omega) HC2.out).mono ?_); rintro e w3 ⟨A3, n3, c3', rfl, hy3, hc3, hm3, hb3⟩; have HM3 := Lib.hid hm3; clear hm3; have H3 := Lib.hid (H2.out.through hb3); have HX3 : Hid (Below w.heap.size w w3) := Lib.hid (below_step HX2.out hb3); have HY3 := Lib.hid hy3; have HC3 := Lib.hid hc3; have c3 := H3.out.cellAt (i := 3) rfl; clear hy3 hb3 hc3)
    | (go_at_call 36; (with_reducible refine (put8_by (u64N x.du) (u64N_lt64 _) HY3.out (by (try simp); omega) HC3.out).mono ?_); rintro e w4 ⟨A4, n4, c4', rfl, hy4, hc4, hm4, hb4⟩; have HM4 := Lib.hid hm4; clear hm4; have H4 := Lib.hid (H3.out.through hb4); have HX4 : Hid (Below w.heap.size w w4) := Lib.hid (below_step HX3.out hb4); have HY4 := Lib.hid hy4; have HC4 := Lib.hid hc4; have c4 := H4.out.cellAt (i := 4) rfl; clear hy4 hb4 hc4)
    | (refine wpList_str_bytes rfl (.tmp 27) rfl x.po rfl ?_; intro Bs4 cs4 v4 hys4 hbs4; have HYs4 := Lib.hid hys4; have Hs4 := Lib.hid (H4.out.through hbs4); have HXs4 : Hid (Below w.heap.size w v4) := Lib.hid (below_step HX4.out hbs4); have HYt4 := Lib.hid (HY4.out.through hbs4); clear hys4 hbs4)
    | (go_at_call 71; (with_reducible refine (row_by HYt4.out HYs4.out (by (try simp); omega) (by omega) HC4.out).mono ?_); rintro e w5 ⟨A5, n5, c5', rfl, hy5, hc5, hm5, hb5⟩; have HM5 := Lib.hid hm5; clear hm5; have H5 := Lib.hid (Hs4.out.through hb5); have HX5 : Hid (Below w.heap.size w w5) := Lib.hid (below_step HXs4.out hb5); have HY5 := Lib.hid hy5; have HC5 := Lib.hid hc5; have c5 := H5.out.cellAt (i := 5) rfl; clear hy5 hb5 hc5)
    | (refine wpList_str_bytes rfl (.tmp 32) rfl x.pa rfl ?_; intro Bs5 cs5 v5 hys5 hbs5; have HYs5 := Lib.hid hys5; have Hs5 := Lib.hid (H5.out.through hbs5); have HXs5 : Hid (Below w.heap.size w v5) := Lib.hid (below_step HX5.out hbs5); have HYt5 := Lib.hid (HY5.out.through hbs5); clear hys5 hbs5)
    | (go_at_call 71; (with_reducible refine (row_by HYt5.out HYs5.out (by (try simp); omega) (by omega) HC5.out).mono ?_); rintro e w6 ⟨A6, n6, c6', rfl, hy6, hc6, hm6, hb6⟩; have HM6 := Lib.hid hm6; clear hm6; have H6 := Lib.hid (Hs5.out.through hb6); have HX6 : Hid (Below w.heap.size w w6) := Lib.hid (below_step HXs5.out hb6); have HY6 := Lib.hid hy6; have HC6 := Lib.hid hc6; clear hy6 hb6 hc6))
  go_ret
  exact ⟨A6, n6, c6', rfl, by have h9 := HY6.out; simpa only [encLt, List.append_assoc] using h9, HC6.out, HM6.out, HX6.out⟩

set_option maxHeartbeats 8000000 in
set_option maxRecDepth 100000 in
theorem addoutcome_any (x : Oc) (A : Option Addr) (n c : Nat) (xs : List UInt8) (w : World) (h : By w (fun _ => True) A n xs) (hnc : n ≤ c) (hl : xs.length ≤ 1000000) :
    Calls Try.prog 40 #[.slice A n c, .agg #[.int .i64 x.cl, .int .i64 x.sp, .int .i64 x.rs]] w (Byt w (xs ++ encOc x)) := by
  have hcv0 := fun (v : Int) (W : World) => conv_u64 28 61 Try.underlying28 Try.underlying61 v W
  have hcv1 := fun (v : Int) (W : World) => conv_u64 2 61 Try.underlying2 Try.underlying61 v W
  have hcv2 := fun (v : Int) (W : World) => conv_u64 3 61 Try.underlying3 Try.underlying61 v W
  have H0 : Hid (Blk (w.alloc (.cells #[.int .i64 x.cl, .int .i64 x.sp, .int .i64 x.rs] 30)) w.heap.size 30 [.int .i64 x.cl, .int .i64 x.sp, .int .i64 x.rs]) := Lib.hid (Blk.fresh rfl rfl)
  have HX0 : Hid (Below w.heap.size w (w.alloc (.cells #[.int .i64 x.cl, .int .i64 x.sp, .int .i64 x.rs] 30))) := Lib.hid (below1 w _)
  have HY0 := Lib.hid (h.alloc (.cells #[.int .i64 x.cl, .int .i64 x.sp, .int .i64 x.rs] 30))
  have HC0 := Lib.hid hnc
  have c0 := H0.out.cellAt (i := 0) rfl
  clear h
  go_enter Try.func40, Try.ntmps40
  go_wp2_with (first
    | (go_at_call 36; (with_reducible refine (put1_by (u64N x.cl) (u64N_lt64 _) HY0.out (by (try simp); omega) HC0.out).mono ?_); rintro e w1 ⟨A1, n1, c1', rfl, hy1, hc1, hm1, hb1⟩; have HM1 := Lib.hid hm1; clear hm1; have H1 := Lib.hid (H0.out.through hb1); have HX1 : Hid (Below w.heap.size w w1) := Lib.hid (below_step HX0.out hb1); have HY1 := Lib.hid hy1; have HC1 := Lib.hid hc1; have c1 := H1.out.cellAt (i := 1) rfl; clear hy1 hb1 hc1)
    | (go_at_call 36; (with_reducible refine (put8_by (u64N x.sp) (u64N_lt64 _) HY1.out (by (try simp); omega) HC1.out).mono ?_); rintro e w2 ⟨A2, n2, c2', rfl, hy2, hc2, hm2, hb2⟩; have HM2 := Lib.hid hm2; clear hm2; have H2 := Lib.hid (H1.out.through hb2); have HX2 : Hid (Below w.heap.size w w2) := Lib.hid (below_step HX1.out hb2); have HY2 := Lib.hid hy2; have HC2 := Lib.hid hc2; have c2 := H2.out.cellAt (i := 2) rfl; clear hy2 hb2 hc2)
    | (go_at_call 36; (with_reducible refine (put1_by (u64N x.rs) (u64N_lt64 _) HY2.out (by (try simp); omega) HC2.out).mono ?_); rintro e w3 ⟨A3, n3, c3', rfl, hy3, hc3, hm3, hb3⟩; have HM3 := Lib.hid hm3; clear hm3; have H3 := Lib.hid (H2.out.through hb3); have HX3 : Hid (Below w.heap.size w w3) := Lib.hid (below_step HX2.out hb3); have HY3 := Lib.hid hy3; have HC3 := Lib.hid hc3; clear hy3 hb3 hc3))
  go_ret
  exact ⟨A3, n3, c3', rfl, by have h9 := HY3.out; simpa only [encOc, List.append_assoc] using h9, HC3.out, HM3.out, HX3.out⟩

end Go.Proofs.Ytkbeodlihmmdbaa
