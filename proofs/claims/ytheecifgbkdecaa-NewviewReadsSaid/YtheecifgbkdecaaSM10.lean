/-
  RqA
-/
import Derived.Test.YtheecifgbkdecaaSM8
import Derived.Test.YtheecifgbkdecaaSM9
namespace Go.Proofs.Ytheecifgbkdecaa
open Go.RowKit

/-- may there be n replicas? -/
def szB (n : Int) : Bool := decide (1 ≤ n) && decide (n ≤ 7)
theorem szB_no {n : Int} (h : n < 1 ∨ 7 < n) : szB n = false := by unfold szB; simp; omega
theorem szB_yes {n : Int} (h : ¬ (n < 1 ∨ 7 < n)) : szB n = true := by unfold szB; simp; omega
set_option maxHeartbeats 1000000 in
theorem issize_any (n : Int) (w : World) : Calls Try.prog 114 #[.int .i64 n] w fun e w' => e = .returned (.bool (szB n)) ∧ w' = w := by
 unfold szB
 by_cases h1 : 1 ≤ n
 ·have d1 : decide (1 ≤ n) = true := by simpa using h1
  go_enter Try.func114, Try.ntmps114
  go_wp2
  go_ret
  exact ⟨ret_b (by simp [h1]), rfl⟩
 ·have d1 : decide (1 ≤ n) = false := by simpa using h1
  go_enter Try.func114, Try.ntmps114
  go_wp2
  go_ret
  exact ⟨ret_b (by simp), rfl⟩

set_option maxHeartbeats 8000000 in
set_option maxRecDepth 100000 in
theorem chkC_any (c : Cr) (n : Int) (w : World) (hl : c.lt.length ≤ 140737488355328) :
  Calls Try.prog 105 #[.agg #[.int .i64 c.cl, .int .i64 c.sp, .int .i64 c.op, .string (ba c.lt), .int .i64 c.a, .int .i64 c.b, .string (ba c.tx)], .int .i64 n] w fun e w' => e = .returned (.int .i64 (chkC c n)) ∧ Below w.heap.size w w' := by
 have hsz := ba_size
 have HX : Hid (Below w.heap.size w (w.alloc (.cells #[.int .i64 c.cl, .int .i64 c.sp, .int .i64 c.op, .string (ba c.lt), .int .i64 c.a, .int .i64 c.b, .string (ba c.tx)] 58))) := Lib.hid ((Below.refl _ w).alloc (Nat.le_refl _) _)
 have HB : Hid (Blk (w.alloc (.cells #[.int .i64 c.cl, .int .i64 c.sp, .int .i64 c.op, .string (ba c.lt), .int .i64 c.a, .int .i64 c.b, .string (ba c.tx)] 58)) w.heap.size 58 [.int .i64 c.cl, .int .i64 c.sp, .int .i64 c.op, .string (ba c.lt), .int .i64 c.a, .int .i64 c.b, .string (ba c.tx)]) := Lib.hid (Blk.fresh rfl rfl)
 have c0 := HB.out.cellAt (i := 0) rfl
 have c1 := HB.out.cellAt (i := 1) rfl
 have c2 := HB.out.cellAt (i := 2) rfl
 have c3 := HB.out.cellAt (i := 3) rfl
 by_cases hz : n < 1 ∨ 7 < n
 case pos =>
  have HSZ := Lib.hid (fun W : World => szB_no hz ▸ issize_any n W)
  go_enter Try.func105, Try.ntmps105
  have hv : chkC c n = 1 := by unfold chkC; simp [hz]; try omega
  have HV := Lib.hid hv
  clear hv hz 
  go_wp2_with (first
   | (go_at_call 114; (with_reducible refine (HSZ.out _).mono ?_); rintro e w1 ⟨rfl, rfl⟩))
  go_ret
  exact ⟨ret_i HV.out.symm, HX.out⟩
 case neg =>
  have HSZ := Lib.hid (fun W : World => szB_yes hz ▸ issize_any n W)
  go_enter Try.func105, Try.ntmps105
  by_cases h0 : c.cl < n
  case pos =>
   have d0 : decide (c.cl < n) = true := by simpa using h0
   have hv : chkC c n = 17 := by unfold chkC; simp [hz, h0]; try omega
   have HV := Lib.hid hv
   clear hv hz h0
   go_wp2_with (first
    | (go_at_call 114; (with_reducible refine (HSZ.out _).mono ?_); rintro e w1 ⟨rfl, rfl⟩))
   go_ret
   exact ⟨ret_i HV.out.symm, HX.out⟩
  case neg =>
   have d0 : decide (c.cl < n) = false := by simpa using h0
   have hwr : IntKind.i64.wrap (n + 4) = n + 4 := IntWalk.i64_in _ (by omega)
   by_cases h1 : n + 4 ≤ c.cl
   case pos =>
    have d1 : decide (n + 4 ≤ c.cl) = true := by simpa using h1
    have h1b : n + 3 < c.cl := by omega
    have hv : chkC c n = 17 := by unfold chkC; simp [hz, h0, h1b]; try omega
    have HV := Lib.hid hv
    clear hv hz h0 h1
    go_wp2_with (first
     | (go_at_call 114; (with_reducible refine (HSZ.out _).mono ?_); rintro e w1 ⟨rfl, rfl⟩))
    go_ret
    exact ⟨ret_i HV.out.symm, HX.out⟩
   case neg =>
    have d1 : decide (n + 4 ≤ c.cl) = false := by simpa using h1
    have h1b : ¬ n + 3 < c.cl := by omega
    by_cases h2 : c.sp < 1
    case pos =>
     have d2 : decide (c.sp < 1) = true := by simpa using h2
     have hv : chkC c n = 5 := by unfold chkC; simp [hz, h0, h1b, h2]; try omega
     have HV := Lib.hid hv
     clear hv hz h0 h1 h2
     go_wp2_with (first
      | (go_at_call 114; (with_reducible refine (HSZ.out _).mono ?_); rintro e w1 ⟨rfl, rfl⟩))
     go_ret
     exact ⟨ret_i HV.out.symm, HX.out⟩
    case neg =>
     have d2 : decide (c.sp < 1) = false := by simpa using h2
     by_cases h3 : 1099511627776 < c.sp
     case pos =>
      have d3 : decide (1099511627776 < c.sp) = true := by simpa using h3
      have hv : chkC c n = 5 := by unfold chkC; simp [hz, h0, h1b, h2, h3]; try omega
      have HV := Lib.hid hv
      clear hv hz h0 h1 h2 h3
      go_wp2_with (first
       | (go_at_call 114; (with_reducible refine (HSZ.out _).mono ?_); rintro e w1 ⟨rfl, rfl⟩))
      go_ret
      exact ⟨ret_i HV.out.symm, HX.out⟩
     case neg =>
      have d3 : decide (1099511627776 < c.sp) = false := by simpa using h3
      by_cases h4 : c.op < 1
      case pos =>
       have d4 : decide (c.op < 1) = true := by simpa using h4
       have hv : chkC c n = 5 := by unfold chkC; simp [hz, h0, h1b, h2, h3, h4]; try omega
       have HV := Lib.hid hv
       clear hv hz h0 h1 h2 h3 h4
       go_wp2_with (first
        | (go_at_call 114; (with_reducible refine (HSZ.out _).mono ?_); rintro e w1 ⟨rfl, rfl⟩))
       go_ret
       exact ⟨ret_i HV.out.symm, HX.out⟩
      case neg =>
       have d4 : decide (c.op < 1) = false := by simpa using h4
       by_cases h5 : 9 < c.op
       case pos =>
        have d5 : decide (9 < c.op) = true := by simpa using h5
        have hv : chkC c n = 5 := by unfold chkC; simp [hz, h0, h1b, h2, h3, h4, h5]; try omega
        have HV := Lib.hid hv
        clear hv hz h0 h1 h2 h3 h4 h5
        go_wp2_with (first
         | (go_at_call 114; (with_reducible refine (HSZ.out _).mono ?_); rintro e w1 ⟨rfl, rfl⟩))
        go_ret
        exact ⟨ret_i HV.out.symm, HX.out⟩
       case neg =>
        have d5 : decide (9 < c.op) = false := by simpa using h5
        cases hn : isNm c.lt with
        | false =>
         have HNM := Lib.hid (fun W : World => hn ▸ isname_any c.lt W hl)
         have hv : chkC c n = 7 := by unfold chkC; simp [hz, h0, h1b, h2, h3, h4, h5, hn]; try omega
         have HV := Lib.hid hv
         clear hv hz h0 h1 h2 h3 h4 h5
         go_wp2_with (first
          | (go_at_call 114; (with_reducible refine (HSZ.out _).mono ?_); rintro e w1 ⟨rfl, rfl⟩)
          | (go_at_call 115; (with_reducible refine (HNM.out _).mono ?_); rintro e w2 ⟨rfl, hb⟩; have H2 := Lib.hid (HB.out.through hb); have HX2 := Lib.hid (below_step HX.out hb); have c6b := H2.out.cellAt (i := 6) rfl; clear hb))
         go_ret
         exact ⟨ret_i HV.out.symm, HX2.out⟩
        | true =>
         have HNM := Lib.hid (fun W : World => hn ▸ isname_any c.lt W hl)
         by_cases h6 : c.tx.length ≤ 200
         case neg =>
          have d6 : decide ((200 : Int) < (c.tx.length : Int)) = true := by simp; omega
          have hv : chkC c n = 3 := by unfold chkC; simp [hz, h0, h1b, h2, h3, h4, h5, h6, hn]; try omega
          have HV := Lib.hid hv
          clear hv hz h0 h1 h2 h3 h4 h5 h6
          go_wp2_with (first
           | (go_at_call 114; (with_reducible refine (HSZ.out _).mono ?_); rintro e w1 ⟨rfl, rfl⟩)
           | (go_at_call 115; (with_reducible refine (HNM.out _).mono ?_); rintro e w2 ⟨rfl, hb⟩; have H2 := Lib.hid (HB.out.through hb); have HX2 := Lib.hid (below_step HX.out hb); have c6b := H2.out.cellAt (i := 6) rfl; clear hb))
          go_ret
          exact ⟨ret_i HV.out.symm, HX2.out⟩
         case pos =>
          have d6 : decide ((200 : Int) < (c.tx.length : Int)) = false := by simp; omega
          have hv : chkC c n = 0 := by unfold chkC; simp [hz, h0, h1b, h2, h3, h4, h5, h6, hn]; try omega
          have HV := Lib.hid hv
          clear hv hz h0 h1 h2 h3 h4 h5 h6
          go_wp2_with (first
           | (go_at_call 114; (with_reducible refine (HSZ.out _).mono ?_); rintro e w1 ⟨rfl, rfl⟩)
           | (go_at_call 115; (with_reducible refine (HNM.out _).mono ?_); rintro e w2 ⟨rfl, hb⟩; have H2 := Lib.hid (HB.out.through hb); have HX2 := Lib.hid (below_step HX.out hb); have c6b := H2.out.cellAt (i := 6) rfl; clear hb))
          go_ret
          exact ⟨ret_i HV.out.symm, HX2.out⟩

theorem put1_by {Q : Nat → Prop} {A : Option Addr} {n c : Nat} {xs : List UInt8} {w : World} (v : Nat) (hv : v < 18446744073709551616) (h : By w Q A n xs) (hn : xs.length ≤ 1099511627776) (hnc : n ≤ c) :
  Calls Try.prog 67 #[.slice A n c, .int .u64 v, .int .i64 1] w (Byt w (xs ++ beB v 1)) := put_by 1 rfl v hv h hn hnc
theorem put8_by {Q : Nat → Prop} {A : Option Addr} {n c : Nat} {xs : List UInt8} {w : World} (v : Nat) (hv : v < 18446744073709551616) (h : By w Q A n xs) (hn : xs.length ≤ 1099511627776) (hnc : n ≤ c) :
  Calls Try.prog 67 #[.slice A n c, .int .u64 v, .int .i64 8] w (Byt w (xs ++ beB v 8)) := put_by 8 rfl v hv h hn hnc

set_option maxHeartbeats 8000000 in
set_option maxRecDepth 100000 in
theorem coreB_any (c : Cr) (w : World) (hl : c.lt.length ≤ 1000000) (ht : c.tx.length ≤ 1000000) :
  Calls Try.prog 113 #[.agg #[.int .i64 c.cl, .int .i64 c.sp, .int .i64 c.op, .string (ba c.lt), .int .i64 c.a, .int .i64 c.b, .string (ba c.tx)]] w (Byt w (encCr c)) := by
 have hcv0 := fun (v : Int) (W : World) => conv_u64 2 70 Try.underlying2 Try.underlying70 v W
 have hcv1 := fun (v : Int) (W : World) => conv_u64 3 70 Try.underlying3 Try.underlying70 v W
 have H0 : Hid (Blk (w.alloc (.cells #[.int .i64 c.cl, .int .i64 c.sp, .int .i64 c.op, .string (ba c.lt), .int .i64 c.a, .int .i64 c.b, .string (ba c.tx)] 58)) w.heap.size 58 [.int .i64 c.cl, .int .i64 c.sp, .int .i64 c.op, .string (ba c.lt), .int .i64 c.a, .int .i64 c.b, .string (ba c.tx)]) := Lib.hid (Blk.fresh rfl rfl)
 have HX0 : Hid (Below w.heap.size w (w.alloc (.cells #[.int .i64 c.cl, .int .i64 c.sp, .int .i64 c.op, .string (ba c.lt), .int .i64 c.a, .int .i64 c.b, .string (ba c.tx)] 58))) := Lib.hid ((Below.refl _ w).alloc (Nat.le_refl _) _)
 have c0 := H0.out.cellAt (i := 0) rfl
 go_enter Try.func113, Try.ntmps113
 go_wp2_with (first
  | (go_at_call 67; (with_reducible refine (put1_by (Q := fun _ => True) (A := none) (n := 0) (c := 0) (xs := []) (u64N c.cl) (u64N_lt64 _) By.none_ (by simp) (Nat.le_refl _)).mono ?_); rintro e w1 ⟨A1, n1, c1', rfl, hy1, hc1, hm1, hb1⟩; have H1 := Lib.hid (H0.out.through hb1); have HX1 : Hid (Below w.heap.size w w1) := Lib.hid (below_step HX0.out hb1); have HY1 := Lib.hid hy1; have HC1 := Lib.hid hc1; have HM1 := Lib.hid hm1; have c1 := H1.out.cellAt (i := 1) rfl; clear hy1 hb1 hc1 hm1)
  | (go_at_call 67; (with_reducible refine (put8_by (u64N c.sp) (u64N_lt64 _) HY1.out (by first | (simp; done) | (simp; omega)) HC1.out).mono ?_); rintro e w2 ⟨A2, n2, c2', rfl, hy2, hc2, hm2, hb2⟩; have H2 := Lib.hid (H1.out.through hb2); have HX2 : Hid (Below w.heap.size w w2) := Lib.hid (below_step HX1.out hb2); have HY2 := Lib.hid hy2; have HC2 := Lib.hid hc2; have HM2 := Lib.hid hm2; have c2 := H2.out.cellAt (i := 2) rfl; clear hy2 hb2 hc2 hm2)
  | (go_at_call 67; (with_reducible refine (put1_by (u64N c.op) (u64N_lt64 _) HY2.out (by first | (simp; done) | (simp; omega)) HC2.out).mono ?_); rintro e w3 ⟨A3, n3, c3', rfl, hy3, hc3, hm3, hb3⟩; have H3 := Lib.hid (H2.out.through hb3); have HX3 : Hid (Below w.heap.size w w3) := Lib.hid (below_step HX2.out hb3); have HY3 := Lib.hid hy3; have HC3 := Lib.hid hc3; have HM3 := Lib.hid hm3; have c3 := H3.out.cellAt (i := 3) rfl; clear hy3 hb3 hc3 hm3)
  | (refine wpList_str_bytes rfl (.tmp 20) rfl c.lt rfl ?_; intro Bs3 cs3 v3 hys3 hbs3; have HYs3 := Lib.hid hys3; have Hs3 := Lib.hid (H3.out.through hbs3); have HXs3 : Hid (Below w.heap.size w v3) := Lib.hid (below_step HX3.out hbs3); have HYt3 := Lib.hid (HY3.out.through hbs3); clear hys3 hbs3)
  | (go_at_call 76; (with_reducible refine (row_by HYt3.out HYs3.out (by first | (simp; done) | (simp; omega)) (by omega) HC3.out).mono ?_); rintro e w4 ⟨A4, n4, c4', rfl, hy4, hc4, hm4, hb4⟩; have H4 := Lib.hid (Hs3.out.through hb4); have HX4 : Hid (Below w.heap.size w w4) := Lib.hid (below_step HXs3.out hb4); have HY4 := Lib.hid hy4; have HC4 := Lib.hid hc4; have HM4 := Lib.hid hm4; have c4 := H4.out.cellAt (i := 4) rfl; clear hy4 hb4 hc4 hm4)
  | (go_at_call 67; (with_reducible refine (put8_by (u64N c.a) (u64N_lt64 _) HY4.out (by first | (simp; done) | (simp; omega)) HC4.out).mono ?_); rintro e w5 ⟨A5, n5, c5', rfl, hy5, hc5, hm5, hb5⟩; have H5 := Lib.hid (H4.out.through hb5); have HX5 : Hid (Below w.heap.size w w5) := Lib.hid (below_step HX4.out hb5); have HY5 := Lib.hid hy5; have HC5 := Lib.hid hc5; have HM5 := Lib.hid hm5; have c5 := H5.out.cellAt (i := 5) rfl; clear hy5 hb5 hc5 hm5)
  | (go_at_call 67; (with_reducible refine (put8_by (u64N c.b) (u64N_lt64 _) HY5.out (by first | (simp; done) | (simp; omega)) HC5.out).mono ?_); rintro e w6 ⟨A6, n6, c6', rfl, hy6, hc6, hm6, hb6⟩; have H6 := Lib.hid (H5.out.through hb6); have HX6 : Hid (Below w.heap.size w w6) := Lib.hid (below_step HX5.out hb6); have HY6 := Lib.hid hy6; have HC6 := Lib.hid hc6; have HM6 := Lib.hid hm6; have c6 := H6.out.cellAt (i := 6) rfl; clear hy6 hb6 hc6 hm6)
  | (refine wpList_str_bytes rfl (.tmp 35) rfl c.tx rfl ?_; intro Bs6 cs6 v6 hys6 hbs6; have HYs6 := Lib.hid hys6; have Hs6 := Lib.hid (H6.out.through hbs6); have HXs6 : Hid (Below w.heap.size w v6) := Lib.hid (below_step HX6.out hbs6); have HYt6 := Lib.hid (HY6.out.through hbs6); clear hys6 hbs6)
  | (go_at_call 76; (with_reducible refine (row_by HYt6.out HYs6.out (by first | (simp; done) | (simp; omega)) (by omega) HC6.out).mono ?_); rintro e w7 ⟨A7, n7, c7', rfl, hy7, hc7, hm7, hb7⟩; have H7 := Lib.hid (Hs6.out.through hb7); have HX7 : Hid (Below w.heap.size w w7) := Lib.hid (below_step HXs6.out hb7); have HY7 := Lib.hid hy7; have HC7 := Lib.hid hc7; have HM7 := Lib.hid hm7; clear hy7 hb7 hc7 hm7))
 go_ret
 exact ⟨A7, n7, c7', rfl, by have h9 := HY7.out; simpa only [encCr, List.nil_append, List.append_assoc] using h9, HC7.out, HM7.out, HX7.out⟩

end Go.Proofs.Ytheecifgbkdecaa
