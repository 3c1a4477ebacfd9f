/-
  BaB
-/
import Derived.Deep.RegionHeld
import Derived.Test.YtheecifgbkdecaaSN11
import Derived.Test.YtheecifgbkdecaaSN10
import Derived.Test.YtheecifgbkdecaaSN0
namespace Go.Proofs.Ytheecifgbkdecaa
open Go.RowKit

theorem conv_3264 (v : Nat) (h : v < 4294967296) (w : World) : (convert 59 70 (.int .u32 (v : Int))).run Try.prog w = .ok (.int .u64 (v : Int)) w := by
 have e : IntKind.u64.wrap (v : Int) = (v : Int) := IntWalk.u64_in _ (by omega)
 simp [convert, run_underlying Try.underlying59, run_underlying Try.underlying70, Conv.intToInt, e]
theorem own_thr {w w' : World} {base sz n : Nat} {e : TypeId} {v : Value} {xs : List Value} (h : w.ownsRow base e sz v n xs) (hb : Below w.heap.size w w') : w'.ownsRow base e sz v n xs :=
 h.kept (only_below (g := w.heap.size) hb) (.inr (fun e => by have := h.lt _ e; omega))

set_option maxHeartbeats 8000000 in
set_option maxRecDepth 100000 in
theorem entrybytes_any (y : Ey) (w : World) (hl : y.co.lt.length ≤ 1000000) (ht : y.co.tx.length ≤ 1000000) (hm : y.ms < 4294967296) :
  Calls Try.prog 104 #[.agg #[.int .i64 y.co.cl, .int .i64 y.co.sp, .int .i64 y.co.op, .string (ba y.co.lt), .int .i64 y.co.a, .int .i64 y.co.b, .string (ba y.co.tx), .int .u32 (y.ms : Int)]] w (Byt w (encEy y)) := by
 have HX : Hid (Below w.heap.size w (w.alloc (.cells #[.int .i64 y.co.cl, .int .i64 y.co.sp, .int .i64 y.co.op, .string (ba y.co.lt), .int .i64 y.co.a, .int .i64 y.co.b, .string (ba y.co.tx), .int .u32 (y.ms : Int)] 61))) := Lib.hid ((Below.refl _ w).alloc (Nat.le_refl _) _)
 have HB : Hid (Blk (w.alloc (.cells #[.int .i64 y.co.cl, .int .i64 y.co.sp, .int .i64 y.co.op, .string (ba y.co.lt), .int .i64 y.co.a, .int .i64 y.co.b, .string (ba y.co.tx), .int .u32 (y.ms : Int)] 61)) w.heap.size 61 [.int .i64 y.co.cl, .int .i64 y.co.sp, .int .i64 y.co.op, .string (ba y.co.lt), .int .i64 y.co.a, .int .i64 y.co.b, .string (ba y.co.tx), .int .u32 (y.ms : Int)]) := Lib.hid (Blk.fresh rfl rfl)
 have HC : Hid ((w.alloc (.cells #[.int .i64 y.co.cl, .int .i64 y.co.sp, .int .i64 y.co.op, .string (ba y.co.lt), .int .i64 y.co.a, .int .i64 y.co.b, .string (ba y.co.tx), .int .u32 (y.ms : Int)] 61)).rangeAt w.heap.size 0 [.int .i64 y.co.cl, .int .i64 y.co.sp, .int .i64 y.co.op, .string (ba y.co.lt), .int .i64 y.co.a, .int .i64 y.co.b, .string (ba y.co.tx)]) := Lib.hid (Blk.front (post := [.int .u32 (y.ms : Int)]) HB.out)
 have HCb : Hid (∀ W, Calls Try.prog 113 #[.agg #[.int .i64 y.co.cl, .int .i64 y.co.sp, .int .i64 y.co.op, .string (ba y.co.lt), .int .i64 y.co.a, .int .i64 y.co.b, .string (ba y.co.tx)]] W (Byt W (encCr y.co))) := Lib.hid (fun W => coreB_any y.co W hl ht)
 have HCL : Hid ((encCr y.co).length ≤ 1099511627776) := Lib.hid (by rw [encCr_len]; omega)
 have HRL : Hid (([] ++ rowB (encCr y.co)).length ≤ 1099511627776) := Lib.hid (by rw [List.nil_append, rowB_len, encCr_len]; omega)
 have hcv := fun W : World => conv_3264 y.ms hm W
 clear hl ht
 go_enter Try.func104, Try.ntmps104
 go_wp2_with (first
  | (refine wpList_load_mid rfl 58 (.tmp 4) rfl w.heap.size 0 rfl [.int .i64 y.co.cl, .int .i64 y.co.sp, .int .i64 y.co.op, .string (ba y.co.lt), .int .i64 y.co.a, .int .i64 y.co.b, .string (ba y.co.tx)] _ HC.out Try.underlying58 rfl (by kernel_rfl) ?_)
  | (go_at_call 113; (with_reducible refine (HCb.out _).mono ?_); rintro e w2 ⟨A2, n2, d2, rfl, hy2, hn2, hm2, hb2⟩; have HY2 := Lib.hid hy2; have HX2 := Lib.hid (below_step HX.out hb2); have HB2 := Lib.hid (HB.out.through hb2); clear hy2 hn2 hm2 hb2)
  | (go_at_call 76; (with_reducible refine (row_by (Q := fun _ => True) (A := none) (n := 0) (c := 0) (xs := []) By.none_ HY2.out (by simp) HCL.out (Nat.le_refl _)).mono ?_); rintro e w3 ⟨A3, n3, d3, rfl, hy3, hn3, hm3, hb3⟩; have HY3 := Lib.hid hy3; have HN3 := Lib.hid hn3; have HX3 := Lib.hid (below_step HX2.out hb3); have HB3 := Lib.hid (HB2.out.through hb3); have c7 := HB3.out.cellAt (i := 7) rfl; clear hy3 hn3 hm3 hb3)
  | (go_at_call 67; (with_reducible refine (put1_by y.ms (by omega) HY3.out HRL.out HN3.out).mono ?_); rintro e w4 ⟨A4, n4, d4, rfl, hy4, hn4, hm4, hb4⟩; have HY4 := Lib.hid hy4; have HN4 := Lib.hid (And.intro hn4 hm4); have HX4 := Lib.hid (below_step HX3.out hb4); clear hy4 hn4 hm4 hb4))
 go_ret
 exact ⟨A4, n4, d4, rfl, HY4.out, HN4.out.1, HN4.out.2, HX4.out⟩

set_option maxHeartbeats 8000000 in
set_option maxRecDepth 100000 in
theorem bytesB_any (es : List Ey) (A : Option Addr) (k c : Nat) (w : World) (h : EysIn w A k es) (hk : k ≤ 1000000) (hl : ∀ y ∈ es, y.co.lt.length ≤ 1000000 ∧ y.co.tx.length ≤ 1000000) (hL : (encB es).length ≤ 100000000000) :
  Calls Try.prog 77 #[.slice A k c] w (Byt w (encB es)) := by
 obtain ⟨i0, hi, hz0, hz1, hz2⟩ := info_parts Try.info_u8
 have HI := Lib.hid h
 have HLn := Lib.hid h.len
 have HLt := Lib.hid hl
 obtain ⟨OUT, hO⟩ : ∃ OUT, encB es = OUT := ⟨_, rfl⟩
 rw [hO] at hL ⊢
 have HLL := Lib.hid hL
 have HOUT : Hid (beB k 2 ++ encAll encEy es = OUT) := Lib.hid (by rw [← hO, ← h.len]; rfl)
 have hwu : ∀ W : World, (convert 3 70 (.int .i64 (k : Int))).run Try.prog W = .ok (.int .u64 (k : Int)) W := fun W => by
  have h9 := conv_u64 3 70 Try.underlying3 Try.underlying70 (k : Int) W
  rw [u64N_nat (by omega)] at h9
  exact h9
 have HPut : Hid (∀ (W : World), Calls Try.prog 67 #[.slice none 0 0, .int .u64 (k : Int), .int .i64 2] W (Made W (beB k 2).length (beB k 2))) := Lib.hid (fun W => by
  have h9 := put_any (fun _ => True) none 0 0 [] (k : Int) (2 : Nat) (by omega) (by omega) W By.none_ (by omega) (Nat.le_refl _)
  rw [Int.toNat_natCast, putB_wid rfl] at h9
  have e : putN 0 (2 : Nat) = (beB k 2).length := by rw [beB_length]; rfl
  rw [e] at h9
  exact h9)
 clear h hl hO hL
 go_enter Try.func77, Try.ntmps77
 go_wp2_with (first
  | (go_at_call 67; (refine (HPut.out _).mono ?_); rintro e w4 ⟨v4, rfl, ho4, hb4⟩; have HO4 := Lib.hid ho4; have HX4 := Lib.hid hb4; clear ho4 hb4))
 go_loopw [3, 12] (fun bv iv wr => ∃ (i : Nat) (ys : List UInt8) (v' : Value), i ≤ k ∧ iv = .int .i64 (i : Int) ∧ v' = bv ∧ ys ++ encAll encEy (es.drop i) = OUT ∧ wr.ownsRow w.heap.size 5 1 v' ys.length (vs ys) ∧ Below w.heap.size w wr) (fun _ iv _ => k - (intOf iv).toNat)
 case atStart => exact ⟨0, _, v4, Nat.zero_le _, rfl, rfl, HOUT.out, HO4.out, HX4.out⟩
 case round =>
  obtain ⟨i, ys, v', hi', rfl, rfl, hpq, hown, hx⟩ := hrel
  have HO := Lib.hid hown
  have HX := Lib.hid hx
  have HPQ := Lib.hid hpq
  clear hown hx hpq
  by_cases hlt : i < k
  ·obtain ⟨g, o, y, rfl, _, hmem, hd, hrx⟩ := (HI.out.through HX.out).at hlt
   have HRx := Lib.hid hrx
   have hix := Try.ix_ey wr g o k c i hlt
   have HB : Hid (Blk (wr.alloc (.cells #[.int .i64 y.co.cl, .int .i64 y.co.sp, .int .i64 y.co.op, .string (ba y.co.lt), .int .i64 y.co.a, .int .i64 y.co.b, .string (ba y.co.tx), .int .u32 (y.ms : Int)] 61)) wr.heap.size 61 [.int .i64 y.co.cl, .int .i64 y.co.sp, .int .i64 y.co.op, .string (ba y.co.lt), .int .i64 y.co.a, .int .i64 y.co.b, .string (ba y.co.tx), .int .u32 (y.ms : Int)]) := Lib.hid (Blk.fresh rfl rfl)
   have HXa : Hid (Below w.heap.size w (wr.alloc (.cells #[.int .i64 y.co.cl, .int .i64 y.co.sp, .int .i64 y.co.op, .string (ba y.co.lt), .int .i64 y.co.a, .int .i64 y.co.b, .string (ba y.co.tx), .int .u32 (y.ms : Int)] 61))) := Lib.hid (HX.out.alloc HX.out.size _)
   have HOa := Lib.hid (HO.out.alloc (.cells #[.int .i64 y.co.cl, .int .i64 y.co.sp, .int .i64 y.co.op, .string (ba y.co.lt), .int .i64 y.co.a, .int .i64 y.co.b, .string (ba y.co.tx), .int .u32 (y.ms : Int)] 61))
   have HEn : Hid (∀ W, Calls Try.prog 104 #[.agg #[.int .i64 y.co.cl, .int .i64 y.co.sp, .int .i64 y.co.op, .string (ba y.co.lt), .int .i64 y.co.a, .int .i64 y.co.b, .string (ba y.co.tx), .int .u32 (y.ms : Int)]] W (Byt W (encEy y))) := Lib.hid (fun W => entrybytes_any y W (HLt.out y hmem).1 (HLt.out y hmem).2 (HI.out.2 y hmem))
   have HPQ2 : Hid ((ys ++ encEy y) ++ encAll encEy (es.drop (i + 1)) = OUT) := Lib.hid (by rw [← HPQ.out, hd]; simp [encAll])
   clear hrx hd hmem
   go_wp2_with (first
    | (refine wpList_load_mid rfl 61 (.tmp 14) rfl g (o + i * 8) rfl [.int .i64 y.co.cl, .int .i64 y.co.sp, .int .i64 y.co.op, .string (ba y.co.lt), .int .i64 y.co.a, .int .i64 y.co.b, .string (ba y.co.tx), .int .u32 (y.ms : Int)] _ HRx.out Try.underlying61 rfl (by kernel_rfl) ?_)
    | (refine wpList_load_blk rfl 61 (.tmp 5) rfl wr.heap.size rfl 61 [.int .i64 y.co.cl, .int .i64 y.co.sp, .int .i64 y.co.op, .string (ba y.co.lt), .int .i64 y.co.a, .int .i64 y.co.b, .string (ba y.co.tx), .int .u32 (y.ms : Int)] _ HB.out Try.underlying61 rfl (by kernel_rfl) ?_)
    | (go_at_call 104; (with_reducible refine (HEn.out _).mono ?_); rintro e w5 ⟨A5, n5, d5, rfl, hy5, _, _, hb5⟩; have HY5 := Lib.hid hy5; have HX5 := Lib.hid (below_step HXa.out hb5); have HO5 := Lib.hid (own_thr HOa.out hb5); have HBD5 : Hid (ys.length + n5 ≤ 140737488355328) := Lib.hid (by have h9 := congrArg List.length HPQ2.out; simp only [List.length_append] at h9; have h8 := hy5.len; have := HLL.out; omega); have HBS5 : Hid (w.heap.size ≤ w5.heap.size) := Lib.hid HX5.out.size; clear hy5 hb5)
    | (at_builtin; refine wpList_append_by _ rfl (.tmp 16) (.tmp 18) 28 rfl w.heap.size i0 Try.underlying28 hi hz0 hz1 hz2 v' ys.length (vs ys) rfl HO5.out (fun _ => True) _ n5 d5 (encEy y) rfl HY5.out HBD5.out HBS5.out ?_; intro v6 w6 hown6 hgrow6 _; have HN6 : Hid (w6.ownsRow w.heap.size 5 1 v6 (ys ++ encEy y).length (vs (ys ++ encEy y))) := Lib.hid (by rw [List.length_append, ← vs_append, HY5.out.len]; exact hown6); have HX6 : Hid (Below w.heap.size w w6) := Lib.hid (HX5.out.grown hgrow6 HBS5.out (fun g hg => (HO5.out.lt g hg).1)); clear hown6 hgrow6))
   go_roundw
   case rel => exact ⟨i + 1, ys ++ encEy y, v6, by omega, by go_num, rfl, HPQ2.out, HN6.out, HX6.out⟩
   case measure => simp [intOf]; omega
  ·have e9 : es.drop i = [] := List.drop_of_length_le (by have := HLn.out; omega)
   have HPQ3 : Hid (ys = OUT) := Lib.hid (by rw [← HPQ.out, e9]; simp [encAll])
   clear e9
   obtain ⟨A7, c7, rfl, hn7, hm7, _⟩ := own_form HO.out
   go_wp2
   go_ret
   rw [← HPQ3.out]
   exact ⟨A7, _, c7, rfl, (By.of_own HO.out).weak fun _ _ => trivial, hn7, hm7, HX.out⟩

end Go.Proofs.Ytheecifgbkdecaa
