/-
  BaB BaR BaC
-/
import Derived.Deep.RegionHeld
import Derived.Test.YtheecifgbkdecaaSM11
import Derived.Test.YtheecifgbkdecaaSM10
import Derived.Test.YtheecifgbkdecaaSM0
import Derived.Test.YtheecifgbkdecaaSM14
import Derived.Test.YtheecifgbkdecaaSM13
import Derived.WalkSpells
import Derived.Deep.QuietTactic
import Derived.Test.YtheecifgbkdecaaSMT
namespace Go.Proofs.Ytheecifgbkdecaa
open Go.RowKit

theorem conv_3264 (v : Nat) (h : v < 4294967296) (w : World) : (convert 59 70 (.int .u32 (v : Int))).run Try.prog w = .ok (.int .u64 (v : Int)) w := by
 have e : IntKind.u64.wrap (v : Int) = (v : Int) := IntWalk.u64_in _ (by omega)
 simp [convert, run_underlying Try.underlying59, run_underlying Try.underlying70, Conv.intToInt, e]
theorem own_thr {w w' : World} {base sz n : Nat} {e : TypeId} {v : Value} {xs : List Value} (h : w.ownsRow base e sz v n xs) (hb : Below w.heap.size w w') : w'.ownsRow base e sz v n xs :=
 h.kept (only_below (g := w.heap.size) hb) (.inr (fun e => by have := h.lt _ e; omega))

set_option maxHeartbeats 8000000 in
set_option maxRecDepth 100000 in
theorem entrybytes_any (y : Ey) (w : World) (hl : y.co.lt.length ≤ 1000000) (ht : y.co.tx.length ≤ 1000000) (hm : y.ms < 4294967296) :
  Calls Try.prog 104 #[.agg #[.int .i64 y.co.cl, .int .i64 y.co.sp, .int .i64 y.co.op, .string (ba y.co.lt), .int .i64 y.co.a, .int .i64 y.co.b, .string (ba y.co.tx), .int .u32 (y.ms : Int)]] w (Byt w (encEy y)) := by
 have HX : Hid (Below w.heap.size w (w.alloc (.cells #[.int .i64 y.co.cl, .int .i64 y.co.sp, .int .i64 y.co.op, .string (ba y.co.lt), .int .i64 y.co.a, .int .i64 y.co.b, .string (ba y.co.tx), .int .u32 (y.ms : Int)] 61))) := Lib.hid ((Below.refl _ w).alloc (Nat.le_refl _) _)
 have HB : Hid (Blk (w.alloc (.cells #[.int .i64 y.co.cl, .int .i64 y.co.sp, .int .i64 y.co.op, .string (ba y.co.lt), .int .i64 y.co.a, .int .i64 y.co.b, .string (ba y.co.tx), .int .u32 (y.ms : Int)] 61)) w.heap.size 61 [.int .i64 y.co.cl, .int .i64 y.co.sp, .int .i64 y.co.op, .string (ba y.co.lt), .int .i64 y.co.a, .int .i64 y.co.b, .string (ba y.co.tx), .int .u32 (y.ms : Int)]) := Lib.hid (Blk.fresh rfl rfl)
 have HC : Hid ((w.alloc (.cells #[.int .i64 y.co.cl, .int .i64 y.co.sp, .int .i64 y.co.op, .string (ba y.co.lt), .int .i64 y.co.a, .int .i64 y.co.b, .string (ba y.co.tx), .int .u32 (y.ms : Int)] 61)).rangeAt w.heap.size 0 [.int .i64 y.co.cl, .int .i64 y.co.sp, .int .i64 y.co.op, .string (ba y.co.lt), .int .i64 y.co.a, .int .i64 y.co.b, .string (ba y.co.tx)]) := Lib.hid (Blk.front (post := [.int .u32 (y.ms : Int)]) HB.out)
 have HCb : Hid (∀ W, Calls Try.prog 113 #[.agg #[.int .i64 y.co.cl, .int .i64 y.co.sp, .int .i64 y.co.op, .string (ba y.co.lt), .int .i64 y.co.a, .int .i64 y.co.b, .string (ba y.co.tx)]] W (Byt W (encCr y.co))) := Lib.hid (fun W => coreB_any y.co W hl ht)
 have HCL : Hid ((encCr y.co).length ≤ 1099511627776) := Lib.hid (by rw [encCr_len]; omega)
 have HRL : Hid (([] ++ rowB (encCr y.co)).length ≤ 1099511627776) := Lib.hid (by rw [List.nil_append, rowB_len, encCr_len]; omega)
 have hcv := fun W : World => conv_3264 y.ms hm W
 clear hl ht
 go_enter Try.func104, Try.ntmps104
 go_wp2_with (first
  | (refine wpList_load_mid rfl 58 (.tmp 4) rfl w.heap.size 0 rfl [.int .i64 y.co.cl, .int .i64 y.co.sp, .int .i64 y.co.op, .string (ba y.co.lt), .int .i64 y.co.a, .int .i64 y.co.b, .string (ba y.co.tx)] _ HC.out Try.underlying58 rfl (by kernel_rfl) ?_)
  | (go_at_call 113; (with_reducible refine (HCb.out _).mono ?_); rintro e w2 ⟨A2, n2, d2, rfl, hy2, hn2, hm2, hb2⟩; have HY2 := Lib.hid hy2; have HX2 := Lib.hid (below_step HX.out hb2); have HB2 := Lib.hid (HB.out.through hb2); clear hy2 hn2 hm2 hb2)
  | (go_at_call 76; (with_reducible refine (row_by (Q := fun _ => True) (A := none) (n := 0) (c := 0) (xs := []) By.none_ HY2.out (by simp) HCL.out (Nat.le_refl _)).mono ?_); rintro e w3 ⟨A3, n3, d3, rfl, hy3, hn3, hm3, hb3⟩; have HY3 := Lib.hid hy3; have HN3 := Lib.hid hn3; have HX3 := Lib.hid (below_step HX2.out hb3); have HB3 := Lib.hid (HB2.out.through hb3); have c7 := HB3.out.cellAt (i := 7) rfl; clear hy3 hn3 hm3 hb3)
  | (go_at_call 67; (with_reducible refine (put1_by y.ms (by omega) HY3.out HRL.out HN3.out).mono ?_); rintro e w4 ⟨A4, n4, d4, rfl, hy4, hn4, hm4, hb4⟩; have HY4 := Lib.hid hy4; have HN4 := Lib.hid (And.intro hn4 hm4); have HX4 := Lib.hid (below_step HX3.out hb4); clear hy4 hn4 hm4 hb4))
 go_ret
 exact ⟨A4, n4, d4, rfl, HY4.out, HN4.out.1, HN4.out.2, HX4.out⟩

set_option maxHeartbeats 8000000 in
set_option maxRecDepth 100000 in
theorem bytesB_any (es : List Ey) (A : Option Addr) (k c : Nat) (w : World) (h : EysIn w A k es) (hk : k ≤ 1000000) (hl : ∀ y ∈ es, y.co.lt.length ≤ 1000000 ∧ y.co.tx.length ≤ 1000000) (hL : (encB es).length ≤ 100000000000) :
  Calls Try.prog 77 #[.slice A k c] w (Byt w (encB es)) := by
 obtain ⟨i0, hi, hz0, hz1, hz2⟩ := info_parts Try.info_u8
 have HI := Lib.hid h
 have HLn := Lib.hid h.len
 have HLt := Lib.hid hl
 obtain ⟨OUT, hO⟩ : ∃ OUT, encB es = OUT := ⟨_, rfl⟩
 rw [hO] at hL ⊢
 have HLL := Lib.hid hL
 have HOUT : Hid (beB k 2 ++ encAll encEy es = OUT) := Lib.hid (by rw [← hO, ← h.len]; rfl)
 have hwu : ∀ W : World, (convert 3 70 (.int .i64 (k : Int))).run Try.prog W = .ok (.int .u64 (k : Int)) W := fun W => by
  have h9 := conv_u64 3 70 Try.underlying3 Try.underlying70 (k : Int) W
  rw [u64N_nat (by omega)] at h9
  exact h9
 have HPut : Hid (∀ (W : World), Calls Try.prog 67 #[.slice none 0 0, .int .u64 (k : Int), .int .i64 2] W (Made W (beB k 2).length (beB k 2))) := Lib.hid (fun W => by
  have h9 := put_any (fun _ => True) none 0 0 [] (k : Int) (2 : Nat) (by omega) (by omega) W By.none_ (by omega) (Nat.le_refl _)
  rw [Int.toNat_natCast, putB_wid rfl] at h9
  have e : putN 0 (2 : Nat) = (beB k 2).length := by rw [beB_length]; rfl
  rw [e] at h9
  exact h9)
 clear h hl hO hL
 go_enter Try.func77, Try.ntmps77
 go_wp2_with (first
  | (go_at_call 67; (refine (HPut.out _).mono ?_); rintro e w4 ⟨v4, rfl, ho4, hb4⟩; have HO4 := Lib.hid ho4; have HX4 := Lib.hid hb4; clear ho4 hb4))
 go_loopw [3, 12] (fun bv iv wr => ∃ (i : Nat) (ys : List UInt8) (v' : Value), i ≤ k ∧ iv = .int .i64 (i : Int) ∧ v' = bv ∧ ys ++ encAll encEy (es.drop i) = OUT ∧ wr.ownsRow w.heap.size 5 1 v' ys.length (vs ys) ∧ Below w.heap.size w wr) (fun _ iv _ => k - (intOf iv).toNat)
 case atStart => exact ⟨0, _, v4, Nat.zero_le _, rfl, rfl, HOUT.out, HO4.out, HX4.out⟩
 case round =>
  obtain ⟨i, ys, v', hi', rfl, rfl, hpq, hown, hx⟩ := hrel
  have HO := Lib.hid hown
  have HX := Lib.hid hx
  have HPQ := Lib.hid hpq
  clear hown hx hpq
  by_cases hlt : i < k
  ·obtain ⟨g, o, y, rfl, _, hmem, hd, hrx⟩ := (HI.out.through HX.out).at hlt
   have HRx := Lib.hid hrx
   have hix := Try.ix_ey wr g o k c i hlt
   have HB : Hid (Blk (wr.alloc (.cells #[.int .i64 y.co.cl, .int .i64 y.co.sp, .int .i64 y.co.op, .string (ba y.co.lt), .int .i64 y.co.a, .int .i64 y.co.b, .string (ba y.co.tx), .int .u32 (y.ms : Int)] 61)) wr.heap.size 61 [.int .i64 y.co.cl, .int .i64 y.co.sp, .int .i64 y.co.op, .string (ba y.co.lt), .int .i64 y.co.a, .int .i64 y.co.b, .string (ba y.co.tx), .int .u32 (y.ms : Int)]) := Lib.hid (Blk.fresh rfl rfl)
   have HXa : Hid (Below w.heap.size w (wr.alloc (.cells #[.int .i64 y.co.cl, .int .i64 y.co.sp, .int .i64 y.co.op, .string (ba y.co.lt), .int .i64 y.co.a, .int .i64 y.co.b, .string (ba y.co.tx), .int .u32 (y.ms : Int)] 61))) := Lib.hid (HX.out.alloc HX.out.size _)
   have HOa := Lib.hid (HO.out.alloc (.cells #[.int .i64 y.co.cl, .int .i64 y.co.sp, .int .i64 y.co.op, .string (ba y.co.lt), .int .i64 y.co.a, .int .i64 y.co.b, .string (ba y.co.tx), .int .u32 (y.ms : Int)] 61))
   have HEn : Hid (∀ W, Calls Try.prog 104 #[.agg #[.int .i64 y.co.cl, .int .i64 y.co.sp, .int .i64 y.co.op, .string (ba y.co.lt), .int .i64 y.co.a, .int .i64 y.co.b, .string (ba y.co.tx), .int .u32 (y.ms : Int)]] W (Byt W (encEy y))) := Lib.hid (fun W => entrybytes_any y W (HLt.out y hmem).1 (HLt.out y hmem).2 (HI.out.2 y hmem))
   have HPQ2 : Hid ((ys ++ encEy y) ++ encAll encEy (es.drop (i + 1)) = OUT) := Lib.hid (by rw [← HPQ.out, hd]; simp [encAll])
   clear hrx hd hmem
   go_wp2_with (first
    | (refine wpList_load_mid rfl 61 (.tmp 14) rfl g (o + i * 8) rfl [.int .i64 y.co.cl, .int .i64 y.co.sp, .int .i64 y.co.op, .string (ba y.co.lt), .int .i64 y.co.a, .int .i64 y.co.b, .string (ba y.co.tx), .int .u32 (y.ms : Int)] _ HRx.out Try.underlying61 rfl (by kernel_rfl) ?_)
    | (refine wpList_load_blk rfl 61 (.tmp 5) rfl wr.heap.size rfl 61 [.int .i64 y.co.cl, .int .i64 y.co.sp, .int .i64 y.co.op, .string (ba y.co.lt), .int .i64 y.co.a, .int .i64 y.co.b, .string (ba y.co.tx), .int .u32 (y.ms : Int)] _ HB.out Try.underlying61 rfl (by kernel_rfl) ?_)
    | (go_at_call 104; (with_reducible refine (HEn.out _).mono ?_); rintro e w5 ⟨A5, n5, d5, rfl, hy5, _, _, hb5⟩; have HY5 := Lib.hid hy5; have HX5 := Lib.hid (below_step HXa.out hb5); have HO5 := Lib.hid (own_thr HOa.out hb5); have HBD5 : Hid (ys.length + n5 ≤ 140737488355328) := Lib.hid (by have h9 := congrArg List.length HPQ2.out; simp only [List.length_append] at h9; have h8 := hy5.len; have := HLL.out; omega); have HBS5 : Hid (w.heap.size ≤ w5.heap.size) := Lib.hid HX5.out.size; clear hy5 hb5)
    | (at_builtin; refine wpList_append_by _ rfl (.tmp 16) (.tmp 18) 28 rfl w.heap.size i0 Try.underlying28 hi hz0 hz1 hz2 v' ys.length (vs ys) rfl HO5.out (fun _ => True) _ n5 d5 (encEy y) rfl HY5.out HBD5.out HBS5.out ?_; intro v6 w6 hown6 hgrow6 _; have HN6 : Hid (w6.ownsRow w.heap.size 5 1 v6 (ys ++ encEy y).length (vs (ys ++ encEy y))) := Lib.hid (by rw [List.length_append, ← vs_append, HY5.out.len]; exact hown6); have HX6 : Hid (Below w.heap.size w w6) := Lib.hid (HX5.out.grown hgrow6 HBS5.out (fun g hg => (HO5.out.lt g hg).1)); clear hown6 hgrow6))
   go_roundw
   case rel => exact ⟨i + 1, ys ++ encEy y, v6, by omega, by go_num, rfl, HPQ2.out, HN6.out, HX6.out⟩
   case measure => simp [intOf]; omega
  ·have e9 : es.drop i = [] := List.drop_of_length_le (by have := HLn.out; omega)
   have HPQ3 : Hid (ys = OUT) := Lib.hid (by rw [← HPQ.out, e9]; simp [encAll])
   clear e9
   obtain ⟨A7, c7, rfl, hn7, hm7, _⟩ := own_form HO.out
   go_wp2
   go_ret
   rw [← HPQ3.out]
   exact ⟨A7, _, c7, rfl, (By.of_own HO.out).weak fun _ _ => trivial, hn7, hm7, HX.out⟩

end Go.Proofs.Ytheecifgbkdecaa

namespace Go.Proofs.Ytheecifgbkdecaa
open Go.RowKit

theorem one8e (a b : ByteArray) (i j k p q r : Int) : ([.int .i64 i, .int .i64 j, .int .i64 k, .string a, .int .i64 p, .int .i64 q, .string b, .int .u32 r] : List Value).toArray.all (·.oneCell') = true := by simp [Value.oneCell']
theorem Try.zero_ey (w : World) : (zeroValue 61).run Try.prog w = .ok (.agg #[.int .i64 0, .int .i64 0, .int .i64 0, .string (ba []), .int .i64 0, .int .i64 0, .string (ba []), .int .u32 0]) w := by kernel_rfl
theorem Try.build_ey (a b : ByteArray) (i j k p q r : Int) (w : World) : (Instr.build 61 #[(0, .agg #[.int .i64 i, .int .i64 j, .int .i64 k, .string a, .int .i64 p, .int .i64 q, .string b]), (1, .int .u32 r)]).run Try.prog w = .ok (.agg #[.int .i64 i, .int .i64 j, .int .i64 k, .string a, .int .i64 p, .int .i64 q, .string b, .int .u32 r]) w := by kernel_rfl
theorem conv_6432 (v : Nat) (h : v < 4294967296) (w : World) : (convert 70 59 (.int .u64 (v : Int))).run Try.prog w = .ok (.int .u32 (v : Int)) w := by
 have e : IntKind.u32.wrap (v : Int) = (v : Int) := IntWalk.u32_in _ (by omega)
 simp [convert, run_underlying Try.underlying59, run_underlying Try.underlying70, Conv.intToInt, e]
/-- the core that the next row tells, and its error -/
def nextP (M : Nat) (st : Option (List UInt8)) (n : Int) : Cr × Int := parseCr (rval M st).length (rval M st) n

set_option maxHeartbeats 8000000 in
set_option maxRecDepth 100000 in
theorem readentry_any {Q : Nat → Prop} (g : Nat) (st : Option (List UInt8)) (M : Nat) (n : Int) (w : World) (h : Rs Q w g tR st) (hQ : ∀ b, Q b → b < w.heap.size) (hl : stL st ≤ 1000000) :
  Calls Try.prog 91 #[.pointer (some ⟨g, 0, none⟩), .int .i64 (M : Int), .int .i64 n] w fun e w' => e = .returned (.tuple #[.agg #[.int .i64 (nextP M st n).1.cl, .int .i64 (nextP M st n).1.sp, .int .i64 (nextP M st n).1.op, .string (ba (nextP M st n).1.lt), .int .i64 (nextP M st n).1.a, .int .i64 (nextP M st n).1.b, .string (ba (nextP M st n).1.tx), .int .u32 ((nval 1 (rnext M st) : Nat) : Int)], .int .i64 (nextP M st n).2]) ∧ Rs Q w' g tR (nnext 1 (rnext M st)) ∧ w.grownBy w' (some g) := by
 have hgl := h.lt
 have HR0 := Lib.hid (h.alloc (.cells #[.int .i64 0, .int .i64 0, .int .i64 0, .string (ba []), .int .i64 0, .int .i64 0, .string (ba []), .int .u32 0] 61))
 have HG0 : Hid (w.grownBy (w.alloc (.cells #[.int .i64 0, .int .i64 0, .int .i64 0, .string (ba []), .int .i64 0, .int .i64 0, .string (ba []), .int .u32 0] 61)) (some g)) := Lib.hid (only_below ((Below.refl _ w).alloc (Nat.le_refl _) _))
 have HZ0 : Hid (Blk (w.alloc (.cells #[.int .i64 0, .int .i64 0, .int .i64 0, .string (ba []), .int .i64 0, .int .i64 0, .string (ba []), .int .u32 0] 61)) w.heap.size 61 [.int .i64 0, .int .i64 0, .int .i64 0, .string (ba []), .int .i64 0, .int .i64 0, .string (ba []), .int .u32 0]) := Lib.hid (Blk.fresh rfl rfl)
 have HNE : Hid (w.heap.size ≠ g) := Lib.hid (by omega)
 have HQ := Lib.hid hQ
 have hz := Try.zero_ey
 have hzc := Try.zero_cr
 have HP : Hid (∀ (W : World) (B : Option Addr) (m c : Nat), By W (fun _ => True) B m (rval M st) → Calls Try.prog 109 #[.slice B m c, .int .i64 n] W fun e w' => e = .returned (.tuple #[.agg #[.int .i64 (nextP M st n).1.cl, .int .i64 (nextP M st n).1.sp, .int .i64 (nextP M st n).1.op, .string (ba (nextP M st n).1.lt), .int .i64 (nextP M st n).1.a, .int .i64 (nextP M st n).1.b, .string (ba (nextP M st n).1.tx)], .int .i64 (nextP M st n).2]) ∧ Below W.heap.size W w') := Lib.hid (fun W B m c hY => by
  have h9 := parseCr_any (rval M st) n B m c W hY (by rw [← hY.len]; exact Nat.le_trans (rval_stL _ _) hl)
  rw [← hY.len] at h9 ⊢
  exact h9)
 have hcv := fun W : World => conv_6432 (nval 1 (rnext M st)) (by have := nval_lt 1 (rnext M st); simp only [e1] at this; omega) W
 generalize nextP M st n = P at *
 obtain ⟨c0, er⟩ := P
 simp only at HP ⊢
 clear h hQ hl
 go_enter Try.func91, Try.ntmps91
 go_wp2_with (first
  | (go_at_call 48; (with_reducible refine (row_rs HR0.out M).mono ?_); rintro e w1 ⟨B1, m1, c1, rfl, hy1, hr1, hg1⟩; have HY1 := Lib.hid hy1; have HR1 := Lib.hid hr1; have HG1 := Lib.hid (only_trans HG0.out hg1); have HZ1 := Lib.hid (HZ0.out.grown hg1 (fun e => HNE.out (Option.some.inj e))); clear hr1 hg1 hy1)
  | (go_at_call 109; (with_reducible refine (HP.out _ _ _ _ HY1.out).mono ?_); rintro e w2 ⟨rfl, hb2⟩; have HR2 := Lib.hid ((HR1.out.below hb2).alloc (.cells #[.int .i64 c0.cl, .int .i64 c0.sp, .int .i64 c0.op, .string (ba c0.lt), .int .i64 c0.a, .int .i64 c0.b, .string (ba c0.tx)] 58)); have HG2 : Hid (w.grownBy (w2.alloc (.cells #[.int .i64 c0.cl, .int .i64 c0.sp, .int .i64 c0.op, .string (ba c0.lt), .int .i64 c0.a, .int .i64 c0.b, .string (ba c0.tx)] 58)) (some g)) := Lib.hid (only_trans HG1.out (only_below (hb2.alloc hb2.size (.cells #[.int .i64 c0.cl, .int .i64 c0.sp, .int .i64 c0.op, .string (ba c0.lt), .int .i64 c0.a, .int .i64 c0.b, .string (ba c0.tx)] 58)))); have HZ2 := Lib.hid ((HZ1.out.through hb2).alloc (.cells #[.int .i64 c0.cl, .int .i64 c0.sp, .int .i64 c0.op, .string (ba c0.lt), .int .i64 c0.a, .int .i64 c0.b, .string (ba c0.tx)] 58)); have HC2 : Hid (Blk (w2.alloc (.cells #[.int .i64 c0.cl, .int .i64 c0.sp, .int .i64 c0.op, .string (ba c0.lt), .int .i64 c0.a, .int .i64 c0.b, .string (ba c0.tx)] 58)) w2.heap.size 58 [.int .i64 c0.cl, .int .i64 c0.sp, .int .i64 c0.op, .string (ba c0.lt), .int .i64 c0.a, .int .i64 c0.b, .string (ba c0.tx)]) := Lib.hid (Blk.fresh rfl rfl); have HS2 : Hid (w.heap.size < w2.heap.size) := Lib.hid (Nat.lt_of_lt_of_le HZ1.out.lt hb2.size); clear hb2))
 try dsimp only [Act.put]
 generalize hw3 : w2.alloc (.cells #[.int .i64 c0.cl, .int .i64 c0.sp, .int .i64 c0.op, .string (ba c0.lt), .int .i64 c0.a, .int .i64 c0.b, .string (ba c0.tx)] 58) = w3 at *
 clear hw3
 obtain ⟨gc, hgc⟩ : ∃ gc, w2.heap.size = gc := ⟨_, rfl⟩
 rw [hgc] at HC2 HS2 ⊢
 clear hgc
 obtain ⟨b6, hb6⟩ : ∃ b6, b6 = w.heap.size := ⟨_, rfl⟩
 have HNB : Hid (gc ≠ b6) := Lib.hid (by have := HS2.out; omega)
 have HNC : Hid (gc ≠ g) := Lib.hid (by have := HS2.out; omega)
 rw [← hb6] at HZ2 HNE ⊢
 have HB6 := Lib.hid hb6
 clear hb6
 have HRw := Lib.hid HR2.out.drew
 have HGw : Hid (w.grownBy w3.drew (some g)) := Lib.hid (only_trans HG2.out (only_below (Below.refl _ _).drew))
 have HZw : Hid (Blk w3.drew b6 61 [.int .i64 0, .int .i64 0, .int .i64 0, .string (ba []), .int .i64 0, .int .i64 0, .string (ba []), .int .u32 0]) := Lib.hid HZ2.out.drew
 refine wp_region_held_drew (S := fun W => Blk W gc 58 [.int .i64 c0.cl, .int .i64 c0.sp, .int .i64 c0.op, .string (ba c0.lt), .int .i64 c0.a, .int .i64 c0.b, .string (ba c0.tx)]) (by kernel_rfl) HC2.out.drew (fun hHeld => ?_)
 change wpAnyH _ _ _ _ _ _ #[false, false, false, false, false, false, false, false] _ _
 refine tkq (i := 0) (d := 18) (v := (.agg #[.int .i64 c0.cl, .int .i64 c0.sp, .int .i64 c0.op, .string (ba c0.lt), .int .i64 c0.a, .int .i64 c0.b, .string (ba c0.tx)])) rfl rfl (yields_load_at (by kernel_rfl) 58 (.tmp 8) rfl (.pointer (some ⟨gc, 0, none⟩)) (by simp [Act.eval]) (.agg #[.int .i64 c0.cl, .int .i64 c0.sp, .int .i64 c0.op, .string (ba c0.lt), .int .i64 c0.a, .int .i64 c0.b, .string (ba c0.tx)]) (fun W hW => hW.loadAt 58 _ Try.underlying58 rfl (by kernel_rfl))) (by assumption) ?_
 simp only [Act.put, sq1, sq2, sq3]
 refine tkq (i := 1) (d := 19) (v := (.pointer (some ⟨g, 0, none⟩))) rfl rfl (Or.inl ⟨by kernel_rfl, fun w hSw => ?_⟩) (by assumption) ?_
 ·(try dsimp only at hSw); go_simp <;> (try rfl)
 simp only [Act.put, sq1, sq2, sq3]
 refine tkq (i := 5) (d := 23) (v := (.int .i64 er)) rfl rfl (Or.inl ⟨by kernel_rfl, fun w hSw => ?_⟩) (by assumption) ?_
 ·(try dsimp only at hSw); go_simp <;> (try rfl)
 simp only [Act.put, sq1, sq2, sq3]
 refine wpAnyH_ready (rs := [2]) (by kernel_rfl) (by simp) ?_
 refine AllReadyH.cons rfl (fun K hK => ?_) AllReadyH.nil
 go_simp
 refine (number_rs HRw.out 1 rfl).mono ?_
 rintro e wa ⟨rfl, hra, hga⟩; have HRa := Lib.hid hra; have HGa := Lib.hid (only_trans HGw.out hga); have HZa := Lib.hid (HZw.out.grown hga (fun e => HNE.out (Option.some.inj e))); have HCa := Lib.hid (hHeld.grown hga (fun e => HNC.out (Option.some.inj e))); clear hra hga
 go_wp2_with fail
 refine hK.out _ _ HCa.out (fun hHeld1 => ?_)
 clear hHeld hK K
 have hHeld := hHeld1
 clear hHeld1
 refine tkq (i := 3) (d := 21) (v := (.int .u32 ((nval 1 (rnext M st) : Nat) : Int))) rfl rfl (yields_conv (by kernel_rfl) 70 59 (.tmp 20) rfl (.int .u64 ((nval 1 (rnext M st) : Nat) : Int)) (by simp [Act.eval]) (.int .u32 ((nval 1 (rnext M st) : Nat) : Int)) (fun W _ => hcv W)) (by assumption) ?_
 simp only [Act.put, sq1, sq2, sq3]
 obtain ⟨V, hV⟩ : ∃ V : Value, V = .agg #[.int .i64 c0.cl, .int .i64 c0.sp, .int .i64 c0.op, .string (ba c0.lt), .int .i64 c0.a, .int .i64 c0.b, .string (ba c0.tx), .int .u32 ((nval 1 (rnext M st) : Nat) : Int)] := ⟨_, rfl⟩
 have HV := Lib.hid hV
 clear hV
 refine tkq (i := 4) (d := 22) (v := V) rfl rfl (yields_build (by kernel_rfl) 61 _ rfl _ (by simp only [List.map_toArray, List.map_cons, List.map_nil, Act.eval]; rfl) V (fun w _ => by rw [HV.out]; exact Try.build_ey _ _ _ _ _ _ _ _ w)) (by assumption) ?_
 simp only [Act.put, sq1, sq2, sq3]
 refine wpAnyH_ready (rs := [6]) (by kernel_rfl) (by simp) ?_
 refine AllReadyH.cons (o := ⟨none, .store 61 (.tmp 6) (.tmp 22), _, _, _, none⟩) rfl (fun K hK => ?_) AllReadyH.nil
 refine step_store_blk rfl 61 (.tmp 6) (.tmp 22) rfl b6 [.int .i64 c0.cl, .int .i64 c0.sp, .int .i64 c0.op, .string (ba c0.lt), .int .i64 c0.a, .int .i64 c0.b, .string (ba c0.tx), .int .u32 ((nval 1 (rnext M st) : Nat) : Int)] (by simp [Act.eval]) (by simp only [Act.eval]; exact HV.out) 61 [.int .i64 0, .int .i64 0, .int .i64 0, .string (ba []), .int .i64 0, .int .i64 0, .string (ba []), .int .u32 0] HZa.out (by kernel_rfl) rfl (one8e _ _ _ _ _ _ _ _) ?_; intro wb hbb hgb; have HBb := Lib.hid hbb; have HRb := Lib.hid (HRa.out.other hgb (fun b hb => ⟨fun e => HNE.out (by rw [← e]; exact Option.some.inj hb), fun h9 => by have := Option.some.inj hb; have := HQ.out b h9; have := HB6.out; omega⟩)); have HGb := Lib.hid (only_own_ HGa.out hgb (fun h hh => by have := Option.some.inj hh; have := HB6.out; omega)); have HCb := Lib.hid (hHeld.grown hgb (fun e => HNB.out (Option.some.inj e))); clear hbb hgb
 refine hK.out _ _ HCb.out (fun hHeld1 => ?_)
 clear hHeld hK K
 have hHeld := hHeld1
 clear hHeld1
 change wpAnyH _ _ _ _ _ _ _ (Act.put _ none undef) _
 simp only [Act.put]
 refine tkq (i := 7) (d := 7) (v := (.int .i64 er)) rfl rfl (Or.inl ⟨by kernel_rfl, fun w hSw => ?_⟩) (by assumption) ?_
 ·(try dsimp only at hSw); go_simp <;> (try rfl)
 simp only [Act.put, sq1, sq2, sq3]
 refine wpAnyH_done (by kernel_rfl) ?_ _
 go_wp2
 (try simp only [Exit.inBlock, Exit.then]); refine bodyPost_ret (results_cell_row_tmp1 rfl _ _ b6 61 _ (0, 0) _ rfl HBb.out Try.underlying61 rfl (by kernel_rfl)) rfl ?_
 exact ⟨rfl, HRb.out, HGb.out⟩

end Go.Proofs.Ytheecifgbkdecaa

namespace Go.Proofs.Ytheecifgbkdecaa
open Go.RowKit

set_option maxHeartbeats 1000000 in
theorem checksizes_any (many : Nat) (n : Int) (w : World) : Calls Try.prog 90 #[.int .i64 (many : Int), .int .i64 n] w fun e w' => e = .returned (.int .i64 (sizesE many n)) ∧ w' = w := by
 by_cases h1 : n < 1
 ·have d1 : decide (n < 1) = true := by simpa using h1
  have HV : Hid (sizesE many n = 1) := Lib.hid (by unfold sizesE; rw [if_pos (.inl h1)])
  go_enter Try.func90, Try.ntmps90
  go_wp2
  go_ret
  exact ⟨ret_i HV.out.symm, rfl⟩
 have d1 : decide (n < 1) = false := by simpa using h1
 by_cases h2 : 7 < n
 ·have d2 : decide (7 < n) = true := by simpa using h2
  have HV : Hid (sizesE many n = 1) := Lib.hid (by unfold sizesE; rw [if_pos (.inr h2)])
  go_enter Try.func90, Try.ntmps90
  go_wp2
  go_ret
  exact ⟨ret_i HV.out.symm, rfl⟩
 have d2 : decide (7 < n) = false := by simpa using h2
 by_cases h3 : 4 < many
 ·have d3 : decide ((4 : Int) < (many : Int)) = true := by simp; omega
  have HV : Hid (sizesE many n = 4) := Lib.hid (by unfold sizesE; rw [if_neg (by omega), if_pos h3])
  go_enter Try.func90, Try.ntmps90
  go_wp2
  go_ret
  exact ⟨ret_i HV.out.symm, rfl⟩
 ·have d3 : decide ((4 : Int) < (many : Int)) = false := by simp; omega
  have HV : Hid (sizesE many n = 0) := Lib.hid (by unfold sizesE; rw [if_neg (by omega), if_neg h3])
  go_enter Try.func90, Try.ntmps90
  go_wp2
  go_ret
  exact ⟨ret_i HV.out.symm, rfl⟩

theorem pow_w (n : Int) (h1 : 1 ≤ n) (h7 : n ≤ 7) : (2 : Int) ^ n.toNat % 4294967296 = ((2 ^ n.toNat : Nat) : Int) := by
 have : n = 1 ∨ n = 2 ∨ n = 3 ∨ n = 4 ∨ n = 5 ∨ n = 6 ∨ n = 7 := by omega
 rcases this with rfl | rfl | rfl | rfl | rfl | rfl | rfl <;> rfl
set_option maxHeartbeats 4000000 in
set_option maxRecDepth 100000 in
theorem checkentry_any (ahead : List Ey) (y : Ey) (er n : Int) (A : Option Addr) (k c : Nat) (w : World) (h : EysIn w A k ahead) (hk : k ≤ 1000000) (hn : er = 0 → 1 ≤ n ∧ n ≤ 7) :
  Calls Try.prog 92 #[.slice A k c, .agg #[.int .i64 y.co.cl, .int .i64 y.co.sp, .int .i64 y.co.op, .string (ba y.co.lt), .int .i64 y.co.a, .int .i64 y.co.b, .string (ba y.co.tx), .int .u32 (y.ms : Int)], .int .i64 er, .int .i64 n] w fun e w' => e = .returned (.int .i64 (chk1 n (lastC ahead) er y)) ∧ Below w.heap.size w w' := by
 have HX : Hid (Below w.heap.size w (w.alloc (.cells #[.int .i64 y.co.cl, .int .i64 y.co.sp, .int .i64 y.co.op, .string (ba y.co.lt), .int .i64 y.co.a, .int .i64 y.co.b, .string (ba y.co.tx), .int .u32 (y.ms : Int)] 61))) := Lib.hid ((Below.refl _ w).alloc (Nat.le_refl _) _)
 have HB : Hid (Blk (w.alloc (.cells #[.int .i64 y.co.cl, .int .i64 y.co.sp, .int .i64 y.co.op, .string (ba y.co.lt), .int .i64 y.co.a, .int .i64 y.co.b, .string (ba y.co.tx), .int .u32 (y.ms : Int)] 61)) w.heap.size 61 [.int .i64 y.co.cl, .int .i64 y.co.sp, .int .i64 y.co.op, .string (ba y.co.lt), .int .i64 y.co.a, .int .i64 y.co.b, .string (ba y.co.tx), .int .u32 (y.ms : Int)]) := Lib.hid (Blk.fresh rfl rfl)
 have c0 := HB.out.cellAt (i := 0) rfl
 have c7 := HB.out.cellAt (i := 7) rfl
 by_cases he : er = 0
 case neg =>
  have e1 : (er == 0) = false := by simpa using he
  have e2 : (er != 0) = true := by simpa using he
  have HV : Hid (chk1 n (lastC ahead) er y = er) := Lib.hid (by unfold chk1; rw [if_pos he])
  clear h hn he hk
  go_enter Try.func92, Try.ntmps92
  go_wp2
  go_ret
  exact ⟨ret_i HV.out.symm, HX.out⟩
 obtain ⟨n1, n7⟩ := hn he
 subst he
 have hpw := pow_w n n1 n7
 obtain ⟨B, hB⟩ : ∃ B : Nat, 2 ^ n.toNat = B := ⟨_, rfl⟩
 rw [hB] at hpw
 by_cases hm : B ≤ y.ms
 case pos =>
  have d1 : decide ((2 : Int) ^ n.toNat % 4294967296 ≤ (y.ms : Int)) = true := by rw [hpw]; simpa using hm
  have HV : Hid (chk1 n (lastC ahead) 0 y = 5) := Lib.hid (by unfold chk1; rw [if_neg (by simp), hB, if_pos hm])
  clear h hn hm hk hpw hB
  go_enter Try.func92, Try.ntmps92
  go_wp2
  go_quiet (fail)
  go_wp2
  go_ret
  exact ⟨ret_i HV.out.symm, below_drewN HX.out _⟩
 have d1 : decide ((2 : Int) ^ n.toNat % 4294967296 ≤ (y.ms : Int)) = false := by rw [hpw]; simpa using hm
 by_cases hk0 : k = 0
 ·subst hk0
  have ha : ahead = [] := List.eq_nil_of_length_eq_zero h.len
  have HV : Hid (chk1 n (lastC ahead) 0 y = 0) := Lib.hid (by unfold chk1; rw [if_neg (by simp), hB, if_neg hm, ha]; rfl)
  clear h hn hm hk hpw hB ha
  go_enter Try.func92, Try.ntmps92
  go_wp2
  go_quiet (fail)
  go_wp2
  go_quiet (fail)
  go_wp2
  go_ret
  exact ⟨ret_i HV.out.symm, below_drewN (below_drewN HX.out _) _⟩
 have hlt : k - 1 < k := by omega
 obtain ⟨g, o, x, rfl, hx, _, _, hrx⟩ := h.at hlt
 have hl := h.len
 have hla : lastC ahead = some x.co.cl := by
  have h9 := lastC_take (es := ahead) (i := k - 1) (by omega)
  rw [show k - 1 + 1 = ahead.length by omega, List.take_length] at h9
  rw [h9]
  rw [List.getElem?_eq_getElem (by omega)] at hx
  rw [Option.some.inj hx]
 obtain ⟨k', rfl⟩ : ∃ k', k = k' + 1 := ⟨k - 1, by omega⟩
 have hx0 : (w.alloc (.cells #[.int .i64 y.co.cl, .int .i64 y.co.sp, .int .i64 y.co.op, .string (ba y.co.lt), .int .i64 y.co.a, .int .i64 y.co.b, .string (ba y.co.tx), .int .u32 (y.ms : Int)] 61)).cell? ⟨g, o + k' * 8, none⟩ = some (.int .i64 x.co.cl) := (HX.out.cell (p := ⟨g, o + k' * 8, none⟩) (World.block_lt_of_cell? w ⟨g, o + k' * 8 + 0, none⟩ (hrx 0 _ rfl))).trans (hrx 0 _ rfl)
 have hix := fun (W : World) => Try.ix_ey W g o (k' + 1) c k' (by omega)
 have hw : IntKind.i64.wrap (k' : Int) = (k' : Int) := IntWalk.i64_in _ (by omega)
 by_cases hc : y.co.cl ≤ x.co.cl
 ·have d3 : decide (y.co.cl ≤ x.co.cl) = true := by simpa using hc
  have HV : Hid (chk1 n (lastC ahead) 0 y = 15) := Lib.hid (by unfold chk1; rw [if_neg (by simp), hB, if_neg hm, hla]; simp [hc])
  clear h hn hm hk hpw hB hx hrx hl hla hc
  go_enter Try.func92, Try.ntmps92
  go_wp2
  go_quiet (fail)
  go_wp2
  go_quiet (fail)
  go_wp2
  go_ret
  exact ⟨ret_i HV.out.symm, below_drewN (below_drewN HX.out _) _⟩
 ·have d3 : decide (y.co.cl ≤ x.co.cl) = false := by simpa using hc
  have HV : Hid (chk1 n (lastC ahead) 0 y = 0) := Lib.hid (by unfold chk1; rw [if_neg (by simp), hB, if_neg hm, hla]; simp [hc])
  clear h hn hm hk hpw hB hx hrx hl hla hc
  go_enter Try.func92, Try.ntmps92
  go_wp2
  go_quiet (fail)
  go_wp2
  go_quiet (fail)
  go_wp2
  go_ret
  exact ⟨ret_i HV.out.symm, below_drewN (below_drewN HX.out _) _⟩

end Go.Proofs.Ytheecifgbkdecaa
