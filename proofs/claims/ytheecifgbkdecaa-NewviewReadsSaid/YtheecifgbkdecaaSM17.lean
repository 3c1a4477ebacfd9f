/-
  BaD
-/
import Derived.Deep.RegionHeld
import Derived.Test.YtheecifgbkdecaaSM15
import Derived.Test.YtheecifgbkdecaaSM8
namespace Go.Proofs.Ytheecifgbkdecaa
open Go.RowKit

theorem chk1_five {n : Int} {p : Option Int} {y : Ey} (h : 2 ^ n.toNat ≤ y.ms) : chk1 n p 0 y = 5 := by unfold chk1; rw [if_neg (by simp), if_pos h]
theorem chk1_none {n : Int} {y : Ey} (h : ¬ 2 ^ n.toNat ≤ y.ms) : chk1 n none 0 y = 0 := by unfold chk1; rw [if_neg (by simp), if_neg h]
theorem chk1_twice {n c : Int} {y : Ey} (h : ¬ 2 ^ n.toNat ≤ y.ms) (hc : y.co.cl ≤ c) : chk1 n (some c) 0 y = 15 := by unfold chk1; rw [if_neg (by simp), if_neg h]; exact if_pos hc
theorem chk1_ok {n c : Int} {y : Ey} (h : ¬ 2 ^ n.toNat ≤ y.ms) (hc : ¬ y.co.cl ≤ c) : chk1 n (some c) 0 y = 0 := by unfold chk1; rw [if_neg (by simp), if_neg h]; exact if_neg hc
theorem chk1_core {n : Int} {p : Option Int} {e : Int} {y : Ey} (h : e ≠ 0) : chk1 n p e y = e := by unfold chk1; rw [if_pos h]
theorem sizes_arg {many : Nat} {n : Int} (h : n < 1 ∨ 7 < n) : sizesE many n = 1 := by unfold sizesE; rw [if_pos h]
theorem sizes_many {many : Nat} {n : Int} (h : ¬ (n < 1 ∨ 7 < n)) (h4 : 4 < many) : sizesE many n = 4 := by unfold sizesE; rw [if_neg h, if_pos h4]
theorem sizes_ok {many : Nat} {n : Int} (h : ¬ (n < 1 ∨ 7 < n)) (h4 : ¬ 4 < many) : sizesE many n = 0 := by unfold sizesE; rw [if_neg h, if_neg h4]

set_option maxHeartbeats 8000000 in
set_option maxRecDepth 100000 in
theorem rcheck15_any (es : List Ey) (n : Int) (A : Option Addr) (k c : Nat) (w : World) (h : EysIn w A k es) (hl : ∀ y ∈ es, y.co.lt.length ≤ 1000000) :
  Calls Try.prog 101 #[.slice A k c, .int .i64 n] w fun e w' => e = .returned (.int .i64 (chkB es n)) ∧ Below w.heap.size w w' := by
 have HI := Lib.hid h
 have HLn := Lib.hid h.len
 have HLt := Lib.hid hl
 have hlen := h.len
 obtain ⟨bb, hbb⟩ : ∃ bb, chkB es n = bb := ⟨_, rfl⟩
 rw [hbb]
 by_cases h1 : n < 1
 ·have d1 : decide (n < 1) = true := by simpa using h1
  have HV : Hid (bb = 1) := Lib.hid (by rw [← hbb]; unfold chkB; rw [sizes_arg (.inl h1)]; rfl)
  clear h hl hlen hbb h1
  go_enter Try.func101, Try.ntmps101
  go_wp2
  go_ret
  exact ⟨ret_i HV.out.symm, Below.refl _ _⟩
 have d1 : decide (n < 1) = false := by simpa using h1
 by_cases h2 : 7 < n
 ·have d2 : decide (7 < n) = true := by simpa using h2
  have HV : Hid (bb = 1) := Lib.hid (by rw [← hbb]; unfold chkB; rw [sizes_arg (.inr h2)]; rfl)
  clear h hl hlen hbb h1 h2
  go_enter Try.func101, Try.ntmps101
  go_wp2
  go_ret
  exact ⟨ret_i HV.out.symm, Below.refl _ _⟩
 have d2 : decide (7 < n) = false := by simpa using h2
 by_cases h3 : 4 < k
 ·have d3 : decide ((4 : Int) < (k : Int)) = true := by simp; omega
  have HV : Hid (bb = 4) := Lib.hid (by rw [← hbb]; unfold chkB; rw [sizes_many (by omega) (by omega)]; rfl)
  clear h hl hlen hbb h1 h2 h3
  go_enter Try.func101, Try.ntmps101
  go_wp2
  go_ret
  exact ⟨ret_i HV.out.symm, Below.refl _ _⟩
 have d3 : decide ((4 : Int) < (k : Int)) = false := by simp; omega
 obtain ⟨m, rfl⟩ : ∃ m : Nat, n = m := ⟨n.toNat, by omega⟩
 have HV : Hid (bb = chkW (m : Int) none es) := Lib.hid (by rw [← hbb]; unfold chkB; rw [sizes_ok (by omega) (by omega)]; simp)
 have HM : Hid ((1 ≤ m ∧ m ≤ 7) ∧ k ≤ 4) := Lib.hid (by omega)
 clear h hl hlen hbb h1 h2 h3
 go_enter Try.func101, Try.ntmps101
 go_wp2
 go_loopw [5, 6] (fun bv jv wr => ∃ j : Nat, j ≤ m ∧ jv = .int .i64 j ∧ bv = .int .u32 ((2 ^ j : Nat) : Int) ∧ wr = w) (fun _ jv _ => m - (intOf jv).toNat)
 case atStart => exact ⟨0, Nat.zero_le _, rfl, rfl, rfl⟩
 case round =>
  obtain ⟨j, hj, rfl, rfl, hww⟩ := hrel
  obtain rfl : w = wr := hww.symm
  have hM := HM.out
  by_cases hjm : j < m
  ·have hB64 : 2 ^ j ≤ 64 := Nat.pow_le_pow_right (n := 2) (by decide) (show j ≤ 6 by omega)
   have HB2 : Hid (2 ^ (j + 1) = 2 ^ j * 2) := Lib.hid (Nat.pow_succ 2 j)
   generalize 2 ^ j = B at *
   have hwr2 : IntKind.u32.wrap ((B : Int) * 2) = (B : Int) * 2 := IntWalk.u32_in _ (by omega)
   have hwr3 : (B : Int) * 2 % 4294967296 = (B : Int) * 2 := by omega
   go_wp2
   go_roundw
   case rel => exact ⟨j + 1, by omega, by go_num, by rw [HB2.out]; simp, by first | rfl | trivial⟩
   case measure => simp [intOf]; omega
  ·obtain rfl : m = j := by omega
   go_wp2
   try rename_i wr0
   go_loopw [28] (fun iv wr => ∃ i : Nat, i ≤ k ∧ iv = .int .i64 i ∧ bb = chkW (m : Int) (lastC (es.take i)) (es.drop i) ∧ Below w.heap.size w wr) (fun iv _ => k - (intOf iv).toNat)
   case atStart => exact ⟨0, Nat.zero_le _, rfl, HV.out, Below.refl _ _⟩
   case round =>
    obtain ⟨i, hi, rfl, hp, hx⟩ := hrel
    have HX := Lib.hid hx
    clear hx
    by_cases hlt : i < k
    ·obtain ⟨g, o, y, rfl, hyi, hmem, hd, hrx⟩ := (HI.out.through HX.out).at hlt
     have HTk : Hid (lastC (es.take (i + 1)) = some y.co.cl) := Lib.hid (by
      have hil : i < es.length := by rw [HLn.out]; exact hlt
      rw [lastC_take hil]
      rw [List.getElem?_eq_getElem hil] at hyi
      rw [Option.some.inj hyi])
     rw [chkW_drop (m : Int) hd] at hp
     have HRx := Lib.hid hrx
     have HB : Hid (Blk (wr.alloc (.cells #[.int .i64 y.co.cl, .int .i64 y.co.sp, .int .i64 y.co.op, .string (ba y.co.lt), .int .i64 y.co.a, .int .i64 y.co.b, .string (ba y.co.tx), .int .u32 (y.ms : Int)] 61)) wr.heap.size 61 [.int .i64 y.co.cl, .int .i64 y.co.sp, .int .i64 y.co.op, .string (ba y.co.lt), .int .i64 y.co.a, .int .i64 y.co.b, .string (ba y.co.tx), .int .u32 (y.ms : Int)]) := Lib.hid (Blk.fresh rfl rfl)
     have HC : Hid ((wr.alloc (.cells #[.int .i64 y.co.cl, .int .i64 y.co.sp, .int .i64 y.co.op, .string (ba y.co.lt), .int .i64 y.co.a, .int .i64 y.co.b, .string (ba y.co.tx), .int .u32 (y.ms : Int)] 61)).rangeAt wr.heap.size 0 [.int .i64 y.co.cl, .int .i64 y.co.sp, .int .i64 y.co.op, .string (ba y.co.lt), .int .i64 y.co.a, .int .i64 y.co.b, .string (ba y.co.tx)]) := Lib.hid (Blk.front (post := [.int .u32 (y.ms : Int)]) HB.out)
     have HXa : Hid (Below w.heap.size w (wr.alloc (.cells #[.int .i64 y.co.cl, .int .i64 y.co.sp, .int .i64 y.co.op, .string (ba y.co.lt), .int .i64 y.co.a, .int .i64 y.co.b, .string (ba y.co.tx), .int .u32 (y.ms : Int)] 61))) := Lib.hid (HX.out.alloc HX.out.size _)
     have HCk : Hid (∀ W : World, Calls Try.prog 112 #[.agg #[.int .i64 y.co.cl, .int .i64 y.co.sp, .int .i64 y.co.op, .string (ba y.co.lt), .int .i64 y.co.a, .int .i64 y.co.b, .string (ba y.co.tx)], .int .i64 (m : Int)] W fun e w' => e = .returned (.int .i64 (chkC y.co m)) ∧ Below W.heap.size W w') := Lib.hid (fun W => rchkC_any y.co m W (HLt.out y hmem))
     have hms : y.ms < 4294967296 := HI.out.2 y hmem
     have hix := Try.ix_ey wr g o k c i hlt
     clear hrx hd hmem
     by_cases he : chkC y.co m = 0
     case neg =>
      have HP : Hid (bb = chkC y.co m) := Lib.hid (by rw [hp, chk1_core he, if_pos he])
      generalize chkC y.co m = er at *
      have e1 : (er == 0) = false := by simpa using he
      have e2 : (er != 0) = true := by simpa using he
      clear hp he
      go_wp2_with (first
       | (refine wpList_load_mid rfl 61 (.tmp 31) rfl g (o + i * 8) rfl [.int .i64 y.co.cl, .int .i64 y.co.sp, .int .i64 y.co.op, .string (ba y.co.lt), .int .i64 y.co.a, .int .i64 y.co.b, .string (ba y.co.tx), .int .u32 (y.ms : Int)] _ HRx.out Try.underlying61 rfl (by kernel_rfl) ?_)
       | (refine wpList_load_mid rfl 58 (.tmp 33) rfl wr.heap.size 0 rfl [.int .i64 y.co.cl, .int .i64 y.co.sp, .int .i64 y.co.op, .string (ba y.co.lt), .int .i64 y.co.a, .int .i64 y.co.b, .string (ba y.co.tx)] _ HC.out Try.underlying58 rfl (by kernel_rfl) ?_)
       | (go_at_call 112; (with_reducible refine (HCk.out _).mono ?_); rintro e w2 ⟨rfl, hb2⟩; have HX2 := Lib.hid (below_step HXa.out hb2); have HB2 := Lib.hid (HB.out.through hb2); have c0 := HB2.out.cellAt (i := 0) rfl; have c7 := HB2.out.cellAt (i := 7) rfl;  clear hb2))
      go_ret
      exact ⟨ret_i HP.out.symm, HX2.out⟩
     rw [he] at HCk hp
     by_cases hm : 2 ^ m ≤ y.ms
     case pos =>
      have HP : Hid (bb = 5) := Lib.hid (by rw [hp, chk1_five (n := (m : Int)) hm]; rfl)
      have d5 : decide ((2 : Int) ^ m ≤ (y.ms : Int)) = true := by simp; exact_mod_cast hm
      clear hp he hm
      go_wp2_with (first
       | (refine wpList_load_mid rfl 61 (.tmp 31) rfl g (o + i * 8) rfl [.int .i64 y.co.cl, .int .i64 y.co.sp, .int .i64 y.co.op, .string (ba y.co.lt), .int .i64 y.co.a, .int .i64 y.co.b, .string (ba y.co.tx), .int .u32 (y.ms : Int)] _ HRx.out Try.underlying61 rfl (by kernel_rfl) ?_)
       | (refine wpList_load_mid rfl 58 (.tmp 33) rfl wr.heap.size 0 rfl [.int .i64 y.co.cl, .int .i64 y.co.sp, .int .i64 y.co.op, .string (ba y.co.lt), .int .i64 y.co.a, .int .i64 y.co.b, .string (ba y.co.tx)] _ HC.out Try.underlying58 rfl (by kernel_rfl) ?_)
       | (go_at_call 112; (with_reducible refine (HCk.out _).mono ?_); rintro e w2 ⟨rfl, hb2⟩; have HX2 := Lib.hid (below_step HXa.out hb2); have HB2 := Lib.hid (HB.out.through hb2); have c0 := HB2.out.cellAt (i := 0) rfl; have c7 := HB2.out.cellAt (i := 7) rfl;  clear hb2))
      go_ret
      exact ⟨ret_i HP.out.symm, HX2.out⟩
     rcases Nat.eq_zero_or_pos i with rfl | hpos
     ·have HP : Hid (bb = chkW (m : Int) (some y.co.cl) (es.drop (0 + 1))) := Lib.hid (by rw [hp, show lastC (es.take 0) = none from rfl, chk1_none (n := (m : Int)) hm]; rfl)
      have d5 : decide ((2 : Int) ^ m ≤ (y.ms : Int)) = false := by simp; have := Nat.lt_of_not_le hm; exact_mod_cast this
      clear hp he hm
      go_wp2_with (first
       | (refine wpList_load_mid rfl 61 (.tmp 31) rfl g (o + 0 * 8) rfl [.int .i64 y.co.cl, .int .i64 y.co.sp, .int .i64 y.co.op, .string (ba y.co.lt), .int .i64 y.co.a, .int .i64 y.co.b, .string (ba y.co.tx), .int .u32 (y.ms : Int)] _ HRx.out Try.underlying61 rfl (by kernel_rfl) ?_)
       | (refine wpList_load_mid rfl 58 (.tmp 33) rfl wr.heap.size 0 rfl [.int .i64 y.co.cl, .int .i64 y.co.sp, .int .i64 y.co.op, .string (ba y.co.lt), .int .i64 y.co.a, .int .i64 y.co.b, .string (ba y.co.tx)] _ HC.out Try.underlying58 rfl (by kernel_rfl) ?_)
       | (go_at_call 112; (with_reducible refine (HCk.out _).mono ?_); rintro e w2 ⟨rfl, hb2⟩; have HX2 := Lib.hid (below_step HXa.out hb2); have HB2 := Lib.hid (HB.out.through hb2); have c0 := HB2.out.cellAt (i := 0) rfl; have c7 := HB2.out.cellAt (i := 7) rfl;  clear hb2))
      go_quiet (fail)
      go_wp2
      go_roundw
      case rel => exact ⟨0 + 1, by omega, by go_num, by rw [HTk.out]; exact HP.out, below_drewN HX2.out _⟩
      case measure => simp [intOf]; omega
     ·obtain ⟨j, rfl⟩ : ∃ j, i = j + 1 := ⟨i - 1, by omega⟩
      have hjk : j < k := by omega
      obtain ⟨g', o', x, hgo, hxj, _, _, hrp⟩ := (HI.out.through HX.out).at hjk
      obtain ⟨rfl, rfl⟩ : g = g' ∧ o = o' := by simpa using hgo
      have hla : lastC (es.take (j + 1)) = some x.co.cl := by
       have hil : j < es.length := by rw [HLn.out]; exact hjk
       rw [lastC_take hil]
       rw [List.getElem?_eq_getElem hil] at hxj
       rw [Option.some.inj hxj]
      have HRp := Lib.hid hrp
      have hixp := fun W : World => Try.ix_ey W g o k c j hjk
      have hwj : IntKind.i64.wrap (j : Int) = (j : Int) := IntWalk.i64_in _ (by have := HM.out; omega)
      clear hrp hgo hxj
      by_cases hc : y.co.cl ≤ x.co.cl
      case pos =>
       have d6 : decide (y.co.cl ≤ x.co.cl) = true := by simpa using hc
       have HP : Hid (bb = 15) := Lib.hid (by rw [hp, hla, chk1_twice (n := (m : Int)) hm hc]; rfl)
       have d5 : decide ((2 : Int) ^ m ≤ (y.ms : Int)) = false := by simp; have := Nat.lt_of_not_le hm; exact_mod_cast this
       clear hp he hm hla hc
       go_wp2_with (first
        | (refine wpList_load_mid rfl 61 (.tmp 31) rfl g (o + (j + 1) * 8) rfl [.int .i64 y.co.cl, .int .i64 y.co.sp, .int .i64 y.co.op, .string (ba y.co.lt), .int .i64 y.co.a, .int .i64 y.co.b, .string (ba y.co.tx), .int .u32 (y.ms : Int)] _ HRx.out Try.underlying61 rfl (by kernel_rfl) ?_)
        | (refine wpList_load_mid rfl 58 (.tmp 33) rfl wr.heap.size 0 rfl [.int .i64 y.co.cl, .int .i64 y.co.sp, .int .i64 y.co.op, .string (ba y.co.lt), .int .i64 y.co.a, .int .i64 y.co.b, .string (ba y.co.tx)] _ HC.out Try.underlying58 rfl (by kernel_rfl) ?_)
        | (go_at_call 112; (with_reducible refine (HCk.out _).mono ?_); rintro e w2 ⟨rfl, hb2⟩; have HX2 := Lib.hid (below_step HXa.out hb2); have HB2 := Lib.hid (HB.out.through hb2); have c0 := HB2.out.cellAt (i := 0) rfl; have c7 := HB2.out.cellAt (i := 7) rfl; have hx0 : w2.cell? ⟨g, o + j * 8, none⟩ = some (.int .i64 x.co.cl) := rangeAt.through (rangeAt.through HRp.out ((Below.refl _ wr).alloc (Nat.le_refl _) (.cells #[.int .i64 y.co.cl, .int .i64 y.co.sp, .int .i64 y.co.op, .string (ba y.co.lt), .int .i64 y.co.a, .int .i64 y.co.b, .string (ba y.co.tx), .int .u32 (y.ms : Int)] 61))) hb2 0 _ rfl; clear hb2))
       go_quiet (fail)
       go_wp2
       go_ret
       exact ⟨ret_i HP.out.symm, below_drewN HX2.out _⟩
      case neg =>
       have d6 : decide (y.co.cl ≤ x.co.cl) = false := by simpa using hc
       have HP : Hid (bb = chkW (m : Int) (some y.co.cl) (es.drop (j + 1 + 1))) := Lib.hid (by rw [hp, hla, chk1_ok (n := (m : Int)) hm hc]; rfl)
       have d5 : decide ((2 : Int) ^ m ≤ (y.ms : Int)) = false := by simp; have := Nat.lt_of_not_le hm; exact_mod_cast this
       clear hp he hm hla hc
       go_wp2_with (first
        | (refine wpList_load_mid rfl 61 (.tmp 31) rfl g (o + (j + 1) * 8) rfl [.int .i64 y.co.cl, .int .i64 y.co.sp, .int .i64 y.co.op, .string (ba y.co.lt), .int .i64 y.co.a, .int .i64 y.co.b, .string (ba y.co.tx), .int .u32 (y.ms : Int)] _ HRx.out Try.underlying61 rfl (by kernel_rfl) ?_)
        | (refine wpList_load_mid rfl 58 (.tmp 33) rfl wr.heap.size 0 rfl [.int .i64 y.co.cl, .int .i64 y.co.sp, .int .i64 y.co.op, .string (ba y.co.lt), .int .i64 y.co.a, .int .i64 y.co.b, .string (ba y.co.tx)] _ HC.out Try.underlying58 rfl (by kernel_rfl) ?_)
        | (go_at_call 112; (with_reducible refine (HCk.out _).mono ?_); rintro e w2 ⟨rfl, hb2⟩; have HX2 := Lib.hid (below_step HXa.out hb2); have HB2 := Lib.hid (HB.out.through hb2); have c0 := HB2.out.cellAt (i := 0) rfl; have c7 := HB2.out.cellAt (i := 7) rfl; have hx0 : w2.cell? ⟨g, o + j * 8, none⟩ = some (.int .i64 x.co.cl) := rangeAt.through (rangeAt.through HRp.out ((Below.refl _ wr).alloc (Nat.le_refl _) (.cells #[.int .i64 y.co.cl, .int .i64 y.co.sp, .int .i64 y.co.op, .string (ba y.co.lt), .int .i64 y.co.a, .int .i64 y.co.b, .string (ba y.co.tx), .int .u32 (y.ms : Int)] 61))) hb2 0 _ rfl; clear hb2))
       go_quiet (fail)
       go_wp2
       go_roundw
       case rel => exact ⟨j + 1 + 1, by omega, by go_num, by rw [HTk.out]; exact HP.out, below_drewN HX2.out _⟩
       case measure => simp [intOf]; omega
    ·have e : es.drop i = [] := List.drop_of_length_le (by have := HLn.out; omega)
     rw [e] at hp
     have HP : Hid (bb = 0) := Lib.hid hp
     clear hp e
     go_wp2
     go_ret
     exact ⟨ret_i HP.out.symm, HX.out⟩

end Go.Proofs.Ytheecifgbkdecaa
