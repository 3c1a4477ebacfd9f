/-
  Joined: BaB, BaE, BaR, BaG, BaS.
-/
import Derived.Test.YtgbobemhogeeeaaDoorDF
import Derived.Test.YtgbobemhogeeeaaDoorDC
import Derived.Test.YtgbobemhogeeeaaDoorMem
import Derived.Deep.RegionHeld
import Derived.Test.YtgbobemhogeeeaaDoorDD
import Derived.BigQuiet
namespace Go.Proofs.YtgbobemhogeeeaaDoor

section
open Go.RowKit
theorem conv_3264 (v : Nat) (h : v < 4294967296) (w : World) : (convert 41 58 (.int .u32 (v : Int))).run Tryd.prog w = .ok (.int .u64 (v : Int)) w := by
  have e : IntKind.u64.wrap (v : Int) = (v : Int) := IntWalk.u64_in _ (by omega)
  simp [convert, run_underlying Tryd.underlying41, run_underlying Tryd.underlying58, Conv.intToInt, e]
theorem own_thr {w w' : World} {base sz n : Nat} {e : TypeId} {v : Value} {xs : List Value} (h : w.ownsRow base e sz v n xs) (hb : Below w.heap.size w w') : w'.ownsRow base e sz v n xs :=
  h.kept (only_below (g := w.heap.size) hb) (.inr (fun e => by have := h.lt _ e; omega))

set_option maxHeartbeats 8000000 in
set_option maxRecDepth 100000 in
theorem entrybytes_any (y : Ey) (w : World) (hl : y.co.lt.length ≤ 1000000) (ht : y.co.tx.length ≤ 1000000) (hm : y.ms < 4294967296) :
    Calls Tryd.prog 32 #[.agg #[.int .i64 y.co.cl, .int .i64 y.co.sp, .int .i64 y.co.op, .string (ba y.co.lt), .int .i64 y.co.a, .int .i64 y.co.b, .string (ba y.co.tx), .int .u32 (y.ms : Int)]] w (Byt w (encEy y)) := by
  have HX : Hid (Below w.heap.size w (w.alloc (.cells #[.int .i64 y.co.cl, .int .i64 y.co.sp, .int .i64 y.co.op, .string (ba y.co.lt), .int .i64 y.co.a, .int .i64 y.co.b, .string (ba y.co.tx), .int .u32 (y.ms : Int)] 43))) := Lib.hid ((Below.refl _ w).alloc (Nat.le_refl _) _)
  have HB : Hid (Blk (w.alloc (.cells #[.int .i64 y.co.cl, .int .i64 y.co.sp, .int .i64 y.co.op, .string (ba y.co.lt), .int .i64 y.co.a, .int .i64 y.co.b, .string (ba y.co.tx), .int .u32 (y.ms : Int)] 43)) w.heap.size 43 [.int .i64 y.co.cl, .int .i64 y.co.sp, .int .i64 y.co.op, .string (ba y.co.lt), .int .i64 y.co.a, .int .i64 y.co.b, .string (ba y.co.tx), .int .u32 (y.ms : Int)]) := Lib.hid (Blk.fresh rfl rfl)
  have HC : Hid ((w.alloc (.cells #[.int .i64 y.co.cl, .int .i64 y.co.sp, .int .i64 y.co.op, .string (ba y.co.lt), .int .i64 y.co.a, .int .i64 y.co.b, .string (ba y.co.tx), .int .u32 (y.ms : Int)] 43)).rangeAt w.heap.size 0 [.int .i64 y.co.cl, .int .i64 y.co.sp, .int .i64 y.co.op, .string (ba y.co.lt), .int .i64 y.co.a, .int .i64 y.co.b, .string (ba y.co.tx)]) := Lib.hid (Blk.front (post := [.int .u32 (y.ms : Int)]) HB.out)
  have HCb : Hid (∀ W, Calls Tryd.prog 45 #[.agg #[.int .i64 y.co.cl, .int .i64 y.co.sp, .int .i64 y.co.op, .string (ba y.co.lt), .int .i64 y.co.a, .int .i64 y.co.b, .string (ba y.co.tx)]] W (Byt W (encCr y.co))) := Lib.hid (fun W => coreB_any y.co W hl ht)
  have HCL : Hid ((encCr y.co).length ≤ 1099511627776) := Lib.hid (by rw [encCr_len]; omega)
  have HRL : Hid (([] ++ rowB (encCr y.co)).length ≤ 1099511627776) := Lib.hid (by rw [List.nil_append, rowB_len, encCr_len]; omega)
  have hcv := fun W : World => conv_3264 y.ms hm W
  clear hl ht
  go_enter Tryd.func32, Tryd.ntmps32
  go_wp2_with (first
    | (refine wpList_load_mid rfl 40 (.tmp 4) rfl w.heap.size 0 rfl [.int .i64 y.co.cl, .int .i64 y.co.sp, .int .i64 y.co.op, .string (ba y.co.lt), .int .i64 y.co.a, .int .i64 y.co.b, .string (ba y.co.tx)] _ HC.out Tryd.underlying40 rfl (by kernel_rfl) ?_)
    | (go_at_call 45; (with_reducible refine (HCb.out _).mono ?_); rintro e w2 ⟨A2, n2, d2, rfl, hy2, hn2, hm2, hb2⟩; have HY2 := Lib.hid hy2; have HX2 := Lib.hid (below_step HX.out hb2); have HB2 := Lib.hid (HB.out.through hb2); clear hy2 hn2 hm2 hb2)
    | (go_at_call 44; (with_reducible refine (row_by (Q := fun _ => True) (A := none) (n := 0) (c := 0) (xs := []) By.none_ HY2.out (by simp) HCL.out (Nat.le_refl _)).mono ?_); rintro e w3 ⟨A3, n3, d3, rfl, hy3, hn3, hm3, hb3⟩; have HY3 := Lib.hid hy3; have HN3 := Lib.hid hn3; have HX3 := Lib.hid (below_step HX2.out hb3); have HB3 := Lib.hid (HB2.out.through hb3); have c7 := HB3.out.cellAt (i := 7) rfl; clear hy3 hn3 hm3 hb3)
    | (go_at_call 21; (with_reducible refine (put1_by y.ms (by omega) HY3.out HRL.out HN3.out).mono ?_); rintro e w4 ⟨A4, n4, d4, rfl, hy4, hn4, hm4, hb4⟩; have HY4 := Lib.hid hy4; have HN4 := Lib.hid (And.intro hn4 hm4); have HX4 := Lib.hid (below_step HX3.out hb4); clear hy4 hn4 hm4 hb4))
  go_ret
  exact ⟨A4, n4, d4, rfl, HY4.out, HN4.out.1, HN4.out.2, HX4.out⟩

set_option maxHeartbeats 8000000 in
set_option maxRecDepth 100000 in
theorem bytesB_any (es : List Ey) (A : Option Addr) (k c : Nat) (w : World) (h : EysIn w A k es) (hk : k ≤ 1000000) (hl : ∀ y ∈ es, y.co.lt.length ≤ 1000000 ∧ y.co.tx.length ≤ 1000000) (hL : (encB es).length ≤ 100000000000) :
    Calls Tryd.prog 15 #[.slice A k c] w (Byt w (encB es)) := by
  obtain ⟨i0, hi, hz0, hz1, hz2⟩ := info_parts Tryd.info_u8
  have HI := Lib.hid h
  have HLn := Lib.hid h.len
  have HLt := Lib.hid hl
  obtain ⟨OUT, hO⟩ : ∃ OUT, encB es = OUT := ⟨_, rfl⟩
  rw [hO] at hL ⊢
  have HLL := Lib.hid hL
  have HOUT : Hid (beB k 2 ++ encAll encEy es = OUT) := Lib.hid (by rw [← hO, ← h.len]; rfl)
  have hwu : ∀ W : World, (convert 3 58 (.int .i64 (k : Int))).run Tryd.prog W = .ok (.int .u64 (k : Int)) W := fun W => by
    have h9 := conv_u64 3 58 Tryd.underlying3 Tryd.underlying58 (k : Int) W
    rw [u64N_nat (by omega)] at h9
    exact h9
  have HPut : Hid (∀ (W : World), Calls Tryd.prog 21 #[.slice none 0 0, .int .u64 (k : Int), .int .i64 2] W (Made W (beB k 2).length (beB k 2))) := Lib.hid (fun W => by
    have h9 := put_any (fun _ => True) none 0 0 [] (k : Int) (2 : Nat) (by omega) (by omega) W By.none_ (by omega) (Nat.le_refl _)
    rw [Int.toNat_natCast, putB_wid rfl] at h9
    have e : putN 0 (2 : Nat) = (beB k 2).length := by rw [beB_length]; rfl
    rw [e] at h9
    exact h9)
  clear h hl hO hL
  go_enter Tryd.func15, Tryd.ntmps15
  go_wp2_with (first
    | (go_at_call 21; (refine (HPut.out _).mono ?_); rintro e w4 ⟨v4, rfl, ho4, hb4⟩; have HO4 := Lib.hid ho4; have HX4 := Lib.hid hb4; clear ho4 hb4))
  go_loopw [3, 12] (fun bv iv wr => ∃ (i : Nat) (ys : List UInt8) (v' : Value), i ≤ k ∧ iv = .int .i64 (i : Int) ∧ v' = bv ∧ ys ++ encAll encEy (es.drop i) = OUT ∧ wr.ownsRow w.heap.size 5 1 v' ys.length (vs ys) ∧ Below w.heap.size w wr) (fun _ iv _ => k - (intOf iv).toNat)
  case atStart => exact ⟨0, _, v4, Nat.zero_le _, rfl, rfl, HOUT.out, HO4.out, HX4.out⟩
  case round =>
    obtain ⟨i, ys, v', hi', rfl, rfl, hpq, hown, hx⟩ := hrel
    have HO := Lib.hid hown
    have HX := Lib.hid hx
    have HPQ := Lib.hid hpq
    clear hown hx hpq
    by_cases hlt : i < k
    · obtain ⟨g, o, y, rfl, _, hmem, hd, hrx⟩ := (HI.out.through HX.out).at hlt
      have HRx := Lib.hid hrx
      have hix := Tryd.ix_ey wr g o k c i hlt
      have HB : Hid (Blk (wr.alloc (.cells #[.int .i64 y.co.cl, .int .i64 y.co.sp, .int .i64 y.co.op, .string (ba y.co.lt), .int .i64 y.co.a, .int .i64 y.co.b, .string (ba y.co.tx), .int .u32 (y.ms : Int)] 43)) wr.heap.size 43 [.int .i64 y.co.cl, .int .i64 y.co.sp, .int .i64 y.co.op, .string (ba y.co.lt), .int .i64 y.co.a, .int .i64 y.co.b, .string (ba y.co.tx), .int .u32 (y.ms : Int)]) := Lib.hid (Blk.fresh rfl rfl)
      have HXa : Hid (Below w.heap.size w (wr.alloc (.cells #[.int .i64 y.co.cl, .int .i64 y.co.sp, .int .i64 y.co.op, .string (ba y.co.lt), .int .i64 y.co.a, .int .i64 y.co.b, .string (ba y.co.tx), .int .u32 (y.ms : Int)] 43))) := Lib.hid (HX.out.alloc HX.out.size _)
      have HOa := Lib.hid (HO.out.alloc (.cells #[.int .i64 y.co.cl, .int .i64 y.co.sp, .int .i64 y.co.op, .string (ba y.co.lt), .int .i64 y.co.a, .int .i64 y.co.b, .string (ba y.co.tx), .int .u32 (y.ms : Int)] 43))
      have HEn : Hid (∀ W, Calls Tryd.prog 32 #[.agg #[.int .i64 y.co.cl, .int .i64 y.co.sp, .int .i64 y.co.op, .string (ba y.co.lt), .int .i64 y.co.a, .int .i64 y.co.b, .string (ba y.co.tx), .int .u32 (y.ms : Int)]] W (Byt W (encEy y))) := Lib.hid (fun W => entrybytes_any y W (HLt.out y hmem).1 (HLt.out y hmem).2 (HI.out.2 y hmem))
      have HPQ2 : Hid ((ys ++ encEy y) ++ encAll encEy (es.drop (i + 1)) = OUT) := Lib.hid (by rw [← HPQ.out, hd]; simp [encAll])
      clear hrx hd hmem
      go_wp2_with (first
        | (refine wpList_load_mid rfl 43 (.tmp 14) rfl g (o + i * 8) rfl [.int .i64 y.co.cl, .int .i64 y.co.sp, .int .i64 y.co.op, .string (ba y.co.lt), .int .i64 y.co.a, .int .i64 y.co.b, .string (ba y.co.tx), .int .u32 (y.ms : Int)] _ HRx.out Tryd.underlying43 rfl (by kernel_rfl) ?_)
        | (refine wpList_load_blk rfl 43 (.tmp 5) rfl wr.heap.size rfl 43 [.int .i64 y.co.cl, .int .i64 y.co.sp, .int .i64 y.co.op, .string (ba y.co.lt), .int .i64 y.co.a, .int .i64 y.co.b, .string (ba y.co.tx), .int .u32 (y.ms : Int)] _ HB.out Tryd.underlying43 rfl (by kernel_rfl) ?_)
        | (go_at_call 32; (with_reducible refine (HEn.out _).mono ?_); rintro e w5 ⟨A5, n5, d5, rfl, hy5, _, _, hb5⟩; have HY5 := Lib.hid hy5; have HX5 := Lib.hid (below_step HXa.out hb5); have HO5 := Lib.hid (own_thr HOa.out hb5); have HBD5 : Hid (ys.length + n5 ≤ 140737488355328) := Lib.hid (by have h9 := congrArg List.length HPQ2.out; simp only [List.length_append] at h9; have h8 := hy5.len; have := HLL.out; omega); have HBS5 : Hid (w.heap.size ≤ w5.heap.size) := Lib.hid HX5.out.size; clear hy5 hb5)
        | (at_builtin; refine wpList_append_by _ rfl (.tmp 16) (.tmp 18) 34 rfl w.heap.size i0 Tryd.underlying34 hi hz0 hz1 hz2 v' ys.length (vs ys) rfl HO5.out (fun _ => True) _ n5 d5 (encEy y) rfl HY5.out HBD5.out HBS5.out ?_; intro v6 w6 hown6 hgrow6 _; have HN6 : Hid (w6.ownsRow w.heap.size 5 1 v6 (ys ++ encEy y).length (vs (ys ++ encEy y))) := Lib.hid (by rw [List.length_append, ← vs_append, HY5.out.len]; exact hown6); have HX6 : Hid (Below w.heap.size w w6) := Lib.hid (HX5.out.grown hgrow6 HBS5.out (fun g hg => (HO5.out.lt g hg).1)); clear hown6 hgrow6))
      go_roundw
      case rel => exact ⟨i + 1, ys ++ encEy y, v6, by omega, by go_num, rfl, HPQ2.out, HN6.out, HX6.out⟩
      case measure => simp [intOf]; omega
    · have e9 : es.drop i = [] := List.drop_of_length_le (by have := HLn.out; omega)
      have HPQ3 : Hid (ys = OUT) := Lib.hid (by rw [← HPQ.out, e9]; simp [encAll])
      clear e9
      obtain ⟨A7, c7, rfl, hn7, hm7, _⟩ := own_form HO.out
      go_wp2
      go_ret
      rw [← HPQ3.out]
      exact ⟨A7, _, c7, rfl, (By.of_own HO.out).weak fun _ _ => trivial, hn7, hm7, HX.out⟩
end

section
open Go.RowKit
set_option maxHeartbeats 8000000 in
set_option maxRecDepth 100000 in
theorem rbytesB_any (es : List Ey) (A : Option Addr) (k c : Nat) (w : World) (h : EysIn w A k es) (hk : k ≤ 1000000) (hl : ∀ y ∈ es, y.co.lt.length ≤ 1000000 ∧ y.co.tx.length ≤ 1000000) (hL : (encB es).length ≤ 100000000000) :
    Calls Tryd.prog 12 #[.slice A k c] w (Byt w (encB es)) := by
  have HI := Lib.hid h
  have HLn := Lib.hid h.len
  have HLt := Lib.hid hl
  obtain ⟨OUT, hO⟩ : ∃ OUT, encB es = OUT := ⟨_, rfl⟩
  rw [hO] at hL ⊢
  have HLL := Lib.hid hL
  have HOUT : Hid (beB k 2 ++ encAll encEy es = OUT) := Lib.hid (by rw [← hO, ← h.len]; rfl)
  have hwu : ∀ W : World, (convert 3 58 (.int .i64 (k : Int))).run Tryd.prog W = .ok (.int .u64 (k : Int)) W := fun W => by
    have h9 := conv_u64 3 58 Tryd.underlying3 Tryd.underlying58 (k : Int) W
    rw [u64N_nat (by omega)] at h9
    exact h9
  have HPut : Hid (∀ (W : World), Calls Tryd.prog 22 #[.slice none 0 0, .int .u64 (k : Int), .int .i64 2] W (Byt W (beB k 2))) := Lib.hid (fun W => rput_by (Q := fun _ => True) (A := none) (n := 0) (c := 0) (xs := []) 2 rfl k (by omega) By.none_ (by simp))
  clear h hl hO hL
  go_enter Tryd.func12, Tryd.ntmps12
  go_wp2_with (first
    | (go_at_call 22; (with_reducible refine (HPut.out _).mono ?_); rintro e w4 ⟨A4, n4, d4, rfl, hy4, hn4, hm4, hb4⟩; have HY4 := Lib.hid hy4; have HN4 := Lib.hid (And.intro hn4 hm4); have HX4 := Lib.hid hb4; clear hy4 hn4 hm4 hb4))
  go_loopw [3, 12] (fun bv iv wr => ∃ (i : Nat) (ys : List UInt8) (D : Option Addr) (dn dc : Nat), i ≤ k ∧ iv = .int .i64 (i : Int) ∧ Value.slice D dn dc = bv ∧ ys ++ encAll encEy (es.drop i) = OUT ∧ By wr (fun _ => True) D dn ys ∧ dn ≤ dc ∧ dc ≤ maxLen ∧ Below w.heap.size w wr) (fun _ iv _ => k - (intOf iv).toNat)
  case atStart => exact ⟨0, _, A4, n4, d4, Nat.zero_le _, rfl, rfl, HOUT.out, HY4.out, HN4.out.1, HN4.out.2, HX4.out⟩
  case round =>
    obtain ⟨i, ys, D, dn, dc, hi', rfl, rfl, hpq, hby, hdn, hdc, hx⟩ := hrel
    have HX := Lib.hid hx
    have HPQ := Lib.hid hpq
    have HY0 := Lib.hid hby
    clear hx hpq hby
    by_cases hlt : i < k
    · obtain ⟨g, o, y, rfl, _, hmem, hd, hrx⟩ := (HI.out.through HX.out).at hlt
      have HRx := Lib.hid hrx
      have hix := Tryd.ix_ey wr g o k c i hlt
      have HB : Hid (Blk (wr.alloc (.cells #[.int .i64 y.co.cl, .int .i64 y.co.sp, .int .i64 y.co.op, .string (ba y.co.lt), .int .i64 y.co.a, .int .i64 y.co.b, .string (ba y.co.tx), .int .u32 (y.ms : Int)] 43)) wr.heap.size 43 [.int .i64 y.co.cl, .int .i64 y.co.sp, .int .i64 y.co.op, .string (ba y.co.lt), .int .i64 y.co.a, .int .i64 y.co.b, .string (ba y.co.tx), .int .u32 (y.ms : Int)]) := Lib.hid (Blk.fresh rfl rfl)
      have HC : Hid ((wr.alloc (.cells #[.int .i64 y.co.cl, .int .i64 y.co.sp, .int .i64 y.co.op, .string (ba y.co.lt), .int .i64 y.co.a, .int .i64 y.co.b, .string (ba y.co.tx), .int .u32 (y.ms : Int)] 43)).rangeAt wr.heap.size 0 [.int .i64 y.co.cl, .int .i64 y.co.sp, .int .i64 y.co.op, .string (ba y.co.lt), .int .i64 y.co.a, .int .i64 y.co.b, .string (ba y.co.tx)]) := Lib.hid (Blk.front (post := [.int .u32 (y.ms : Int)]) HB.out)
      have HXa : Hid (Below w.heap.size w (wr.alloc (.cells #[.int .i64 y.co.cl, .int .i64 y.co.sp, .int .i64 y.co.op, .string (ba y.co.lt), .int .i64 y.co.a, .int .i64 y.co.b, .string (ba y.co.tx), .int .u32 (y.ms : Int)] 43))) := Lib.hid (HX.out.alloc HX.out.size _)
      have HY1 := Lib.hid (HY0.out.alloc (.cells #[.int .i64 y.co.cl, .int .i64 y.co.sp, .int .i64 y.co.op, .string (ba y.co.lt), .int .i64 y.co.a, .int .i64 y.co.b, .string (ba y.co.tx), .int .u32 (y.ms : Int)] 43))
      have HCb : Hid (∀ W, Calls Tryd.prog 24 #[.agg #[.int .i64 y.co.cl, .int .i64 y.co.sp, .int .i64 y.co.op, .string (ba y.co.lt), .int .i64 y.co.a, .int .i64 y.co.b, .string (ba y.co.tx)]] W (Byt W (encCr y.co))) := Lib.hid (fun W => rcoreB_any y.co W (HLt.out y hmem).1 (HLt.out y hmem).2)
      have hcv := fun W : World => conv_3264 y.ms (HI.out.2 y hmem) W
      have HMs : Hid (y.ms < 18446744073709551616) := Lib.hid (by have := HI.out.2 y hmem; omega)
      have HPQ2 : Hid ((ys ++ encEy y) ++ encAll encEy (es.drop (i + 1)) = OUT) := Lib.hid (by rw [← HPQ.out, hd]; simp [encAll])
      have HCL : Hid ((encCr y.co).length ≤ 1099511627776) := Lib.hid (by rw [encCr_len]; have := HLt.out y hmem; omega)
      have hyl : ys.length + (encEy y).length ≤ 100000000000 := by have h9 := congrArg List.length HPQ2.out; simp only [List.length_append] at h9; have := HLL.out; omega
      have HYL : Hid (ys.length ≤ 1099511627776) := Lib.hid (by omega)
      have HRL : Hid ((ys ++ rowB (encCr y.co)).length ≤ 1099511627776) := Lib.hid (by rw [List.length_append]; have e : (encEy y).length = (rowB (encCr y.co)).length + 1 := (by unfold encEy; rw [List.length_append, beB_length]); omega)
      clear hrx hd hmem hyl
      go_wp2_with (first
        | (refine wpList_load_mid rfl 43 (.tmp 14) rfl g (o + i * 8) rfl [.int .i64 y.co.cl, .int .i64 y.co.sp, .int .i64 y.co.op, .string (ba y.co.lt), .int .i64 y.co.a, .int .i64 y.co.b, .string (ba y.co.tx), .int .u32 (y.ms : Int)] _ HRx.out Tryd.underlying43 rfl (by kernel_rfl) ?_))
      try dsimp only [Act.put]
      generalize hw1 : wr.alloc (.cells #[.int .i64 y.co.cl, .int .i64 y.co.sp, .int .i64 y.co.op, .string (ba y.co.lt), .int .i64 y.co.a, .int .i64 y.co.b, .string (ba y.co.tx), .int .u32 (y.ms : Int)] 43) = w1 at *
      clear hw1
      generalize hg7 : wr.heap.size = g7 at *
      clear hg7
      refine wp_region_held_drew (S := fun W => Below w1.heap.size w1 W) (by kernel_rfl) (Below.refl _ _).drew (fun hHeld => ?_)
      change wpAnyH _ _ _ _ _ _ #[false, false, false, false, false, false, false, false, false, false] _ _
      refine wpAnyH_take (i := 0) (v := (.slice D dn dc)) rfl (by kernel_rfl) (by kernel_rfl) (by kernel_rfl) (fun _ _ _ h => h) (Or.inl ⟨by kernel_rfl, fun w hSw => ?_⟩) (by assumption) ?_
      · (try dsimp only at hSw); go_simp <;> (try rfl)
      change wpAnyH _ _ _ _ _ _ _ (Act.put _ (some (16 : Nat)) (.slice D dn dc)) _
      simp only [Act.put, List.setIfInBounds_toArray, List.set_cons_zero, List.set_cons_succ]
      refine wpAnyH_take (i := 1) (v := (.pointer (some ⟨g7, 0, none⟩))) rfl (by kernel_rfl) (by kernel_rfl) (by kernel_rfl) (fun _ _ _ h => h) (Or.inl ⟨by kernel_rfl, fun w hSw => ?_⟩) (by assumption) ?_
      · (try dsimp only at hSw); go_simp <;> (try rfl)
      change wpAnyH _ _ _ _ _ _ _ (Act.put _ (some (17 : Nat)) (.pointer (some ⟨g7, 0, none⟩))) _
      simp only [Act.put, List.setIfInBounds_toArray, List.set_cons_zero, List.set_cons_succ]
      refine wpAnyH_take (i := 2) (v := (.agg #[.int .i64 y.co.cl, .int .i64 y.co.sp, .int .i64 y.co.op, .string (ba y.co.lt), .int .i64 y.co.a, .int .i64 y.co.b, .string (ba y.co.tx)])) rfl (by kernel_rfl) (by kernel_rfl) (by kernel_rfl) (fun _ _ _ h => h) (yieldsIf_load_mid (by kernel_rfl) 40 (.tmp 17) rfl g7 0 (by simp [Act.eval]) [.int .i64 y.co.cl, .int .i64 y.co.sp, .int .i64 y.co.op, .string (ba y.co.lt), .int .i64 y.co.a, .int .i64 y.co.b, .string (ba y.co.tx)] _ (fun W hW => rangeAt.through HC.out hW) Tryd.underlying40 rfl (by kernel_rfl)) (by assumption) ?_
      change wpAnyH _ _ _ _ _ _ _ (Act.put _ (some (18 : Nat)) (.agg #[.int .i64 y.co.cl, .int .i64 y.co.sp, .int .i64 y.co.op, .string (ba y.co.lt), .int .i64 y.co.a, .int .i64 y.co.b, .string (ba y.co.tx)])) _
      simp only [Act.put, List.setIfInBounds_toArray, List.set_cons_zero, List.set_cons_succ]
      refine wpAnyH_take (i := 5) (v := (.pointer (some ⟨g7, 7, none⟩))) rfl (by kernel_rfl) (by kernel_rfl) (by kernel_rfl) (fun _ _ _ h => h) (Or.inl ⟨by kernel_rfl, fun w hSw => ?_⟩) (by assumption) ?_
      · (try dsimp only at hSw); go_simp <;> (try rfl)
      change wpAnyH _ _ _ _ _ _ _ (Act.put _ (some (21 : Nat)) (.pointer (some ⟨g7, 7, none⟩))) _
      simp only [Act.put, List.setIfInBounds_toArray, List.set_cons_zero, List.set_cons_succ]
      refine wpAnyH_take (i := 6) (v := (.int .u32 (y.ms : Int))) rfl (by kernel_rfl) (by kernel_rfl) (by kernel_rfl) (fun _ _ _ h => h) (yields_load_at (by kernel_rfl) 41 (.tmp 21) rfl (.pointer (some ⟨g7, 7, none⟩)) (by simp [Act.eval]) (.int .u32 (y.ms : Int)) (fun W hW => load_one' (by kernel_rfl) ((HB.out.through hW).cellAt (i := 7) rfl))) (by assumption) ?_
      change wpAnyH _ _ _ _ _ _ _ (Act.put _ (some (22 : Nat)) (.int .u32 (y.ms : Int))) _
      simp only [Act.put, List.setIfInBounds_toArray, List.set_cons_zero, List.set_cons_succ]
      refine wpAnyH_take (i := 7) (v := (.int .u64 (y.ms : Int))) rfl (by kernel_rfl) (by kernel_rfl) (by kernel_rfl) (fun _ _ _ h => h) (yields_conv (by kernel_rfl) 41 58 (.tmp 22) rfl (.int .u32 (y.ms : Int)) (by simp [Act.eval]) (.int .u64 (y.ms : Int)) (fun W _ => hcv W)) (by assumption) ?_
      change wpAnyH _ _ _ _ _ _ _ (Act.put _ (some (23 : Nat)) (.int .u64 (y.ms : Int))) _
      simp only [Act.put, List.setIfInBounds_toArray, List.set_cons_zero, List.set_cons_succ]
      refine wpAnyH_ready (rs := [3]) (by kernel_rfl) (by simp) ?_
      refine AllReadyH.cons rfl (fun K hK => ?_) AllReadyH.nil
      go_simp
      refine (HCb.out _).mono ?_
      rintro e w2 ⟨A2, n2, d2, rfl, hy2, _, _, hb2⟩; have HY2 := Lib.hid hy2; have HK2 := Lib.hid (below_step hHeld hb2); clear hy2 hb2
      go_wp2_with fail
      refine hK.out _ _ HK2.out (fun hHeld1 => ?_)
      clear hHeld hK K
      have hHeld := hHeld1
      clear hHeld1
      refine wpAnyH_ready (rs := [4]) (by kernel_rfl) (by simp) ?_
      refine AllReadyH.cons rfl (fun K hK => ?_) AllReadyH.nil
      go_simp
      refine (rrow_by (HY1.out.through HK2.out) HY2.out HYL.out HCL.out).mono ?_
      rintro e w3 ⟨A3, n3, d3, rfl, hy3, hn3, hm3, hb3⟩; have HY3 := Lib.hid hy3; have HK3 := Lib.hid (below_step HK2.out hb3); clear hy3 hn3 hm3 hb3
      go_wp2_with fail
      refine hK.out _ _ HK3.out (fun hHeld1 => ?_)
      clear hHeld hK K
      have hHeld := hHeld1
      clear hHeld1
      refine wpAnyH_ready (rs := [8]) (by kernel_rfl) (by simp) ?_
      refine AllReadyH.cons rfl (fun K hK => ?_) AllReadyH.nil
      go_simp
      refine (rput_by 1 rfl y.ms HMs.out HY3.out HRL.out).mono ?_
      rintro e w5 ⟨A5, n5, d5, rfl, hy5, hn5, hm5, hb5⟩; have HY5 := Lib.hid hy5; have HN5 := Lib.hid (And.intro hn5 hm5); have HK5 := Lib.hid (below_step HK3.out hb5); clear hy5 hn5 hm5 hb5
      go_wp2_with fail
      refine hK.out _ _ HK5.out (fun hHeld1 => ?_)
      clear hHeld hK K
      have hHeld := hHeld1
      clear hHeld1
      refine wpAnyH_take (i := 9) (v := (.slice A5 n5 d5)) rfl (by kernel_rfl) (by kernel_rfl) (by kernel_rfl) (fun _ _ _ h => h) (Or.inl ⟨by kernel_rfl, fun w hSw => ?_⟩) (by assumption) ?_
      · (try dsimp only at hSw); go_simp <;> (try rfl)
      change wpAnyH _ _ _ _ _ _ _ (Act.put _ (some (3 : Nat)) (.slice A5 n5 d5)) _
      simp only [Act.put, List.setIfInBounds_toArray, List.set_cons_zero, List.set_cons_succ]
      refine wpAnyH_done (by kernel_rfl) ?_ _
      go_wp2
      go_roundw
      case rel => exact ⟨i + 1, ys ++ encEy y, A5, n5, d5, by omega, by go_num, rfl, HPQ2.out, by (have h9 := HY5.out; rw [List.append_assoc] at h9; exact h9), HN5.out.1, HN5.out.2, below_step HXa.out HK5.out⟩
      case measure => simp [intOf]; omega
    · have e9 : es.drop i = [] := List.drop_of_length_le (by have := HLn.out; omega)
      have HPQ3 : Hid (ys = OUT) := Lib.hid (by rw [← HPQ.out, e9]; simp [encAll])
      clear e9
      go_wp2
      go_ret
      rw [← HPQ3.out]
      exact ⟨D, dn, dc, rfl, HY0.out, hdn, hdc, HX.out⟩
end

section
open Go.RowKit
theorem one8e (a b : ByteArray) (i j k p q r : Int) : ([.int .i64 i, .int .i64 j, .int .i64 k, .string a, .int .i64 p, .int .i64 q, .string b, .int .u32 r] : List Value).toArray.all (·.oneCell') = true := by simp [Value.oneCell']
theorem Tryd.zero_ey (w : World) : (zeroValue 43).run Tryd.prog w = .ok (.agg #[.int .i64 0, .int .i64 0, .int .i64 0, .string (ba []), .int .i64 0, .int .i64 0, .string (ba []), .int .u32 0]) w := by kernel_rfl
theorem Tryd.build_ey (a b : ByteArray) (i j k p q r : Int) (w : World) : (Instr.build 43 #[(0, .agg #[.int .i64 i, .int .i64 j, .int .i64 k, .string a, .int .i64 p, .int .i64 q, .string b]), (1, .int .u32 r)]).run Tryd.prog w = .ok (.agg #[.int .i64 i, .int .i64 j, .int .i64 k, .string a, .int .i64 p, .int .i64 q, .string b, .int .u32 r]) w := by kernel_rfl
theorem conv_6432 (v : Nat) (h : v < 4294967296) (w : World) : (convert 58 41 (.int .u64 (v : Int))).run Tryd.prog w = .ok (.int .u32 (v : Int)) w := by
  have e : IntKind.u32.wrap (v : Int) = (v : Int) := IntWalk.u32_in _ (by omega)
  simp [convert, run_underlying Tryd.underlying41, run_underlying Tryd.underlying58, Conv.intToInt, e]
/-- behind a call that turned block g a new block is turned -/
theorem only_own_ {a b c : World} {g : Nat} {row : Option Nat} (hab : a.grownBy b (some g)) (hbc : b.grownBy c row) (hh : ∀ h, row = some h → a.heap.size ≤ h) : a.grownBy c (some g) :=
  ⟨hbc.os.trans hab.os, hbc.tape.trans hab.tape, hbc.output.trans hab.output, Nat.le_trans hab.size hbc.size, fun i hi hne => (hbc.block i (Nat.lt_of_lt_of_le hi hab.size) (fun e => by have := hh i e.symm; omega)).trans (hab.block i hi hne)⟩
/-- the core that the next row tells, and its error -/
def nextP (M : Nat) (st : Option (List UInt8)) (n : Int) : Cr × Int := parseCr (rval M st).length (rval M st) n

set_option maxHeartbeats 8000000 in
set_option maxRecDepth 100000 in
theorem readentry_any {Q : Nat → Prop} (g : Nat) (st : Option (List UInt8)) (M : Nat) (n : Int) (w : World) (h : Rs Q w g tR st) (hQ : ∀ b, Q b → b < w.heap.size) (hl : stL st ≤ 1000000) :
    Calls Tryd.prog 29 #[.pointer (some ⟨g, 0, none⟩), .int .i64 (M : Int), .int .i64 n] w fun e w' => e = .returned (.tuple #[.agg #[.int .i64 (nextP M st n).1.cl, .int .i64 (nextP M st n).1.sp, .int .i64 (nextP M st n).1.op, .string (ba (nextP M st n).1.lt), .int .i64 (nextP M st n).1.a, .int .i64 (nextP M st n).1.b, .string (ba (nextP M st n).1.tx), .int .u32 ((nval 1 (rnext M st) : Nat) : Int)], .int .i64 (nextP M st n).2]) ∧ Rs Q w' g tR (nnext 1 (rnext M st)) ∧ w.grownBy w' (some g) := by
  have hgl := h.lt
  have HR0 := Lib.hid (h.alloc (.cells #[.int .i64 0, .int .i64 0, .int .i64 0, .string (ba []), .int .i64 0, .int .i64 0, .string (ba []), .int .u32 0] 43))
  have HG0 : Hid (w.grownBy (w.alloc (.cells #[.int .i64 0, .int .i64 0, .int .i64 0, .string (ba []), .int .i64 0, .int .i64 0, .string (ba []), .int .u32 0] 43)) (some g)) := Lib.hid (only_below ((Below.refl _ w).alloc (Nat.le_refl _) _))
  have HZ0 : Hid (Blk (w.alloc (.cells #[.int .i64 0, .int .i64 0, .int .i64 0, .string (ba []), .int .i64 0, .int .i64 0, .string (ba []), .int .u32 0] 43)) w.heap.size 43 [.int .i64 0, .int .i64 0, .int .i64 0, .string (ba []), .int .i64 0, .int .i64 0, .string (ba []), .int .u32 0]) := Lib.hid (Blk.fresh rfl rfl)
  have HNE : Hid (w.heap.size ≠ g) := Lib.hid (by omega)
  have HQ := Lib.hid hQ
  have hz := Tryd.zero_ey
  have hzc := Tryd.zero_cr
  have HP : Hid (∀ (W : World) (B : Option Addr) (m c : Nat), By W (fun _ => True) B m (rval M st) → Calls Tryd.prog 42 #[.slice B m c, .int .i64 n] W fun e w' => e = .returned (.tuple #[.agg #[.int .i64 (nextP M st n).1.cl, .int .i64 (nextP M st n).1.sp, .int .i64 (nextP M st n).1.op, .string (ba (nextP M st n).1.lt), .int .i64 (nextP M st n).1.a, .int .i64 (nextP M st n).1.b, .string (ba (nextP M st n).1.tx)], .int .i64 (nextP M st n).2]) ∧ Below W.heap.size W w') := Lib.hid (fun W B m c hY => by
    have h9 := parseCr_any (rval M st) n B m c W hY (by rw [← hY.len]; exact Nat.le_trans (rval_stL _ _) hl)
    rw [← hY.len] at h9 ⊢
    exact h9)
  have hcv := fun W : World => conv_6432 (nval 1 (rnext M st)) (by have := nval_lt 1 (rnext M st); simp only [e1] at this; omega) W
  generalize nextP M st n = P at *
  obtain ⟨c0, er⟩ := P
  simp only at HP ⊢
  clear h hQ hl
  go_enter Tryd.func29, Tryd.ntmps29
  go_wp2_with (first
    | (go_at_call 43; (with_reducible refine (row_rs HR0.out M).mono ?_); rintro e w1 ⟨B1, m1, c1, rfl, hy1, hr1, hg1⟩; have HY1 := Lib.hid hy1; have HR1 := Lib.hid hr1; have HG1 := Lib.hid (only_trans HG0.out hg1); have HZ1 := Lib.hid (HZ0.out.grown hg1 (fun e => HNE.out (Option.some.inj e))); clear hr1 hg1 hy1)
    | (go_at_call 42; (with_reducible refine (HP.out _ _ _ _ HY1.out).mono ?_); rintro e w2 ⟨rfl, hb2⟩; have HR2 := Lib.hid ((HR1.out.below hb2).alloc (.cells #[.int .i64 c0.cl, .int .i64 c0.sp, .int .i64 c0.op, .string (ba c0.lt), .int .i64 c0.a, .int .i64 c0.b, .string (ba c0.tx)] 40)); have HG2 : Hid (w.grownBy (w2.alloc (.cells #[.int .i64 c0.cl, .int .i64 c0.sp, .int .i64 c0.op, .string (ba c0.lt), .int .i64 c0.a, .int .i64 c0.b, .string (ba c0.tx)] 40)) (some g)) := Lib.hid (only_trans HG1.out (only_below (hb2.alloc hb2.size (.cells #[.int .i64 c0.cl, .int .i64 c0.sp, .int .i64 c0.op, .string (ba c0.lt), .int .i64 c0.a, .int .i64 c0.b, .string (ba c0.tx)] 40)))); have HZ2 := Lib.hid ((HZ1.out.through hb2).alloc (.cells #[.int .i64 c0.cl, .int .i64 c0.sp, .int .i64 c0.op, .string (ba c0.lt), .int .i64 c0.a, .int .i64 c0.b, .string (ba c0.tx)] 40)); have HC2 : Hid (Blk (w2.alloc (.cells #[.int .i64 c0.cl, .int .i64 c0.sp, .int .i64 c0.op, .string (ba c0.lt), .int .i64 c0.a, .int .i64 c0.b, .string (ba c0.tx)] 40)) w2.heap.size 40 [.int .i64 c0.cl, .int .i64 c0.sp, .int .i64 c0.op, .string (ba c0.lt), .int .i64 c0.a, .int .i64 c0.b, .string (ba c0.tx)]) := Lib.hid (Blk.fresh rfl rfl); have HS2 : Hid (w.heap.size < w2.heap.size) := Lib.hid (Nat.lt_of_lt_of_le HZ1.out.lt hb2.size); clear hb2))
  try dsimp only [Act.put]
  generalize hw3 : w2.alloc (.cells #[.int .i64 c0.cl, .int .i64 c0.sp, .int .i64 c0.op, .string (ba c0.lt), .int .i64 c0.a, .int .i64 c0.b, .string (ba c0.tx)] 40) = w3 at *
  clear hw3
  obtain ⟨gc, hgc⟩ : ∃ gc, w2.heap.size = gc := ⟨_, rfl⟩
  rw [hgc] at HC2 HS2 ⊢
  clear hgc
  obtain ⟨b6, hb6⟩ : ∃ b6, b6 = w.heap.size := ⟨_, rfl⟩
  have HNB : Hid (gc ≠ b6) := Lib.hid (by have := HS2.out; omega)
  have HNC : Hid (gc ≠ g) := Lib.hid (by have := HS2.out; omega)
  rw [← hb6] at HZ2 HNE ⊢
  have HB6 := Lib.hid hb6
  clear hb6
  have HRw := Lib.hid HR2.out.drew
  have HGw : Hid (w.grownBy w3.drew (some g)) := Lib.hid (only_trans HG2.out (only_below (Below.refl _ _).drew))
  have HZw : Hid (Blk w3.drew b6 43 [.int .i64 0, .int .i64 0, .int .i64 0, .string (ba []), .int .i64 0, .int .i64 0, .string (ba []), .int .u32 0]) := Lib.hid HZ2.out.drew
  refine wp_region_held_drew (S := fun W => Blk W gc 40 [.int .i64 c0.cl, .int .i64 c0.sp, .int .i64 c0.op, .string (ba c0.lt), .int .i64 c0.a, .int .i64 c0.b, .string (ba c0.tx)]) (by kernel_rfl) HC2.out.drew (fun hHeld => ?_)
  change wpAnyH _ _ _ _ _ _ #[false, false, false, false, false, false, false, false] _ _
  refine wpAnyH_take (i := 0) (v := (.agg #[.int .i64 c0.cl, .int .i64 c0.sp, .int .i64 c0.op, .string (ba c0.lt), .int .i64 c0.a, .int .i64 c0.b, .string (ba c0.tx)])) rfl (by kernel_rfl) (by kernel_rfl) (by kernel_rfl) (fun _ _ _ h => h) (yields_load_at (by kernel_rfl) 40 (.tmp 8) rfl (.pointer (some ⟨gc, 0, none⟩)) (by simp [Act.eval]) (.agg #[.int .i64 c0.cl, .int .i64 c0.sp, .int .i64 c0.op, .string (ba c0.lt), .int .i64 c0.a, .int .i64 c0.b, .string (ba c0.tx)]) (fun W hW => hW.loadAt 40 _ Tryd.underlying40 rfl (by kernel_rfl))) (by assumption) ?_
  change wpAnyH _ _ _ _ _ _ _ (Act.put _ (some (18 : Nat)) (.agg #[.int .i64 c0.cl, .int .i64 c0.sp, .int .i64 c0.op, .string (ba c0.lt), .int .i64 c0.a, .int .i64 c0.b, .string (ba c0.tx)])) _
  simp only [Act.put, List.setIfInBounds_toArray, List.set_cons_zero, List.set_cons_succ]
  refine wpAnyH_take (i := 1) (v := (.pointer (some ⟨g, 0, none⟩))) rfl (by kernel_rfl) (by kernel_rfl) (by kernel_rfl) (fun _ _ _ h => h) (Or.inl ⟨by kernel_rfl, fun w hSw => ?_⟩) (by assumption) ?_
  · (try dsimp only at hSw); go_simp <;> (try rfl)
  change wpAnyH _ _ _ _ _ _ _ (Act.put _ (some (19 : Nat)) (.pointer (some ⟨g, 0, none⟩))) _
  simp only [Act.put, List.setIfInBounds_toArray, List.set_cons_zero, List.set_cons_succ]
  refine wpAnyH_take (i := 5) (v := (.int .i64 er)) rfl (by kernel_rfl) (by kernel_rfl) (by kernel_rfl) (fun _ _ _ h => h) (Or.inl ⟨by kernel_rfl, fun w hSw => ?_⟩) (by assumption) ?_
  · (try dsimp only at hSw); go_simp <;> (try rfl)
  change wpAnyH _ _ _ _ _ _ _ (Act.put _ (some (23 : Nat)) (.int .i64 er)) _
  simp only [Act.put, List.setIfInBounds_toArray, List.set_cons_zero, List.set_cons_succ]
  refine wpAnyH_ready (rs := [2]) (by kernel_rfl) (by simp) ?_
  refine AllReadyH.cons rfl (fun K hK => ?_) AllReadyH.nil
  go_simp
  refine (number_rs HRw.out 1 rfl).mono ?_
  rintro e wa ⟨rfl, hra, hga⟩; have HRa := Lib.hid hra; have HGa := Lib.hid (only_trans HGw.out hga); have HZa := Lib.hid (HZw.out.grown hga (fun e => HNE.out (Option.some.inj e))); have HCa := Lib.hid (hHeld.grown hga (fun e => HNC.out (Option.some.inj e))); clear hra hga
  go_wp2_with fail
  refine hK.out _ _ HCa.out (fun hHeld1 => ?_)
  clear hHeld hK K
  have hHeld := hHeld1
  clear hHeld1
  refine wpAnyH_take (i := 3) (v := (.int .u32 ((nval 1 (rnext M st) : Nat) : Int))) rfl (by kernel_rfl) (by kernel_rfl) (by kernel_rfl) (fun _ _ _ h => h) (yields_conv (by kernel_rfl) 58 41 (.tmp 20) rfl (.int .u64 ((nval 1 (rnext M st) : Nat) : Int)) (by simp [Act.eval]) (.int .u32 ((nval 1 (rnext M st) : Nat) : Int)) (fun W _ => hcv W)) (by assumption) ?_
  change wpAnyH _ _ _ _ _ _ _ (Act.put _ (some (21 : Nat)) (.int .u32 ((nval 1 (rnext M st) : Nat) : Int))) _
  simp only [Act.put, List.setIfInBounds_toArray, List.set_cons_zero, List.set_cons_succ]
  obtain ⟨V, hV⟩ : ∃ V : Value, V = .agg #[.int .i64 c0.cl, .int .i64 c0.sp, .int .i64 c0.op, .string (ba c0.lt), .int .i64 c0.a, .int .i64 c0.b, .string (ba c0.tx), .int .u32 ((nval 1 (rnext M st) : Nat) : Int)] := ⟨_, rfl⟩
  have HV := Lib.hid hV
  clear hV
  refine wpAnyH_take (i := 4) (v := V) rfl (by kernel_rfl) (by kernel_rfl) (by kernel_rfl) (fun _ _ _ h => h) (yields_build (by kernel_rfl) 43 _ rfl _ (by simp only [List.map_toArray, List.map_cons, List.map_nil, Act.eval]; rfl) V (fun w _ => by rw [HV.out]; exact Tryd.build_ey _ _ _ _ _ _ _ _ w)) (by assumption) ?_
  change wpAnyH _ _ _ _ _ _ _ (Act.put _ (some (22 : Nat)) V) _
  simp only [Act.put, List.setIfInBounds_toArray, List.set_cons_zero, List.set_cons_succ]
  refine wpAnyH_ready (rs := [6]) (by kernel_rfl) (by simp) ?_
  refine AllReadyH.cons (o := ⟨none, .store 43 (.tmp 6) (.tmp 22), _, _, _, none⟩) rfl (fun K hK => ?_) AllReadyH.nil
  refine step_store_blk rfl 43 (.tmp 6) (.tmp 22) rfl b6 [.int .i64 c0.cl, .int .i64 c0.sp, .int .i64 c0.op, .string (ba c0.lt), .int .i64 c0.a, .int .i64 c0.b, .string (ba c0.tx), .int .u32 ((nval 1 (rnext M st) : Nat) : Int)] (by simp [Act.eval]) (by simp only [Act.eval]; exact HV.out) 43 [.int .i64 0, .int .i64 0, .int .i64 0, .string (ba []), .int .i64 0, .int .i64 0, .string (ba []), .int .u32 0] HZa.out (by kernel_rfl) rfl (one8e _ _ _ _ _ _ _ _) ?_; intro wb hbb hgb; have HBb := Lib.hid hbb; have HRb := Lib.hid (HRa.out.other hgb (fun b hb => ⟨fun e => HNE.out (by rw [← e]; exact Option.some.inj hb), fun h9 => by have := Option.some.inj hb; have := HQ.out b h9; have := HB6.out; omega⟩)); have HGb := Lib.hid (only_own_ HGa.out hgb (fun h hh => by have := Option.some.inj hh; have := HB6.out; omega)); have HCb := Lib.hid (hHeld.grown hgb (fun e => HNB.out (Option.some.inj e))); clear hbb hgb
  refine hK.out _ _ HCb.out (fun hHeld1 => ?_)
  clear hHeld hK K
  have hHeld := hHeld1
  clear hHeld1
  change wpAnyH _ _ _ _ _ _ _ (Act.put _ none undef) _
  simp only [Act.put]
  refine wpAnyH_take (i := 7) (v := (.int .i64 er)) rfl (by kernel_rfl) (by kernel_rfl) (by kernel_rfl) (fun _ _ _ h => h) (Or.inl ⟨by kernel_rfl, fun w hSw => ?_⟩) (by assumption) ?_
  · (try dsimp only at hSw); go_simp <;> (try rfl)
  change wpAnyH _ _ _ _ _ _ _ (Act.put _ (some (7 : Nat)) (.int .i64 er)) _
  simp only [Act.put, List.setIfInBounds_toArray, List.set_cons_zero, List.set_cons_succ]
  refine wpAnyH_done (by kernel_rfl) ?_ _
  go_wp2
  (try simp only [Exit.inBlock, Exit.then]); refine bodyPost_ret (results_cell_row_tmp1 rfl _ _ b6 43 _ (0, 0) _ rfl HBb.out Tryd.underlying43 rfl (by kernel_rfl)) rfl ?_
  exact ⟨rfl, HRb.out, HGb.out⟩
end

section
open Go.RowKit
section
variable {w w' : World} {B : Nat} {v : Value} {es : List Ey}
theorem OEy.far {g : Nat} (h : OEy w B v es) (hb : w.grownBy w' (some g)) (hg : g < B) : OEy w' B v es := ⟨h.1.far hb hg, h.2⟩
theorem OEy.alloc (h : OEy w B v es) (o : Obj) : OEy (w.alloc o) B v es := ⟨h.1.alloc o, h.2⟩
theorem OEy.through (h : OEy w B v es) (hb : Below w.heap.size w w') : OEy w' B v es := ⟨h.1.through hb, h.2⟩
end
/-- A call that hands back entries and an error: they lie in memory of its own. -/
def EyOut (w : World) (es : List Ey) (er : Int) (e : Ending) (w' : World) : Prop :=
  ∃ (A : Option Addr) (m c : Nat), e = .returned (.tuple #[.slice A m c, .int .i64 er]) ∧ EysIn w' A m es ∧ m ≤ c ∧ c ≤ maxLen ∧ Below w.heap.size w w' ∧ ∀ a, A = some a → w.heap.size ≤ a.block
/-- A call that hands back entries that it made, and an error. -/
def EyOwn (w : World) (es : List Ey) (er : Int) (e : Ending) (w' : World) : Prop :=
  ∃ (A : Option Addr) (m c : Nat), e = .returned (.tuple #[.slice A m c, .int .i64 er]) ∧ OEy w' w.heap.size (.slice A m c) es ∧ Below w.heap.size w w'
theorem EyOwn.out {w w' : World} {es : List Ey} {er : Int} {e : Ending} (h : EyOwn w es er e w') : EyOut w es er e w' := by
  obtain ⟨A, m, c, he, ho, hb⟩ := h
  obtain ⟨A9, m9, c9, hv, hm9, hc9, hin, hfr⟩ := ho.out
  injection hv with q1 q2 q3
  subst q1 q2 q3
  exact ⟨A, m, c, he, hin, hm9, hc9, hb, fun a ha => (hfr a ha).1⟩
theorem prgR_step (M : Nat) (n : Int) (k : Nat) (e : Int) (l : List Ey) (st : Option (List UInt8)) : prgR M n (k + 1) e l st =
    if (nextP M st n).2 = 2 then ([], 2)
    else if e = 0 then prgR M n k (chk1 n (lastC l) (nextP M st n).2 ⟨(nextP M st n).1, nval 1 (rnext M st)⟩) (l ++ [⟨(nextP M st n).1, nval 1 (rnext M st)⟩]) (nnext 1 (rnext M st))
    else prgR M n k e l (nnext 1 (rnext M st)) := rfl

set_option maxHeartbeats 8000000 in
set_option maxRecDepth 100000 in
theorem parseB_own (xs : List UInt8) (N : Int) (A : Option Addr) (n c : Nat) (w : World) (h : By w (fun _ => True) A n xs) (hn : n ≤ 1000000) :
    Calls Tryd.prog 14 #[.slice A n c, .int .i64 N] w (EyOwn w (parseG xs N).1 (parseG xs N).2) := by
  have HRead : Hid (Calls Tryd.prog 26 #[.slice A n c] w fun e w' => ∃ g, e = .returned (.pointer (some ⟨g, 0, none⟩)) ∧ Rs (fun b => w.heap.size ≤ b) w' g tR (some xs) ∧ Below w.heap.size w w' ∧ w.heap.size ≤ g) := Lib.hid (read_rs h (by omega))
  have hxl : xs.length = n := h.len
  obtain ⟨OUT, hO⟩ : ∃ OUT, parseG xs N = OUT := ⟨_, rfl⟩
  rw [hO]
  have hO2 : prgR n N (nval 2 (some xs)) (sizesE (nval 2 (some xs)) N) [] (nnext 2 (some xs)) = OUT := by rw [← hO, ← hxl]; rfl
  have HNum : Hid (∀ (Q : Nat → Prop) (g : Nat) (W : World), Rs Q W g tR (some xs) → Calls Tryd.prog 27 #[.pointer (some ⟨g, 0, none⟩), .int .i64 2] W fun e w' => e = .returned (.int .u64 ((nval 2 (some xs) : Nat) : Int)) ∧ Rs Q w' g tR (nnext 2 (some xs)) ∧ W.grownBy w' (some g)) := Lib.hid (fun Q g W hR => number_rs hR 2 rfl)
  have hk : nval 2 (some xs) ≤ 65535 := by have := nval_lt 2 (some xs); have e9 : (256 : Nat) ^ 2 = 65536 := (by decide); omega
  have hs0 : stL (nnext 2 (some xs)) ≤ 1000000 := Nat.le_trans (nnext_stL _ _) (by show xs.length ≤ _; omega)
  have hcv := fun W : World => conv_small 58 3 Tryd.underlying58 Tryd.underlying3 (nval 2 (some xs)) (by omega) W
  generalize nval 2 (some xs) = k0 at *
  generalize nnext 2 (some xs) = s0 at *
  have hsz : sizesE k0 N = 0 → 1 ≤ N ∧ N ≤ 7 := fun h9 => by
    unfold sizesE at h9
    split at h9
    · cases h9
    · omega
  have HSz : Hid (∀ W : World, Calls Tryd.prog 28 #[.int .i64 (k0 : Int), .int .i64 N] W fun e w' => e = .returned (.int .i64 (sizesE k0 N)) ∧ w' = W) := Lib.hid (fun W => checksizes_any k0 N W)
  generalize sizesE k0 N = z0 at *
  have HO2 := Lib.hid hO2
  have HK := Lib.hid hk
  have HS0 := Lib.hid hs0
  have HSZ := Lib.hid hsz
  clear h hxl hO hO2 hs0 hsz
  go_enter Tryd.func14, Tryd.ntmps14
  go_wp2_with (first
    | (go_at_call 26; (with_reducible refine (HRead.out).mono ?_); rintro e w1 ⟨g, rfl, hr1, hb1, hgg⟩; have HR1 := Lib.hid hr1.lt_; have HX1 := Lib.hid hb1; have HGg := Lib.hid hgg; have HLT := Lib.hid hr1.lt; clear hr1 hb1 hgg)
    | (go_at_call 27; (with_reducible refine (HNum.out _ _ _ HR1.out).mono ?_); rintro e w2 ⟨rfl, hr2, hg2⟩; have HR2 := Lib.hid hr2; have HG2 := Lib.hid hg2; clear hr2 hg2)
    | (go_at_call 28; (with_reducible refine (HSz.out _).mono ?_); rintro e w3 ⟨rfl, hw3⟩; obtain rfl : w2 = w3 := hw3.symm))
  go_loopw [8, 9, 21] (fun ev lv iv wr => ∃ (i : Nat) (er : Int) (pre : List Ey) (s : Option (List UInt8)), i ≤ k0 ∧ iv = .int .i64 i ∧ ev = .int .i64 er ∧ pre.length ≤ i ∧ prgR n N (k0 - i) er pre s = OUT ∧ (er = 0 → 1 ≤ N ∧ N ≤ 7) ∧ OEy wr w1.heap.size lv pre ∧ Rs (fun b => b < w1.heap.size) wr g tR s ∧ stL s ≤ 1000000 ∧ w1.grownBy wr (some g)) (fun _ _ iv _ => k0 - (intOf iv).toNat)
  case atStart => exact ⟨0, z0, [], s0, Nat.zero_le _, rfl, rfl, Nat.le_refl _, HO2.out, HSZ.out, OEy.nil _ _, HR2.out, HS0.out, HG2.out⟩
  case round =>
    obtain ⟨i, er, pre, s, hi, rfl, rfl, hpl, hp, hN, ho, hr, hsl, hg⟩ := hrel
    have HPl := Lib.hid (Nat.le_trans hpl hi)
    have HN := Lib.hid hN
    have HR := Lib.hid hr
    have HG := Lib.hid hg
    have HSl := Lib.hid hsl
    have HPi := Lib.hid hpl
    obtain ⟨A3, m3, c3, rfl, hmc, hcm, hin, hfr⟩ := ho.out
    have HO := Lib.hid ho
    clear hpl hN hr hg ho hfr hin
    by_cases hlt : i < k0
    · rw [show k0 - i = (k0 - (i + 1)) + 1 by omega, prgR_step] at hp
      have HRe := Lib.hid (readentry_any g s n N wr HR.out (fun b hb => Nat.lt_of_lt_of_le hb HG.out.size) HSl.out)
      have hs2 : stL (nnext 1 (rnext n s)) ≤ 1000000 := Nat.le_trans (nnext_stL _ _) (Nat.le_trans (rnext_stL _ _) HSl.out)
      have hms : nval 1 (rnext n s) < 4294967296 := by have := nval_lt 1 (rnext n s); simp only [e1] at this; omega
      generalize nextP n s N = P at *
      generalize nval 1 (rnext n s) = ms at *
      generalize nnext 1 (rnext n s) = s2 at *
      obtain ⟨c0, e2⟩ := P
      simp only at hp HRe
      have HMs := Lib.hid hms
      have HS2 := Lib.hid hs2
      by_cases h2 : e2 = 2
      case pos =>
        subst h2
        rw [if_pos rfl] at hp
        have HP : Hid (OUT = ([], 2)) := Lib.hid hp.symm
        clear hp hms hs2 hsl
        go_wp2_with (first
          | (go_at_call 29; (with_reducible refine (HRe.out).mono ?_); rintro e w4 ⟨rfl, hr4, hg4⟩; have HR4 := Lib.hid (hr4.alloc (.cells #[.int .i64 c0.cl, .int .i64 c0.sp, .int .i64 c0.op, .string (ba c0.lt), .int .i64 c0.a, .int .i64 c0.b, .string (ba c0.tx), .int .u32 (ms : Int)] 43)); have HG4 : Hid (w1.grownBy (w4.alloc (.cells #[.int .i64 c0.cl, .int .i64 c0.sp, .int .i64 c0.op, .string (ba c0.lt), .int .i64 c0.a, .int .i64 c0.b, .string (ba c0.tx), .int .u32 (ms : Int)] 43)) (some g)) := Lib.hid (only_trans (only_trans HG.out hg4) (only_below ((Below.refl _ _).alloc (Nat.le_refl _) _))); have HO4 := Lib.hid ((HO.out.far hg4 HLT.out).alloc (.cells #[.int .i64 c0.cl, .int .i64 c0.sp, .int .i64 c0.op, .string (ba c0.lt), .int .i64 c0.a, .int .i64 c0.b, .string (ba c0.tx), .int .u32 (ms : Int)] 43)); have HB4 : Hid (Blk (w4.alloc (.cells #[.int .i64 c0.cl, .int .i64 c0.sp, .int .i64 c0.op, .string (ba c0.lt), .int .i64 c0.a, .int .i64 c0.b, .string (ba c0.tx), .int .u32 (ms : Int)] 43)) w4.heap.size 43 [.int .i64 c0.cl, .int .i64 c0.sp, .int .i64 c0.op, .string (ba c0.lt), .int .i64 c0.a, .int .i64 c0.b, .string (ba c0.tx), .int .u32 (ms : Int)]) := Lib.hid (Blk.fresh rfl rfl); clear hr4 hg4))
        go_ret2
        rw [HP.out]
        exact ⟨none, 0, 0, rfl, OEy.nil _ _, HX1.out.grown HG4.out HX1.out.size (fun k hk => by have := Option.some.inj hk; have := HGg.out; omega)⟩
      have h2b : (e2 == 2) = false := by simpa using h2
      have h2c : (e2 != 2) = true := by simpa using h2
      rw [if_neg h2] at hp
      by_cases h0 : er = 0
      case pos =>
        subst h0
        rw [if_pos rfl] at hp
        have HCe : Hid (∀ (W : World) (D : Option Addr) (m d : Nat), OEy W w1.heap.size (.slice D m d) pre → Calls Tryd.prog 30 #[.slice D m d, .agg #[.int .i64 c0.cl, .int .i64 c0.sp, .int .i64 c0.op, .string (ba c0.lt), .int .i64 c0.a, .int .i64 c0.b, .string (ba c0.tx), .int .u32 (ms : Int)], .int .i64 e2, .int .i64 N] W fun e w' => e = .returned (.int .i64 (chk1 N (lastC pre) e2 ⟨c0, ms⟩)) ∧ Below W.heap.size W w') := Lib.hid (fun W D m d hO => by
          obtain ⟨D', m', d', hv, _, _, hin, _⟩ := hO.out
          injection hv with e1 e2 e3
          subst e1 e2 e3
          exact checkentry_any pre ⟨c0, ms⟩ _ N D m d W hin (by have := hin.len; have := HPl.out; have := HK.out; omega) (fun _ => HN.out rfl))
        have hcl : chk1 N (lastC pre) e2 ⟨c0, ms⟩ = 0 → 1 ≤ N ∧ N ≤ 7 := fun _ => HN.out rfl
        generalize chk1 N (lastC pre) e2 ⟨c0, ms⟩ = e3 at *
        have HP : Hid (prgR n N (k0 - (i + 1)) e3 (pre ++ [⟨c0, ms⟩]) s2 = OUT) := Lib.hid hp
        have HCl := Lib.hid hcl
        clear hp hms hs2 hsl h2 hcl
        go_wp2_with (first
          | (go_at_call 29; (with_reducible refine (HRe.out).mono ?_); rintro e w4 ⟨rfl, hr4, hg4⟩; have HR4 := Lib.hid (hr4.alloc (.cells #[.int .i64 c0.cl, .int .i64 c0.sp, .int .i64 c0.op, .string (ba c0.lt), .int .i64 c0.a, .int .i64 c0.b, .string (ba c0.tx), .int .u32 (ms : Int)] 43)); have HG4 : Hid (w1.grownBy (w4.alloc (.cells #[.int .i64 c0.cl, .int .i64 c0.sp, .int .i64 c0.op, .string (ba c0.lt), .int .i64 c0.a, .int .i64 c0.b, .string (ba c0.tx), .int .u32 (ms : Int)] 43)) (some g)) := Lib.hid (only_trans (only_trans HG.out hg4) (only_below ((Below.refl _ _).alloc (Nat.le_refl _) _))); have HO4 := Lib.hid ((HO.out.far hg4 HLT.out).alloc (.cells #[.int .i64 c0.cl, .int .i64 c0.sp, .int .i64 c0.op, .string (ba c0.lt), .int .i64 c0.a, .int .i64 c0.b, .string (ba c0.tx), .int .u32 (ms : Int)] 43)); have HB4 : Hid (Blk (w4.alloc (.cells #[.int .i64 c0.cl, .int .i64 c0.sp, .int .i64 c0.op, .string (ba c0.lt), .int .i64 c0.a, .int .i64 c0.b, .string (ba c0.tx), .int .u32 (ms : Int)] 43)) w4.heap.size 43 [.int .i64 c0.cl, .int .i64 c0.sp, .int .i64 c0.op, .string (ba c0.lt), .int .i64 c0.a, .int .i64 c0.b, .string (ba c0.tx), .int .u32 (ms : Int)]) := Lib.hid (Blk.fresh rfl rfl); clear hr4 hg4)
          | (refine wpList_load_blk rfl 43 (.tmp 10) rfl w4.heap.size rfl 43 [.int .i64 c0.cl, .int .i64 c0.sp, .int .i64 c0.op, .string (ba c0.lt), .int .i64 c0.a, .int .i64 c0.b, .string (ba c0.tx), .int .u32 (ms : Int)] _ HB4.out Tryd.underlying43 rfl (by kernel_rfl) ?_)
          | (go_at_call 30; (with_reducible refine (HCe.out _ _ _ _ HO4.out).mono ?_); rintro e w5 ⟨rfl, hb5⟩; have HR5 := Lib.hid (HR4.out.below hb5); have HG5 := Lib.hid (only_trans HG4.out (only_below hb5)); have HO5 := Lib.hid (HO4.out.through hb5); have HB5 := Lib.hid (HB4.out.through hb5); clear hb5)
          | (refine wpList_load_blk rfl 43 (.tmp 10) rfl w4.heap.size rfl 43 [.int .i64 c0.cl, .int .i64 c0.sp, .int .i64 c0.op, .string (ba c0.lt), .int .i64 c0.a, .int .i64 c0.b, .string (ba c0.tx), .int .u32 (ms : Int)] _ HB5.out Tryd.underlying43 rfl (by kernel_rfl) ?_)
          | (refine wpList_build_el rfl Tryd.el_ey (.tmp 41) rfl [.int .i64 c0.cl, .int .i64 c0.sp, .int .i64 c0.op, .string (ba c0.lt), .int .i64 c0.a, .int .i64 c0.b, .string (ba c0.tx), .int .u32 (ms : Int)] rfl rfl ?_)
          | (at_builtin; refine wpList_append_el rfl Tryd.el_ey (.tmp 40) (.tmp 42) rfl w1.heap.size _ (pre.map Ey.cells) rfl (HO5.out.1.alloc (.cells #[.int .i64 c0.cl, .int .i64 c0.sp, .int .i64 c0.op, .string (ba c0.lt), .int .i64 c0.a, .int .i64 c0.b, .string (ba c0.tx), .int .u32 (ms : Int)] 43)) _ [.int .i64 c0.cl, .int .i64 c0.sp, .int .i64 c0.op, .string (ba c0.lt), .int .i64 c0.a, .int .i64 c0.b, .string (ba c0.tx), .int .u32 (ms : Int)] rfl (Blk.fresh rfl rfl) rfl (Ey.one ⟨c0, ms⟩) (by rw [List.length_map]; have := HPl.out; have := HK.out; omega) (by have := HG5.out.size; (try simp); omega) ?_; intro v6 w6 ho6 hg6; have HO6 : Hid (OEy w6 w1.heap.size v6 (pre ++ [⟨c0, ms⟩])) := Lib.hid (OEy.snoc ho6 HO5.out.2 HMs.out); have HR6 := Lib.hid ((HR5.out.alloc (.cells #[.int .i64 c0.cl, .int .i64 c0.sp, .int .i64 c0.op, .string (ba c0.lt), .int .i64 c0.a, .int .i64 c0.b, .string (ba c0.tx), .int .u32 (ms : Int)] 43)).other hg6 (fun b hb => ⟨by have := (HO5.out.1.lt b hb).1; have := HLT.out; omega, fun h9 => by have := (HO5.out.1.lt b hb).1; omega⟩)); have HG6 : Hid (w1.grownBy w6 (some g)) := Lib.hid (only_own_ (only_trans HG5.out (only_below ((Below.refl _ _).alloc (Nat.le_refl _) (.cells #[.int .i64 c0.cl, .int .i64 c0.sp, .int .i64 c0.op, .string (ba c0.lt), .int .i64 c0.a, .int .i64 c0.b, .string (ba c0.tx), .int .u32 (ms : Int)] 43)))) hg6 (fun b hb => (HO5.out.1.lt b hb).1)); clear ho6 hg6))
        go_roundw
        case rel => exact ⟨i + 1, e3, pre ++ [⟨c0, ms⟩], s2, by omega, by go_num, rfl, by (have := HPi.out; simp; omega), HP.out, HCl.out, HO6.out, HR6.out, HS2.out, HG6.out⟩
        case measure => simp [intOf]; omega
      case neg =>
        have h0b : (er == 0) = false := by simpa using h0
        have h0c : (er != 0) = true := by simpa using h0
        rw [if_neg h0] at hp
        have HP : Hid (prgR n N (k0 - (i + 1)) er pre s2 = OUT) := Lib.hid hp
        clear hp hms hs2 hsl h2 h0
        go_wp2_with (first
          | (go_at_call 29; (with_reducible refine (HRe.out).mono ?_); rintro e w4 ⟨rfl, hr4, hg4⟩; have HR4 := Lib.hid (hr4.alloc (.cells #[.int .i64 c0.cl, .int .i64 c0.sp, .int .i64 c0.op, .string (ba c0.lt), .int .i64 c0.a, .int .i64 c0.b, .string (ba c0.tx), .int .u32 (ms : Int)] 43)); have HG4 : Hid (w1.grownBy (w4.alloc (.cells #[.int .i64 c0.cl, .int .i64 c0.sp, .int .i64 c0.op, .string (ba c0.lt), .int .i64 c0.a, .int .i64 c0.b, .string (ba c0.tx), .int .u32 (ms : Int)] 43)) (some g)) := Lib.hid (only_trans (only_trans HG.out hg4) (only_below ((Below.refl _ _).alloc (Nat.le_refl _) _))); have HO4 := Lib.hid ((HO.out.far hg4 HLT.out).alloc (.cells #[.int .i64 c0.cl, .int .i64 c0.sp, .int .i64 c0.op, .string (ba c0.lt), .int .i64 c0.a, .int .i64 c0.b, .string (ba c0.tx), .int .u32 (ms : Int)] 43)); have HB4 : Hid (Blk (w4.alloc (.cells #[.int .i64 c0.cl, .int .i64 c0.sp, .int .i64 c0.op, .string (ba c0.lt), .int .i64 c0.a, .int .i64 c0.b, .string (ba c0.tx), .int .u32 (ms : Int)] 43)) w4.heap.size 43 [.int .i64 c0.cl, .int .i64 c0.sp, .int .i64 c0.op, .string (ba c0.lt), .int .i64 c0.a, .int .i64 c0.b, .string (ba c0.tx), .int .u32 (ms : Int)]) := Lib.hid (Blk.fresh rfl rfl); clear hr4 hg4))
        go_roundw
        case rel => exact ⟨i + 1, er, pre, s2, by omega, by go_num, rfl, by (have := HPi.out; omega), HP.out, HN.out, HO4.out, HR4.out, HS2.out, HG4.out⟩
        case measure => simp [intOf]; omega
    · obtain rfl : i = k0 := by omega
      rw [Nat.sub_self] at hp
      have hp2 : (if s = some [] then (if er = 0 then (pre, 0) else ([], er)) else ([], 2)) = OUT := hp
      clear hp hsl
      by_cases hs : s = some []
      case neg =>
        rw [if_neg hs] at hp2
        have HP : Hid (OUT = ([], 2)) := Lib.hid hp2.symm
        have HST := Lib.hid hs
        clear hp2 hs
        go_wp2_with (first
          | (go_at_call 31; (refine (end_rs HR.out).mono ?_); rintro e w10 ⟨x, rfl, hx, hww⟩; obtain rfl : wr = w10 := hww; have hx0 : ¬ x = 0 := (fun h9 => HST.out (hx.1 h9)); have hxb : (x == 0) = false := (by simpa using hx0); have hxd : (x != 0) = true := (by simpa using hx0); clear hx hx0))
        go_ret2
        rw [HP.out]
        exact ⟨none, 0, 0, rfl, OEy.nil _ _, HX1.out.grown HG.out HX1.out.size (fun k hk => by have := Option.some.inj hk; have := HGg.out; omega)⟩
      rw [if_pos hs] at hp2
      have HST := Lib.hid hs
      clear hs
      by_cases h0 : er = 0
      case neg =>
        have h0b : (er == 0) = false := by simpa using h0
        have h0c : (er != 0) = true := by simpa using h0
        rw [if_neg h0] at hp2
        have HP : Hid (OUT = ([], er)) := Lib.hid hp2.symm
        clear hp2 h0
        go_wp2_with (first
          | (go_at_call 31; (refine (end_rs HR.out).mono ?_); rintro e w10 ⟨x, rfl, hx, hww⟩; obtain rfl : wr = w10 := hww; have hx0 : x = 0 := hx.2 HST.out; subst hx0; clear hx))
        go_ret2
        rw [HP.out]
        exact ⟨none, 0, 0, rfl, OEy.nil _ _, HX1.out.grown HG.out HX1.out.size (fun k hk => by have := Option.some.inj hk; have := HGg.out; omega)⟩
      subst h0
      rw [if_pos rfl] at hp2
      have HP : Hid (OUT = (pre, 0)) := Lib.hid hp2.symm
      clear hp2
      go_wp2_with (first
        | (go_at_call 31; (refine (end_rs HR.out).mono ?_); rintro e w10 ⟨x, rfl, hx, hww⟩; obtain rfl : wr = w10 := hww; have hx0 : x = 0 := hx.2 HST.out; subst hx0; clear hx))
      go_ret2
      rw [HP.out]
      exact ⟨_, _, _, rfl, ⟨HO.out.1.weak HX1.out.size, HO.out.2⟩, HX1.out.grown HG.out HX1.out.size (fun k hk => by have := Option.some.inj hk; have := HGg.out; omega)⟩
theorem parseB_any (xs : List UInt8) (N : Int) (A : Option Addr) (n c : Nat) (w : World) (h : By w (fun _ => True) A n xs) (hn : n ≤ 1000000) :
    Calls Tryd.prog 14 #[.slice A n c, .int .i64 N] w (EyOut w (parseG xs N).1 (parseG xs N).2) := (parseB_own xs N A n c w h hn).mono fun _ _ h => h.out
end

section
open Go.RowKit
set_option maxHeartbeats 8000000 in
set_option maxRecDepth 100000 in
theorem equal_any (a b : List Ey) (A : Option Addr) (n c : Nat) (B : Option Addr) (m d : Nat) (w : World) (h : EysIn w A n a) (h' : EysIn w B m b) (hn : n ≤ 9223372036854775807) :
    Calls Tryd.prog 19 #[.slice A n c, .slice B m d] w fun e w' => e = .returned (.bool (sameB a b)) ∧ Below w.heap.size w w' := by
  have HI := Lib.hid h
  have HJ := Lib.hid h'
  obtain ⟨bb, hbb⟩ : ∃ bb, sameB a b = bb := ⟨_, rfl⟩
  rw [hbb]
  by_cases s2 : n = m
  case neg =>
    have s2i : ¬ (n : Int) = (m : Int) := by omega
    have s2b : ((n : Int) == (m : Int)) = false := by simpa using s2i
    have s2d : ((n : Int) != (m : Int)) = true := by simpa using s2i
    have s2c : (n == m) = false := by simpa using s2
    have s2e : (n != m) = true := by simpa using s2
    have HV : Hid (bb = false) := Lib.hid (by rw [← hbb]; cases hb : sameB a b; rfl; exact absurd (allB_len hb) (by rw [h.len, h'.len]; exact s2))
    clear h h' hbb s2 s2i
    go_enter Tryd.func19, Tryd.ntmps19
    go_wp2
    go_ret
    exact ⟨ret_b HV.out.symm, Below.refl _ _⟩
  subst s2
  have HLn := Lib.hid h.len
  have HLm := Lib.hid h'.len
  have HBB : Hid (allB Ey.eqb a b = bb) := Lib.hid hbb
  clear h h' hbb
  go_enter Tryd.func19, Tryd.ntmps19
  go_wp2
  go_loopw [13] (fun iv wr => ∃ i : Nat, i ≤ n ∧ iv = .int .i64 i ∧ bb = allB Ey.eqb (a.drop i) (b.drop i) ∧ Below w.heap.size w wr) (fun iv _ => n - (intOf iv).toNat)
  case atStart => exact ⟨0, Nat.zero_le _, rfl, HBB.out.symm, Below.refl _ _⟩
  case round =>
    obtain ⟨i, hi, rfl, hp, hx⟩ := hrel
    have HX := Lib.hid hx
    by_cases hlt : i < n
    · obtain ⟨g, o, x, rfl, _, _, hd, hrx⟩ := (HI.out.through HX.out).at hlt
      obtain ⟨g', o', y, rfl, _, _, hd', hry⟩ := (HJ.out.through HX.out).at hlt
      rw [hd, hd'] at hp
      have hix := fun (W : World) => Tryd.ix_ey W g o n c i hlt
      have hix' := fun (W : World) => Tryd.ix_ey W g' o' n d i hlt
      have hne := neq_ey x y
      cases s0 : x.eqb y with
      | false =>
        rw [s0] at hne
        have HV : Hid (bb = false) := Lib.hid (by rw [hp]; simp [allB, s0])
        have p0 : wr.cell? ⟨g, o + i * 8, none⟩ = some (.int .i64 x.co.cl) := hrx 0 _ rfl
        have p1 : wr.cell? ⟨g, o + i * 8 + 1, none⟩ = some (.int .i64 x.co.sp) := hrx 1 _ rfl
        have p2 : wr.cell? ⟨g, o + i * 8 + 2, none⟩ = some (.int .i64 x.co.op) := hrx 2 _ rfl
        have p3 : wr.cell? ⟨g, o + i * 8 + 3, none⟩ = some (.string (ba x.co.lt)) := hrx 3 _ rfl
        have p4 : wr.cell? ⟨g, o + i * 8 + 4, none⟩ = some (.int .i64 x.co.a) := hrx 4 _ rfl
        have p5 : wr.cell? ⟨g, o + i * 8 + 5, none⟩ = some (.int .i64 x.co.b) := hrx 5 _ rfl
        have p6 : wr.cell? ⟨g, o + i * 8 + 6, none⟩ = some (.string (ba x.co.tx)) := hrx 6 _ rfl
        have p7 : wr.cell? ⟨g, o + i * 8 + 7, none⟩ = some (.int .u32 (x.ms : Int)) := hrx 7 _ rfl
        have q0 : wr.cell? ⟨g', o' + i * 8, none⟩ = some (.int .i64 y.co.cl) := hry 0 _ rfl
        have q1 : wr.cell? ⟨g', o' + i * 8 + 1, none⟩ = some (.int .i64 y.co.sp) := hry 1 _ rfl
        have q2 : wr.cell? ⟨g', o' + i * 8 + 2, none⟩ = some (.int .i64 y.co.op) := hry 2 _ rfl
        have q3 : wr.cell? ⟨g', o' + i * 8 + 3, none⟩ = some (.string (ba y.co.lt)) := hry 3 _ rfl
        have q4 : wr.cell? ⟨g', o' + i * 8 + 4, none⟩ = some (.int .i64 y.co.a) := hry 4 _ rfl
        have q5 : wr.cell? ⟨g', o' + i * 8 + 5, none⟩ = some (.int .i64 y.co.b) := hry 5 _ rfl
        have q6 : wr.cell? ⟨g', o' + i * 8 + 6, none⟩ = some (.string (ba y.co.tx)) := hry 6 _ rfl
        have q7 : wr.cell? ⟨g', o' + i * 8 + 7, none⟩ = some (.int .u32 (y.ms : Int)) := hry 7 _ rfl
        clear hp hd hd' s0 hrx hry hx
        go_wp2
        go_quiet (fail)
        go_wp2
        go_ret
        exact ⟨ret_b HV.out.symm, below_drewN HX.out _⟩
      | true =>
        rw [s0] at hne
        have HV : Hid (bb = allB Ey.eqb (a.drop (i + 1)) (b.drop (i + 1))) := Lib.hid (by rw [hp]; simp [allB, s0])
        have p0 : wr.cell? ⟨g, o + i * 8, none⟩ = some (.int .i64 x.co.cl) := hrx 0 _ rfl
        have p1 : wr.cell? ⟨g, o + i * 8 + 1, none⟩ = some (.int .i64 x.co.sp) := hrx 1 _ rfl
        have p2 : wr.cell? ⟨g, o + i * 8 + 2, none⟩ = some (.int .i64 x.co.op) := hrx 2 _ rfl
        have p3 : wr.cell? ⟨g, o + i * 8 + 3, none⟩ = some (.string (ba x.co.lt)) := hrx 3 _ rfl
        have p4 : wr.cell? ⟨g, o + i * 8 + 4, none⟩ = some (.int .i64 x.co.a) := hrx 4 _ rfl
        have p5 : wr.cell? ⟨g, o + i * 8 + 5, none⟩ = some (.int .i64 x.co.b) := hrx 5 _ rfl
        have p6 : wr.cell? ⟨g, o + i * 8 + 6, none⟩ = some (.string (ba x.co.tx)) := hrx 6 _ rfl
        have p7 : wr.cell? ⟨g, o + i * 8 + 7, none⟩ = some (.int .u32 (x.ms : Int)) := hrx 7 _ rfl
        have q0 : wr.cell? ⟨g', o' + i * 8, none⟩ = some (.int .i64 y.co.cl) := hry 0 _ rfl
        have q1 : wr.cell? ⟨g', o' + i * 8 + 1, none⟩ = some (.int .i64 y.co.sp) := hry 1 _ rfl
        have q2 : wr.cell? ⟨g', o' + i * 8 + 2, none⟩ = some (.int .i64 y.co.op) := hry 2 _ rfl
        have q3 : wr.cell? ⟨g', o' + i * 8 + 3, none⟩ = some (.string (ba y.co.lt)) := hry 3 _ rfl
        have q4 : wr.cell? ⟨g', o' + i * 8 + 4, none⟩ = some (.int .i64 y.co.a) := hry 4 _ rfl
        have q5 : wr.cell? ⟨g', o' + i * 8 + 5, none⟩ = some (.int .i64 y.co.b) := hry 5 _ rfl
        have q6 : wr.cell? ⟨g', o' + i * 8 + 6, none⟩ = some (.string (ba y.co.tx)) := hry 6 _ rfl
        have q7 : wr.cell? ⟨g', o' + i * 8 + 7, none⟩ = some (.int .u32 (y.ms : Int)) := hry 7 _ rfl
        clear hp hd hd' s0 hrx hry hx
        go_wp2
        go_quiet (fail)
        go_wp2
        go_roundw
        case rel => exact ⟨i + 1, by omega, by go_num, HV.out, below_drewN HX.out _⟩
        case measure => simp [intOf]; omega
    · have e : a.drop i = [] := List.drop_of_length_le (by have := HLn.out; omega)
      have e' : b.drop i = [] := List.drop_of_length_le (by have := HLm.out; omega)
      rw [e, e'] at hp
      have HV : Hid (bb = true) := Lib.hid hp
      clear hp e e'
      go_wp2
      go_ret
      exact ⟨ret_b HV.out.symm, HX.out⟩

set_option maxHeartbeats 8000000 in
set_option maxRecDepth 100000 in
theorem rsame15_any (a b : List Ey) (A : Option Addr) (n c : Nat) (B : Option Addr) (m d : Nat) (w : World) (h : EysIn w A n a) (h' : EysIn w B m b) (hn : n ≤ 9223372036854775807) :
    Calls Tryd.prog 10 #[.slice A n c, .slice B m d] w fun e w' => e = .returned (.bool (sameB a b)) ∧ Below w.heap.size w w' := by
  have HI := Lib.hid h
  have HJ := Lib.hid h'
  obtain ⟨bb, hbb⟩ : ∃ bb, sameB a b = bb := ⟨_, rfl⟩
  rw [hbb]
  by_cases s2 : n = m
  case neg =>
    have s2i : ¬ (n : Int) = (m : Int) := by omega
    have s2b : ((n : Int) == (m : Int)) = false := by simpa using s2i
    have s2d : ((n : Int) != (m : Int)) = true := by simpa using s2i
    have s2c : (n == m) = false := by simpa using s2
    have s2e : (n != m) = true := by simpa using s2
    have HV : Hid (bb = false) := Lib.hid (by rw [← hbb]; cases hb : sameB a b; rfl; exact absurd (allB_len hb) (by rw [h.len, h'.len]; exact s2))
    clear h h' hbb s2 s2i
    go_enter Tryd.func10, Tryd.ntmps10
    go_wp2
    go_ret
    exact ⟨ret_b HV.out.symm, Below.refl _ _⟩
  subst s2
  have HLn := Lib.hid h.len
  have HLm := Lib.hid h'.len
  have HBB : Hid (allB Ey.eqb a b = bb) := Lib.hid hbb
  clear h h' hbb
  go_enter Tryd.func10, Tryd.ntmps10
  go_wp2
  go_loopw [13] (fun iv wr => ∃ i : Nat, i ≤ n ∧ iv = .int .i64 i ∧ bb = allB Ey.eqb (a.drop i) (b.drop i) ∧ Below w.heap.size w wr) (fun iv _ => n - (intOf iv).toNat)
  case atStart => exact ⟨0, Nat.zero_le _, rfl, HBB.out.symm, Below.refl _ _⟩
  case round =>
    obtain ⟨i, hi, rfl, hp, hx⟩ := hrel
    have HX := Lib.hid hx
    by_cases hlt : i < n
    · obtain ⟨g, o, x, rfl, _, _, hd, hrx⟩ := (HI.out.through HX.out).at hlt
      obtain ⟨g', o', y, rfl, _, _, hd', hry⟩ := (HJ.out.through HX.out).at hlt
      rw [hd, hd'] at hp
      have hix := fun (W : World) => Tryd.ix_ey W g o n c i hlt
      have hix' := fun (W : World) => Tryd.ix_ey W g' o' n d i hlt
      have hne := neq_ey x y
      cases s0 : x.eqb y with
      | false =>
        rw [s0] at hne
        have HV : Hid (bb = false) := Lib.hid (by rw [hp]; simp [allB, s0])
        have p0 : wr.cell? ⟨g, o + i * 8, none⟩ = some (.int .i64 x.co.cl) := hrx 0 _ rfl
        have p1 : wr.cell? ⟨g, o + i * 8 + 1, none⟩ = some (.int .i64 x.co.sp) := hrx 1 _ rfl
        have p2 : wr.cell? ⟨g, o + i * 8 + 2, none⟩ = some (.int .i64 x.co.op) := hrx 2 _ rfl
        have p3 : wr.cell? ⟨g, o + i * 8 + 3, none⟩ = some (.string (ba x.co.lt)) := hrx 3 _ rfl
        have p4 : wr.cell? ⟨g, o + i * 8 + 4, none⟩ = some (.int .i64 x.co.a) := hrx 4 _ rfl
        have p5 : wr.cell? ⟨g, o + i * 8 + 5, none⟩ = some (.int .i64 x.co.b) := hrx 5 _ rfl
        have p6 : wr.cell? ⟨g, o + i * 8 + 6, none⟩ = some (.string (ba x.co.tx)) := hrx 6 _ rfl
        have p7 : wr.cell? ⟨g, o + i * 8 + 7, none⟩ = some (.int .u32 (x.ms : Int)) := hrx 7 _ rfl
        have q0 : wr.cell? ⟨g', o' + i * 8, none⟩ = some (.int .i64 y.co.cl) := hry 0 _ rfl
        have q1 : wr.cell? ⟨g', o' + i * 8 + 1, none⟩ = some (.int .i64 y.co.sp) := hry 1 _ rfl
        have q2 : wr.cell? ⟨g', o' + i * 8 + 2, none⟩ = some (.int .i64 y.co.op) := hry 2 _ rfl
        have q3 : wr.cell? ⟨g', o' + i * 8 + 3, none⟩ = some (.string (ba y.co.lt)) := hry 3 _ rfl
        have q4 : wr.cell? ⟨g', o' + i * 8 + 4, none⟩ = some (.int .i64 y.co.a) := hry 4 _ rfl
        have q5 : wr.cell? ⟨g', o' + i * 8 + 5, none⟩ = some (.int .i64 y.co.b) := hry 5 _ rfl
        have q6 : wr.cell? ⟨g', o' + i * 8 + 6, none⟩ = some (.string (ba y.co.tx)) := hry 6 _ rfl
        have q7 : wr.cell? ⟨g', o' + i * 8 + 7, none⟩ = some (.int .u32 (y.ms : Int)) := hry 7 _ rfl
        clear hp hd hd' s0 hrx hry hx
        go_wp2
        go_quiet (fail)
        go_wp2
        go_ret
        exact ⟨ret_b HV.out.symm, below_drewN HX.out _⟩
      | true =>
        rw [s0] at hne
        have HV : Hid (bb = allB Ey.eqb (a.drop (i + 1)) (b.drop (i + 1))) := Lib.hid (by rw [hp]; simp [allB, s0])
        have p0 : wr.cell? ⟨g, o + i * 8, none⟩ = some (.int .i64 x.co.cl) := hrx 0 _ rfl
        have p1 : wr.cell? ⟨g, o + i * 8 + 1, none⟩ = some (.int .i64 x.co.sp) := hrx 1 _ rfl
        have p2 : wr.cell? ⟨g, o + i * 8 + 2, none⟩ = some (.int .i64 x.co.op) := hrx 2 _ rfl
        have p3 : wr.cell? ⟨g, o + i * 8 + 3, none⟩ = some (.string (ba x.co.lt)) := hrx 3 _ rfl
        have p4 : wr.cell? ⟨g, o + i * 8 + 4, none⟩ = some (.int .i64 x.co.a) := hrx 4 _ rfl
        have p5 : wr.cell? ⟨g, o + i * 8 + 5, none⟩ = some (.int .i64 x.co.b) := hrx 5 _ rfl
        have p6 : wr.cell? ⟨g, o + i * 8 + 6, none⟩ = some (.string (ba x.co.tx)) := hrx 6 _ rfl
        have p7 : wr.cell? ⟨g, o + i * 8 + 7, none⟩ = some (.int .u32 (x.ms : Int)) := hrx 7 _ rfl
        have q0 : wr.cell? ⟨g', o' + i * 8, none⟩ = some (.int .i64 y.co.cl) := hry 0 _ rfl
        have q1 : wr.cell? ⟨g', o' + i * 8 + 1, none⟩ = some (.int .i64 y.co.sp) := hry 1 _ rfl
        have q2 : wr.cell? ⟨g', o' + i * 8 + 2, none⟩ = some (.int .i64 y.co.op) := hry 2 _ rfl
        have q3 : wr.cell? ⟨g', o' + i * 8 + 3, none⟩ = some (.string (ba y.co.lt)) := hry 3 _ rfl
        have q4 : wr.cell? ⟨g', o' + i * 8 + 4, none⟩ = some (.int .i64 y.co.a) := hry 4 _ rfl
        have q5 : wr.cell? ⟨g', o' + i * 8 + 5, none⟩ = some (.int .i64 y.co.b) := hry 5 _ rfl
        have q6 : wr.cell? ⟨g', o' + i * 8 + 6, none⟩ = some (.string (ba y.co.tx)) := hry 6 _ rfl
        have q7 : wr.cell? ⟨g', o' + i * 8 + 7, none⟩ = some (.int .u32 (y.ms : Int)) := hry 7 _ rfl
        clear hp hd hd' s0 hrx hry hx
        go_wp2
        go_quiet (fail)
        go_wp2
        go_roundw
        case rel => exact ⟨i + 1, by omega, by go_num, HV.out, below_drewN HX.out _⟩
        case measure => simp [intOf]; omega
    · have e : a.drop i = [] := List.drop_of_length_le (by have := HLn.out; omega)
      have e' : b.drop i = [] := List.drop_of_length_le (by have := HLm.out; omega)
      rw [e, e'] at hp
      have HV : Hid (bb = true) := Lib.hid hp
      clear hp e e'
      go_wp2
      go_ret
      exact ⟨ret_b HV.out.symm, HX.out⟩

theorem sameB_any (a b : List Ey) (A : Option Addr) (n c : Nat) (B : Option Addr) (m d : Nat) (w : World) (h : EysIn w A n a) (h' : EysIn w B m b) (hn : n ≤ 9223372036854775807) :
    Calls Tryd.prog 9 #[.slice A n c, .slice B m d] w fun e w' => e = .returned (.bool (sameB a b)) ∧ Below w.heap.size w w' := by
  have HE := Lib.hid (equal_any a b A n c B m d w h h' hn)
  clear h h'
  go_enter Tryd.func9, Tryd.ntmps9
  go_wp2_with (first
    | (go_at_call 19; (with_reducible refine (HE.out).mono ?_); rintro e w1 ⟨rfl, hb⟩; have HX := Lib.hid hb; clear hb))
  go_ret
  exact ⟨rfl, HX.out⟩
end

end Go.Proofs.YtgbobemhogeeeaaDoor
