/-
  BaG
-/
import Derived.Deep.RegionHeld
import Derived.Test.YtheecifgbkdecaaSM15
namespace Go.Proofs.Ytheecifgbkdecaa
open Go.RowKit

section
variable {w w' : World} {B : Nat} {v : Value} {es : List Ey}
theorem OEy.far {g : Nat} (h : OEy w B v es) (hb : w.grownBy w' (some g)) (hg : g < B) : OEy w' B v es := ⟨h.1.far hb hg, h.2⟩
theorem OEy.alloc (h : OEy w B v es) (o : Obj) : OEy (w.alloc o) B v es := ⟨h.1.alloc o, h.2⟩
theorem OEy.through (h : OEy w B v es) (hb : Below w.heap.size w w') : OEy w' B v es := ⟨h.1.through hb, h.2⟩
end
/-- A call that hands back entries and an error: they lie in memory of its own. -/
def EyOut (w : World) (es : List Ey) (er : Int) (e : Ending) (w' : World) : Prop :=
 ∃ (A : Option Addr) (m c : Nat), e = .returned (.tuple #[.slice A m c, .int .i64 er]) ∧ EysIn w' A m es ∧ m ≤ c ∧ c ≤ maxLen ∧ Below w.heap.size w w' ∧ ∀ a, A = some a → w.heap.size ≤ a.block
/-- A call that hands back entries that it made, and an error. -/
def EyOwn (w : World) (es : List Ey) (er : Int) (e : Ending) (w' : World) : Prop :=
 ∃ (A : Option Addr) (m c : Nat), e = .returned (.tuple #[.slice A m c, .int .i64 er]) ∧ OEy w' w.heap.size (.slice A m c) es ∧ Below w.heap.size w w'
theorem EyOwn.out {w w' : World} {es : List Ey} {er : Int} {e : Ending} (h : EyOwn w es er e w') : EyOut w es er e w' := by
 obtain ⟨A, m, c, he, ho, hb⟩ := h
 obtain ⟨A9, m9, c9, hv, hm9, hc9, hin, hfr⟩ := ho.out
 injection hv with q1 q2 q3
 subst q1 q2 q3
 exact ⟨A, m, c, he, hin, hm9, hc9, hb, fun a ha => (hfr a ha).1⟩
theorem prgR_step (M : Nat) (n : Int) (k : Nat) (e : Int) (l : List Ey) (st : Option (List UInt8)) : prgR M n (k + 1) e l st =
  if (nextP M st n).2 = 2 then ([], 2)
  else if e = 0 then prgR M n k (chk1 n (lastC l) (nextP M st n).2 ⟨(nextP M st n).1, nval 1 (rnext M st)⟩) (l ++ [⟨(nextP M st n).1, nval 1 (rnext M st)⟩]) (nnext 1 (rnext M st))
  else prgR M n k e l (nnext 1 (rnext M st)) := rfl

set_option maxHeartbeats 8000000 in
set_option maxRecDepth 100000 in
theorem parseB_own (xs : List UInt8) (N : Int) (A : Option Addr) (n c : Nat) (w : World) (h : By w (fun _ => True) A n xs) (hn : n ≤ 1000000) :
  Calls Try.prog 47 #[.slice A n c, .int .i64 N] w (EyOwn w (parseG xs N).1 (parseG xs N).2) := by
 have HRead : Hid (Calls Try.prog 44 #[.slice A n c] w fun e w' => ∃ g, e = .returned (.pointer (some ⟨g, 0, none⟩)) ∧ Rs (fun b => w.heap.size ≤ b) w' g tR (some xs) ∧ Below w.heap.size w w' ∧ w.heap.size ≤ g) := Lib.hid (read_rs h (by omega))
 have hxl : xs.length = n := h.len
 obtain ⟨OUT, hO⟩ : ∃ OUT, parseG xs N = OUT := ⟨_, rfl⟩
 rw [hO]
 have hO2 : prgR n N (nval 2 (some xs)) (sizesE (nval 2 (some xs)) N) [] (nnext 2 (some xs)) = OUT := by rw [← hO, ← hxl]; rfl
 have HNum : Hid (∀ (Q : Nat → Prop) (g : Nat) (W : World), Rs Q W g tR (some xs) → Calls Try.prog 72 #[.pointer (some ⟨g, 0, none⟩), .int .i64 2] W fun e w' => e = .returned (.int .u64 ((nval 2 (some xs) : Nat) : Int)) ∧ Rs Q w' g tR (nnext 2 (some xs)) ∧ W.grownBy w' (some g)) := Lib.hid (fun Q g W hR => number_rs hR 2 rfl)
 have hk : nval 2 (some xs) ≤ 65535 := by have := nval_lt 2 (some xs); have e9 : (256 : Nat) ^ 2 = 65536 := (by decide); omega
 have hs0 : stL (nnext 2 (some xs)) ≤ 1000000 := Nat.le_trans (nnext_stL _ _) (by show xs.length ≤ _; omega)
 have hcv := fun W : World => conv_small 70 3 Try.underlying70 Try.underlying3 (nval 2 (some xs)) (by omega) W
 generalize nval 2 (some xs) = k0 at *
 generalize nnext 2 (some xs) = s0 at *
 have hsz : sizesE k0 N = 0 → 1 ≤ N ∧ N ≤ 7 := fun h9 => by
  unfold sizesE at h9
  split at h9
  ·cases h9
  ·omega
 have HSz : Hid (∀ W : World, Calls Try.prog 90 #[.int .i64 (k0 : Int), .int .i64 N] W fun e w' => e = .returned (.int .i64 (sizesE k0 N)) ∧ w' = W) := Lib.hid (fun W => checksizes_any k0 N W)
 generalize sizesE k0 N = z0 at *
 have HO2 := Lib.hid hO2
 have HK := Lib.hid hk
 have HS0 := Lib.hid hs0
 have HSZ := Lib.hid hsz
 clear h hxl hO hO2 hs0 hsz
 go_enter Try.func47, Try.ntmps47
 go_wp2_with (first
  | (go_at_call 44; (with_reducible refine (HRead.out).mono ?_); rintro e w1 ⟨g, rfl, hr1, hb1, hgg⟩; have HR1 := Lib.hid hr1.lt_; have HX1 := Lib.hid hb1; have HGg := Lib.hid hgg; have HLT := Lib.hid hr1.lt; clear hr1 hb1 hgg)
  | (go_at_call 72; (with_reducible refine (HNum.out _ _ _ HR1.out).mono ?_); rintro e w2 ⟨rfl, hr2, hg2⟩; have HR2 := Lib.hid hr2; have HG2 := Lib.hid hg2; clear hr2 hg2)
  | (go_at_call 90; (with_reducible refine (HSz.out _).mono ?_); rintro e w3 ⟨rfl, hw3⟩; obtain rfl : w2 = w3 := hw3.symm))
 go_loopw [8, 9, 21] (fun ev lv iv wr => ∃ (i : Nat) (er : Int) (pre : List Ey) (s : Option (List UInt8)), i ≤ k0 ∧ iv = .int .i64 i ∧ ev = .int .i64 er ∧ pre.length ≤ i ∧ prgR n N (k0 - i) er pre s = OUT ∧ (er = 0 → 1 ≤ N ∧ N ≤ 7) ∧ OEy wr w1.heap.size lv pre ∧ Rs (fun b => b < w1.heap.size) wr g tR s ∧ stL s ≤ 1000000 ∧ w1.grownBy wr (some g)) (fun _ _ iv _ => k0 - (intOf iv).toNat)
 case atStart => exact ⟨0, z0, [], s0, Nat.zero_le _, rfl, rfl, Nat.le_refl _, HO2.out, HSZ.out, OEy.nil _ _, HR2.out, HS0.out, HG2.out⟩
 case round =>
  obtain ⟨i, er, pre, s, hi, rfl, rfl, hpl, hp, hN, ho, hr, hsl, hg⟩ := hrel
  have HPl := Lib.hid (Nat.le_trans hpl hi)
  have HN := Lib.hid hN
  have HR := Lib.hid hr
  have HG := Lib.hid hg
  have HSl := Lib.hid hsl
  have HPi := Lib.hid hpl
  obtain ⟨A3, m3, c3, rfl, hmc, hcm, hin, hfr⟩ := ho.out
  have HO := Lib.hid ho
  clear hpl hN hr hg ho hfr hin
  by_cases hlt : i < k0
  ·rw [show k0 - i = (k0 - (i + 1)) + 1 by omega, prgR_step] at hp
   have HRe := Lib.hid (readentry_any g s n N wr HR.out (fun b hb => Nat.lt_of_lt_of_le hb HG.out.size) HSl.out)
   have hs2 : stL (nnext 1 (rnext n s)) ≤ 1000000 := Nat.le_trans (nnext_stL _ _) (Nat.le_trans (rnext_stL _ _) HSl.out)
   have hms : nval 1 (rnext n s) < 4294967296 := by have := nval_lt 1 (rnext n s); simp only [e1] at this; omega
   generalize nextP n s N = P at *
   generalize nval 1 (rnext n s) = ms at *
   generalize nnext 1 (rnext n s) = s2 at *
   obtain ⟨c0, e2⟩ := P
   simp only at hp HRe
   have HMs := Lib.hid hms
   have HS2 := Lib.hid hs2
   by_cases h2 : e2 = 2
   case pos =>
    subst h2
    rw [if_pos rfl] at hp
    have HP : Hid (OUT = ([], 2)) := Lib.hid hp.symm
    clear hp hms hs2 hsl
    go_wp2_with (first
     | (go_at_call 91; (with_reducible refine (HRe.out).mono ?_); rintro e w4 ⟨rfl, hr4, hg4⟩; have HR4 := Lib.hid (hr4.alloc (.cells #[.int .i64 c0.cl, .int .i64 c0.sp, .int .i64 c0.op, .string (ba c0.lt), .int .i64 c0.a, .int .i64 c0.b, .string (ba c0.tx), .int .u32 (ms : Int)] 61)); have HG4 : Hid (w1.grownBy (w4.alloc (.cells #[.int .i64 c0.cl, .int .i64 c0.sp, .int .i64 c0.op, .string (ba c0.lt), .int .i64 c0.a, .int .i64 c0.b, .string (ba c0.tx), .int .u32 (ms : Int)] 61)) (some g)) := Lib.hid (only_trans (only_trans HG.out hg4) (only_below ((Below.refl _ _).alloc (Nat.le_refl _) _))); have HO4 := Lib.hid ((HO.out.far hg4 HLT.out).alloc (.cells #[.int .i64 c0.cl, .int .i64 c0.sp, .int .i64 c0.op, .string (ba c0.lt), .int .i64 c0.a, .int .i64 c0.b, .string (ba c0.tx), .int .u32 (ms : Int)] 61)); have HB4 : Hid (Blk (w4.alloc (.cells #[.int .i64 c0.cl, .int .i64 c0.sp, .int .i64 c0.op, .string (ba c0.lt), .int .i64 c0.a, .int .i64 c0.b, .string (ba c0.tx), .int .u32 (ms : Int)] 61)) w4.heap.size 61 [.int .i64 c0.cl, .int .i64 c0.sp, .int .i64 c0.op, .string (ba c0.lt), .int .i64 c0.a, .int .i64 c0.b, .string (ba c0.tx), .int .u32 (ms : Int)]) := Lib.hid (Blk.fresh rfl rfl); clear hr4 hg4))
    go_ret2
    rw [HP.out]
    exact ⟨none, 0, 0, rfl, OEy.nil _ _, HX1.out.grown HG4.out HX1.out.size (fun k hk => by have := Option.some.inj hk; have := HGg.out; omega)⟩
   have h2b : (e2 == 2) = false := by simpa using h2
   have h2c : (e2 != 2) = true := by simpa using h2
   rw [if_neg h2] at hp
   by_cases h0 : er = 0
   case pos =>
    subst h0
    rw [if_pos rfl] at hp
    have HCe : Hid (∀ (W : World) (D : Option Addr) (m d : Nat), OEy W w1.heap.size (.slice D m d) pre → Calls Try.prog 92 #[.slice D m d, .agg #[.int .i64 c0.cl, .int .i64 c0.sp, .int .i64 c0.op, .string (ba c0.lt), .int .i64 c0.a, .int .i64 c0.b, .string (ba c0.tx), .int .u32 (ms : Int)], .int .i64 e2, .int .i64 N] W fun e w' => e = .returned (.int .i64 (chk1 N (lastC pre) e2 ⟨c0, ms⟩)) ∧ Below W.heap.size W w') := Lib.hid (fun W D m d hO => by
     obtain ⟨D', m', d', hv, _, _, hin, _⟩ := hO.out
     injection hv with e1 e2 e3
     subst e1 e2 e3
     exact checkentry_any pre ⟨c0, ms⟩ _ N D m d W hin (by have := hin.len; have := HPl.out; have := HK.out; omega) (fun _ => HN.out rfl))
    have hcl : chk1 N (lastC pre) e2 ⟨c0, ms⟩ = 0 → 1 ≤ N ∧ N ≤ 7 := fun _ => HN.out rfl
    generalize chk1 N (lastC pre) e2 ⟨c0, ms⟩ = e3 at *
    have HP : Hid (prgR n N (k0 - (i + 1)) e3 (pre ++ [⟨c0, ms⟩]) s2 = OUT) := Lib.hid hp
    have HCl := Lib.hid hcl
    clear hp hms hs2 hsl h2 hcl
    go_wp2_with (first
     | (go_at_call 91; (with_reducible refine (HRe.out).mono ?_); rintro e w4 ⟨rfl, hr4, hg4⟩; have HR4 := Lib.hid (hr4.alloc (.cells #[.int .i64 c0.cl, .int .i64 c0.sp, .int .i64 c0.op, .string (ba c0.lt), .int .i64 c0.a, .int .i64 c0.b, .string (ba c0.tx), .int .u32 (ms : Int)] 61)); have HG4 : Hid (w1.grownBy (w4.alloc (.cells #[.int .i64 c0.cl, .int .i64 c0.sp, .int .i64 c0.op, .string (ba c0.lt), .int .i64 c0.a, .int .i64 c0.b, .string (ba c0.tx), .int .u32 (ms : Int)] 61)) (some g)) := Lib.hid (only_trans (only_trans HG.out hg4) (only_below ((Below.refl _ _).alloc (Nat.le_refl _) _))); have HO4 := Lib.hid ((HO.out.far hg4 HLT.out).alloc (.cells #[.int .i64 c0.cl, .int .i64 c0.sp, .int .i64 c0.op, .string (ba c0.lt), .int .i64 c0.a, .int .i64 c0.b, .string (ba c0.tx), .int .u32 (ms : Int)] 61)); have HB4 : Hid (Blk (w4.alloc (.cells #[.int .i64 c0.cl, .int .i64 c0.sp, .int .i64 c0.op, .string (ba c0.lt), .int .i64 c0.a, .int .i64 c0.b, .string (ba c0.tx), .int .u32 (ms : Int)] 61)) w4.heap.size 61 [.int .i64 c0.cl, .int .i64 c0.sp, .int .i64 c0.op, .string (ba c0.lt), .int .i64 c0.a, .int .i64 c0.b, .string (ba c0.tx), .int .u32 (ms : Int)]) := Lib.hid (Blk.fresh rfl rfl); clear hr4 hg4)
     | (refine wpList_load_blk rfl 61 (.tmp 10) rfl w4.heap.size rfl 61 [.int .i64 c0.cl, .int .i64 c0.sp, .int .i64 c0.op, .string (ba c0.lt), .int .i64 c0.a, .int .i64 c0.b, .string (ba c0.tx), .int .u32 (ms : Int)] _ HB4.out Try.underlying61 rfl (by kernel_rfl) ?_)
     | (go_at_call 92; (with_reducible refine (HCe.out _ _ _ _ HO4.out).mono ?_); rintro e w5 ⟨rfl, hb5⟩; have HR5 := Lib.hid (HR4.out.below hb5); have HG5 := Lib.hid (only_trans HG4.out (only_below hb5)); have HO5 := Lib.hid (HO4.out.through hb5); have HB5 := Lib.hid (HB4.out.through hb5); clear hb5)
     | (refine wpList_load_blk rfl 61 (.tmp 10) rfl w4.heap.size rfl 61 [.int .i64 c0.cl, .int .i64 c0.sp, .int .i64 c0.op, .string (ba c0.lt), .int .i64 c0.a, .int .i64 c0.b, .string (ba c0.tx), .int .u32 (ms : Int)] _ HB5.out Try.underlying61 rfl (by kernel_rfl) ?_)
     | (refine wpList_build_el rfl Try.el_ey (.tmp 41) rfl [.int .i64 c0.cl, .int .i64 c0.sp, .int .i64 c0.op, .string (ba c0.lt), .int .i64 c0.a, .int .i64 c0.b, .string (ba c0.tx), .int .u32 (ms : Int)] rfl rfl ?_)
     | (at_builtin; refine wpList_append_el rfl Try.el_ey (.tmp 40) (.tmp 42) rfl w1.heap.size _ (pre.map Ey.cells) rfl (HO5.out.1.alloc (.cells #[.int .i64 c0.cl, .int .i64 c0.sp, .int .i64 c0.op, .string (ba c0.lt), .int .i64 c0.a, .int .i64 c0.b, .string (ba c0.tx), .int .u32 (ms : Int)] 61)) _ [.int .i64 c0.cl, .int .i64 c0.sp, .int .i64 c0.op, .string (ba c0.lt), .int .i64 c0.a, .int .i64 c0.b, .string (ba c0.tx), .int .u32 (ms : Int)] rfl (Blk.fresh rfl rfl) rfl (Ey.one ⟨c0, ms⟩) (by rw [List.length_map]; have := HPl.out; have := HK.out; omega) (by have := HG5.out.size; (try simp); omega) ?_; intro v6 w6 ho6 hg6; have HO6 : Hid (OEy w6 w1.heap.size v6 (pre ++ [⟨c0, ms⟩])) := Lib.hid (OEy.snoc ho6 HO5.out.2 HMs.out); have HR6 := Lib.hid ((HR5.out.alloc (.cells #[.int .i64 c0.cl, .int .i64 c0.sp, .int .i64 c0.op, .string (ba c0.lt), .int .i64 c0.a, .int .i64 c0.b, .string (ba c0.tx), .int .u32 (ms : Int)] 61)).other hg6 (fun b hb => ⟨by have := (HO5.out.1.lt b hb).1; have := HLT.out; omega, fun h9 => by have := (HO5.out.1.lt b hb).1; omega⟩)); have HG6 : Hid (w1.grownBy w6 (some g)) := Lib.hid (only_own_ (only_trans HG5.out (only_below ((Below.refl _ _).alloc (Nat.le_refl _) (.cells #[.int .i64 c0.cl, .int .i64 c0.sp, .int .i64 c0.op, .string (ba c0.lt), .int .i64 c0.a, .int .i64 c0.b, .string (ba c0.tx), .int .u32 (ms : Int)] 61)))) hg6 (fun b hb => (HO5.out.1.lt b hb).1)); clear ho6 hg6))
    go_roundw
    case rel => exact ⟨i + 1, e3, pre ++ [⟨c0, ms⟩], s2, by omega, by go_num, rfl, by (have := HPi.out; simp; omega), HP.out, HCl.out, HO6.out, HR6.out, HS2.out, HG6.out⟩
    case measure => simp [intOf]; omega
   case neg =>
    have h0b : (er == 0) = false := by simpa using h0
    have h0c : (er != 0) = true := by simpa using h0
    rw [if_neg h0] at hp
    have HP : Hid (prgR n N (k0 - (i + 1)) er pre s2 = OUT) := Lib.hid hp
    clear hp hms hs2 hsl h2 h0
    go_wp2_with (first
     | (go_at_call 91; (with_reducible refine (HRe.out).mono ?_); rintro e w4 ⟨rfl, hr4, hg4⟩; have HR4 := Lib.hid (hr4.alloc (.cells #[.int .i64 c0.cl, .int .i64 c0.sp, .int .i64 c0.op, .string (ba c0.lt), .int .i64 c0.a, .int .i64 c0.b, .string (ba c0.tx), .int .u32 (ms : Int)] 61)); have HG4 : Hid (w1.grownBy (w4.alloc (.cells #[.int .i64 c0.cl, .int .i64 c0.sp, .int .i64 c0.op, .string (ba c0.lt), .int .i64 c0.a, .int .i64 c0.b, .string (ba c0.tx), .int .u32 (ms : Int)] 61)) (some g)) := Lib.hid (only_trans (only_trans HG.out hg4) (only_below ((Below.refl _ _).alloc (Nat.le_refl _) _))); have HO4 := Lib.hid ((HO.out.far hg4 HLT.out).alloc (.cells #[.int .i64 c0.cl, .int .i64 c0.sp, .int .i64 c0.op, .string (ba c0.lt), .int .i64 c0.a, .int .i64 c0.b, .string (ba c0.tx), .int .u32 (ms : Int)] 61)); have HB4 : Hid (Blk (w4.alloc (.cells #[.int .i64 c0.cl, .int .i64 c0.sp, .int .i64 c0.op, .string (ba c0.lt), .int .i64 c0.a, .int .i64 c0.b, .string (ba c0.tx), .int .u32 (ms : Int)] 61)) w4.heap.size 61 [.int .i64 c0.cl, .int .i64 c0.sp, .int .i64 c0.op, .string (ba c0.lt), .int .i64 c0.a, .int .i64 c0.b, .string (ba c0.tx), .int .u32 (ms : Int)]) := Lib.hid (Blk.fresh rfl rfl); clear hr4 hg4))
    go_roundw
    case rel => exact ⟨i + 1, er, pre, s2, by omega, by go_num, rfl, by (have := HPi.out; omega), HP.out, HN.out, HO4.out, HR4.out, HS2.out, HG4.out⟩
    case measure => simp [intOf]; omega
  ·obtain rfl : i = k0 := by omega
   rw [Nat.sub_self] at hp
   have hp2 : (if s = some [] then (if er = 0 then (pre, 0) else ([], er)) else ([], 2)) = OUT := hp
   clear hp hsl
   by_cases hs : s = some []
   case neg =>
    rw [if_neg hs] at hp2
    have HP : Hid (OUT = ([], 2)) := Lib.hid hp2.symm
    have HST := Lib.hid hs
    clear hp2 hs
    go_wp2_with (first
     | (go_at_call 53; (refine (end_rs HR.out).mono ?_); rintro e w10 ⟨x, rfl, hx, hww⟩; obtain rfl : wr = w10 := hww; have hx0 : ¬ x = 0 := (fun h9 => HST.out (hx.1 h9)); have hxb : (x == 0) = false := (by simpa using hx0); have hxd : (x != 0) = true := (by simpa using hx0); clear hx hx0))
    go_ret2
    rw [HP.out]
    exact ⟨none, 0, 0, rfl, OEy.nil _ _, HX1.out.grown HG.out HX1.out.size (fun k hk => by have := Option.some.inj hk; have := HGg.out; omega)⟩
   rw [if_pos hs] at hp2
   have HST := Lib.hid hs
   clear hs
   by_cases h0 : er = 0
   case neg =>
    have h0b : (er == 0) = false := by simpa using h0
    have h0c : (er != 0) = true := by simpa using h0
    rw [if_neg h0] at hp2
    have HP : Hid (OUT = ([], er)) := Lib.hid hp2.symm
    clear hp2 h0
    go_wp2_with (first
     | (go_at_call 53; (refine (end_rs HR.out).mono ?_); rintro e w10 ⟨x, rfl, hx, hww⟩; obtain rfl : wr = w10 := hww; have hx0 : x = 0 := hx.2 HST.out; subst hx0; clear hx))
    go_ret2
    rw [HP.out]
    exact ⟨none, 0, 0, rfl, OEy.nil _ _, HX1.out.grown HG.out HX1.out.size (fun k hk => by have := Option.some.inj hk; have := HGg.out; omega)⟩
   subst h0
   rw [if_pos rfl] at hp2
   have HP : Hid (OUT = (pre, 0)) := Lib.hid hp2.symm
   clear hp2
   go_wp2_with (first
    | (go_at_call 53; (refine (end_rs HR.out).mono ?_); rintro e w10 ⟨x, rfl, hx, hww⟩; obtain rfl : wr = w10 := hww; have hx0 : x = 0 := hx.2 HST.out; subst hx0; clear hx))
   go_ret2
   rw [HP.out]
   exact ⟨_, _, _, rfl, ⟨HO.out.1.weak HX1.out.size, HO.out.2⟩, HX1.out.grown HG.out HX1.out.size (fun k hk => by have := Option.some.inj hk; have := HGg.out; omega)⟩
end Go.Proofs.Ytheecifgbkdecaa
