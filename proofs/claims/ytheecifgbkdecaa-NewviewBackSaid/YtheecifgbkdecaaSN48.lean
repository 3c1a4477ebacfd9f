/-
  NwD
-/
import Derived.Test.YtheecifgbkdecaaSN44
import Derived.Test.YtheecifgbkdecaaSN30
import Derived.Test.YtheecifgbkdecaaSN47
import Derived.Test.YtheecifgbkdecaaSN27
namespace Go.Proofs.Ytheecifgbkdecaa
open Go.RowKit

theorem sgs_snoc {l : List Sg} {s : Sg} (h : SgLow l) (h' : (∀ p ∈ s.ch.pp, ∀ y ∈ p.es, y.co.lt.length ≤ 1000000) ∧ ∀ p ∈ s.ch.pd, ∀ y ∈ p.es, y.co.lt.length ≤ 1000000) : SgLow (l ++ [s]) := fun x hx => by
 rcases List.mem_append.1 hx with hx | hx
 ·exact h x hx
 ·rw [List.mem_singleton.1 hx]; exact h'
set_option maxHeartbeats 32000000 in
set_option maxRecDepth 100000 in
theorem parse19_any (xs : List UInt8) (N : Int) (A : Option Addr) (n c : Nat) (w : World) (h : By w (fun _ => True) A n xs) (hn : n ≤ 10000000) (hlow : NvLow xs N) :
  Calls Try.prog 27 #[.slice A n c, .int .i64 N] w (NvOut w (parseNv xs N).1 (parseNv xs N).2) := by
 have hxl : xs.length = n := h.len
 rw [← pgNv_eq hlow]
 obtain ⟨P, hPP⟩ : ∃ P, pgNv xs N = P := ⟨_, rfl⟩
 rw [hPP]
 obtain ⟨bn, hbn⟩ : ∃ b, badN N = b := ⟨_, rfl⟩
 have HSz : Hid (∀ W : World, Calls Try.prog 69 #[.int .i64 N] W fun e w' => e = .returned (.bool (!bn)) ∧ w' = W) := Lib.hid (fun W => hbn ▸ nsize_any N W)
 cases bn with
 | true =>
  have hP : P = ((0, []), 1) := by rw [← hPP]; unfold pgNv; rw [if_pos hbn]
  subst hP
  clear hPP h hn hbn hxl hlow
  go_enter Try.func27, Try.ntmps27
  go_wp2_with (first
   | (go_at_call 69; (with_reducible refine (HSz.out _).mono ?_); rintro e ws ⟨rfl, hws⟩; obtain rfl : w = ws := hws.symm))
  go_ret3
  exact ⟨none, 0, 0, rfl, SgsIn.none_, Nat.le_refl _, by simp [maxLen], Below.refl _ _⟩
 | false =>
 obtain ⟨n1, n7⟩ := badN_le hbn
 have hNt : ((N.toNat : Nat) : Int) = N := Int.toNat_of_nonneg (by omega)
 have hPf : P = finP (sx 8 (nval 8 (some xs))) (nvGo n N (cval N.toNat (nnext 8 (some xs))) [] (cnext N.toNat (nnext 8 (some xs)))) N := by rw [← hPP]; unfold pgNv; rw [if_neg (by simp [hbn]), hxl]
 unfold NvLow at hlow
 rw [hxl] at hlow
 have HRd0 : Hid (Calls Try.prog 44 #[.slice A n c] w fun e w' => ∃ g, e = .returned (.pointer (some ⟨g, 0, none⟩)) ∧ Rs (fun b => w.heap.size ≤ b) w' g tR (some xs) ∧ Below w.heap.size w w' ∧ w.heap.size ≤ g) := Lib.hid (read_rs h (by omega))
 have HNm : Hid (∀ (Q : Nat → Prop) (g : Nat) (W : World), Rs Q W g tR (some xs) → Calls Try.prog 72 #[(.pointer (some ⟨g, 0, none⟩)), .int .i64 8] W fun e w' => e = .returned (.int .u64 (nval 8 (some xs))) ∧ Rs Q w' g tR (nnext 8 (some xs)) ∧ W.grownBy w' (some g)) := Lib.hid (fun Q g W h9 => number_rs h9 8 rfl)
 have hcv := fun (W : World) => conv_i64 70 2 Try.underlying70 Try.underlying2 (nval 8 (some xs)) (by have := nval_lt 8 (some xs); omega) W
 generalize sx 8 (nval 8 (some xs)) = view at *
 generalize nval 8 (some xs) = vq at *
 generalize nnext 8 (some xs) = s1 at *
 have HCn : Hid (∀ (Q : Nat → Prop) (g : Nat) (W : World), Rs Q W g tR s1 → Calls Try.prog 73 #[(.pointer (some ⟨g, 0, none⟩)), .int .i64 N] W fun e w' => e = .returned (.int .i64 (cval N.toNat s1)) ∧ Rs Q w' g tR (cnext N.toNat s1) ∧ W.grownBy w' (some g)) := Lib.hid (fun Q g W h9 => by have h8 := count_rs h9 N.toNat; rw [hNt] at h8; exact h8)
 have hkb : cval N.toNat s1 ≤ 7 := by unfold cval; split <;> omega
 generalize cval N.toNat s1 = k at *
 generalize cnext N.toNat s1 = s0 at *
 have HKb := Lib.hid hkb
 have HG0 : Hid (P = finP view (nvGo n N (k - 0) [] s0) N) := Lib.hid (by rw [Nat.sub_zero]; exact hPf)
 have HLw0 : Hid (rowsLow n (k - 0) s0) := Lib.hid (by rw [Nat.sub_zero]; exact hlow)
 have HBn := Lib.hid hbn
 clear hPP h hn hbn hxl hPf hlow hNt n1 n7
 go_enter Try.func27, Try.ntmps27
 go_wp2_with (first
  | (go_at_call 69; (with_reducible refine (HSz.out _).mono ?_); rintro e ws ⟨rfl, hws⟩; obtain rfl : w = ws := hws.symm)
  | (go_at_call 44; (with_reducible refine HRd0.out.mono ?_); rintro e w1 ⟨g, rfl, hr1, hb1, hg1⟩; have HR1 := Lib.hid hr1.lt_; have HL1 := Lib.hid hg1; have HX1 := Lib.hid hb1; have HM1 := Lib.hid hr1.lt; clear hr1 hb1 hg1)
  | (go_at_call 72; (with_reducible refine (HNm.out _ _ _ HR1.out).mono ?_); rintro e w2 ⟨rfl, hr2, hg2⟩; have HR2 := Lib.hid hr2; have HG2 := Lib.hid hg2; clear hr2 hg2)
  | (go_at_call 73; (with_reducible refine (HCn.out _ _ _ HR2.out).mono ?_); rintro e w3 ⟨rfl, hr3, hg3⟩; have HR3 := Lib.hid hr3; have HG3 := Lib.hid (only_trans HG2.out hg3); clear hr3 hg3))
 obtain ⟨B1, hB1⟩ : ∃ B, w1.heap.size = B := ⟨_, rfl⟩
 rw [hB1] at HR3
 have HM : Hid (g < B1) := Lib.hid (by have := HM1.out; omega)
 have HL := HL1
 have HX3 : Hid (Below w.heap.size w w3) := Lib.hid (HX1.out.grown HG3.out HX1.out.size (fun k hk => by have := Option.some.inj hk; have := HL.out; omega))
 have HS3 : Hid (B1 ≤ w3.heap.size) := Lib.hid (by have := HG3.out.size; omega)
 clear hB1
 go_loopw [9, 24] (fun lv iv wr => ∃ (i : Nat) (pre : List Sg) (A2 : Option Addr) (n2 c2 : Nat) (s : Option (List UInt8)), i ≤ k ∧ iv = .int .i64 (i : Int) ∧ lv = .slice A2 n2 c2 ∧ pre.length = i ∧ P = finP view (nvGo n N (k - i) pre s) N ∧ rowsLow n (k - i) s ∧ Rs (fun b => b < B1) wr g tR s ∧ OSg wr B1 (.slice A2 n2 c2) pre ∧ Below w.heap.size w wr ∧ B1 ≤ wr.heap.size ∧ SgLow pre) (fun _ iv _ => k - (intOf iv).toNat)
 case atStart => exact ⟨0, [], none, 0, 0, s0, Nat.zero_le _, rfl, rfl, rfl, HG0.out, HLw0.out, HR3.out, OSg.nil _ _, HX3.out, HS3.out, fun s hs => nomatch hs⟩
 case round =>
  obtain ⟨i, pre, A2, n2, c2, s, hi, rfl, rfl, hpl, hG, hLw, hr, ho, hx, hs, hsl⟩ := hrel
  have HLp := Lib.hid hpl
  have HRj := Lib.hid hr
  have HOj := Lib.hid ho
  have HXj := Lib.hid hx
  have HSj := Lib.hid hs
  have HSL := Lib.hid hsl
  clear hpl hr ho hx hs hsl
  by_cases hlt : i < k
  ·have hki : k - i = (k - (i + 1)) + 1 := by omega
   rw [hki] at hG hLw
   obtain ⟨hrl, hlw2⟩ := hLw
   unfold nvGo at hG
   have hbd := parseCh_lt (n := N) (L := 1000000) (show (rval n (nnext 1 s)).length ≤ 1000000 from hrl)
   have HN1 : Hid (∀ W : World, Rs (fun b => b < B1) W g tR s → Calls Try.prog 72 #[(.pointer (some ⟨g, 0, none⟩)), .int .i64 1] W fun e w' => e = .returned (.int .u64 (nval 1 s)) ∧ Rs (fun b => b < B1) w' g tR (nnext 1 s) ∧ W.grownBy w' (some g)) := Lib.hid (fun W h9 => number_rs h9 1 rfl)
   have hcv1 := fun (W : World) => conv_small 70 3 Try.underlying70 Try.underlying3 (nval 1 s) (by have h9 := nval_lt 1 s; rw [show (256 : Nat) ^ 1 = 256 from rfl] at h9; omega) W
   have HRw : Hid (∀ W : World, Rs (fun b => b < B1) W g tR (nnext 1 s) → Calls Try.prog 48 #[(.pointer (some ⟨g, 0, none⟩)), .int .i64 (n : Int)] W fun e w' => ∃ B m c, e = .returned (.slice B m c) ∧ By w' (fun _ => True) B m (rval n (nnext 1 s)) ∧ Rs (fun b => b < B1) w' g tR (rnext n (nnext 1 s)) ∧ W.grownBy w' (some g)) := Lib.hid (fun W h9 => row_rs h9 n)
   have HPa : Hid (∀ (B : Option Addr) (m d : Nat) (W : World), By W (fun _ => True) B m (rval n (nnext 1 s)) → Calls Try.prog 14 #[.slice B m d, .int .i64 N] W (ChOutO W (parseCh (rval n (nnext 1 s)) N).1 (parseCh (rval n (nnext 1 s)) N).2)) := Lib.hid (fun B m d W h9 => parse18_own _ N B m d W h9 (by rw [← h9.len]; exact hrl))
   generalize parseCh (rval n (nnext 1 s)) N = D at *
   obtain ⟨C5, e5⟩ := D
   simp only at hG hbd HPa
   generalize rval n (nnext 1 s) = row at *
   generalize rnext n (nnext 1 s) = s3 at *
   generalize nnext 1 s = s2 at *
   generalize nval 1 s = k0 at *
   obtain ⟨fr, hfr⟩ : ∃ f : Int, f = (k0 : Int) := ⟨_, rfl⟩
   rw [← hfr] at hG
   have hcv2 : ∀ W : World, (convert 70 3 (.int .u64 (k0 : Int))).run Try.prog W = .ok (.int .i64 fr) W := fun W => by rw [hfr]; exact hcv1 W
   have HBd := Lib.hid hbd
   have HLw2 := Lib.hid hlw2
   clear hki hrl hlw2 hcv1 hbd hfr
   by_cases he5 : e5 = 0
   ·have hd5 : (e5 != 0) = false := by simpa using he5
    rw [if_pos he5] at hG
    have HG := Lib.hid hG
    clear hG he5
    go_wp2_with (first
     | (go_at_call 72; (with_reducible refine (HN1.out _ HRj.out).mono ?_); rintro e v1 ⟨rfl, hr1, hg1⟩; have HRa := Lib.hid hr1; have J1 := Lib.hid hg1; clear hr1 hg1)
     | (go_at_call 48; (with_reducible refine (HRw.out _ HRa.out).mono ?_); rintro e v2 ⟨Br, mr, cr, rfl, hy2, hr2, hg2⟩; have HRb := Lib.hid hr2; have J2 := Lib.hid (only_trans J1.out hg2); have HY2 := Lib.hid hy2; clear hr2 hg2 hy2)
     | (go_at_call 14; (with_reducible refine (HPa.out _ _ _ _ HY2.out).mono ?_); rintro e v3 ⟨P5, Q5, R5, rfl, ho3, hb3⟩; have HRc := Lib.hid (HRb.out.below hb3); have J3 := Lib.hid (only_trans J2.out (only_below hb3)); have HO3 := Lib.hid (ho3.weak (show B1 ≤ v2.heap.size by have := HSj.out; have := J2.out.size; omega)); clear ho3 hb3)
     | (refine wpList_store_blk rfl 25 (.tmp 11) (.tmp 36) rfl v3.heap.size (Ch.cells C5 P5 Q5 R5) rfl rfl 25 [.int .i64 0, .int .i64 0, .slice none 0 0, .slice none 0 0, .slice none 0 0] (Blk.fresh rfl rfl) (by kernel_rfl) rfl (one5h _ _ _ _) ?_; intro v4 hb4 hg4; have HB4 := Lib.hid hb4; have hlow4 := below_new hg4; have HRd := Lib.hid (HRc.out.below hlow4); have J4 := Lib.hid (only_trans J3.out (only_below hlow4)); have HO4 := Lib.hid (HO3.out.through hlow4); obtain ⟨ts, ho4, ha4⟩ := HOj.out.off J4.out (by have := HM.out; omega); have HS4 := Lib.hid ho4; have HA4 := Lib.hid ha4; have HZ4 : Hid (B1 ≤ v4.heap.size) := Lib.hid (Nat.le_trans HSj.out J4.out.size); have HX4 := Lib.hid (HXj.out.grown J4.out HXj.out.size (fun k hk => by have := Option.some.inj hk; have := HL.out; omega)); clear hb4 hg4 hlow4 ho4 ha4)
     | (refine wpList_load_blk rfl 25 (.tmp 11) rfl v3.heap.size rfl 25 (Ch.cells C5 P5 Q5 R5) _ HB4.out Try.underlying25 rfl (by kernel_rfl) ?_)
     | (refine wpList_build_to rfl 106 _ rfl [(0, .int .i64 fr), (1, .agg (Ch.cells C5 P5 Q5 R5).toArray)] rfl (.agg (sgC ⟨fr, C5⟩ (P5, Q5, R5)).toArray) (Try.build_sg _ _ _ _ _ _) ?_)
     | (refine wpList_build_el rfl Try.el_sg (.tmp 43) rfl (sgC ⟨fr, C5⟩ (P5, Q5, R5)) rfl rfl ?_)
     | (at_builtin; refine wpList_append_el rfl Try.el_sg (.tmp 40) (.tmp 44) rfl B1 (.slice A2 n2 c2) (sgR pre ts) rfl (HS4.out.alloc (.cells (sgC ⟨fr, C5⟩ (P5, Q5, R5)).toArray 106)) v4.heap.size (sgC ⟨fr, C5⟩ (P5, Q5, R5)) rfl (Blk.fresh rfl rfl) rfl (sgC_one _ _) (by rw [sgR_len HA4.out.len, HLp.out]; have := HKb.out; omega) (by have := HZ4.out; simp; omega) ?_; intro v7 w9 ho7 hg7; have HW := Lib.hid (fun b hb => (HS4.out.lt b hb).1); obtain ⟨A7, N7, c7, rfl⟩ : ∃ (A : Option Addr) (N c : Nat), v7 = .slice A N c := (by obtain ⟨A, c, h9, _⟩ := ho7.out; exact ⟨A, _, c, h9⟩); have HE9 := (HO4.out.through (below1_ v4 (.cells (sgC ⟨fr, C5⟩ (P5, Q5, R5)).toArray 106))).own (HS4.out.alloc (.cells (sgC ⟨fr, C5⟩ (P5, Q5, R5)).toArray 106)) hg7; have HA9 := Lib.hid (AllO.snoc (s := (⟨fr, C5⟩ : Sg)) (t := (P5, Q5, R5)) ((HA4.out.through (below1_ v4 (.cells (sgC ⟨fr, C5⟩ (P5, Q5, R5)).toArray 106))).own (HS4.out.alloc (.cells (sgC ⟨fr, C5⟩ (P5, Q5, R5)).toArray 106)) hg7) HE9); clear HE9; have HO9 : Hid (OSg w9 B1 (.slice A7 N7 c7) (pre ++ [(⟨fr, C5⟩ : Sg)])) := Lib.hid ⟨ts ++ [(P5, Q5, R5)], by rw [sgR_snoc HA4.out.len]; exact ho7, HA9.out⟩; have HR9 := Lib.hid ((HRd.out.alloc (.cells (sgC ⟨fr, C5⟩ (P5, Q5, R5)).toArray 106)).other hg7 (fun b hb => ⟨fun e => by have := HW.out b hb; have := HM.out; omega, fun h9 => by have h8 := HW.out b hb; have h7 : b < B1 := h9; omega⟩)); have HX9 : Hid (Below w.heap.size w w9) := Lib.hid ((HX4.out.alloc HX4.out.size _).grown hg7 (HX4.out.alloc HX4.out.size _).size (fun b hb => by have := HW.out b hb; have := HM.out; have := HL.out; omega)); have HS9 : Hid (B1 ≤ w9.heap.size) := Lib.hid (Nat.le_trans HZ4.out (Nat.le_trans (below1_ v4 (.cells (sgC ⟨fr, C5⟩ (P5, Q5, R5)).toArray 106)).size hg7.size)); clear ho7 hg7))
    go_roundw
    case rel => exact ⟨i + 1, pre ++ [(⟨fr, C5⟩ : Sg)], A7, N7, c7, s3, by omega, by go_num, rfl, by rw [List.length_append, HLp.out]; rfl, HG.out, HLw2.out, HR9.out, HO9.out, HX9.out, HS9.out, sgs_snoc HSL.out HBd.out⟩
    case measure => simp [intOf]; omega
   ·have hd5 : (e5 != 0) = true := by simpa using he5
    rw [if_neg he5] at hG
    have hP : P = ((0, []), 2) := by rw [hG]; unfold finP; rw [if_neg (fun h9 => by cases h9.1)]
    subst hP
    clear hG he5
    go_wp2_with (first
     | (go_at_call 72; (with_reducible refine (HN1.out _ HRj.out).mono ?_); rintro e v1 ⟨rfl, hr1, hg1⟩; have HRa := Lib.hid hr1; have J1 := Lib.hid hg1; clear hr1 hg1)
     | (go_at_call 48; (with_reducible refine (HRw.out _ HRa.out).mono ?_); rintro e v2 ⟨Br, mr, cr, rfl, hy2, hr2, hg2⟩; have HRb := Lib.hid hr2; have J2 := Lib.hid (only_trans J1.out hg2); have HY2 := Lib.hid hy2; clear hr2 hg2 hy2)
     | (go_at_call 14; (with_reducible refine (HPa.out _ _ _ _ HY2.out).mono ?_); rintro e v3 ⟨P5, Q5, R5, rfl, ho3, hb3⟩; have HRc := Lib.hid (HRb.out.below hb3); have J3 := Lib.hid (only_trans J2.out (only_below hb3)); have HO3 := Lib.hid (ho3.weak (show B1 ≤ v2.heap.size by have := HSj.out; have := J2.out.size; omega)); clear ho3 hb3)
     | (refine wpList_store_blk rfl 25 (.tmp 11) (.tmp 36) rfl v3.heap.size (Ch.cells C5 P5 Q5 R5) rfl rfl 25 [.int .i64 0, .int .i64 0, .slice none 0 0, .slice none 0 0, .slice none 0 0] (Blk.fresh rfl rfl) (by kernel_rfl) rfl (one5h _ _ _ _) ?_; intro v4 hb4 hg4; have HB4 := Lib.hid hb4; have hlow4 := below_new hg4; have HRd := Lib.hid (HRc.out.below hlow4); have J4 := Lib.hid (only_trans J3.out (only_below hlow4)); have HO4 := Lib.hid (HO3.out.through hlow4); obtain ⟨ts, ho4, ha4⟩ := HOj.out.off J4.out (by have := HM.out; omega); have HS4 := Lib.hid ho4; have HA4 := Lib.hid ha4; have HZ4 : Hid (B1 ≤ v4.heap.size) := Lib.hid (Nat.le_trans HSj.out J4.out.size); have HX4 := Lib.hid (HXj.out.grown J4.out HXj.out.size (fun k hk => by have := Option.some.inj hk; have := HL.out; omega)); clear hb4 hg4 hlow4 ho4 ha4))
    go_ret3
    exact ⟨none, 0, 0, rfl, SgsIn.none_, Nat.le_refl _, by simp [maxLen], HX4.out⟩
  ·have hik : k - i = 0 := by omega
   rw [hik] at hG
   unfold nvGo at hG
   have HEn : Hid (∀ {Q : Nat → Prop} {g : Nat} (W : World), Rs Q W g tR s → Calls Try.prog 53 #[(.pointer (some ⟨g, 0, none⟩))] W fun e w' => ∃ x, e = .returned (.int .i64 x) ∧ (x = 0 ↔ s = some []) ∧ W = w') := Lib.hid (fun W h9 => end_rs h9)
   obtain ⟨A8, c8, he8, h81, h82, h83⟩ := HOj.out.out
   injection he8 with q1 q2 q3
   have h81' : n2 ≤ c2 := by rw [q2, q3]; exact h81
   have h82' : c2 ≤ maxLen := by rw [q3]; exact h82
   have hIn : SgsIn wr A2 n2 pre := by rw [q1, q2]; exact h83
   have hn2 : n2 ≤ 1000000 := by rw [q2, HLp.out]; omega
   have HIn := Lib.hid hIn
   have HNc := Lib.hid (And.intro h81' h82')
   obtain ⟨ck, hck⟩ : ∃ e, chkNv view pre N = e := ⟨_, rfl⟩
   have HCk : Hid (Calls Try.prog 24 #[.int .i64 view, .slice A2 n2 c2, .int .i64 N] wr fun e w' => e = .returned (.int .i64 ck) ∧ Below wr.heap.size wr w') := Lib.hid (hck ▸ check19_any view pre N A2 n2 c2 wr hIn hn2 HSL.out)
   clear hik h81 h82 h83 q1 q2 q3 h81' h82' hIn hn2
   unfold finP at hG
   simp only at hG
   by_cases hst : s = some []
   ·have HST := Lib.hid hst
    by_cases hc0 : ck = 0
    ·have hd0 : (ck != 0) = false := by simpa using hc0
     have hP : P = ((view, pre), 0) := by rw [hG, if_pos ⟨by first | trivial | rfl, hst, hck.trans hc0⟩]
     subst hP
     clear hG hst hc0 hck
     go_wp2_with (first
      | go_skip
      | (go_at_call 53; (with_reducible refine (HEn.out _ HRj.out).mono ?_); rintro e wE ⟨xe, rfl, hx, rfl⟩; have hxe : (xe != 0) = false := (by simpa using hx.2 HST.out); clear hx)
      | (go_at_call 24; (with_reducible refine (HCk.out).mono ?_); rintro e wI ⟨rfl, hbI⟩; have HXI := Lib.hid (below_step HXj.out hbI); have HOI := Lib.hid (HIn.out.through hbI); clear hbI))
     go_ret3
     exact ⟨A2, n2, c2, rfl, HOI.out, HNc.out.1, HNc.out.2, HXI.out⟩
    ·have hd0 : (ck != 0) = true := by simpa using hc0
     have hP : P = ((0, []), 2) := by rw [hG, if_neg (fun h9 => hc0 (hck.symm.trans h9.2.2))]
     subst hP
     clear hG hst hc0 hck
     go_wp2_with (first
      | go_skip
      | (go_at_call 53; (with_reducible refine (HEn.out _ HRj.out).mono ?_); rintro e wE ⟨xe, rfl, hx, rfl⟩; have hxe : (xe != 0) = false := (by simpa using hx.2 HST.out); clear hx)
      | (go_at_call 24; (with_reducible refine (HCk.out).mono ?_); rintro e wI ⟨rfl, hbI⟩; have HXI := Lib.hid (below_step HXj.out hbI); have HOI := Lib.hid (HIn.out.through hbI); clear hbI))
     go_ret3
     exact ⟨none, 0, 0, rfl, SgsIn.none_, Nat.le_refl _, by simp [maxLen], HXI.out⟩
   ·have HST := Lib.hid hst
    have hP : P = ((0, []), 2) := by rw [hG, if_neg (fun h9 => hst h9.2.1)]
    subst hP
    clear hG hst hck
    go_wp2_with (first
     | go_skip
     | (go_at_call 53; (with_reducible refine (HEn.out _ HRj.out).mono ?_); rintro e wE ⟨xe, rfl, hx, rfl⟩; have hxe : (xe != 0) = true := (by simpa using (fun h9 => HST.out (hx.1 h9) : ¬ xe = 0)); clear hx))
    go_ret3
    exact ⟨none, 0, 0, rfl, SgsIn.none_, Nat.le_refl _, by simp [maxLen], HXj.out⟩
theorem parsenw : ParseNW := fun xs N A n c w h _ _ hn hl => parse19_any xs N A n c w h hn hl

end Go.Proofs.Ytheecifgbkdecaa
