/-
  Do, where a step answers an error.
-/
import Derived.Test.YtfflkodgojiklaaGreatDoorCoDA
namespace Go.Proofs.YtfflkodgojiklaaGreatDoor
open Go.RowKit
set_option maxHeartbeats 8000000 in
set_option maxRecDepth 100000 in
theorem do_wrong (y : Ey) (n : Int) (l : Lg) (A : Option Addr) (nn c : Nat) (B : Option Addr) (m d : Nat) (w : World) (hL : LgIn w A nn B m l) (hn : nn ≤ 900) (hm : m ≤ 900) (hlt : y.co.lt.length ≤ 140737488355328) (hmd : m ≤ d) (HH : ∀ g gs, w.heap.size + 3 ≤ g → gs ≠ g → DHyp w g gs y l A nn c B m) (hq : staleL l y.co = false) (hk : chkC y.co n = 0) (h0 : (resD l y n).2 ≠ 0) :
    Calls Tryz.prog 8 #[.agg #[.int .i64 l.sq, .int .i64 l.tt, .slice A nn c, .slice B m d], .agg #[.int .i64 y.co.cl, .int .i64 y.co.sp, .int .i64 y.co.op, .string (ba y.co.lt), .int .i64 y.co.a, .int .i64 y.co.b, .string (ba y.co.tx), .int .u32 (y.ms : Int)], .int .i64 n] w (LgOutCE w (toldL (resD l y n).1 ⟨y.co.cl, y.co.sp, (resD l y n).2⟩) (resD l y n).2) := by
  have X0 : Hid (Below w.heap.size w (((w.alloc (.cells #[.int .i64 l.sq, .int .i64 l.tt, .slice A nn c, .slice B m d] 25)).alloc (.cells #[.int .i64 y.co.cl, .int .i64 y.co.sp, .int .i64 y.co.op, .string (ba y.co.lt), .int .i64 y.co.a, .int .i64 y.co.b, .string (ba y.co.tx), .int .u32 (y.ms : Int)] 30)).alloc (.cells #[.int .i64 0, .int .i64 0, .slice none 0 0, .slice none 0 0] 25))) := Lib.hid (below3 w _ _ _)
  have L0 : Hid (Blk (((w.alloc (.cells #[.int .i64 l.sq, .int .i64 l.tt, .slice A nn c, .slice B m d] 25)).alloc (.cells #[.int .i64 y.co.cl, .int .i64 y.co.sp, .int .i64 y.co.op, .string (ba y.co.lt), .int .i64 y.co.a, .int .i64 y.co.b, .string (ba y.co.tx), .int .u32 (y.ms : Int)] 30)).alloc (.cells #[.int .i64 0, .int .i64 0, .slice none 0 0, .slice none 0 0] 25)) w.heap.size 25 [.int .i64 l.sq, .int .i64 l.tt, .slice A nn c, .slice B m d]) := Lib.hid (((Blk.fresh rfl rfl).alloc _).alloc _)
  have E0 : Hid (Blk (((w.alloc (.cells #[.int .i64 l.sq, .int .i64 l.tt, .slice A nn c, .slice B m d] 25)).alloc (.cells #[.int .i64 y.co.cl, .int .i64 y.co.sp, .int .i64 y.co.op, .string (ba y.co.lt), .int .i64 y.co.a, .int .i64 y.co.b, .string (ba y.co.tx), .int .u32 (y.ms : Int)] 30)).alloc (.cells #[.int .i64 0, .int .i64 0, .slice none 0 0, .slice none 0 0] 25)) (w.heap.size + 1) 30 [.int .i64 y.co.cl, .int .i64 y.co.sp, .int .i64 y.co.op, .string (ba y.co.lt), .int .i64 y.co.a, .int .i64 y.co.b, .string (ba y.co.tx), .int .u32 (y.ms : Int)]) := Lib.hid ((Blk.fresh (by simp) rfl).alloc _)
  have Z0 : Hid (Blk (((w.alloc (.cells #[.int .i64 l.sq, .int .i64 l.tt, .slice A nn c, .slice B m d] 25)).alloc (.cells #[.int .i64 y.co.cl, .int .i64 y.co.sp, .int .i64 y.co.op, .string (ba y.co.lt), .int .i64 y.co.a, .int .i64 y.co.b, .string (ba y.co.tx), .int .u32 (y.ms : Int)] 30)).alloc (.cells #[.int .i64 0, .int .i64 0, .slice none 0 0, .slice none 0 0] 25)) (w.heap.size + 2) 25 [.int .i64 0, .int .i64 0, .slice none 0 0, .slice none 0 0]) := Lib.hid (Blk.fresh (by simp) rfl)
  have S0 : Hid (w.heap.size + 3 ≤ (((w.alloc (.cells #[.int .i64 l.sq, .int .i64 l.tt, .slice A nn c, .slice B m d] 25)).alloc (.cells #[.int .i64 y.co.cl, .int .i64 y.co.sp, .int .i64 y.co.op, .string (ba y.co.lt), .int .i64 y.co.a, .int .i64 y.co.b, .string (ba y.co.tx), .int .u32 (y.ms : Int)] 30)).alloc (.cells #[.int .i64 0, .int .i64 0, .slice none 0 0, .slice none 0 0] 25)).heap.size) := Lib.hid (by simp)
  have hz := Tryz.zero_lg
  have hst : ∀ W, Below w.heap.size w W → Calls Tryz.prog 15 #[.agg #[.int .i64 l.sq, .int .i64 l.tt, .slice A nn c, .slice B m d], .agg #[.int .i64 y.co.cl, .int .i64 y.co.sp, .int .i64 y.co.op, .string (ba y.co.lt), .int .i64 y.co.a, .int .i64 y.co.b, .string (ba y.co.tx)]] W fun e w' => e = .returned (.bool (staleL l y.co)) ∧ Below W.heap.size W w' := fun W hW => stale_any y l A nn c B m d W (hL.through hW) (by omega)
  have hck : ∀ W, Calls Tryz.prog 17 #[.agg #[.int .i64 y.co.cl, .int .i64 y.co.sp, .int .i64 y.co.op, .string (ba y.co.lt), .int .i64 y.co.a, .int .i64 y.co.b, .string (ba y.co.tx)], .int .i64 n] W fun e w' => e = .returned (.int .i64 (chkC y.co n)) ∧ Below W.heap.size W w' := fun W => chkC_any y.co n W hlt
  rw [hq] at hst
  rw [hk] at hck
  have HSt := Lib.hid hst
  have HCk := Lib.hid hck
  have HLl := Lib.hid hL
  have HMd := Lib.hid hmd
  have HNn := Lib.hid hn
  have HMm := Lib.hid hm
  clear hst hck hL hmd hn hm hlt hq hk
  obtain ⟨hy1, hy2⟩ := resD_led l y n
  have hfi : ∀ (g gs : Nat) (W : World), w.heap.size + 3 ≤ g → gs ≠ g → PD w g gs y n l A nn c B m d 0 W → Calls Tryz.prog 18 #[.slice (some ⟨gs, 0, none⟩) 6 6] W fun e w' => e = .returned (.int .i64 (resD l y n).2) ∧ ((resD l y n).2 = 0 → PD w g gs y n l A nn c B m d 6 w') ∧ ((resD l y n).2 ≠ 0 → DBase w w' g gs y l A nn c B m d) := fun g gs W hg hne hP => dfirst_any y n l A nn c B m d w g gs (HH g gs hg hne) W hP
  obtain ⟨⟨lr, r⟩, hr⟩ : ∃ r, resD l y n = r := ⟨_, rfl⟩
  rw [hr] at hfi hy1 hy2 h0 ⊢
  simp only at hfi hy1 hy2 h0 ⊢
  obtain ⟨q, hqq⟩ : ∃ q, toldL lr ⟨y.co.cl, y.co.sp, r⟩ = q := ⟨_, rfl⟩
  rw [hqq]
  have HFi := Lib.hid hfi
  have HQ := Lib.hid hqq
  have HY1 := Lib.hid hy1
  have HY2 := Lib.hid hy2
  have hbd := Tryz.build_do
  have hbo := Tryz.build_o3
  clear hfi hr hqq hy1 hy2
  have htold : ∀ (L : Lg) (A5 : Option Addr) (n5 c5 : Nat) (B5 : Option Addr) (m5 d5 : Nat) (W : World), lr = L → LgIn W A5 n5 B5 m5 L → n5 ≤ 1000000 → m5 ≤ 1000 → m5 ≤ d5 → Calls Tryz.prog 25 #[.agg #[.int .i64 L.sq, .int .i64 L.tt, .slice A5 n5 c5, .slice B5 m5 d5], .agg #[.int .i64 y.co.cl, .int .i64 y.co.sp, .int .i64 r]] W fun e w' => ∃ A6 n6 c6 B6 m6 d6, e = .returned (.agg #[.int .i64 q.sq, .int .i64 q.tt, .slice A6 n6 c6, .slice B6 m6 d6]) ∧ LgIn w' A6 n6 B6 m6 q ∧ n6 ≤ c6 ∧ m6 ≤ d6 ∧ Below W.heap.size W w' ∧ (∀ a, A6 = some a → W.heap.size ≤ a.block) ∧ ∀ a, B6 = some a → W.heap.size ≤ a.block := fun L A5 n5 c5 B5 m5 d5 W hLL h1 h2 h3 h4 => by
    rw [← HQ.out, hLL]
    exact told_any L ⟨y.co.cl, y.co.sp, r⟩ A5 n5 c5 B5 m5 d5 W h1 h2 h3 h4
  have HTo := Lib.hid htold
  clear htold
  have hr0 : (r == 0) = false := by simp [h0]
  have H0 := Lib.hid h0
  clear h0
  go_enter Tryz.func8, Tryz.ntmps8
  go_wp2_with (first
          | (refine wpList_load_blk rfl 25 (.tmp 3) rfl w.heap.size rfl 25 [.int .i64 l.sq, .int .i64 l.tt, .slice A nn c, .slice B m d] _ L0.out Tryz.underlying25 rfl (by kernel_rfl) ?_)
          | (refine wpList_load_mid rfl 27 (.tmp 12) rfl (w.heap.size + 1) 0 rfl [.int .i64 y.co.cl, .int .i64 y.co.sp, .int .i64 y.co.op, .string (ba y.co.lt), .int .i64 y.co.a, .int .i64 y.co.b, .string (ba y.co.tx)] _ (E0.out.mid [] _ [.int .u32 (y.ms : Int)] 0 rfl rfl) Tryz.underlying27 rfl (by kernel_rfl) ?_)
          | (go_at_call 15; (with_reducible refine (HSt.out _ X0.out).mono ?_); rintro e w1 ⟨rfl, hb1⟩; have L1 := Lib.hid (L0.out.through hb1); have E1 := Lib.hid (E0.out.through hb1); have Z1 := Lib.hid (Z0.out.through hb1); have X1 : Hid (Below w.heap.size w w1) := Lib.hid (below_step X0.out hb1); have S1 : Hid (w.heap.size + 3 ≤ w1.heap.size) := Lib.hid (Nat.le_trans S0.out hb1.size); clear hb1)
          | (refine wpList_load_mid rfl 27 (.tmp 17) rfl (w.heap.size + 1) 0 rfl [.int .i64 y.co.cl, .int .i64 y.co.sp, .int .i64 y.co.op, .string (ba y.co.lt), .int .i64 y.co.a, .int .i64 y.co.b, .string (ba y.co.tx)] _ (E1.out.mid [] _ [.int .u32 (y.ms : Int)] 0 rfl rfl) Tryz.underlying27 rfl (by kernel_rfl) ?_)
          | (go_at_call 17; (with_reducible refine (HCk.out _).mono ?_); rintro e w2 ⟨rfl, hb2⟩; have L2 := Lib.hid (L1.out.through hb2); have E2 := Lib.hid (E1.out.through hb2); have Z2 := Lib.hid (Z1.out.through hb2); have X2 : Hid (Below w.heap.size w w2) := Lib.hid (below_step X1.out hb2); have S2 : Hid (w.heap.size + 3 ≤ w2.heap.size) := Lib.hid (Nat.le_trans S1.out hb2.size); clear hb2)
          | (refine wpList_load_blk rfl 30 (.tmp 4) rfl (w.heap.size + 1) rfl 30 [.int .i64 y.co.cl, .int .i64 y.co.sp, .int .i64 y.co.op, .string (ba y.co.lt), .int .i64 y.co.a, .int .i64 y.co.b, .string (ba y.co.tx), .int .u32 (y.ms : Int)] _ E2.out Tryz.underlying30 rfl (by kernel_rfl) ?_)
          | (refine wpList_load_blk rfl 25 (.tmp 3) rfl w.heap.size rfl 25 [.int .i64 l.sq, .int .i64 l.tt, .slice A nn c, .slice B m d] _ L2.out Tryz.underlying25 rfl (by kernel_rfl) ?_)
          | (refine wpList_alloc_new rfl rfl (Tryz.alloc_do _) ?_; intro gd wa hqa hba hwa; have HSa : Hid (w.heap.size + 3 ≤ gd) := Lib.hid (by rw [hqa]; exact S2.out); have HBa := Lib.hid hba; have HWa := Lib.hid hwa; clear hqa hba hwa)
          | (refine wpList_store_blk rfl 61 (.tmp 9) (.tmp 29) rfl gd [.int .i64 y.co.cl, .int .i64 y.co.sp, .int .i64 y.co.op, .string (ba y.co.lt), .int .i64 y.co.a, .int .i64 y.co.b, .string (ba y.co.tx), .int .u32 (y.ms : Int), .int .i64 n, .int .i64 l.sq, .int .i64 l.tt, .slice A nn c, .slice B m d, .string (ba []), .int .i64 0, .int .i64 0, .int .i64 0, .string (ba []), .string (ba []), .int .i64 0, .int .i64 0, .slice none 0 0] rfl rfl 61 [.int .i64 0, .int .i64 0, .int .i64 0, .string (ba []), .int .i64 0, .int .i64 0, .string (ba []), .int .u32 0, .int .i64 0, .int .i64 0, .int .i64 0, .slice none 0 0, .slice none 0 0, .string (ba []), .int .i64 0, .int .i64 0, .int .i64 0, .string (ba []), .string (ba []), .int .i64 0, .int .i64 0, .slice none 0 0] HBa.out (by kernel_rfl) rfl (one22 _ _ _ _ _ _ _ _ _ _ _ _ _ _ _ _ _ _ _ _ _ _ _ _ _ _ _ _) ?_; intro wb hbb hgb; have HBb : Hid (Blk wb gd 61 [.int .i64 y.co.cl, .int .i64 y.co.sp, .int .i64 y.co.op, .string (ba y.co.lt), .int .i64 y.co.a, .int .i64 y.co.b, .string (ba y.co.tx), .int .u32 (y.ms : Int), .int .i64 n, .int .i64 l.sq, .int .i64 l.tt, .slice A nn c, .slice B m d, .string (ba []), .int .i64 0, .int .i64 0, .int .i64 0, .string (ba []), .string (ba []), .int .i64 0, .int .i64 0, .slice none 0 0]) := Lib.hid hbb; have Xb : Hid (Below w.heap.size w wb) := Lib.hid ((below_step X2.out HWa.out).grown hgb (below_step X2.out HWa.out).size (fun k hk => by have := Option.some.inj hk; have := HSa.out; omega)); have Lb := Lib.hid ((L2.out.through HWa.out).grown hgb (fun e => by have := Option.some.inj e; have := HSa.out; omega)); have Eb := Lib.hid ((E2.out.through HWa.out).grown hgb (fun e => by have := Option.some.inj e; have := HSa.out; omega)); have Zb := Lib.hid ((Z2.out.through HWa.out).grown hgb (fun e => by have := Option.some.inj e; have := HSa.out; omega)); clear hbb hgb)
          | (refine wpList_build_six rfl 78 63 (.tmp 30) (.tmp 31) (.tmp 32) (.tmp 33) (.tmp 34) (.tmp 35) rfl (.func (.func 19) #[.pointer (some ⟨gd, 0, none⟩)] #[]) (.func (.func 20) #[.pointer (some ⟨gd, 0, none⟩)] #[]) (.func (.func 21) #[.pointer (some ⟨gd, 0, none⟩)] #[]) (.func (.func 22) #[.pointer (some ⟨gd, 0, none⟩)] #[]) (.func (.func 23) #[.pointer (some ⟨gd, 0, none⟩)] #[]) (.func (.func 24) #[.pointer (some ⟨gd, 0, none⟩)] #[]) rfl rfl rfl rfl rfl rfl (Tryz.build_fn6 _ _) ?_; intro g3 w3 hq3 hb3 hw3; have HN3 : Hid (g3 ≠ gd) := Lib.hid (by have := HBb.out.lt; omega); have HG3 : Hid (w.heap.size + 3 ≤ g3) := Lib.hid (by have := HBb.out.lt; have := HSa.out; omega); have HP0 : Hid (PD w gd g3 y n l A nn c B m d 0 w3) := Lib.hid ⟨⟨below_step Xb.out hw3, hb3, Lb.out.through hw3, Eb.out.through hw3, Zb.out.through hw3⟩, HBb.out.through hw3⟩; clear hq3 hb3 hw3)
          | (go_at_call 18; (with_reducible refine (HFi.out gd g3 _ HSa.out HN3.out HP0.out).mono ?_); rintro e w4 ⟨rfl, h6, hN⟩; have hbase := hN H0.out; have X4 : Hid (Below w.heap.size w w4) := Lib.hid hbase.hb; have L4 := Lib.hid hbase.b3; have E4 := Lib.hid hbase.b4; have Z4 := Lib.hid hbase.b6; have S4 : Hid (w.heap.size + 3 ≤ w4.heap.size) := Lib.hid (Nat.le_trans HG3.out (Nat.le_of_lt hbase.hf.lt)); have c0 := hbase.b4.cellAt (i := 0) rfl; have c1 := hbase.b4.cellAt (i := 1) rfl; clear hbase h6 hN)
          | (refine wpList_load_blk rfl 25 (.tmp 3) rfl w.heap.size rfl 25 [.int .i64 l.sq, .int .i64 l.tt, .slice A nn c, .slice B m d] _ L4.out Tryz.underlying25 rfl (by kernel_rfl) ?_)
          | (go_at_call 25; (with_reducible refine (HTo.out l A nn c B m d _ (HY2.out H0.out) (HLl.out.through X4.out) (by have := HNn.out; omega) (by have := HMm.out; omega) HMd.out).mono ?_); rintro e w8 ⟨A6, n6, c6, B6, m6, d6, rfl, hl6, hc6, hd6, hb6, hf6, hg6⟩; have L8 := Lib.hid (L4.out.through hb6); have E8 := Lib.hid (E4.out.through hb6); have Z8 := Lib.hid (Z4.out.through hb6); have X8 : Hid (Below w.heap.size w w8) := Lib.hid (below_step X4.out hb6); have S8 : Hid (w.heap.size + 3 ≤ w8.heap.size) := Lib.hid (Nat.le_trans S4.out hb6.size); have HL6 := Lib.hid hl6; have HC6 := Lib.hid hc6; have HD6 := Lib.hid hd6; have HF6 := Lib.hid (fun a ha => Nat.le_trans S4.out (hf6 a ha)); have HG6 := Lib.hid (fun a ha => Nat.le_trans S4.out (hg6 a ha)); clear hb6 hl6 hc6 hd6 hf6 hg6)
          | (refine wpList_store_blk rfl 25 (.tmp 6) (.tmp 51) rfl (w.heap.size + 2) [.int .i64 q.sq, .int .i64 q.tt, .slice A6 n6 c6, .slice B6 m6 d6] rfl rfl 25 [.int .i64 0, .int .i64 0, .slice none 0 0, .slice none 0 0] Z8.out (by kernel_rfl) rfl (one4l _ _ _ _ _ _ _ _) ?_; intro w9 hb9 hg9; have HB9 := Lib.hid hb9; have X9 : Hid (Below w.heap.size w w9) := Lib.hid (X8.out.grown hg9 X8.out.size (fun k hk => by have := Option.some.inj hk; omega)); have HG9 := Lib.hid hg9; clear hb9 hg9))
  (try simp only [Exit.inBlock, Exit.then]); refine bodyPost_ret (results_cell_row_tmp1 rfl _ _ (w.heap.size + 2) 25 _ (0, 0) _ rfl HB9.out Tryz.underlying25 rfl (by kernel_rfl)) rfl ⟨A6, n6, c6, B6, m6, d6, rfl, ⟨HL6.out.1.far HG9.out (fun a ha => by have := HF6.out a ha; omega), HL6.out.2.far HG9.out (fun a ha => by have := HG6.out a ha; omega)⟩, HC6.out, HD6.out, X9.out, (fun a ha => by have := HF6.out a ha; omega), fun a ha => by have := HG6.out a ha; omega⟩


end Go.Proofs.YtfflkodgojiklaaGreatDoor
