/-
  The law ContractMet, where an entry is OK (a new letter).
-/
import Derived.Deep.CutRange
import Derived.Deep.CutBlock
import Derived.Test.YtfflkodgojiklaaGreatDoorCoMA
namespace Go.Proofs.YtfflkodgojiklaaGreatDoor
open Go.RowKit
set_option maxHeartbeats 8000000 in
set_option maxRecDepth 100000 in
theorem met_ok_new (l : Lg) (y : Ey) (A : Option Addr) (n c : Nat) (B : Option Addr) (m d : Nat) (w : World) (hI : LgIn w A n B m l) (hnc : n ≤ c) (hmd : m ≤ d) (hn : n ≤ maxLen) (hLe : Led w) (hEv : EV w) (hs : y.ms < 4294967296) (hq : fewC l [y] = true) (hr : (doL l y 4).2 = 0) (hf : findL y.co.lt l.ls = none) : Calls Tryz.prog 3 #[.agg #[.int .i64 l.sq, .int .i64 l.tt, .slice A n c, .slice B m d], .agg #[.int .i64 y.co.cl, .int .i64 y.co.sp, .int .i64 y.co.op, .string (ba y.co.lt), .int .i64 y.co.a, .int .i64 y.co.b, .string (ba y.co.tx), .int .u32 (y.ms : Int)]] w fun e w' => e = .returned (.bool true) ∧ Below w.heap.size w w' := by
  have X0 : Hid (Below w.heap.size w ((w.alloc (.cells #[.int .i64 l.sq, .int .i64 l.tt, .slice A n c, .slice B m d] 25)).alloc (.cells #[.int .i64 y.co.cl, .int .i64 y.co.sp, .int .i64 y.co.op, .string (ba y.co.lt), .int .i64 y.co.a, .int .i64 y.co.b, .string (ba y.co.tx), .int .u32 (y.ms : Int)] 30))) := Lib.hid (below2 w _ _)
  have L0 : Hid (Blk ((w.alloc (.cells #[.int .i64 l.sq, .int .i64 l.tt, .slice A n c, .slice B m d] 25)).alloc (.cells #[.int .i64 y.co.cl, .int .i64 y.co.sp, .int .i64 y.co.op, .string (ba y.co.lt), .int .i64 y.co.a, .int .i64 y.co.b, .string (ba y.co.tx), .int .u32 (y.ms : Int)] 30)) w.heap.size 25 [.int .i64 l.sq, .int .i64 l.tt, .slice A n c, .slice B m d]) := Lib.hid ((Blk.fresh rfl rfl).alloc _)
  have E0 : Hid (Blk ((w.alloc (.cells #[.int .i64 l.sq, .int .i64 l.tt, .slice A n c, .slice B m d] 25)).alloc (.cells #[.int .i64 y.co.cl, .int .i64 y.co.sp, .int .i64 y.co.op, .string (ba y.co.lt), .int .i64 y.co.a, .int .i64 y.co.b, .string (ba y.co.tx), .int .u32 (y.ms : Int)] 30)) (w.heap.size + 1) 30 [.int .i64 y.co.cl, .int .i64 y.co.sp, .int .i64 y.co.op, .string (ba y.co.lt), .int .i64 y.co.a, .int .i64 y.co.b, .string (ba y.co.tx), .int .u32 (y.ms : Int)]) := Lib.hid (Blk.fresh (by simp) rfl)
  have hfx : ∀ W, Below w.heap.size w W → Calls Tryz.prog 6 #[] W fun e w' => e = .returned (.bool true) ∧ Below W.heap.size W w' := fun W hW => fixed_any W (hLe.through hW) (hEv.through hW)
  have hfw : ∀ (W : World) (g : Nat), Below w.heap.size w W → EysIn W (some ⟨g, 0, none⟩) 1 [y] → Calls Tryz.prog 7 #[.agg #[.int .i64 l.sq, .int .i64 l.tt, .slice A n c, .slice B m d], .slice (some ⟨g, 0, none⟩) 1 1] W fun e w' => e = .returned (.bool (fewC l [y])) ∧ Below W.heap.size W w' := fun W g hW hE => few_any l [y] A n c B m d (some ⟨g, 0, none⟩) 1 1 W (hI.through hW) hE hn (by decide)
  rw [hq] at hfw
  have HFx := Lib.hid hfx
  have HFw := Lib.hid hfw
  have HS := Lib.hid hs
  obtain ⟨hn64, hm64, hlt, htx, hpo⟩ := few_one hI hq
  have hdo : ∀ W, Below w.heap.size w W → Calls Tryz.prog 8 #[.agg #[.int .i64 l.sq, .int .i64 l.tt, .slice A n c, .slice B m d], .agg #[.int .i64 y.co.cl, .int .i64 y.co.sp, .int .i64 y.co.op, .string (ba y.co.lt), .int .i64 y.co.a, .int .i64 y.co.b, .string (ba y.co.tx), .int .u32 (y.ms : Int)], .int .i64 4] W (LgOutCE W (doL l y 4).1 (doL l y 4).2) := fun W hW => do_any y 4 l A n c B m d W (hI.through hW) hnc hmd (by omega) (by omega) (hLe.through hW) (hEv.through hW) hs (by omega) (few_text htx hpo)
  have hs1 : ∀ (W : World) (A5 : Option Addr) (n5 c5 : Nat) (B5 : Option Addr) (m5 : Nat), Below w.heap.size w W → LgIn W A5 n5 B5 m5 (doL l y 4).1 → Calls Tryz.prog 9 #[.agg #[.int .i64 0, .int .i64 0, .slice A5 n5 c5, .slice none 0 0], .agg #[.int .i64 0, .int .i64 0, .slice A n c, .slice none 0 0]] W fun e w' => e = .returned (.bool ((⟨0, 0, (doL l y 4).1.ls, []⟩ : Lg).same ⟨0, 0, l.ls, []⟩)) ∧ Below W.heap.size W w' := fun W A5 n5 c5 B5 m5 hW h5 => by
    have hlen := (do_lens l y 4).1
    have h6 := h5.len.1
    have h7 := hI.len.1
    exact rsame_any ⟨0, 0, (doL l y 4).1.ls, []⟩ ⟨0, 0, l.ls, []⟩ A5 n5 c5 none 0 0 A n c none 0 0 W ⟨h5.1, Sl.none_⟩ ⟨(hI.through hW).1, Sl.none_⟩ (by omega) (by omega) (by omega) (by omega)
  have hst := do_steps l y 4 hr
  obtain ⟨hnf, hrd, hho, hsp, hw9, hp9⟩ := res_steps l y 4 hst.2.2.1
  clear hw9 hp9
  have hag := do_again l y 4 hr
  have hold : oldL l y.co = Lt.no := by unfold oldL; rw [hf]; rfl
  have ho : y.co.op = 1 := by
    by_cases h1 : y.co.op = 1
    · exact h1
    · exact absurd ⟨by rw [hf]; rfl, h1⟩ hnf
  have htext : textL l y.co = y.co.tx := by unfold textL; rw [if_pos ho]
  have htl : (y.co.tx).length ≤ 1000 := by rw [← htext]; exact few_text htx hpo
  unfold readL at hrd hho
  rw [htext] at hrd hho
  have hck := parseP_check hrd
  have hpa : ∀ W, Calls Tryz.prog 11 #[.string (ba (y.co.tx)), .int .i64 4] W fun e w' => ParseOut W.heap.size (parseP (y.co.tx) 4) e w' ∧ Below W.heap.size W w' := fun W => rparse_any (y.co.tx) 4 W htl
  have hhol : ∀ (W : World) (F1 : Option Addr) (k1 c1 : Nat), (parseP (y.co.tx) 4).1.In W (fun _ => True) F1 k1 → Calls Tryz.prog 12 #[(parseP (y.co.tx) 4).1.val F1 k1 c1, .int .u32 (y.ms : Int)] W fun e w' => e = .returned (.bool ((parseP (y.co.tx) 4).1.hold y.ms)) ∧ Below W.heap.size W w' := fun W F1 k1 c1 h1 => rholds_any y.ms hs (parseP (y.co.tx) 4).1 F1 k1 c1 W (rng_of_check hck) h1
  rw [hho] at hhol
  have hfi : ∀ W, Below w.heap.size w W → Calls Tryz.prog 10 #[l.val A n c B m d, .string (ba y.co.lt)] W fun e w' => e = .returned (.tuple #[(findR (findL y.co.lt l.ls)).1.val, .bool (findR (findL y.co.lt l.ls)).2]) ∧ Below W.heap.size W w' := fun W hW => rfind_any l y.co.lt A n c B m d W (hI.through hW) (by omega)
  rw [hf] at hfi
  obtain ⟨z, hz⟩ : ∃ z : Lt, (findR none).1 = z := ⟨_, rfl⟩
  rw [hz] at hfi
  have hd2 : ∀ (W : World) (A5 : Option Addr) (n5 c5 : Nat) (B5 : Option Addr) (m5 d5 : Nat), LgIn W A5 n5 B5 m5 (doL l y 4).1 → Calls Tryz.prog 8 #[.agg #[.int .i64 (doL l y 4).1.sq, .int .i64 (doL l y 4).1.tt, .slice A5 n5 c5, .slice B5 m5 d5], .agg #[.int .i64 y.co.cl, .int .i64 y.co.sp, .int .i64 y.co.op, .string (ba y.co.lt), .int .i64 y.co.a, .int .i64 y.co.b, .string (ba y.co.tx), .int .u32 (y.ms : Int)], .int .i64 4] W (LgOutCE W (doL l y 4).1 10) := fun W A5 n5 c5 B5 m5 d5 h5 => by
    have hlen := do_lens l y 4
    have h6 := h5.len
    have h7 := hI.len
    exact do_stale y 4 (doL l y 4).1 A5 n5 c5 B5 m5 d5 W h5 (by omega) (by omega) (by omega) (stale_again l y 4 hr)
  have hs2 : ∀ (W : World) (A7 : Option Addr) (n7 c7 : Nat) (B7 : Option Addr) (m7 d7 : Nat) (A5 : Option Addr) (n5 c5 : Nat) (B5 : Option Addr) (m5 d5 : Nat), LgIn W A7 n7 B7 m7 (doL l y 4).1 → LgIn W A5 n5 B5 m5 (doL l y 4).1 → Calls Tryz.prog 9 #[.agg #[.int .i64 (doL l y 4).1.sq, .int .i64 (doL l y 4).1.tt, .slice A7 n7 c7, .slice B7 m7 d7], .agg #[.int .i64 (doL l y 4).1.sq, .int .i64 (doL l y 4).1.tt, .slice A5 n5 c5, .slice B5 m5 d5]] W fun e w' => e = .returned (.bool true) ∧ Below W.heap.size W w' := fun W A7 n7 c7 B7 m7 d7 A5 n5 c5 B5 m5 d5 h7 h5 => by
    have hlen := do_lens l y 4
    have h6 := h5.len
    have h8 := h7.len
    have h9 := hI.len
    rw [← Lg.same_self (doL l y 4).1]
    exact rsame_any (doL l y 4).1 (doL l y 4).1 A7 n7 c7 B7 m7 d7 A5 n5 c5 B5 m5 d5 W h7 h5 (by omega) (by omega) (by omega) (by omega)
  obtain ⟨⟨f, r9⟩, hp⟩ : ∃ r, parseP (y.co.tx) 4 = r := ⟨_, rfl⟩
  rw [hp] at hpa hhol hrd
  simp only at hpa hhol hrd
  subst hrd
  obtain ⟨⟨q, r⟩, hqr⟩ : ∃ q, doL l y 4 = q := ⟨_, rfl⟩
  rw [hqr] at hdo hs1 hr hd2 hs2
  simp only at hdo hs1 hr hd2 hs2
  subst hr
  obtain ⟨sb, hsb⟩ : ∃ sb, (⟨0, 0, q.ls, []⟩ : Lg).same ⟨0, 0, l.ls, []⟩ = sb := ⟨_, rfl⟩
  rw [hsb] at hs1
  have hdo2 : ∀ W, Below w.heap.size w W → Calls Tryz.prog 8 #[.agg #[.int .i64 l.sq, .int .i64 l.tt, .slice A n c, .slice B m d], .agg #[.int .i64 y.co.cl, .int .i64 y.co.sp, .int .i64 y.co.op, .string (ba y.co.lt), .int .i64 y.co.a, .int .i64 y.co.b, .string (ba y.co.tx), .int .u32 (y.ms : Int)], .int .i64 4] W fun e w' => ∃ A5 n5 c5 B5 m5 d5, e = .returned (.tuple #[.agg #[.int .i64 q.sq, .int .i64 q.tt, .slice A5 n5 c5, .slice B5 m5 d5], .int .i64 0]) ∧ LgIn w' A5 n5 B5 m5 q ∧ n5 ≤ c5 ∧ m5 ≤ d5 ∧ Below W.heap.size W w' ∧ (∀ a, A5 = some a → W.heap.size ≤ a.block) ∧ ∀ a, B5 = some a → W.heap.size ≤ a.block := hdo
  have hd3 : ∀ (W : World) (A5 : Option Addr) (n5 c5 : Nat) (B5 : Option Addr) (m5 d5 : Nat), LgIn W A5 n5 B5 m5 q → Calls Tryz.prog 8 #[.agg #[.int .i64 q.sq, .int .i64 q.tt, .slice A5 n5 c5, .slice B5 m5 d5], .agg #[.int .i64 y.co.cl, .int .i64 y.co.sp, .int .i64 y.co.op, .string (ba y.co.lt), .int .i64 y.co.a, .int .i64 y.co.b, .string (ba y.co.tx), .int .u32 (y.ms : Int)], .int .i64 4] W fun e w' => ∃ A7 n7 c7 B7 m7 d7, e = .returned (.tuple #[.agg #[.int .i64 q.sq, .int .i64 q.tt, .slice A7 n7 c7, .slice B7 m7 d7], .int .i64 10]) ∧ LgIn w' A7 n7 B7 m7 q ∧ n7 ≤ c7 ∧ m7 ≤ d7 ∧ Below W.heap.size W w' ∧ (∀ a, A7 = some a → W.heap.size ≤ a.block) ∧ ∀ a, B7 = some a → W.heap.size ≤ a.block := hd2
  have hpa2 : ∀ W, Calls Tryz.prog 11 #[.string (ba (y.co.tx)), .int .i64 4] W fun e w' => (∃ F1 k1 c1, e = .returned (.tuple #[.agg #[.int .i64 f.org, .int .i64 f.nd, .slice F1 k1 c1], .int .i64 0]) ∧ f.In w' (fun _ => True) F1 k1) ∧ Below W.heap.size W w' := fun W => (hpa W).mono fun e w' ⟨⟨F1, k1, c1, h1, h2⟩, h3⟩ => ⟨⟨F1, k1, c1, h1, Fm.In.any h2⟩, h3⟩
  have hfi2 : ∀ W, Below w.heap.size w W → Calls Tryz.prog 10 #[.agg #[.int .i64 l.sq, .int .i64 l.tt, .slice A n c, .slice B m d], .string (ba y.co.lt)] W fun e w' => e = .returned (.tuple #[.agg #[.string (ba z.nm), .int .i64 z.st, .int .i64 z.am, .int .i64 z.du, .string (ba z.po), .string (ba z.pa)], .bool false]) ∧ Below W.heap.size W w' := hfi
  have hho2 : ∀ (W : World) (F1 : Option Addr) (k1 c1 : Nat), f.In W (fun _ => True) F1 k1 → Calls Tryz.prog 12 #[.agg #[.int .i64 f.org, .int .i64 f.nd, .slice F1 k1 c1], .int .u32 (y.ms : Int)] W fun e w' => e = .returned (.bool true) ∧ Below W.heap.size W w' := hhol
  have HDo := Lib.hid hdo2
  have HD2 := Lib.hid hd3
  have HS1 := Lib.hid hs1
  have HS2 := Lib.hid hs2
  have HPa := Lib.hid hpa2
  have HFi := Lib.hid hfi2
  have HHo := Lib.hid hho2
  have ho1 : (y.co.op == 1) = true := by simp [ho]
  have ho2 : (y.co.op != 1) = false := by simp [ho]
  have HO1 := Lib.hid ho1
  have HO2 := Lib.hid ho2
  clear ho1 ho2
  have hb2 := Tryz.build_lg_2
  clear hfx hfw hI hnc hmd hn hLe hEv hs hq hdo hdo2 hz hd2 hd3 hs1 hs2 hqr hn64 hm64 hlt htx hpo hpa hpa2 hfi hfi2 hhol hho2 hst hnf hho hsp hag hold htext htl hck hp ho hf hsb
  go_enter Tryz.func3, Tryz.ntmps3
  go_upto_region 6 with (first
    | (go_at_call 6; (with_reducible refine (HFx.out _ X0.out).mono ?_); rintro e w1 ⟨rfl, hb⟩; have L1 := Lib.hid ((L0.out.through hb)); have E1 := Lib.hid ((E0.out.through hb)); have X1 : Hid (Below w.heap.size w w1) := Lib.hid (below_step X0.out hb); clear hb)
    | (refine wpList_load_blk rfl 25 (.tmp 2) rfl w.heap.size rfl 25 [.int .i64 l.sq, .int .i64 l.tt, .slice A n c, .slice B m d] _ L1.out Tryz.underlying25 rfl (by kernel_rfl) ?_)
    | (refine wpList_load_blk rfl 30 (.tmp 3) rfl (w.heap.size + 1) rfl 30 [.int .i64 y.co.cl, .int .i64 y.co.sp, .int .i64 y.co.op, .string (ba y.co.lt), .int .i64 y.co.a, .int .i64 y.co.b, .string (ba y.co.tx), .int .u32 (y.ms : Int)] _ E1.out Tryz.underlying30 rfl (by kernel_rfl) ?_)
    | (refine wpList_build_el_w rfl Tryz.el_ey (.tmp 18) rfl [.int .i64 y.co.cl, .int .i64 y.co.sp, .int .i64 y.co.op, .string (ba y.co.lt), .int .i64 y.co.a, .int .i64 y.co.b, .string (ba y.co.tx), .int .u32 (y.ms : Int)] rfl rfl ?_; intro gb wb hbb hwb; have HEb := Lib.hid (EysIn.one hbb HS.out); have Lb := Lib.hid ((L1.out.through hwb)); have Eb := Lib.hid ((E1.out.through hwb)); have Xb : Hid (Below w.heap.size w wb) := Lib.hid (below_step X1.out hwb); clear hbb hwb)
    | (go_at_call 7; (with_reducible refine (HFw.out _ _ Xb.out HEb.out).mono ?_); rintro e w2 ⟨rfl, hb⟩; have L2 := Lib.hid ((Lb.out.through hb)); have E2 := Lib.hid ((Eb.out.through hb)); have X2 : Hid (Below w.heap.size w w2) := Lib.hid (below_step Xb.out hb); clear hb)
    | (refine wpList_load_blk rfl 25 (.tmp 2) rfl w.heap.size rfl 25 [.int .i64 l.sq, .int .i64 l.tt, .slice A n c, .slice B m d] _ L2.out Tryz.underlying25 rfl (by kernel_rfl) ?_)
    | (refine wpList_load_blk rfl 30 (.tmp 3) rfl (w.heap.size + 1) rfl 30 [.int .i64 y.co.cl, .int .i64 y.co.sp, .int .i64 y.co.op, .string (ba y.co.lt), .int .i64 y.co.a, .int .i64 y.co.b, .string (ba y.co.tx), .int .u32 (y.ms : Int)] _ E2.out Tryz.underlying30 rfl (by kernel_rfl) ?_)
    | (go_at_call 8; (with_reducible refine (HDo.out _ X2.out).mono ?_); rintro e w3 ⟨A5, n5, c5, B5, m5, d5, rfl, hi, hc, hd, hb, hf, hg⟩; have L3 := Lib.hid ((L2.out.through hb).alloc (.cells #[.int .i64 q.sq, .int .i64 q.tt, .slice A5 n5 c5, .slice B5 m5 d5] 25)); have E3 := Lib.hid ((E2.out.through hb).alloc (.cells #[.int .i64 q.sq, .int .i64 q.tt, .slice A5 n5 c5, .slice B5 m5 d5] 25)); have X3 : Hid (Below w.heap.size w (w3.alloc (.cells #[.int .i64 q.sq, .int .i64 q.tt, .slice A5 n5 c5, .slice B5 m5 d5] 25))) := Lib.hid ((below_step X2.out hb).alloc (Nat.le_trans X2.out.size hb.size) _); have K3 : Hid (Blk (w3.alloc (.cells #[.int .i64 q.sq, .int .i64 q.tt, .slice A5 n5 c5, .slice B5 m5 d5] 25)) w3.heap.size 25 [.int .i64 q.sq, .int .i64 q.tt, .slice A5 n5 c5, .slice B5 m5 d5]) := Lib.hid (Blk.fresh rfl rfl); have I3 := Lib.hid (hi.alloc (.cells #[.int .i64 q.sq, .int .i64 q.tt, .slice A5 n5 c5, .slice B5 m5 d5] 25));   clear hi hc hd hb hf hg))
  go_cut [7] from 28 to 41 (fun v wx => (∃ b : Bool, v = .bool b) ∧ Below w.heap.size w wx ∧ Blk wx w.heap.size 25 [.int .i64 l.sq, .int .i64 l.tt, .slice A n c, .slice B m d] ∧ Blk wx (w.heap.size + 1) 30 [.int .i64 y.co.cl, .int .i64 y.co.sp, .int .i64 y.co.op, .string (ba y.co.lt), .int .i64 y.co.a, .int .i64 y.co.b, .string (ba y.co.tx), .int .u32 (y.ms : Int)] ∧ Blk wx w3.heap.size 25 [.int .i64 q.sq, .int .i64 q.tt, .slice A5 n5 c5, .slice B5 m5 d5] ∧ LgIn wx A5 n5 B5 m5 q)
  case first =>
    have k1 := K3.out.cellAt (i := 1) rfl
    have k2 := K3.out.cellAt (i := 2) rfl
    have l1 := L3.out.cellAt (i := 1) rfl
    have l2 := L3.out.cellAt (i := 2) rfl
    by_cases htt : q.tt = l.tt
    case pos =>
      have ht : (q.tt == l.tt) = true := by simp [htt]
      clear htt
      go_wp2_with (first
        | (go_at_call 9; (with_reducible refine (HS1.out _ _ _ _ _ _ X3.out I3.out).mono ?_); rintro e w4 ⟨rfl, hb⟩; have L4 := Lib.hid ((L3.out.through hb)); have E4 := Lib.hid ((E3.out.through hb)); have K4 := Lib.hid ((K3.out.through hb)); have I4 := Lib.hid ((I3.out.through hb)); have X4 : Hid (Below w.heap.size w w4) := Lib.hid (below_step X3.out hb);  clear hb k1 k2 l1 l2))
      go_meet
      case rel => exact ⟨⟨_, rfl⟩, X4.out, L4.out, E4.out, K4.out, I4.out⟩
    case neg =>
      have ht : (q.tt == l.tt) = false := by simp [htt]
      clear htt
      go_wp2
      go_meet
      case rel => exact ⟨⟨_, rfl⟩, X3.out, L3.out, E3.out, K3.out, I3.out⟩
  case rest =>
    obtain ⟨⟨b4, rfl⟩, hx, hl, he, hk, hi⟩ := hcut
    have X4 := Lib.hid hx
    have L4 := Lib.hid hl
    have E4 := Lib.hid he
    have K4 := Lib.hid hk
    have I4 := Lib.hid hi
    have e2 := E4.out.cellAt (i := 2) rfl
    have e3 := E4.out.cellAt (i := 3) rfl
    have e6 := E4.out.cellAt (i := 6) rfl
    clear hx hl he hk hi
    go_wp2_with (first
      | (refine wpList_load_blk rfl 25 (.tmp 2) rfl w.heap.size rfl 25 [.int .i64 l.sq, .int .i64 l.tt, .slice A n c, .slice B m d] _ L4.out Tryz.underlying25 rfl (by kernel_rfl) ?_)
      | (go_at_call 10; (with_reducible refine (HFi.out _ X4.out).mono ?_); rintro e w5 ⟨rfl, hb⟩; have L5 := Lib.hid ((L4.out.through hb).alloc (.cells #[.string (ba z.nm), .int .i64 z.st, .int .i64 z.am, .int .i64 z.du, .string (ba z.po), .string (ba z.pa)] 39)); have E5 := Lib.hid ((E4.out.through hb).alloc (.cells #[.string (ba z.nm), .int .i64 z.st, .int .i64 z.am, .int .i64 z.du, .string (ba z.po), .string (ba z.pa)] 39)); have K5 := Lib.hid ((K4.out.through hb).alloc (.cells #[.string (ba z.nm), .int .i64 z.st, .int .i64 z.am, .int .i64 z.du, .string (ba z.po), .string (ba z.pa)] 39)); have I5 := Lib.hid ((I4.out.through hb).alloc (.cells #[.string (ba z.nm), .int .i64 z.st, .int .i64 z.am, .int .i64 z.du, .string (ba z.po), .string (ba z.pa)] 39)); have X5 : Hid (Below w.heap.size w (w5.alloc (.cells #[.string (ba z.nm), .int .i64 z.st, .int .i64 z.am, .int .i64 z.du, .string (ba z.po), .string (ba z.pa)] 39))) := Lib.hid ((below_step X4.out hb).alloc (Nat.le_trans X4.out.size hb.size) _); have zz : Hid (Blk (w5.alloc (.cells #[.string (ba z.nm), .int .i64 z.st, .int .i64 z.am, .int .i64 z.du, .string (ba z.po), .string (ba z.pa)] 39)) w5.heap.size 39 [.string (ba z.nm), .int .i64 z.st, .int .i64 z.am, .int .i64 z.du, .string (ba z.po), .string (ba z.pa)]) := Lib.hid (Blk.fresh rfl rfl); have z1 := zz.out.cellAt (i := 1) rfl; have z4 := zz.out.cellAt (i := 4) rfl; have e2 := E5.out.cellAt (i := 2) rfl; have e3 := E5.out.cellAt (i := 3) rfl; have e6 := E5.out.cellAt (i := 6) rfl; have e7 := E5.out.cellAt (i := 7) rfl; have ho1 := HO1.out; have ho2 := HO2.out; clear hb)
      | (go_at_call 11; (with_reducible refine (HPa.out _).mono ?_); rintro e w6 ⟨⟨F1, k1, c1, rfl, hin⟩, hb⟩; have L6 := Lib.hid ((L5.out.through hb).alloc (.cells #[.int .i64 f.org, .int .i64 f.nd, .slice F1 k1 c1] 44)); have E6 := Lib.hid ((E5.out.through hb).alloc (.cells #[.int .i64 f.org, .int .i64 f.nd, .slice F1 k1 c1] 44)); have K6 := Lib.hid ((K5.out.through hb).alloc (.cells #[.int .i64 f.org, .int .i64 f.nd, .slice F1 k1 c1] 44)); have I6 := Lib.hid ((I5.out.through hb).alloc (.cells #[.int .i64 f.org, .int .i64 f.nd, .slice F1 k1 c1] 44)); have X6 : Hid (Below w.heap.size w (w6.alloc (.cells #[.int .i64 f.org, .int .i64 f.nd, .slice F1 k1 c1] 44))) := Lib.hid ((below_step X5.out hb).alloc (Nat.le_trans X5.out.size hb.size) _); have P6 : Hid (Blk (w6.alloc (.cells #[.int .i64 f.org, .int .i64 f.nd, .slice F1 k1 c1] 44)) w6.heap.size 44 [.int .i64 f.org, .int .i64 f.nd, .slice F1 k1 c1]) := Lib.hid (Blk.fresh rfl rfl); have N6 := Lib.hid (hin.alloc (.cells #[.int .i64 f.org, .int .i64 f.nd, .slice F1 k1 c1] 44)); clear hin hb z1 z4)
      | (refine wpList_load_blk rfl 25 (.tmp 5) rfl w3.heap.size rfl 25 [.int .i64 q.sq, .int .i64 q.tt, .slice A5 n5 c5, .slice B5 m5 d5] _ K6.out Tryz.underlying25 rfl (by kernel_rfl) ?_)
      | (refine wpList_load_blk rfl 30 (.tmp 3) rfl (w.heap.size + 1) rfl 30 [.int .i64 y.co.cl, .int .i64 y.co.sp, .int .i64 y.co.op, .string (ba y.co.lt), .int .i64 y.co.a, .int .i64 y.co.b, .string (ba y.co.tx), .int .u32 (y.ms : Int)] _ E6.out Tryz.underlying30 rfl (by kernel_rfl) ?_)
      | (go_at_call 8; (with_reducible refine (HD2.out _ _ _ _ _ _ _ I6.out).mono ?_); rintro e w7 ⟨A7, n7, c7, B7, m7, d7, rfl, hi, hc, hd, hb, hf, hg⟩; have L7 := Lib.hid ((L6.out.through hb).alloc (.cells #[.int .i64 q.sq, .int .i64 q.tt, .slice A7 n7 c7, .slice B7 m7 d7] 25)); have E7 := Lib.hid ((E6.out.through hb).alloc (.cells #[.int .i64 q.sq, .int .i64 q.tt, .slice A7 n7 c7, .slice B7 m7 d7] 25)); have K7 := Lib.hid ((K6.out.through hb).alloc (.cells #[.int .i64 q.sq, .int .i64 q.tt, .slice A7 n7 c7, .slice B7 m7 d7] 25)); have P7 := Lib.hid ((P6.out.through hb).alloc (.cells #[.int .i64 q.sq, .int .i64 q.tt, .slice A7 n7 c7, .slice B7 m7 d7] 25)); have I7 := Lib.hid ((I6.out.through hb).alloc (.cells #[.int .i64 q.sq, .int .i64 q.tt, .slice A7 n7 c7, .slice B7 m7 d7] 25)); have N7 := Lib.hid ((N6.out.through hb).alloc (.cells #[.int .i64 q.sq, .int .i64 q.tt, .slice A7 n7 c7, .slice B7 m7 d7] 25)); have X7 : Hid (Below w.heap.size w (w7.alloc (.cells #[.int .i64 q.sq, .int .i64 q.tt, .slice A7 n7 c7, .slice B7 m7 d7] 25))) := Lib.hid ((below_step X6.out hb).alloc (Nat.le_trans X6.out.size hb.size) _); have M7 : Hid (Blk (w7.alloc (.cells #[.int .i64 q.sq, .int .i64 q.tt, .slice A7 n7 c7, .slice B7 m7 d7] 25)) w7.heap.size 25 [.int .i64 q.sq, .int .i64 q.tt, .slice A7 n7 c7, .slice B7 m7 d7]) := Lib.hid (Blk.fresh rfl rfl); have J7 := Lib.hid (hi.alloc (.cells #[.int .i64 q.sq, .int .i64 q.tt, .slice A7 n7 c7, .slice B7 m7 d7] 25)); have e7 := E7.out.cellAt (i := 7) rfl; clear hi hc hd hb hf hg)
      | (refine wpList_load_blk_g 44 (.tmp 11) rfl (by kernel_rfl) w6.heap.size rfl 44 [.int .i64 f.org, .int .i64 f.nd, .slice F1 k1 c1] _ P7.out Tryz.underlying44 rfl (by kernel_rfl) ?_)
      | (go_at_call 12; (with_reducible refine (HHo.out _ _ _ _ N7.out).mono ?_); rintro e w8 ⟨rfl, hb⟩; have L8 := Lib.hid ((L7.out.through hb)); have E8 := Lib.hid ((E7.out.through hb)); have K8 := Lib.hid ((K7.out.through hb)); have P8 := Lib.hid ((P7.out.through hb)); have M8 := Lib.hid ((M7.out.through hb)); have I8 := Lib.hid ((I7.out.through hb)); have J8 := Lib.hid ((J7.out.through hb)); have N8 := Lib.hid ((N7.out.through hb)); have X8 : Hid (Below w.heap.size w w8) := Lib.hid (below_step X7.out hb); clear hb)
      | (refine wpList_load_blk_g 25 (.tmp 13) rfl (by kernel_rfl) w7.heap.size rfl 25 [.int .i64 q.sq, .int .i64 q.tt, .slice A7 n7 c7, .slice B7 m7 d7] _ M8.out Tryz.underlying25 rfl (by kernel_rfl) ?_)
      | (refine wpList_load_blk_g 25 (.tmp 5) rfl (by kernel_rfl) w3.heap.size rfl 25 [.int .i64 q.sq, .int .i64 q.tt, .slice A5 n5 c5, .slice B5 m5 d5] _ K8.out Tryz.underlying25 rfl (by kernel_rfl) ?_)
      | (go_at_call 9; (with_reducible refine (HS2.out _ _ _ _ _ _ _ _ _ _ _ _ _ J8.out I8.out).mono ?_); rintro e w9 ⟨rfl, hb⟩; have X9 := Lib.hid (below_step X8.out hb); clear hb))
    go_ret
    exact ⟨(by first | trivial | exact ret_b rfl), X9.out⟩


end Go.Proofs.YtfflkodgojiklaaGreatDoor
