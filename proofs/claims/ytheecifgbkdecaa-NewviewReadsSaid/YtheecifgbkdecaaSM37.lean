/-
  BaK CwG
-/
import Derived.Deep.RegionHeld
import Derived.Test.YtheecifgbkdecaaSM15
import Derived.Test.YtheecifgbkdecaaSM14
import Derived.Test.YtheecifgbkdecaaSM32
import Derived.Test.YtheecifgbkdecaaSM35
import Derived.Test.YtheecifgbkdecaaSMT
namespace Go.Proofs.Ytheecifgbkdecaa
open Go.RowKit

set_option maxHeartbeats 8000000 in
set_option maxRecDepth 100000 in
theorem check_any (es : List Ey) (n : Int) (A : Option Addr) (k c : Nat) (w : World) (h : EysIn w A k es) (hk : k ≤ c) (hl : ∀ y ∈ es, y.co.lt.length ≤ 140737488355328) :
  Calls Try.prog 81 #[.slice A k c, .int .i64 n] w fun e w' => e = .returned (.int .i64 (chkB es n)) ∧ Below w.heap.size w w' := by
 have HI := Lib.hid h
 have HLn := Lib.hid h.len
 have HLt := Lib.hid hl
 have HKc := Lib.hid hk
 have HSz : Hid (∀ W : World, Calls Try.prog 90 #[.int .i64 (k : Int), .int .i64 n] W fun e w' => e = .returned (.int .i64 (sizesE es.length n)) ∧ w' = W) := Lib.hid (fun W => by rw [h.len]; exact checksizes_any k n W)
 by_cases hs : sizesE es.length n = 0
 case neg =>
  have e1 : (sizesE es.length n == 0) = false := by simpa using hs
  have e2 : (sizesE es.length n != 0) = true := by simpa using hs
  have HV : Hid (chkB es n = sizesE es.length n) := Lib.hid (by unfold chkB; rw [if_pos hs])
  generalize sizesE es.length n = sz at *
  clear h hl hk hs
  go_enter Try.func81, Try.ntmps81
  go_wp2_with (first
   | (go_at_call 90; (with_reducible refine (HSz.out _).mono ?_); rintro e w1 ⟨rfl, hw1⟩; obtain rfl : w = w1 := hw1.symm))
  go_ret
  exact ⟨ret_i HV.out.symm, Below.refl _ _⟩
 have HN : Hid ((1 ≤ n ∧ n ≤ 7) ∧ k ≤ 4) := Lib.hid (by
  rw [h.len] at hs
  unfold sizesE at hs
  split at hs
  ·cases hs
  ·split at hs
   ·cases hs
   ·omega)
 have HV : Hid (chkB es n = chkW n none es) := Lib.hid (by unfold chkB; rw [if_neg (by simp [hs])])
 rw [hs] at HSz
 obtain ⟨bb, hbb⟩ : ∃ bb, chkB es n = bb := ⟨_, rfl⟩
 rw [hbb]
 have HBB := Lib.hid hbb
 clear h hl hk hs hbb
 go_enter Try.func81, Try.ntmps81
 go_wp2_with (first
  | (go_at_call 90; (with_reducible refine (HSz.out _).mono ?_); rintro e w1 ⟨rfl, hw1⟩; obtain rfl : w = w1 := hw1.symm))
 go_loopw [18] (fun iv wr => ∃ i : Nat, i ≤ k ∧ iv = .int .i64 i ∧ bb = chkW n (lastC (es.take i)) (es.drop i) ∧ Below w.heap.size w wr) (fun iv _ => k - (intOf iv).toNat)
 case atStart => exact ⟨0, Nat.zero_le _, rfl, by rw [← HBB.out, HV.out]; rfl, Below.refl _ _⟩
 case round =>
  obtain ⟨i, hi, rfl, hp, hx⟩ := hrel
  have HX := Lib.hid hx
  clear hx
  have hk4 : k ≤ 4 := HN.out.2
  by_cases hlt : i < k
  ·obtain ⟨g, o, y, rfl, hyi, hmem, hd, hrx⟩ := (HI.out.through HX.out).at hlt
   have HTk : Hid (lastC (es.take (i + 1)) = some y.co.cl) := Lib.hid (by
    have hil : i < es.length := by rw [HLn.out]; exact hlt
    rw [lastC_take hil]
    rw [List.getElem?_eq_getElem hil] at hyi
    rw [Option.some.inj hyi])
   rw [chkW_drop n hd] at hp
   have HRx := Lib.hid hrx
   have hix := Try.ix_ey wr g o k c i hlt
   have hcut := fun W : World => run_head (P := Try.prog) W 53 61 g o k c i Try.underlying53 (by kernel_rfl) (by have := HKc.out; omega)
   have HB : Hid (Blk (wr.alloc (.cells #[.int .i64 y.co.cl, .int .i64 y.co.sp, .int .i64 y.co.op, .string (ba y.co.lt), .int .i64 y.co.a, .int .i64 y.co.b, .string (ba y.co.tx), .int .u32 (y.ms : Int)] 61)) wr.heap.size 61 [.int .i64 y.co.cl, .int .i64 y.co.sp, .int .i64 y.co.op, .string (ba y.co.lt), .int .i64 y.co.a, .int .i64 y.co.b, .string (ba y.co.tx), .int .u32 (y.ms : Int)]) := Lib.hid (Blk.fresh rfl rfl)
   have HC : Hid ((wr.alloc (.cells #[.int .i64 y.co.cl, .int .i64 y.co.sp, .int .i64 y.co.op, .string (ba y.co.lt), .int .i64 y.co.a, .int .i64 y.co.b, .string (ba y.co.tx), .int .u32 (y.ms : Int)] 61)).rangeAt wr.heap.size 0 [.int .i64 y.co.cl, .int .i64 y.co.sp, .int .i64 y.co.op, .string (ba y.co.lt), .int .i64 y.co.a, .int .i64 y.co.b, .string (ba y.co.tx)]) := Lib.hid (Blk.front (post := [.int .u32 (y.ms : Int)]) HB.out)
   have HXa : Hid (Below w.heap.size w (wr.alloc (.cells #[.int .i64 y.co.cl, .int .i64 y.co.sp, .int .i64 y.co.op, .string (ba y.co.lt), .int .i64 y.co.a, .int .i64 y.co.b, .string (ba y.co.tx), .int .u32 (y.ms : Int)] 61))) := Lib.hid (HX.out.alloc HX.out.size _)
   have HIa := Lib.hid ((HI.out.through HXa.out).take (i := i) (by omega))
   have HCk : Hid (∀ W : World, Calls Try.prog 105 #[.agg #[.int .i64 y.co.cl, .int .i64 y.co.sp, .int .i64 y.co.op, .string (ba y.co.lt), .int .i64 y.co.a, .int .i64 y.co.b, .string (ba y.co.tx)], .int .i64 n] W fun e w' => e = .returned (.int .i64 (chkC y.co n)) ∧ Below W.heap.size W w') := Lib.hid (fun W => chkC_any y.co n W (HLt.out y hmem))
   have HCe : Hid (∀ W : World, Below (wr.alloc (.cells #[.int .i64 y.co.cl, .int .i64 y.co.sp, .int .i64 y.co.op, .string (ba y.co.lt), .int .i64 y.co.a, .int .i64 y.co.b, .string (ba y.co.tx), .int .u32 (y.ms : Int)] 61)).heap.size (wr.alloc (.cells #[.int .i64 y.co.cl, .int .i64 y.co.sp, .int .i64 y.co.op, .string (ba y.co.lt), .int .i64 y.co.a, .int .i64 y.co.b, .string (ba y.co.tx), .int .u32 (y.ms : Int)] 61)) W → Calls Try.prog 92 #[.slice (some ⟨g, o, none⟩) i c, .agg #[.int .i64 y.co.cl, .int .i64 y.co.sp, .int .i64 y.co.op, .string (ba y.co.lt), .int .i64 y.co.a, .int .i64 y.co.b, .string (ba y.co.tx), .int .u32 (y.ms : Int)], .int .i64 (chkC y.co n), .int .i64 n] W fun e w' => e = .returned (.int .i64 (chk1 n (lastC (es.take i)) (chkC y.co n) y)) ∧ Below W.heap.size W w') := Lib.hid (fun W hW => checkentry_any (es.take i) y (chkC y.co n) n (some ⟨g, o, none⟩) i c W (HIa.out.through hW) (by have := HN.out; omega) (fun _ => HN.out.1))
   clear hrx hd hyi hmem HIa
   generalize chkC y.co n = er at *
   generalize chk1 n (lastC (es.take i)) er y = v at *
   by_cases hv : v = 0
   ·subst hv
    have HP : Hid (bb = chkW n (some y.co.cl) (es.drop (i + 1))) := Lib.hid (by rw [hp]; simp)
    clear hp
    go_wp2_with (first
     | (refine wpList_load_mid rfl 61 (.tmp 21) rfl g (o + i * 8) rfl [.int .i64 y.co.cl, .int .i64 y.co.sp, .int .i64 y.co.op, .string (ba y.co.lt), .int .i64 y.co.a, .int .i64 y.co.b, .string (ba y.co.tx), .int .u32 (y.ms : Int)] _ HRx.out Try.underlying61 rfl (by kernel_rfl) ?_))
    try dsimp only [Act.put]
    generalize hw1 : wr.alloc (.cells #[.int .i64 y.co.cl, .int .i64 y.co.sp, .int .i64 y.co.op, .string (ba y.co.lt), .int .i64 y.co.a, .int .i64 y.co.b, .string (ba y.co.tx), .int .u32 (y.ms : Int)] 61) = w1 at *
    clear hw1
    generalize hg7 : wr.heap.size = g7 at *
    clear hg7
    refine wp_region_held_drew (S := fun W => Below w1.heap.size w1 W) (by kernel_rfl) (Below.refl _ _).drew (fun hHeld => ?_)
    change wpAnyH _ _ _ _ _ _ #[false, false, false, false, false, false, false, false, false, false, false] _ _
    refine tkq (i := 0) (d := 23) (v := (.slice (some ⟨g, o, none⟩) k c)) rfl rfl (Or.inl ⟨by kernel_rfl, fun w hSw => ?_⟩) (by assumption) ?_
    ·(try dsimp only at hSw); go_simp <;> (try rfl)
    simp only [Act.put, sq1, sq2, sq3]
    refine tkq (i := 1) (d := 24) (v := (.int .i64 (i : Int))) rfl rfl (Or.inl ⟨by kernel_rfl, fun w hSw => ?_⟩) (by assumption) ?_
    ·(try dsimp only at hSw); go_simp <;> (try rfl)
    simp only [Act.put, sq1, sq2, sq3]
    refine tkq (i := 2) (d := 25) (v := (.slice (some ⟨g, o, none⟩) i c)) rfl rfl (Or.inl ⟨by kernel_rfl, fun w hSw => ?_⟩) (by assumption) ?_
    ·(try dsimp only at hSw); go_simp <;> (try rfl)
    simp only [Act.put, sq1, sq2, sq3]
    refine tkq (i := 3) (d := 26) (v := (.agg #[.int .i64 y.co.cl, .int .i64 y.co.sp, .int .i64 y.co.op, .string (ba y.co.lt), .int .i64 y.co.a, .int .i64 y.co.b, .string (ba y.co.tx), .int .u32 (y.ms : Int)])) rfl rfl (yields_load_at (by kernel_rfl) 61 (.tmp 7) rfl (.pointer (some ⟨g7, 0, none⟩)) (by simp [Act.eval]) (.agg #[.int .i64 y.co.cl, .int .i64 y.co.sp, .int .i64 y.co.op, .string (ba y.co.lt), .int .i64 y.co.a, .int .i64 y.co.b, .string (ba y.co.tx), .int .u32 (y.ms : Int)]) (fun W hW => (HB.out.through hW).loadAt 61 _ Try.underlying61 rfl (by kernel_rfl))) (by assumption) ?_
    simp only [Act.put, sq1, sq2, sq3]
    refine tkq (i := 4) (d := 27) (v := (.pointer (some ⟨g7, 0, none⟩))) rfl rfl (Or.inl ⟨by kernel_rfl, fun w hSw => ?_⟩) (by assumption) ?_
    ·(try dsimp only at hSw); go_simp <;> (try rfl)
    simp only [Act.put, sq1, sq2, sq3]
    refine tkq (i := 5) (d := 28) (v := (.agg #[.int .i64 y.co.cl, .int .i64 y.co.sp, .int .i64 y.co.op, .string (ba y.co.lt), .int .i64 y.co.a, .int .i64 y.co.b, .string (ba y.co.tx)])) rfl rfl (yieldsIf_load_mid (by kernel_rfl) 58 (.tmp 27) rfl g7 0 (by simp [Act.eval]) [.int .i64 y.co.cl, .int .i64 y.co.sp, .int .i64 y.co.op, .string (ba y.co.lt), .int .i64 y.co.a, .int .i64 y.co.b, .string (ba y.co.tx)] _ (fun W hW => rangeAt.through HC.out hW) Try.underlying58 rfl (by kernel_rfl)) (by assumption) ?_
    simp only [Act.put, sq1, sq2, sq3]
    refine tkq (i := 6) (d := 29) (v := (.int .i64 n)) rfl rfl (Or.inl ⟨by kernel_rfl, fun w hSw => ?_⟩) (by assumption) ?_
    ·(try dsimp only at hSw); go_simp <;> (try rfl)
    simp only [Act.put, sq1, sq2, sq3]
    refine tkq (i := 8) (d := 31) (v := (.int .i64 n)) rfl rfl (Or.inl ⟨by kernel_rfl, fun w hSw => ?_⟩) (by assumption) ?_
    ·(try dsimp only at hSw); go_simp <;> (try rfl)
    simp only [Act.put, sq1, sq2, sq3]
    refine wpAnyH_ready (rs := [7]) (by kernel_rfl) (by simp) ?_
    refine AllReadyH.cons rfl (fun K hK => ?_) AllReadyH.nil
    go_simp
    refine (HCk.out _).mono ?_
    rintro e w2 ⟨rfl, hb2⟩; have HK2 := Lib.hid (below_step hHeld hb2); clear hb2
    go_wp2_with fail
    refine hK.out _ _ HK2.out (fun hHeld1 => ?_)
    clear hHeld hK K
    have hHeld := hHeld1
    clear hHeld1
    refine wpAnyH_ready (rs := [9]) (by kernel_rfl) (by simp) ?_
    refine AllReadyH.cons rfl (fun K hK => ?_) AllReadyH.nil
    go_simp
    refine (HCe.out _ HK2.out).mono ?_
    rintro e w3 ⟨rfl, hb3⟩; have HK3 := Lib.hid (below_step HK2.out hb3); clear hb3
    go_wp2_with fail
    refine hK.out _ _ HK3.out (fun hHeld1 => ?_)
    clear hHeld hK K
    have hHeld := hHeld1
    clear hHeld1
    refine tkq (i := 10) (d := 8) (v := (.int .i64 0)) rfl rfl (Or.inl ⟨by kernel_rfl, fun w hSw => ?_⟩) (by assumption) ?_
    ·(try dsimp only at hSw); go_simp <;> (try rfl)
    simp only [Act.put, sq1, sq2, sq3]
    refine wpAnyH_done (by kernel_rfl) ?_ _
    go_wp2
    go_roundw
    case rel => exact ⟨i + 1, by omega, by go_num, by rw [HTk.out]; exact HP.out, below_step HXa.out HK3.out⟩
    case measure => simp [intOf]; omega
   ·have v1 : (v == 0) = false := by simpa using hv
    have v2 : (v != 0) = true := by simpa using hv
    have HP : Hid (bb = v) := Lib.hid (by rw [hp]; simp [hv])
    clear hp hv
    go_wp2_with (first
     | (refine wpList_load_mid rfl 61 (.tmp 21) rfl g (o + i * 8) rfl [.int .i64 y.co.cl, .int .i64 y.co.sp, .int .i64 y.co.op, .string (ba y.co.lt), .int .i64 y.co.a, .int .i64 y.co.b, .string (ba y.co.tx), .int .u32 (y.ms : Int)] _ HRx.out Try.underlying61 rfl (by kernel_rfl) ?_))
    try dsimp only [Act.put]
    generalize hw1 : wr.alloc (.cells #[.int .i64 y.co.cl, .int .i64 y.co.sp, .int .i64 y.co.op, .string (ba y.co.lt), .int .i64 y.co.a, .int .i64 y.co.b, .string (ba y.co.tx), .int .u32 (y.ms : Int)] 61) = w1 at *
    clear hw1
    generalize hg7 : wr.heap.size = g7 at *
    clear hg7
    refine wp_region_held_drew (S := fun W => Below w1.heap.size w1 W) (by kernel_rfl) (Below.refl _ _).drew (fun hHeld => ?_)
    change wpAnyH _ _ _ _ _ _ #[false, false, false, false, false, false, false, false, false, false, false] _ _
    refine tkq (i := 0) (d := 23) (v := (.slice (some ⟨g, o, none⟩) k c)) rfl rfl (Or.inl ⟨by kernel_rfl, fun w hSw => ?_⟩) (by assumption) ?_
    ·(try dsimp only at hSw); go_simp <;> (try rfl)
    simp only [Act.put, sq1, sq2, sq3]
    refine tkq (i := 1) (d := 24) (v := (.int .i64 (i : Int))) rfl rfl (Or.inl ⟨by kernel_rfl, fun w hSw => ?_⟩) (by assumption) ?_
    ·(try dsimp only at hSw); go_simp <;> (try rfl)
    simp only [Act.put, sq1, sq2, sq3]
    refine tkq (i := 2) (d := 25) (v := (.slice (some ⟨g, o, none⟩) i c)) rfl rfl (Or.inl ⟨by kernel_rfl, fun w hSw => ?_⟩) (by assumption) ?_
    ·(try dsimp only at hSw); go_simp <;> (try rfl)
    simp only [Act.put, sq1, sq2, sq3]
    refine tkq (i := 3) (d := 26) (v := (.agg #[.int .i64 y.co.cl, .int .i64 y.co.sp, .int .i64 y.co.op, .string (ba y.co.lt), .int .i64 y.co.a, .int .i64 y.co.b, .string (ba y.co.tx), .int .u32 (y.ms : Int)])) rfl rfl (yields_load_at (by kernel_rfl) 61 (.tmp 7) rfl (.pointer (some ⟨g7, 0, none⟩)) (by simp [Act.eval]) (.agg #[.int .i64 y.co.cl, .int .i64 y.co.sp, .int .i64 y.co.op, .string (ba y.co.lt), .int .i64 y.co.a, .int .i64 y.co.b, .string (ba y.co.tx), .int .u32 (y.ms : Int)]) (fun W hW => (HB.out.through hW).loadAt 61 _ Try.underlying61 rfl (by kernel_rfl))) (by assumption) ?_
    simp only [Act.put, sq1, sq2, sq3]
    refine tkq (i := 4) (d := 27) (v := (.pointer (some ⟨g7, 0, none⟩))) rfl rfl (Or.inl ⟨by kernel_rfl, fun w hSw => ?_⟩) (by assumption) ?_
    ·(try dsimp only at hSw); go_simp <;> (try rfl)
    simp only [Act.put, sq1, sq2, sq3]
    refine tkq (i := 5) (d := 28) (v := (.agg #[.int .i64 y.co.cl, .int .i64 y.co.sp, .int .i64 y.co.op, .string (ba y.co.lt), .int .i64 y.co.a, .int .i64 y.co.b, .string (ba y.co.tx)])) rfl rfl (yieldsIf_load_mid (by kernel_rfl) 58 (.tmp 27) rfl g7 0 (by simp [Act.eval]) [.int .i64 y.co.cl, .int .i64 y.co.sp, .int .i64 y.co.op, .string (ba y.co.lt), .int .i64 y.co.a, .int .i64 y.co.b, .string (ba y.co.tx)] _ (fun W hW => rangeAt.through HC.out hW) Try.underlying58 rfl (by kernel_rfl)) (by assumption) ?_
    simp only [Act.put, sq1, sq2, sq3]
    refine tkq (i := 6) (d := 29) (v := (.int .i64 n)) rfl rfl (Or.inl ⟨by kernel_rfl, fun w hSw => ?_⟩) (by assumption) ?_
    ·(try dsimp only at hSw); go_simp <;> (try rfl)
    simp only [Act.put, sq1, sq2, sq3]
    refine tkq (i := 8) (d := 31) (v := (.int .i64 n)) rfl rfl (Or.inl ⟨by kernel_rfl, fun w hSw => ?_⟩) (by assumption) ?_
    ·(try dsimp only at hSw); go_simp <;> (try rfl)
    simp only [Act.put, sq1, sq2, sq3]
    refine wpAnyH_ready (rs := [7]) (by kernel_rfl) (by simp) ?_
    refine AllReadyH.cons rfl (fun K hK => ?_) AllReadyH.nil
    go_simp
    refine (HCk.out _).mono ?_
    rintro e w2 ⟨rfl, hb2⟩; have HK2 := Lib.hid (below_step hHeld hb2); clear hb2
    go_wp2_with fail
    refine hK.out _ _ HK2.out (fun hHeld1 => ?_)
    clear hHeld hK K
    have hHeld := hHeld1
    clear hHeld1
    refine wpAnyH_ready (rs := [9]) (by kernel_rfl) (by simp) ?_
    refine AllReadyH.cons rfl (fun K hK => ?_) AllReadyH.nil
    go_simp
    refine (HCe.out _ HK2.out).mono ?_
    rintro e w3 ⟨rfl, hb3⟩; have HK3 := Lib.hid (below_step HK2.out hb3); clear hb3
    go_wp2_with fail
    refine hK.out _ _ HK3.out (fun hHeld1 => ?_)
    clear hHeld hK K
    have hHeld := hHeld1
    clear hHeld1
    refine tkq (i := 10) (d := 8) (v := (.int .i64 v)) rfl rfl (Or.inl ⟨by kernel_rfl, fun w hSw => ?_⟩) (by assumption) ?_
    ·(try dsimp only at hSw); go_simp <;> (try rfl)
    simp only [Act.put, sq1, sq2, sq3]
    refine wpAnyH_done (by kernel_rfl) ?_ _
    go_wp2
    go_ret
    exact ⟨ret_i HP.out.symm, below_step HXa.out HK3.out⟩
  ·have e : es.drop i = [] := List.drop_of_length_le (by have := HLn.out; omega)
   rw [e] at hp
   have HP : Hid (bb = 0) := Lib.hid hp
   clear hp e
   go_wp2
   go_ret
   exact ⟨ret_i HP.out.symm, HX.out⟩

end Go.Proofs.Ytheecifgbkdecaa

namespace Go.Proofs.Ytheecifgbkdecaa
open Go.RowKit

theorem Blk.whl_ {w : World} {g : Nat} {t : TypeId} {cs : List Value} (h : Blk w g t cs) : w.rangeAt g 0 cs := Blk.range (pre := []) (post := []) (by simpa using h)

set_option maxHeartbeats 16000000 in
set_option maxRecDepth 100000 in
theorem cl1_any (p : Po) (w : World) : Calls Try.prog 79 #[.agg (Po.cells p).toArray] w fun e w' => e = .returned (.bool (markB p.sq)) ∧ Below w.heap.size w w' := by
 have HB : Hid (Blk (w.alloc (.cells (Po.cells p).toArray 52)) w.heap.size 52 (Po.cells p)) := Lib.hid (Blk.fresh rfl rfl)
 have HX : Hid (Below w.heap.size w (w.alloc (.cells (Po.cells p).toArray 52))) := Lib.hid (below1_ w _)
 have k0 := HB.out.cellAt (i := 0) rfl
 obtain ⟨q, hq⟩ : ∃ q, markB p.sq = q := ⟨_, rfl⟩
 have HM : Hid (∀ W : World, Calls Try.prog 78 #[.int .i64 p.sq] W fun e w' => e = .returned (.bool q) ∧ w' = W) := Lib.hid (fun W => hq ▸ cmark_any p.sq W)
 rw [hq]
 clear hq
 go_enter Try.func79, Try.ntmps79
 go_wp2_with (first
  | (go_at_call 78; (with_reducible refine (HM.out _).mono ?_); rintro e w1 ⟨rfl, rfl⟩))
 go_ret
 exact ⟨rfl, HX.out⟩

set_option maxHeartbeats 16000000 in
set_option maxRecDepth 100000 in
theorem cl3_any (p : Po) (w : World) : Calls Try.prog 82 #[.agg (Po.cells p).toArray] w fun e w' => e = .returned (.int .i64 p.sq) ∧ Below w.heap.size w w' := by
 have HB : Hid (Blk (w.alloc (.cells (Po.cells p).toArray 52)) w.heap.size 52 (Po.cells p)) := Lib.hid (Blk.fresh rfl rfl)
 have HX : Hid (Below w.heap.size w (w.alloc (.cells (Po.cells p).toArray 52))) := Lib.hid (below1_ w _)
 have k0 := HB.out.cellAt (i := 0) rfl
 go_enter Try.func82, Try.ntmps82
 go_wp2
 go_ret
 exact ⟨rfl, HX.out⟩

set_option maxHeartbeats 16000000 in
set_option maxRecDepth 100000 in
theorem cl4_any (p : Pf) (B : Option Addr) (m c : Nat) (w : World) : Calls Try.prog 83 #[.agg #[.int .i64 p.sq, .int .i64 p.vw, .slice B m c]] w fun e w' => e = .returned (.int .i64 p.sq) ∧ Below w.heap.size w w' := by
 have HB : Hid (Blk (w.alloc (.cells #[.int .i64 p.sq, .int .i64 p.vw, .slice B m c] 55)) w.heap.size 55 [.int .i64 p.sq, .int .i64 p.vw, .slice B m c]) := Lib.hid (Blk.fresh rfl rfl)
 have HX : Hid (Below w.heap.size w (w.alloc (.cells #[.int .i64 p.sq, .int .i64 p.vw, .slice B m c] 55))) := Lib.hid (below1_ w _)
 have k0 := HB.out.cellAt (i := 0) rfl
 go_enter Try.func83, Try.ntmps83
 go_wp2
 go_ret
 exact ⟨rfl, HX.out⟩

set_option maxHeartbeats 16000000 in
set_option maxRecDepth 100000 in
theorem cl5_any (p : Pf) (B : Option Addr) (m c : Nat) (w : World) : Calls Try.prog 84 #[.agg #[.int .i64 p.sq, .int .i64 p.vw, .slice B m c]] w fun e w' => e = .returned (.int .i64 p.vw) ∧ Below w.heap.size w w' := by
 have HB : Hid (Blk (w.alloc (.cells #[.int .i64 p.sq, .int .i64 p.vw, .slice B m c] 55)) w.heap.size 55 [.int .i64 p.sq, .int .i64 p.vw, .slice B m c]) := Lib.hid (Blk.fresh rfl rfl)
 have HX : Hid (Below w.heap.size w (w.alloc (.cells #[.int .i64 p.sq, .int .i64 p.vw, .slice B m c] 55))) := Lib.hid (below1_ w _)
 have k0 := HB.out.cellAt (i := 1) rfl
 go_enter Try.func84, Try.ntmps84
 go_wp2
 go_ret
 exact ⟨rfl, HX.out⟩

set_option maxHeartbeats 16000000 in
set_option maxRecDepth 100000 in
theorem cl2_any (p : Pf) (B : Option Addr) (m dd : Nat) (c : Ch) (P Q R : Pl) (n : Int) (gc gn : Nat) (w : World) (hc : Blk w gc 25 (Ch.cells c P Q R)) (hn : Blk w gn 3 [.int .i64 n]) (h : EysIn w B m p.es) (hmd : m ≤ dd) (hlw : isW c.lw = true) (hl : ∀ y ∈ p.es, y.co.lt.length ≤ 1000000) :
  Calls Try.prog 80 #[.agg #[.int .i64 p.sq, .int .i64 p.vw, .slice B m dd], .pointer (some ⟨gc, 0, none⟩), .pointer (some ⟨gn, 0, none⟩)] w fun e w' => e = .returned (.bool (prfB c.vw c.lw n p)) ∧ Below w.heap.size w w' := by
 have H1 : Hid (Blk (w.alloc (.cells #[.int .i64 p.sq, .int .i64 p.vw, .slice B m dd] 55)) w.heap.size 55 [.int .i64 p.sq, .int .i64 p.vw, .slice B m dd]) := Lib.hid (Blk.fresh rfl rfl)
 have HX : Hid (Below w.heap.size w (w.alloc (.cells #[.int .i64 p.sq, .int .i64 p.vw, .slice B m dd] 55))) := Lib.hid (below1_ w _)
 have H2 : Hid (Blk (w.alloc (.cells #[.int .i64 p.sq, .int .i64 p.vw, .slice B m dd] 55)) gc 25 (Ch.cells c P Q R)) := Lib.hid (hc.through HX.out)
 have H3 : Hid (Blk (w.alloc (.cells #[.int .i64 p.sq, .int .i64 p.vw, .slice B m dd] 55)) gn 3 [.int .i64 n]) := Lib.hid (hn.through HX.out)
 obtain ⟨bb, hbb⟩ : ∃ bb, prfB c.vw c.lw n p = bb := ⟨_, rfl⟩
 rw [hbb]
 obtain ⟨ck, hck⟩ : ∃ ck, chkB p.es n = ck := ⟨_, rfl⟩
 have HCk : Hid (Calls Try.prog 81 #[.slice B m dd, .int .i64 n] (w.alloc (.cells #[.int .i64 p.sq, .int .i64 p.vw, .slice B m dd] 55)) fun e w' => e = .returned (.int .i64 ck) ∧ Below (w.alloc (.cells #[.int .i64 p.sq, .int .i64 p.vw, .slice B m dd] 55)).heap.size (w.alloc (.cells #[.int .i64 p.sq, .int .i64 p.vw, .slice B m dd] 55)) w') := Lib.hid (hck ▸ check_any p.es n B m dd (w.alloc (.cells #[.int .i64 p.sq, .int .i64 p.vw, .slice B m dd] 55)) (h.through HX.out) hmd (fun y hy => by have := hl y hy; omega))
 have hlo : 0 ≤ c.lw ∧ c.lw ≤ 1048576 := by simpa [isW] using hlw
 obtain ⟨top, htop⟩ : ∃ t : Int, c.lw + 8 = t := ⟨_, rfl⟩
 have hwr : IntKind.i64.wrap (c.lw + 8) = top := by rw [IntWalk.i64_in _ (by omega)]; exact htop
 have HQ : Hid (bb = (decide (c.lw < p.sq) && decide (p.sq ≤ top) && decide (0 ≤ p.vw) && decide (p.vw < c.vw) && decide (ck = 0))) := Lib.hid (by rw [← hbb, ← htop, ← hck]; rfl)
 have k0 := H1.out.cellAt (i := 0) rfl
 have k1 := H1.out.cellAt (i := 1) rfl
 have k2 := H1.out.cellAt (i := 2) rfl
 have j0 := H2.out.cellAt (i := 0) rfl
 have j1 := H2.out.cellAt (i := 1) rfl
 have n0 := H3.out.cellAt (i := 0) rfl
 clear h hc hn hlw hl hbb hck hlo htop
 by_cases c1 : c.lw < p.sq
 ·have d1 : decide (c.lw < p.sq) = true := by simpa using c1
  by_cases c2 : p.sq ≤ top
  ·have d2 : decide (p.sq ≤ top) = true := by simpa using c2
   by_cases c3 : 0 ≤ p.vw
   ·have d3 : decide (0 ≤ p.vw) = true := by simpa using c3
    by_cases c4 : p.vw < c.vw
    ·have d4 : decide (p.vw < c.vw) = true := by simpa using c4
     obtain ⟨ckb, hckb⟩ : ∃ b, (ck == 0) = b := ⟨_, rfl⟩
     have HF : Hid (bb = ckb) := Lib.hid (by rw [HQ.out, d1, d2, d3, d4, ← hckb]; by_cases h0 : ck = 0 <;> simp [h0])
     clear c1 c2 c3 c4
     go_enter Try.func80, Try.ntmps80
     go_wp2_with (first
      | go_skip
      | (go_at_call 81; (with_reducible refine (HCk.out).mono ?_); rintro e w1 ⟨rfl, hb1⟩; have HX1 := Lib.hid (below_step HX.out hb1); clear hb1))
     go_ret
     exact ⟨ret_bo HF.out.symm, HX1.out⟩

    ·have d4 : decide (p.vw < c.vw) = false := by simpa using c4
     have HF : Hid (bb = false) := Lib.hid (by rw [HQ.out, d4]; simp)
     clear c1 c2 c3 c4
     go_enter Try.func80, Try.ntmps80
     go_wp2_with (first
      | go_skip)
     go_ret
     exact ⟨ret_bo HF.out.symm, HX.out⟩

   ·have d3 : decide (0 ≤ p.vw) = false := by simpa using c3
    have HF : Hid (bb = false) := Lib.hid (by rw [HQ.out, d3]; simp)
    clear c1 c2 c3
    go_enter Try.func80, Try.ntmps80
    go_wp2_with (first
     | go_skip)
    go_ret
    exact ⟨ret_bo HF.out.symm, HX.out⟩

  ·have d2 : decide (p.sq ≤ top) = false := by simpa using c2
   have HF : Hid (bb = false) := Lib.hid (by rw [HQ.out, d2]; simp)
   clear c1 c2
   go_enter Try.func80, Try.ntmps80
   go_wp2_with (first
    | go_skip)
   go_ret
   exact ⟨ret_bo HF.out.symm, HX.out⟩

 ·have d1 : decide (c.lw < p.sq) = false := by simpa using c1
  have HF : Hid (bb = false) := Lib.hid (by rw [HQ.out, d1]; simp)
  clear c1
  go_enter Try.func80, Try.ntmps80
  go_wp2_with (first
   | go_skip)
  go_ret
  exact ⟨ret_bo HF.out.symm, HX.out⟩

end Go.Proofs.Ytheecifgbkdecaa
