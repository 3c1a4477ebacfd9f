/-
  ChB ChC ChK
-/
import Derived.Deep.RegionHeld
import Derived.Test.YtheecifgbkdecaaSM13
import Derived.Test.YtheecifgbkdecaaSM11
import Derived.Test.YtheecifgbkdecaaSM8
import Derived.Test.YtheecifgbkdecaaSM15
import Derived.Test.YtheecifgbkdecaaSM6
import Derived.Test.YtheecifgbkdecaaSM17
namespace Go.Proofs.Ytheecifgbkdecaa
open Go.RowKit

theorem encPf_len (p : Pf) : (encPf p).length = 20 + (encB p.es).length := by
 unfold encPf rowB
 simp only [List.length_append, beB_length]
 omega
end Go.Proofs.Ytheecifgbkdecaa

namespace Go.Proofs.Ytheecifgbkdecaa
open Go.RowKit

theorem Try.agg_pos (w : World) : (isAgg 22).run Try.prog w = .ok false w := by kernel_rfl
theorem Try.agg_pfs (w : World) : (isAgg 23).run Try.prog w = .ok false w := by kernel_rfl
theorem Po.one (p : Po) : (Po.cells p).toArray.all (·.oneCell') = true := Array.all_eq_true_iff_forall_mem.2 (fun u hu => by
 simp only [Po.cells, List.mem_toArray, List.mem_cons] at hu
 rcases hu with rfl | hu
 ·rfl
 ·exact vs_one u hu)

end Go.Proofs.Ytheecifgbkdecaa

namespace Go.Proofs.Ytheecifgbkdecaa
open Go.RowKit

set_option maxHeartbeats 2000000 in
theorem rmark_any (s : Int) (w : World) : Calls Try.prog 65 #[.int .i64 s] w fun e w' => e = .returned (.bool (markB s)) ∧ w' = w := by
 obtain ⟨q, hq⟩ : ∃ q, isW s = q := ⟨_, rfl⟩
 have HS : Hid (∀ W : World, Calls Try.prog 100 #[.int .i64 s] W fun e w' => e = .returned (.bool q) ∧ w' = W) := Lib.hid (fun W => hq ▸ rseq_any s W)
 unfold markB
 rw [hq]
 cases q with
 | false =>
  clear hq
  go_enter Try.func65, Try.ntmps65
  go_wp2_with (first
   | go_skip
   | (go_at_call 100; (with_reducible refine (HS.out _).mono ?_); rintro e w1 ⟨rfl, rfl⟩))
  go_ret
  exact ⟨rfl, rfl⟩
 | true =>
  have hb : 0 ≤ s ∧ s ≤ 1048576 := by simpa [isW] using hq
  obtain ⟨m, hm⟩ : ∃ m : Int, s % 4 = m := ⟨_, rfl⟩
  have ht : s.tmod 4 = m := by rw [Int.tmod_eq_emod_of_nonneg hb.1]; exact hm
  have hw : IntKind.i64.wrap m = m := IntWalk.i64_in _ (by omega)
  have hw2 : wrap64 m = m := by unfold wrap64; omega
  obtain ⟨mb, hmb⟩ : ∃ mb, (m == 0) = mb := ⟨_, rfl⟩
  have hd : decide (s % 4 = 0) = mb := by rw [hm, ← hmb]; by_cases h0 : m = 0 <;> simp [h0]
  rw [hd]
  clear hq hb hd
  go_enter Try.func65, Try.ntmps65
  go_wp2_with (first
   | go_skip
   | (go_at_call 100; (with_reducible refine (HS.out _).mono ?_); rintro e w1 ⟨rfl, rfl⟩))
  go_ret
  exact ⟨ret_bo (by simp), rfl⟩

set_option maxHeartbeats 8000000 in
set_option maxRecDepth 100000 in
theorem rproof_any (p : Pf) (B : Option Addr) (m dd : Nat) (c : Ch) (P Q R : Pl) (n : Int) (w : World) (h : EysIn w B m p.es) (hlw : isW c.lw = true) (hl : ∀ y ∈ p.es, y.co.lt.length ≤ 1000000) :
  Calls Try.prog 66 #[.agg #[.int .i64 p.sq, .int .i64 p.vw, .slice B m dd], .agg (Ch.cells c P Q R).toArray, .int .i64 n] w fun e w' => e = .returned (.bool (prfB c.vw c.lw n p)) ∧ Below w.heap.size w w' := by
 have H1 : Hid (Blk ((w.alloc (.cells #[.int .i64 p.sq, .int .i64 p.vw, .slice B m dd] 55)).alloc (.cells (Ch.cells c P Q R).toArray 25)) w.heap.size 55 [.int .i64 p.sq, .int .i64 p.vw, .slice B m dd]) := Lib.hid ((Blk.fresh rfl rfl).alloc _)
 have H2 : Hid (Blk ((w.alloc (.cells #[.int .i64 p.sq, .int .i64 p.vw, .slice B m dd] 55)).alloc (.cells (Ch.cells c P Q R).toArray 25)) (w.heap.size + 1) 25 (Ch.cells c P Q R)) := Lib.hid (Blk.fresh (by simp) rfl)
 have HX : Hid (Below w.heap.size w ((w.alloc (.cells #[.int .i64 p.sq, .int .i64 p.vw, .slice B m dd] 55)).alloc (.cells (Ch.cells c P Q R).toArray 25))) := Lib.hid (below2_ w _ _)
 obtain ⟨bb, hbb⟩ : ∃ bb, prfB c.vw c.lw n p = bb := ⟨_, rfl⟩
 rw [hbb]
 obtain ⟨ck, hck⟩ : ∃ ck, chkB p.es n = ck := ⟨_, rfl⟩
 have HCk : Hid (Calls Try.prog 101 #[.slice B m dd, .int .i64 n] ((w.alloc (.cells #[.int .i64 p.sq, .int .i64 p.vw, .slice B m dd] 55)).alloc (.cells (Ch.cells c P Q R).toArray 25)) fun e w' => e = .returned (.int .i64 ck) ∧ Below ((w.alloc (.cells #[.int .i64 p.sq, .int .i64 p.vw, .slice B m dd] 55)).alloc (.cells (Ch.cells c P Q R).toArray 25)).heap.size ((w.alloc (.cells #[.int .i64 p.sq, .int .i64 p.vw, .slice B m dd] 55)).alloc (.cells (Ch.cells c P Q R).toArray 25)) w') := Lib.hid (hck ▸ rcheck15_any p.es n B m dd ((w.alloc (.cells #[.int .i64 p.sq, .int .i64 p.vw, .slice B m dd] 55)).alloc (.cells (Ch.cells c P Q R).toArray 25)) (h.through HX.out) hl)
 have hlo : 0 ≤ c.lw ∧ c.lw ≤ 1048576 := by simpa [isW] using hlw
 obtain ⟨top, htop⟩ : ∃ t : Int, c.lw + 8 = t := ⟨_, rfl⟩
 have hwr : IntKind.i64.wrap (c.lw + 8) = top := by rw [IntWalk.i64_in _ (by omega)]; exact htop
 have HQ : Hid (bb = (decide (c.lw < p.sq) && decide (p.sq ≤ top) && decide (0 ≤ p.vw) && decide (p.vw < c.vw) && decide (ck = 0))) := Lib.hid (by rw [← hbb, ← htop, ← hck]; rfl)
 have k0 := H1.out.cellAt (i := 0) rfl
 have k1 := H1.out.cellAt (i := 1) rfl
 have k2 := H1.out.cellAt (i := 2) rfl
 have j0 := H2.out.cellAt (i := 0) rfl
 have j1 := H2.out.cellAt (i := 1) rfl
 clear h hbb hck hlo hlw hl htop
 by_cases s0 : c.lw < p.sq
 case neg =>
  have d0 : decide (c.lw < p.sq) = false := by simpa using s0
  have HF : Hid (bb = false) := Lib.hid (by rw [HQ.out, d0]; rfl)
  clear s0
  go_enter Try.func66, Try.ntmps66
  go_wp2_with (first | go_skip)
  go_ret
  exact ⟨ret_bo HF.out.symm, HX.out⟩
 have d0 : decide (c.lw < p.sq) = true := by simpa using s0
 by_cases s1 : p.sq ≤ top
 case neg =>
  have d1 : decide (p.sq ≤ top) = false := by simpa using s1
  have HF : Hid (bb = false) := Lib.hid (by rw [HQ.out, d0, d1]; rfl)
  clear s0 s1
  go_enter Try.func66, Try.ntmps66
  go_wp2_with (first | go_skip)
  go_ret
  exact ⟨ret_bo HF.out.symm, HX.out⟩
 have d1 : decide (p.sq ≤ top) = true := by simpa using s1
 by_cases s2 : 0 ≤ p.vw
 case neg =>
  have d2 : decide (0 ≤ p.vw) = false := by simpa using s2
  have HF : Hid (bb = false) := Lib.hid (by rw [HQ.out, d0, d1, d2]; rfl)
  clear s0 s1 s2
  go_enter Try.func66, Try.ntmps66
  go_wp2_with (first | go_skip)
  go_ret
  exact ⟨ret_bo HF.out.symm, HX.out⟩
 have d2 : decide (0 ≤ p.vw) = true := by simpa using s2
 by_cases s3 : p.vw < c.vw
 case neg =>
  have d3 : decide (p.vw < c.vw) = false := by simpa using s3
  have HF : Hid (bb = false) := Lib.hid (by rw [HQ.out, d0, d1, d2, d3]; rfl)
  clear s0 s1 s2 s3
  go_enter Try.func66, Try.ntmps66
  go_wp2_with (first | go_skip)
  go_ret
  exact ⟨ret_bo HF.out.symm, HX.out⟩
 have d3 : decide (p.vw < c.vw) = true := by simpa using s3
 by_cases s4 : ck = 0
 case neg =>
  have d4 : (ck == 0) = false := by simpa using s4
  have HF : Hid (bb = false) := Lib.hid (by rw [HQ.out, d0, d1, d2, d3]; simp [s4])
  clear s0 s1 s2 s3 s4
  go_enter Try.func66, Try.ntmps66
  go_wp2_with (first
   | go_skip
   | (go_at_call 101; (with_reducible refine (HCk.out).mono ?_); rintro e w1 ⟨rfl, hb1⟩; have HX1 := Lib.hid (below_step HX.out hb1); clear hb1))
  go_ret
  exact ⟨ret_bo HF.out.symm, HX1.out⟩
 case pos =>
  subst s4
  have HF : Hid (bb = true) := Lib.hid (by rw [HQ.out, d0, d1, d2, d3]; rfl)
  clear s0 s1 s2 s3
  go_enter Try.func66, Try.ntmps66
  go_wp2_with (first
   | go_skip
   | (go_at_call 101; (with_reducible refine (HCk.out).mono ?_); rintro e w1 ⟨rfl, hb1⟩; have HX1 := Lib.hid (below_step HX.out hb1); clear hb1))
  go_ret
  exact ⟨ret_bo HF.out.symm, HX1.out⟩

end Go.Proofs.Ytheecifgbkdecaa
