/-
  LetterSteps, walked.
-/
import Derived.Test.YtjdglfjbfejcdaaDoorLF10
import Derived.Test.YtjdglfjbfejcdaaDoorLRS
namespace Go.Proofs.YtjdglfjbfejcdaaDoor
open Go.RowKit

theorem Led.drewN {w : World} (h : Led w) (n : Nat) : Led (w.drewN n) := h

set_option maxHeartbeats 8000000 in
set_option maxRecDepth 100000 in
theorem lsteps_any (l : Lt) (op a b : Int) (t : List UInt8) (w : World) (hl : Led w) : Calls Tryd.prog 3 #[l.val, .int .i64 op, .int .i64 a, .int .i64 b, .string (ba t)] w fun e w' => e = .returned (.bool true) ∧ Below w.heap.size w w' := by
  have hsz := ba_size
  have HL := Lib.hid hl
  clear hl
  by_cases hlen : 500 < t.length
  · obtain ⟨nm, st, am, du, po, pa⟩ := l
    unfold Lt.val
    go_enter Tryd.func3, Tryd.ntmps3
    go_wp2_with (go_at_call 5; (with_reducible refine (fixed_any _ (HL.out.alloc _)).mono ?_); rintro e w1 ⟨rfl, hb⟩; have HX1 : Hid (Below w.heap.size w w1) := Lib.hid (below_step (below1 w _) hb); have HL1 := Lib.hid ((HL.out.alloc (.cells #[.string (ba nm), .int .i64 st, .int .i64 am, .int .i64 du, .string (ba po), .string (ba pa)] 23)).through hb); have HB1 : Hid (Blk w1 w.heap.size 23 [.string (ba nm), .int .i64 st, .int .i64 am, .int .i64 du, .string (ba po), .string (ba pa)]) := Lib.hid ((Blk.fresh rfl rfl).through hb); clear hb)
    go_ret
    exact ⟨rfl, HX1.out⟩
  have hp : ∀ W, Led W → Calls Tryd.prog 6 #[l.val, .int .i64 op, .int .i64 a, .int .i64 b, .string (ba t)] W fun e w' => e = .returned (ltE (stepL l op a b t)) ∧ Below W.heap.size W w' := fun W h => step_any l op a b t W h
  have hr : ∀ W, Calls Tryd.prog 7 #[l.val, .int .i64 op, .int .i64 a, .int .i64 b, .string (ba t)] W fun e w' => e = .returned (ltE (stepL l op a b t)) ∧ Below W.heap.size W w' := fun W => rstep_any l op a b t W
  have hn : ∀ W n, Led W → Calls Tryd.prog 8 #[.int .i64 l.st, .int .i64 op] (W.drewN n) fun e w' => e = .returned (.int .i64 (nextL l.st op)) ∧ w' = W.drewN n := fun W n h => next_any l.st op _ (h.drewN n)
  have hk : ∀ W n, Led W → Calls Tryd.prog 10 #[.int .i64 l.st, .int .i64 op] (W.drewN n) fun e w' => e = .returned (.bool (!(nextL l.st op == 0))) ∧ w' = W.drewN n := fun W n h => can_any l.st op _ (h.drewN n)
  have hm : ∀ (W : World) (n : Nat), Calls Tryd.prog 9 #[.int .i64 l.st, .int .i64 op] (W.drewN n) fun e w' => e = .returned (.int .i64 (nextL l.st op)) ∧ w' = W.drewN n := fun W n => rnext_any l.st op _
  unfold ltE at hp hr
  generalize (stepL l op a b t).1 = q at *
  generalize (stepL l op a b t).2 = x at *
  obtain ⟨nm, st, am, du, po, pa⟩ := l
  simp only at hn hk hm
  unfold Lt.val at hp hr ⊢
  generalize nextL st op = n at *
  obtain ⟨c, hc⟩ : ∃ c, (n == 0) = c := ⟨_, rfl⟩
  rw [hc] at hk
  have hc2 : (n != 0) = !c := by rw [← hc]; rfl
  have HP := Lib.hid hp
  have HR := Lib.hid hr
  have HN := Lib.hid hn
  have HK := Lib.hid hk
  have HM := Lib.hid hm
  clear hp hr hn hk hm
  go_enter Tryd.func3, Tryd.ntmps3
  go_wp2_with (first
    | (go_at_call 5; (with_reducible refine (fixed_any _ (HL.out.alloc _)).mono ?_); rintro e w1 ⟨rfl, hb⟩; have HX1 : Hid (Below w.heap.size w w1) := Lib.hid (below_step (below1 w _) hb); have HL1 := Lib.hid ((HL.out.alloc (.cells #[.string (ba nm), .int .i64 st, .int .i64 am, .int .i64 du, .string (ba po), .string (ba pa)] 23)).through hb); have HB1 : Hid (Blk w1 w.heap.size 23 [.string (ba nm), .int .i64 st, .int .i64 am, .int .i64 du, .string (ba po), .string (ba pa)]) := Lib.hid ((Blk.fresh rfl rfl).through hb); clear hb)
    | (refine wpList_load_blk rfl 23 (.tmp 5) rfl w.heap.size rfl 23 [.string (ba nm), .int .i64 st, .int .i64 am, .int .i64 du, .string (ba po), .string (ba pa)] _ HB1.out Tryd.underlying23 rfl (by kernel_rfl) ?_)
    | (go_at_call 6; (with_reducible refine (HP.out _ HL1.out).mono ?_); rintro e w2 ⟨rfl, hb⟩; have HX2 := Lib.hid ((below_step HX1.out hb).alloc (below_step HX1.out hb).size (.cells #[.string (ba q.nm), .int .i64 q.st, .int .i64 q.am, .int .i64 q.du, .string (ba q.po), .string (ba q.pa)] 23)); have HL2 := Lib.hid ((HL1.out.through hb).alloc (.cells #[.string (ba q.nm), .int .i64 q.st, .int .i64 q.am, .int .i64 q.du, .string (ba q.po), .string (ba q.pa)] 23)); have HB2 := Lib.hid ((HB1.out.through hb).alloc (.cells #[.string (ba q.nm), .int .i64 q.st, .int .i64 q.am, .int .i64 q.du, .string (ba q.po), .string (ba q.pa)] 23)); have HQ2 : Hid (Blk (w2.alloc (.cells #[.string (ba q.nm), .int .i64 q.st, .int .i64 q.am, .int .i64 q.du, .string (ba q.po), .string (ba q.pa)] 23)) w2.heap.size 23 [.string (ba q.nm), .int .i64 q.st, .int .i64 q.am, .int .i64 q.du, .string (ba q.po), .string (ba q.pa)]) := Lib.hid (Blk.fresh rfl rfl); clear hb)
    | (refine wpList_load_blk rfl 23 (.tmp 5) rfl w.heap.size rfl 23 [.string (ba nm), .int .i64 st, .int .i64 am, .int .i64 du, .string (ba po), .string (ba pa)] _ HB2.out Tryd.underlying23 rfl (by kernel_rfl) ?_)
    | (go_at_call 7; (with_reducible refine (HR.out _).mono ?_); rintro e w3 ⟨rfl, hb⟩; have HX3 := Lib.hid ((below_step HX2.out hb).alloc (below_step HX2.out hb).size (.cells #[.string (ba q.nm), .int .i64 q.st, .int .i64 q.am, .int .i64 q.du, .string (ba q.po), .string (ba q.pa)] 23)); have HL3 := Lib.hid ((HL2.out.through hb).alloc (.cells #[.string (ba q.nm), .int .i64 q.st, .int .i64 q.am, .int .i64 q.du, .string (ba q.po), .string (ba q.pa)] 23)); have HB3 := Lib.hid ((HB2.out.through hb).alloc (.cells #[.string (ba q.nm), .int .i64 q.st, .int .i64 q.am, .int .i64 q.du, .string (ba q.po), .string (ba q.pa)] 23)); have HQ3 := Lib.hid ((HQ2.out.through hb).alloc (.cells #[.string (ba q.nm), .int .i64 q.st, .int .i64 q.am, .int .i64 q.du, .string (ba q.po), .string (ba q.pa)] 23)); have HS3 : Hid (Blk (w3.alloc (.cells #[.string (ba q.nm), .int .i64 q.st, .int .i64 q.am, .int .i64 q.du, .string (ba q.po), .string (ba q.pa)] 23)) w3.heap.size 23 [.string (ba q.nm), .int .i64 q.st, .int .i64 q.am, .int .i64 q.du, .string (ba q.po), .string (ba q.pa)]) := Lib.hid (Blk.fresh rfl rfl); clear hb))
  have q0 := HQ3.out.cellAt (i := 0) rfl
  have q1 := HQ3.out.cellAt (i := 1) rfl
  have q2 := HQ3.out.cellAt (i := 2) rfl
  have q3 := HQ3.out.cellAt (i := 3) rfl
  have q4 := HQ3.out.cellAt (i := 4) rfl
  have q5 := HQ3.out.cellAt (i := 5) rfl
  have b1 := HB3.out.cellAt (i := 1) rfl
  go_quiet ((first | (go_at_call 8; exact Calls.quiet_of_same (HN.out _ _ HL3.out)) | (go_at_call 10; exact Calls.quiet_of_same (HK.out _ _ HL3.out)) | (go_at_call 9; exact Calls.quiet_of_same (HM.out _ _))))
  go_wp2
  go_ret
  exact ⟨rfl, below_drewN HX3.out _⟩

end Go.Proofs.YtjdglfjbfejcdaaDoor
