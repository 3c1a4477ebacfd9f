/-
  The step 'read' of an entry that is being done.
-/
import Derived.Test.YtfflkodgojiklaaGreatDoorCoF
namespace Go.Proofs.YtfflkodgojiklaaGreatDoor
open Go.RowKit

set_option maxHeartbeats 8000000 in
set_option maxRecDepth 100000 in
theorem dread_any (y : Ey) (n : Int) (l : Lg) (A : Option Addr) (nn c : Nat) (B : Option Addr) (m d : Nat) (x : Lt) (o a : Int) (F : Option Addr) (k kc : Nat) (g : Nat) (w : World) (hB : Blk w g 61 [.int .i64 y.co.cl, .int .i64 y.co.sp, .int .i64 y.co.op, .string (ba y.co.lt), .int .i64 y.co.a, .int .i64 y.co.b, .string (ba y.co.tx), .int .u32 (y.ms : Int), .int .i64 n, .int .i64 l.sq, .int .i64 l.tt, .slice A nn c, .slice B m d, .string (ba x.nm), .int .i64 x.st, .int .i64 x.am, .int .i64 x.du, .string (ba x.po), .string (ba x.pa), .int .i64 o, .int .i64 a, .slice F k kc]) (hE : EV w) (ht : (if y.co.op = 1 then y.co.tx else x.po).length ≤ 1000) :
    Calls Tryz.prog 20 #[.pointer (some ⟨g, 0, none⟩)] w fun e w' => e = .returned (.int .i64 (if (parseP (if y.co.op = 1 then y.co.tx else x.po) n).2 ≠ 0 then 2 else 0)) ∧ w.grownBy w' (some g) ∧
      ((parseP (if y.co.op = 1 then y.co.tx else x.po) n).2 = 0 → ∃ F1 k1 c1, Blk w' g 61 [.int .i64 y.co.cl, .int .i64 y.co.sp, .int .i64 y.co.op, .string (ba y.co.lt), .int .i64 y.co.a, .int .i64 y.co.b, .string (ba y.co.tx), .int .u32 (y.ms : Int), .int .i64 n, .int .i64 l.sq, .int .i64 l.tt, .slice A nn c, .slice B m d, .string (ba x.nm), .int .i64 x.st, .int .i64 x.am, .int .i64 x.du, .string (ba x.po), .string (ba x.pa), .int .i64 (parseP (if y.co.op = 1 then y.co.tx else x.po) n).1.org, .int .i64 (parseP (if y.co.op = 1 then y.co.tx else x.po) n).1.nd, .slice F1 k1 c1] ∧ (parseP (if y.co.op = 1 then y.co.tx else x.po) n).1.In w' (w.heap.size ≤ ·) F1 k1) := by
  have HB := Lib.hid hB
  have HE := Lib.hid hE
  have HLt := Lib.hid hB.lt
  have c2 := hB.cellAt (i := 2) rfl
  have c6 := hB.cellAt (i := 6) rfl
  have c8 := hB.cellAt (i := 8) rfl
  have c17 := hB.cellAt (i := 17) rfl
  by_cases hop : y.co.op = 1
  · rw [if_pos hop] at *
    have ho1 : (y.co.op == 1) = true := by simp [hop]
    have hp : ∀ W, EV W → Calls Tryz.prog 38 #[.string (ba y.co.tx), .int .i64 n] W fun e w' => ParseOut W.heap.size (parseP y.co.tx n) e w' ∧ Below W.heap.size W w' := fun W hW => pparse_any y.co.tx n W ht hW
    obtain ⟨⟨f, r⟩, hr⟩ : ∃ r, parseP y.co.tx n = r := ⟨_, rfl⟩
    rw [hr] at hp ⊢
    simp only at hp ⊢
    have hp2 : ∀ W, EV W → Calls Tryz.prog 38 #[.string (ba y.co.tx), .int .i64 n] W fun e w' => (∃ F1 k1 c1, e = .returned (.tuple #[.agg #[.int .i64 f.org, .int .i64 f.nd, .slice F1 k1 c1], .int .i64 r]) ∧ f.In w' (W.heap.size ≤ ·) F1 k1) ∧ Below W.heap.size W w' := hp
    have HP := Lib.hid hp2
    clear hp hp2 hB hE ht hr hop
    by_cases h0 : r = 0
    · subst h0
      rw [if_neg (by simp)]
      go_enter Tryz.func20, Tryz.ntmps20
      go_wp2_with (first
        | (go_at_call 38; (with_reducible refine (HP.out _ HE.out).mono ?_); rintro e w1 ⟨⟨F1, k1, c1, rfl, hin⟩, hb⟩; have HB1 : Hid (Blk (w1.alloc (.cells #[.int .i64 f.org, .int .i64 f.nd, .slice F1 k1 c1] 44)) g 61 [.int .i64 y.co.cl, .int .i64 y.co.sp, .int .i64 y.co.op, .string (ba y.co.lt), .int .i64 y.co.a, .int .i64 y.co.b, .string (ba y.co.tx), .int .u32 (y.ms : Int), .int .i64 n, .int .i64 l.sq, .int .i64 l.tt, .slice A nn c, .slice B m d, .string (ba x.nm), .int .i64 x.st, .int .i64 x.am, .int .i64 x.du, .string (ba x.po), .string (ba x.pa), .int .i64 o, .int .i64 a, .slice F k kc]) := Lib.hid ((HB.out.through hb).alloc _); have HN1 : Hid (Blk (w1.alloc (.cells #[.int .i64 f.org, .int .i64 f.nd, .slice F1 k1 c1] 44)) w1.heap.size 44 [.int .i64 f.org, .int .i64 f.nd, .slice F1 k1 c1]) := Lib.hid (Blk.fresh rfl rfl); have HG1 : Hid (w.grownBy (w1.alloc (.cells #[.int .i64 f.org, .int .i64 f.nd, .slice F1 k1 c1] 44)) (some g)) := Lib.hid (only_trans (only_below hb) (World.grownBy_alloc w1 _ _)); have HI1 := Lib.hid (hin.alloc (.cells #[.int .i64 f.org, .int .i64 f.nd, .slice F1 k1 c1] 44)); clear hin hb)
        | (refine wpList_load_blk rfl 44 (.tmp 4) rfl w1.heap.size rfl 44 [.int .i64 f.org, .int .i64 f.nd, .slice F1 k1 c1] _ HN1.out Tryz.underlying44 rfl (by kernel_rfl) ?_)
        | (refine wpList_store_in rfl 44 (.tmp 38) (.tmp 36) rfl g 19 [.int .i64 f.org, .int .i64 f.nd, .slice F1 k1 c1] rfl rfl 61 [.int .i64 y.co.cl, .int .i64 y.co.sp, .int .i64 y.co.op, .string (ba y.co.lt), .int .i64 y.co.a, .int .i64 y.co.b, .string (ba y.co.tx), .int .u32 (y.ms : Int), .int .i64 n, .int .i64 l.sq, .int .i64 l.tt, .slice A nn c, .slice B m d, .string (ba x.nm), .int .i64 x.st, .int .i64 x.am, .int .i64 x.du, .string (ba x.po), .string (ba x.pa)] [.int .i64 o, .int .i64 a, .slice F k kc] [] HB1.out rfl (by kernel_rfl) rfl (one3f _ _ _ _ _) ?_; intro w9 hb9 hg9; have HB9 : Hid (Blk w9 g 61 [.int .i64 y.co.cl, .int .i64 y.co.sp, .int .i64 y.co.op, .string (ba y.co.lt), .int .i64 y.co.a, .int .i64 y.co.b, .string (ba y.co.tx), .int .u32 (y.ms : Int), .int .i64 n, .int .i64 l.sq, .int .i64 l.tt, .slice A nn c, .slice B m d, .string (ba x.nm), .int .i64 x.st, .int .i64 x.am, .int .i64 x.du, .string (ba x.po), .string (ba x.pa), .int .i64 f.org, .int .i64 f.nd, .slice F1 k1 c1]) := Lib.hid hb9; have HZ9 := Lib.hid hg9; have HG9 := Lib.hid (only_trans HG1.out hg9); clear hb9 hg9))
      go_ret
      exact ⟨(by first | trivial | exact ret_i64 rfl), HG9.out, fun _ => ⟨F1, k1, c1, HB9.out, HI1.out.past HZ9.out HLt.out⟩⟩
    · rw [if_pos h0]
      have hr0 : (r != 0) = true := by simp [h0]
      have H0 := Lib.hid h0
      clear h0
      go_enter Tryz.func20, Tryz.ntmps20
      go_wp2_with (first
        | (go_at_call 38; (with_reducible refine (HP.out _ HE.out).mono ?_); rintro e w1 ⟨⟨F1, k1, c1, rfl, hin⟩, hb⟩; have HB1 : Hid (Blk (w1.alloc (.cells #[.int .i64 f.org, .int .i64 f.nd, .slice F1 k1 c1] 44)) g 61 [.int .i64 y.co.cl, .int .i64 y.co.sp, .int .i64 y.co.op, .string (ba y.co.lt), .int .i64 y.co.a, .int .i64 y.co.b, .string (ba y.co.tx), .int .u32 (y.ms : Int), .int .i64 n, .int .i64 l.sq, .int .i64 l.tt, .slice A nn c, .slice B m d, .string (ba x.nm), .int .i64 x.st, .int .i64 x.am, .int .i64 x.du, .string (ba x.po), .string (ba x.pa), .int .i64 o, .int .i64 a, .slice F k kc]) := Lib.hid ((HB.out.through hb).alloc _); have HN1 : Hid (Blk (w1.alloc (.cells #[.int .i64 f.org, .int .i64 f.nd, .slice F1 k1 c1] 44)) w1.heap.size 44 [.int .i64 f.org, .int .i64 f.nd, .slice F1 k1 c1]) := Lib.hid (Blk.fresh rfl rfl); have HG1 : Hid (w.grownBy (w1.alloc (.cells #[.int .i64 f.org, .int .i64 f.nd, .slice F1 k1 c1] 44)) (some g)) := Lib.hid (only_trans (only_below hb) (World.grownBy_alloc w1 _ _)); have HI1 := Lib.hid (hin.alloc (.cells #[.int .i64 f.org, .int .i64 f.nd, .slice F1 k1 c1] 44)); clear hin hb))
      go_ret
      exact ⟨(by first | trivial | exact ret_i64 rfl), HG1.out, fun h => absurd h H0.out⟩
  
  · rw [if_neg hop] at *
    have ho1 : (y.co.op == 1) = false := by simp [hop]
    have hp : ∀ W, EV W → Calls Tryz.prog 38 #[.string (ba x.po), .int .i64 n] W fun e w' => ParseOut W.heap.size (parseP x.po n) e w' ∧ Below W.heap.size W w' := fun W hW => pparse_any x.po n W ht hW
    obtain ⟨⟨f, r⟩, hr⟩ : ∃ r, parseP x.po n = r := ⟨_, rfl⟩
    rw [hr] at hp ⊢
    simp only at hp ⊢
    have hp2 : ∀ W, EV W → Calls Tryz.prog 38 #[.string (ba x.po), .int .i64 n] W fun e w' => (∃ F1 k1 c1, e = .returned (.tuple #[.agg #[.int .i64 f.org, .int .i64 f.nd, .slice F1 k1 c1], .int .i64 r]) ∧ f.In w' (W.heap.size ≤ ·) F1 k1) ∧ Below W.heap.size W w' := hp
    have HP := Lib.hid hp2
    clear hp hp2 hB hE ht hr hop
    by_cases h0 : r = 0
    · subst h0
      rw [if_neg (by simp)]
      go_enter Tryz.func20, Tryz.ntmps20
      go_wp2_with (first
        | (go_at_call 38; (with_reducible refine (HP.out _ HE.out).mono ?_); rintro e w1 ⟨⟨F1, k1, c1, rfl, hin⟩, hb⟩; have HB1 : Hid (Blk (w1.alloc (.cells #[.int .i64 f.org, .int .i64 f.nd, .slice F1 k1 c1] 44)) g 61 [.int .i64 y.co.cl, .int .i64 y.co.sp, .int .i64 y.co.op, .string (ba y.co.lt), .int .i64 y.co.a, .int .i64 y.co.b, .string (ba y.co.tx), .int .u32 (y.ms : Int), .int .i64 n, .int .i64 l.sq, .int .i64 l.tt, .slice A nn c, .slice B m d, .string (ba x.nm), .int .i64 x.st, .int .i64 x.am, .int .i64 x.du, .string (ba x.po), .string (ba x.pa), .int .i64 o, .int .i64 a, .slice F k kc]) := Lib.hid ((HB.out.through hb).alloc _); have HN1 : Hid (Blk (w1.alloc (.cells #[.int .i64 f.org, .int .i64 f.nd, .slice F1 k1 c1] 44)) w1.heap.size 44 [.int .i64 f.org, .int .i64 f.nd, .slice F1 k1 c1]) := Lib.hid (Blk.fresh rfl rfl); have HG1 : Hid (w.grownBy (w1.alloc (.cells #[.int .i64 f.org, .int .i64 f.nd, .slice F1 k1 c1] 44)) (some g)) := Lib.hid (only_trans (only_below hb) (World.grownBy_alloc w1 _ _)); have HI1 := Lib.hid (hin.alloc (.cells #[.int .i64 f.org, .int .i64 f.nd, .slice F1 k1 c1] 44)); clear hin hb)
        | (refine wpList_load_blk rfl 44 (.tmp 4) rfl w1.heap.size rfl 44 [.int .i64 f.org, .int .i64 f.nd, .slice F1 k1 c1] _ HN1.out Tryz.underlying44 rfl (by kernel_rfl) ?_)
        | (refine wpList_store_in rfl 44 (.tmp 38) (.tmp 36) rfl g 19 [.int .i64 f.org, .int .i64 f.nd, .slice F1 k1 c1] rfl rfl 61 [.int .i64 y.co.cl, .int .i64 y.co.sp, .int .i64 y.co.op, .string (ba y.co.lt), .int .i64 y.co.a, .int .i64 y.co.b, .string (ba y.co.tx), .int .u32 (y.ms : Int), .int .i64 n, .int .i64 l.sq, .int .i64 l.tt, .slice A nn c, .slice B m d, .string (ba x.nm), .int .i64 x.st, .int .i64 x.am, .int .i64 x.du, .string (ba x.po), .string (ba x.pa)] [.int .i64 o, .int .i64 a, .slice F k kc] [] HB1.out rfl (by kernel_rfl) rfl (one3f _ _ _ _ _) ?_; intro w9 hb9 hg9; have HB9 : Hid (Blk w9 g 61 [.int .i64 y.co.cl, .int .i64 y.co.sp, .int .i64 y.co.op, .string (ba y.co.lt), .int .i64 y.co.a, .int .i64 y.co.b, .string (ba y.co.tx), .int .u32 (y.ms : Int), .int .i64 n, .int .i64 l.sq, .int .i64 l.tt, .slice A nn c, .slice B m d, .string (ba x.nm), .int .i64 x.st, .int .i64 x.am, .int .i64 x.du, .string (ba x.po), .string (ba x.pa), .int .i64 f.org, .int .i64 f.nd, .slice F1 k1 c1]) := Lib.hid hb9; have HZ9 := Lib.hid hg9; have HG9 := Lib.hid (only_trans HG1.out hg9); clear hb9 hg9))
      go_ret
      exact ⟨(by first | trivial | exact ret_i64 rfl), HG9.out, fun _ => ⟨F1, k1, c1, HB9.out, HI1.out.past HZ9.out HLt.out⟩⟩
    · rw [if_pos h0]
      have hr0 : (r != 0) = true := by simp [h0]
      have H0 := Lib.hid h0
      clear h0
      go_enter Tryz.func20, Tryz.ntmps20
      go_wp2_with (first
        | (go_at_call 38; (with_reducible refine (HP.out _ HE.out).mono ?_); rintro e w1 ⟨⟨F1, k1, c1, rfl, hin⟩, hb⟩; have HB1 : Hid (Blk (w1.alloc (.cells #[.int .i64 f.org, .int .i64 f.nd, .slice F1 k1 c1] 44)) g 61 [.int .i64 y.co.cl, .int .i64 y.co.sp, .int .i64 y.co.op, .string (ba y.co.lt), .int .i64 y.co.a, .int .i64 y.co.b, .string (ba y.co.tx), .int .u32 (y.ms : Int), .int .i64 n, .int .i64 l.sq, .int .i64 l.tt, .slice A nn c, .slice B m d, .string (ba x.nm), .int .i64 x.st, .int .i64 x.am, .int .i64 x.du, .string (ba x.po), .string (ba x.pa), .int .i64 o, .int .i64 a, .slice F k kc]) := Lib.hid ((HB.out.through hb).alloc _); have HN1 : Hid (Blk (w1.alloc (.cells #[.int .i64 f.org, .int .i64 f.nd, .slice F1 k1 c1] 44)) w1.heap.size 44 [.int .i64 f.org, .int .i64 f.nd, .slice F1 k1 c1]) := Lib.hid (Blk.fresh rfl rfl); have HG1 : Hid (w.grownBy (w1.alloc (.cells #[.int .i64 f.org, .int .i64 f.nd, .slice F1 k1 c1] 44)) (some g)) := Lib.hid (only_trans (only_below hb) (World.grownBy_alloc w1 _ _)); have HI1 := Lib.hid (hin.alloc (.cells #[.int .i64 f.org, .int .i64 f.nd, .slice F1 k1 c1] 44)); clear hin hb))
      go_ret
      exact ⟨(by first | trivial | exact ret_i64 rfl), HG1.out, fun h => absurd h H0.out⟩

end Go.Proofs.YtfflkodgojiklaaGreatDoor
