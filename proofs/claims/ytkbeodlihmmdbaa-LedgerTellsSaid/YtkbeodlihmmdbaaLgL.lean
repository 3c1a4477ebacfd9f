/-
  The document's Last, walked.
-/
import Derived.Test.YtkbeodlihmmdbaaLgN
namespace Go.Proofs.Ytkbeodlihmmdbaa
open Go.RowKit

theorem Try.zero_oc (w : World) : (zeroValue 30).run Try.prog w = .ok (.agg #[.int .i64 0, .int .i64 0, .int .i64 0]) w := by kernel_rfl
theorem Try.build_oc (w : World) : (Instr.build 30 #[]).run Try.prog w = .ok (.agg #[.int .i64 0, .int .i64 0, .int .i64 0]) w := by kernel_rfl

set_option maxHeartbeats 4000000 in
set_option maxRecDepth 100000 in
theorem rlast_any (l : Lg) (cl : Int) (A : Option Addr) (n c : Nat) (B : Option Addr) (m d : Nat) (w : World) (h : LgIn w A n B m l) (hn : m ≤ 1000000) :
    Calls Try.prog 16 #[l.val A n c B m d, .int .i64 cl] w fun e w' => e = .returned (.tuple #[.agg (lastR (lastL cl l.os)).1.cells.toArray, .bool (lastR (lastL cl l.os)).2]) ∧ Below w.heap.size w w' := by
  have HI := Lib.hid h
  have hz := Try.zero_oc
  have hbn := Try.build_oc
  obtain ⟨r, hr⟩ : ∃ r, lastL cl l.os = r := ⟨_, rfl⟩
  rw [hr]
  have HR := Lib.hid hr
  clear h hr
  unfold Lg.val
  have H0 : Hid (Blk ((w.alloc (.cells #[.int .i64 l.sq, .int .i64 l.tt, .slice A n c, .slice B m d] 25)).alloc (.cells #[.int .i64 0, .int .i64 0, .int .i64 0] 30)) (w.heap.size + 1) 30 [.int .i64 0, .int .i64 0, .int .i64 0]) := Lib.hid (Blk.fresh (by simp) rfl)
  have HIX := Lib.hid Try.ix_oc
  go_enter Try.func16, Try.ntmps16
  go_wp2
  go_loopw [11] (fun iv wr => ∃ i : Nat, i ≤ m ∧ iv = .int .i64 i ∧ lastL cl (l.os.drop i) = r ∧ Blk wr (w.heap.size + 1) 30 [.int .i64 0, .int .i64 0, .int .i64 0] ∧ Below w.heap.size w wr) (fun iv _ => m - (intOf iv).toNat)
  case atStart => exact ⟨0, Nat.zero_le _, rfl, HR.out, H0.out, below2 w _ _⟩
  case round =>
    obtain ⟨i, hi, rfl, hf, hb, hx⟩ := hrel
    have HX := Lib.hid hx
    have HB := Lib.hid hb
    clear hx hb
    by_cases hlt : i < m
    · obtain ⟨g, o, x, rfl, _, _, hd, hrg⟩ := (HI.out.through HX.out).oc_at hlt
      rw [hd, lastL_cons] at hf
      have HRg := Lib.hid hrg
      have hix := HIX.out wr g o m d i hlt
      clear hrg hd
      by_cases hnm : x.cl = cl
      · rw [if_pos hnm] at hf
        have hnb : (x.cl == cl) = true := by simpa using hnm
        have HF := Lib.hid hf
        clear hf hnm
        go_wp2_with (first
          | (refine wpList_load_mid rfl 30 (.tmp 13) rfl g (o + i * 3) rfl [.int .i64 x.cl, .int .i64 x.sp, .int .i64 x.rs] _ HRg.out Try.underlying30 rfl (by kernel_rfl) ?_)
          | (refine wpList_store_blk rfl 30 (.tmp 4) (.tmp 19) rfl (w.heap.size + 1) [.int .i64 x.cl, .int .i64 x.sp, .int .i64 x.rs] rfl rfl 30 [.int .i64 0, .int .i64 0, .int .i64 0] (HB.out.alloc _) (by kernel_rfl) rfl (one3i _ _ _) ?_; intro wb hbb hgb; have HBb := Lib.hid hbb; have HXb : Hid (Below w.heap.size w wb) := Lib.hid ((HX.out.alloc HX.out.size _).grown hgb (by have := HX.out.size; simp; omega) (fun k hk => by have := Option.some.inj hk; omega)); clear hbb hgb))
        (try simp only [Exit.inBlock, Exit.then]); refine bodyPost_ret (results_cell_row_tmp1 rfl _ _ (w.heap.size + 1) 30 _ (0, 0) _ rfl HBb.out Try.underlying30 rfl (by kernel_rfl)) rfl ⟨?_, HXb.out⟩
        rw [← HF.out]
        rfl
      · rw [if_neg hnm] at hf
        have hnb : (x.cl == cl) = false := by simpa using hnm
        have HF := Lib.hid hf
        clear hf hnm
        go_wp2_with (first
          | (refine wpList_load_mid rfl 30 (.tmp 13) rfl g (o + i * 3) rfl [.int .i64 x.cl, .int .i64 x.sp, .int .i64 x.rs] _ HRg.out Try.underlying30 rfl (by kernel_rfl) ?_))
        go_roundw
        case rel => exact ⟨i + 1, by omega, by go_num, HF.out, HB.out.alloc _, HX.out.alloc HX.out.size _⟩
        case measure => simp [intOf]; omega
    · have hl : l.os.drop i = [] := List.drop_of_length_le (by have := HI.out.len; omega)
      rw [hl] at hf
      have HF := Lib.hid hf
      clear hl hf
      go_wp2_with (refine wpList_store_blk rfl 30 (.tmp 4) (.tmp 21) rfl (w.heap.size + 1) [.int .i64 0, .int .i64 0, .int .i64 0] rfl rfl 30 [.int .i64 0, .int .i64 0, .int .i64 0] HB.out (by kernel_rfl) rfl (one3i _ _ _) ?_; intro wb hbb hgb; have HBb := Lib.hid hbb; have HXb : Hid (Below w.heap.size w wb) := Lib.hid (HX.out.grown hgb HX.out.size (fun k hk => by have := Option.some.inj hk; omega)); clear hbb hgb)
      (try simp only [Exit.inBlock, Exit.then]); refine bodyPost_ret (results_cell_row_tmp1 rfl _ _ (w.heap.size + 1) 30 _ (0, 0) _ rfl HBb.out Try.underlying30 rfl (by kernel_rfl)) rfl ⟨?_, HXb.out⟩
      rw [← HF.out]
      rfl

end Go.Proofs.Ytkbeodlihmmdbaa
