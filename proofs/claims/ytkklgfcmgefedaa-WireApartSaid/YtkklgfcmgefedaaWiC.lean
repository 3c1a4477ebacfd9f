/-
  The document's Check of a message, walked.
-/
import Derived.Test.YtkklgfcmgefedaaWiB
namespace Go.Proofs.Ytkklgfcmgefedaa
open Go.RowKit

set_option maxHeartbeats 16000000 in
set_option maxRecDepth 100000 in
theorem rmcheck_any (m : Ms) (B : Option Addr) (nb cb : Nat) (A : Option Addr) (nt ct : Nat) (w : World) (h : MsIn w B nb A nt ct m) (hL : (encM m).length ≤ 1000000000) (hn : nt ≤ 10000000) :
    Calls Try.prog 10 #[.agg #[.int .i64 m.kd, .int .i64 m.fr, .slice B nb cb, .slice A nt ct]] w fun e w' => e = .returned (.int .i64 (chkM m)) ∧ Below w.heap.size w w' := by
  have HB : Hid (Blk (w.alloc (.cells #[.int .i64 m.kd, .int .i64 m.fr, .slice B nb cb, .slice A nt ct] 25)) w.heap.size 25 [.int .i64 m.kd, .int .i64 m.fr, .slice B nb cb, .slice A nt ct]) := Lib.hid (Blk.fresh rfl rfl)
  have HX : Hid (Below w.heap.size w (w.alloc (.cells #[.int .i64 m.kd, .int .i64 m.fr, .slice B nb cb, .slice A nt ct] 25))) := Lib.hid (below1_ w _)
  have k0 := HB.out.cellAt (i := 0) rfl
  have k1 := HB.out.cellAt (i := 1) rfl
  have k3 := HB.out.cellAt (i := 3) rfl
  have hLn : m.ts.length = nt := h.2.len
  have HBy : Hid (Calls Try.prog 11 #[.agg #[.int .i64 m.kd, .int .i64 m.fr, .slice B nb cb, .slice A nt ct]] (w.alloc (.cells #[.int .i64 m.kd, .int .i64 m.fr, .slice B nb cb, .slice A nt ct] 25)) (Byt (w.alloc (.cells #[.int .i64 m.kd, .int .i64 m.fr, .slice B nb cb, .slice A nt ct] 25)) (encM m))) := Lib.hid (rmbytes_any m B nb cb A nt ct (w.alloc (.cells #[.int .i64 m.kd, .int .i64 m.fr, .slice B nb cb, .slice A nt ct] 25)) (h.through HX.out) hL hn)
  clear h hL hn
  by_cases s0 : m.kd < 1
  · have d0 : decide (m.kd < 1) = true := by simpa using s0
    have HF : Hid (chkM m = 2) := Lib.hid (by unfold chkM; rw [if_pos (by simp [formM]; omega)])
    clear s0 hLn
    go_enter Try.func10, Try.ntmps10
    go_wp2_with (first
      | go_skip)
    go_ret
    exact ⟨by rw [HF.out]; rfl, HX.out⟩
  have d0 : decide (m.kd < 1) = false := by simpa using s0
  by_cases s1 : 12 < m.kd
  · have d1 : decide (12 < m.kd) = true := by simpa using s1
    have HF : Hid (chkM m = 2) := Lib.hid (by unfold chkM; rw [if_pos (by simp [formM]; omega)])
    clear s0 s1 hLn
    go_enter Try.func10, Try.ntmps10
    go_wp2_with (first
      | go_skip)
    go_ret
    exact ⟨by rw [HF.out]; rfl, HX.out⟩
  have d1 : decide (12 < m.kd) = false := by simpa using s1
  by_cases s2 : m.fr < 0
  · have d2 : decide (m.fr < 0) = true := by simpa using s2
    have HF : Hid (chkM m = 2) := Lib.hid (by unfold chkM; rw [if_pos (by simp [formM]; omega)])
    clear s0 s1 s2 hLn
    go_enter Try.func10, Try.ntmps10
    go_wp2_with (first
      | go_skip)
    go_ret
    exact ⟨by rw [HF.out]; rfl, HX.out⟩
  have d2 : decide (m.fr < 0) = false := by simpa using s2
  by_cases s3 : 63 < m.fr
  · have d3 : decide (63 < m.fr) = true := by simpa using s3
    have HF : Hid (chkM m = 2) := Lib.hid (by unfold chkM; rw [if_pos (by simp [formM]; omega)])
    clear s0 s1 s2 s3 hLn
    go_enter Try.func10, Try.ntmps10
    go_wp2_with (first
      | go_skip)
    go_ret
    exact ⟨by rw [HF.out]; rfl, HX.out⟩
  have d3 : decide (63 < m.fr) = false := by simpa using s3
  have hfm : formM m = true := formM_iff.2 (by omega)
  clear s0 s1 s2 s3
  by_cases s4 : 7 < nt
  · have d4 : decide ((7 : Int) < (nt : Int)) = true := by simp; omega
    have HF : Hid (chkM m = 4) := Lib.hid (by unfold chkM; rw [hfm, if_neg (by simp), if_pos (by omega)])
    clear s4 hLn hfm
    go_enter Try.func10, Try.ntmps10
    go_wp2_with (first
      | go_skip)
    go_ret
    exact ⟨by rw [HF.out]; rfl, HX.out⟩
  have d4 : decide ((7 : Int) < (nt : Int)) = false := by simp; omega
  by_cases s5 : 1048576 < (encM m).length
  · have HS := Lib.hid s5
    have HF : Hid (chkM m = 3) := Lib.hid (by unfold chkM; rw [hfm, if_neg (by simp), if_neg (by omega), if_pos s5])
    clear s4 s5 hLn hfm
    go_enter Try.func10, Try.ntmps10
    go_wp2_with (first
      | go_skip
      | (refine wpList_load_blk rfl 25 (.tmp 1) rfl w.heap.size rfl 25 [.int .i64 m.kd, .int .i64 m.fr, .slice B nb cb, .slice A nt ct] _ HB.out Try.underlying25 rfl (by kernel_rfl) ?_)
      | (go_at_call 11; (with_reducible refine (HBy.out).mono ?_); rintro e w2 ⟨A2, n2, d2, rfl, hy2, _, _, hb2⟩; have HX2 := Lib.hid (below_step HX.out hb2); have HN2 : Hid (n2 = (encM m).length) := Lib.hid hy2.len.symm; clear hy2 hb2; have d5 : decide ((1048576 : Int) < (n2 : Int)) = true := (by have := HN2.out; have := HS.out; simp; omega)))
    go_ret
    exact ⟨by rw [HF.out]; rfl, HX2.out⟩
  have HS := Lib.hid s5
  have HF : Hid (chkM m = 0) := Lib.hid (by unfold chkM; rw [hfm, if_neg (by simp), if_neg (by omega), if_neg s5])
  clear s4 s5 hLn hfm
  go_enter Try.func10, Try.ntmps10
  go_wp2_with (first
    | go_skip
    | (refine wpList_load_blk rfl 25 (.tmp 1) rfl w.heap.size rfl 25 [.int .i64 m.kd, .int .i64 m.fr, .slice B nb cb, .slice A nt ct] _ HB.out Try.underlying25 rfl (by kernel_rfl) ?_)
    | (go_at_call 11; (with_reducible refine (HBy.out).mono ?_); rintro e w2 ⟨A2, n2, d2, rfl, hy2, _, _, hb2⟩; have HX2 := Lib.hid (below_step HX.out hb2); have HN2 : Hid (n2 = (encM m).length) := Lib.hid hy2.len.symm; clear hy2 hb2; have d5 : decide ((1048576 : Int) < (n2 : Int)) = false := (by have := HN2.out; have := HS.out; simp; omega)))
  go_ret
  exact ⟨by rw [HF.out]; rfl, HX2.out⟩

end Go.Proofs.Ytkklgfcmgefedaa
