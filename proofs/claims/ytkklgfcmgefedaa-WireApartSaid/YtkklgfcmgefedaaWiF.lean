/-
  The program's Check of a message, walked.
-/
import Derived.Test.YtkklgfcmgefedaaWiS
namespace Go.Proofs.Ytkklgfcmgefedaa
open Go.RowKit

set_option maxHeartbeats 1000000 in
theorem beside_any (k : Nat) (hk : k ≤ 1000000) (w : World) : Calls Try.prog 18 #[.int .i64 (k : Int)] w fun e w' => e = .returned (.int .i64 (8 + (k : Int) * 32)) ∧ w' = w := by
  have hw1 : IntKind.i64.wrap ((k : Int) * 32) = (k : Int) * 32 := IntWalk.i64_in _ (by omega)
  have hw2 : IntKind.i64.wrap (8 + (k : Int) * 32) = 8 + (k : Int) * 32 := IntWalk.i64_in _ (by omega)
  clear hk
  go_enter Try.func18, Try.ntmps18
  go_wp2
  go_ret
  exact ⟨rfl, rfl⟩

set_option maxHeartbeats 16000000 in
set_option maxRecDepth 100000 in
theorem check_any (m : Ms) (B : Option Addr) (nb cb : Nat) (A : Option Addr) (nt ct : Nat) (w : World) (h : MsIn w B nb A nt ct m) :
    Calls Try.prog 9 #[.agg #[.int .i64 m.kd, .int .i64 m.fr, .slice B nb cb, .slice A nt ct]] w fun e w' => e = .returned (.int .i64 (chkM m)) ∧ Below w.heap.size w w' := by
  have HB : Hid (Blk (w.alloc (.cells #[.int .i64 m.kd, .int .i64 m.fr, .slice B nb cb, .slice A nt ct] 25)) w.heap.size 25 [.int .i64 m.kd, .int .i64 m.fr, .slice B nb cb, .slice A nt ct]) := Lib.hid (Blk.fresh rfl rfl)
  have HX : Hid (Below w.heap.size w (w.alloc (.cells #[.int .i64 m.kd, .int .i64 m.fr, .slice B nb cb, .slice A nt ct] 25))) := Lib.hid (below1_ w _)
  have k0 := HB.out.cellAt (i := 0) rfl
  have k1 := HB.out.cellAt (i := 1) rfl
  have k2 := HB.out.cellAt (i := 2) rfl
  have k3 := HB.out.cellAt (i := 3) rfl
  have hLn : m.ts.length = nt := h.2.len
  have hEn : (encM m).length = 8 + nb + 32 * nt := by rw [encM_len m h.2.2.1, h.1.len, h.2.len]
  clear h
  by_cases s0 : m.kd < 1
  · have d0 : decide (m.kd < 1) = true := by simpa using s0
    have HF : Hid (chkM m = 2) := Lib.hid (by unfold chkM; rw [if_pos (by simp [formM]; omega)])
    clear s0 hLn hEn
    go_enter Try.func9, Try.ntmps9
    go_wp2_with (first | go_skip)
    go_ret
    exact ⟨by rw [HF.out]; rfl, HX.out⟩
  have d0 : decide (m.kd < 1) = false := by simpa using s0
  by_cases s1 : 12 < m.kd
  · have d1 : decide (12 < m.kd) = true := by simpa using s1
    have HF : Hid (chkM m = 2) := Lib.hid (by unfold chkM; rw [if_pos (by simp [formM]; omega)])
    clear s0 s1 hLn hEn
    go_enter Try.func9, Try.ntmps9
    go_wp2_with (first | go_skip)
    go_ret
    exact ⟨by rw [HF.out]; rfl, HX.out⟩
  have d1 : decide (12 < m.kd) = false := by simpa using s1
  by_cases s2 : m.fr < 0
  · have d2 : decide (m.fr < 0) = true := by simpa using s2
    have HF : Hid (chkM m = 2) := Lib.hid (by unfold chkM; rw [if_pos (by simp [formM]; omega)])
    clear s0 s1 s2 hLn hEn
    go_enter Try.func9, Try.ntmps9
    go_wp2_with (first | go_skip)
    go_ret
    exact ⟨by rw [HF.out]; rfl, HX.out⟩
  have d2 : decide (m.fr < 0) = false := by simpa using s2
  by_cases s3 : 63 < m.fr
  · have d3 : decide (63 < m.fr) = true := by simpa using s3
    have HF : Hid (chkM m = 2) := Lib.hid (by unfold chkM; rw [if_pos (by simp [formM]; omega)])
    clear s0 s1 s2 s3 hLn hEn
    go_enter Try.func9, Try.ntmps9
    go_wp2_with (first | go_skip)
    go_ret
    exact ⟨by rw [HF.out]; rfl, HX.out⟩
  have d3 : decide (63 < m.fr) = false := by simpa using s3
  have hfm : formM m = true := formM_iff.2 (by omega)
  clear s0 s1 s2 s3
  by_cases s4 : 7 < nt
  · have d4 : decide ((7 : Int) < (nt : Int)) = true := by simp; omega
    have HF : Hid (chkM m = 4) := Lib.hid (by unfold chkM; rw [hfm, if_neg (by simp), if_pos (by omega)])
    clear s4 hLn hfm hEn
    go_enter Try.func9, Try.ntmps9
    go_wp2_with (first | go_skip)
    go_ret
    exact ⟨by rw [HF.out]; rfl, HX.out⟩
  have d4 : decide ((7 : Int) < (nt : Int)) = false := by simp; omega
  have HS8 : Hid (∀ W : World, Calls Try.prog 18 #[.int .i64 (nt : Int)] W fun e w' => e = .returned (.int .i64 (8 + (nt : Int) * 32)) ∧ w' = W) := Lib.hid (fun W => beside_any nt (by omega) W)
  have hwr : IntKind.i64.wrap (1048576 - (8 + (nt : Int) * 32)) = 1048576 - (8 + (nt : Int) * 32) := IntWalk.i64_in _ (by omega)
  by_cases s5 : 1048576 < (encM m).length
  · have d5 : decide (1048576 - (8 + (nt : Int) * 32) < (nb : Int)) = true := by simp; omega
    have HF : Hid (chkM m = 3) := Lib.hid (by unfold chkM; rw [hfm, if_neg (by simp), if_neg (by omega), if_pos s5])
    clear s4 s5 hLn hfm hEn
    go_enter Try.func9, Try.ntmps9
    go_wp2_with (first | go_skip)
    go_quiet ((go_at_call 18; exact Calls.quiet_of_same (HS8.out _)))
    go_wp2
    go_ret
    exact ⟨by rw [HF.out]; rfl, below_drewN HX.out _⟩
  have d5 : decide (1048576 - (8 + (nt : Int) * 32) < (nb : Int)) = false := by simp; omega
  have HF : Hid (chkM m = 0) := Lib.hid (by unfold chkM; rw [hfm, if_neg (by simp), if_neg (by omega), if_neg s5])
  clear s4 s5 hLn hfm hEn
  go_enter Try.func9, Try.ntmps9
  go_wp2_with (first | go_skip)
  go_quiet ((go_at_call 18; exact Calls.quiet_of_same (HS8.out _)))
  go_wp2
  go_ret
  exact ⟨by rw [HF.out]; rfl, below_drewN HX.out _⟩

end Go.Proofs.Ytkklgfcmgefedaa
