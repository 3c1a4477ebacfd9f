/-
  Joined: TwKb.
-/
import Derived.Test.YtkpgjcahmpekbaaTT28
namespace Go.Proofs.Ytkpgjcahmpekbaa
open Go.RowKit

theorem bab_eq (x y : List UInt8) : (ba x == ba y) = decide (x = y) := by
 rw [Bool.eq_iff_iff, Go.MapKept.bytes_beq, decide_eq_true_iff]
 exact ⟨fun e => by have := congrArg ByteArray.toList e; rwa [ba_list, ba_list] at this, fun e => by rw [e]⟩
abbrev encS (x : List UInt8) : Value := .string (ba x)
theorem Try.key_s : KeyT Try.prog 9 encS (fun _ => True) :=
 KeyT.now Try.underlying9 (fun x y => by
   show some (ba x == ba y) = _
   rw [bab_eq])
  (fun em x w _ => by unfold Instr.checkKey; simp [run_underlying Try.underlying9]) (fun x _ => by simp [Instr.sameBits, bab_eq])
theorem Try.zero_s (w : World) : (zeroValue 9).run Try.prog w = .ok (encS []) w := by kernel_rfl
end Go.Proofs.Ytkpgjcahmpekbaa
