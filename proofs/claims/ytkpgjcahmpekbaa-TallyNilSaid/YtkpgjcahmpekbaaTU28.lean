/-
  Joined: TwKb.
-/
import Derived.Test.YtkpgjcahmpekbaaTU23
namespace Go.Proofs.Ytkpgjcahmpekbaa
open Go.RowKit

theorem bab_eq (x y : List UInt8) : (ba x == ba y) = decide (x = y) := by
 rw [Bool.eq_iff_iff, Go.MapKept.bytes_beq, decide_eq_true_iff]
 exact ⟨fun e => by have := congrArg ByteArray.toList e; rwa [ba_list, ba_list] at this, fun e => by rw [e]⟩
abbrev encS (x : List UInt8) : Value := .string (ba x)
abbrev encY (x : UInt8) : Value := .int .u8 (x.toNat : Int)
abbrev prC (p : UInt8 × UInt8) : List Value := vs [p.1, p.2]
abbrev encP (p : UInt8 × UInt8) : Value := .agg (prC p).toArray
theorem P_len (x : UInt8 × UInt8) (_ : (fun _ : UInt8 × UInt8 => True) x) : (prC x).length = 2 := rfl
theorem P_one (x : UInt8 × UInt8) : (prC x).toArray.all (·.oneCell') = true := D_one [x.1, x.2]
theorem P_okz : (fun _ : UInt8 × UInt8 => True) (0, 0) := trivial
theorem Try.key_s : KeyT Try.prog 9 encS (fun _ => True) :=
 KeyT.now Try.underlying9 (fun x y => by
   show some (ba x == ba y) = _
   rw [bab_eq])
  (fun em x w _ => by unfold Instr.checkKey; simp [run_underlying Try.underlying9]) (fun x _ => by simp [Instr.sameBits, bab_eq])
theorem Try.key_b : KeyT Try.prog 5 encY (fun _ => True) :=
 KeyT.now Try.underlying5 (fun x y => by
   simp only [Instr.sameNow, if_true]
   congr 1
   rw [Bool.eq_iff_iff, decide_eq_true_iff, beq_iff_eq]
   exact ⟨fun e => UInt8.toNat_inj.1 (by omega), fun e => by rw [e]⟩)
  (fun em x w _ => by unfold Instr.checkKey; simp [run_underlying Try.underlying5]) (fun x _ => by simp [Instr.sameBits])
set_option maxRecDepth 100000 in
theorem eq_p_plain (x y : UInt8 × UInt8) (w : World) : (Op.equalIn 10000 57 (encP x) (encP y)).run Try.prog w = .ok (decide (x = y)) w := by
 obtain ⟨i, hi⟩ := Option.isSome_iff_exists.1 (show (Try.prog.info? 5).isSome = true by kernel_rfl)
 rw [show (10000 : Nat) = 9998 + 1 + 1 from rfl, run_equalIn_array w (9998 + 1) _ _ Try.underlying57 hi, show Try.prog.cellsOf 5 = 1 by kernel_rfl, List.range_eq_range', run_eqItems_bytes 9998 5 w Try.underlying5 [x.1, x.2] [y.1, y.2] 2 0 (by simp) (by simp)]
 congr 1
 obtain ⟨a, b⟩ := x
 obtain ⟨c, d⟩ := y
 rw [Bool.eq_iff_iff, decide_eq_true_iff]
 simp
theorem Try.key_p : KeyT Try.prog 57 encP (fun _ => True) :=
 KeyT.asking Try.underlying57 (fun x e es => by simp [Instr.findNow, Instr.sameNow]) (fun x y _ _ w => eq_p_plain x y w) (fun em x w _ => by kernel_rfl) (fun x _ => by
  rw [show (10000 : Nat) = 9999 + 1 from rfl, Instr.sameBits]
  simp only [beq_self_eq_true, Bool.true_and]
  exact bits_list 9999 [x.1, x.2])
theorem Try.zero_s (w : World) : (zeroValue 9).run Try.prog w = .ok (encS []) w := by kernel_rfl
theorem Try.zero_b (w : World) : (zeroValue 5).run Try.prog w = .ok (encY 0) w := by kernel_rfl
theorem Try.zero_p (w : World) : (zeroValue 57).run Try.prog w = .ok (encP (0, 0)) w := by kernel_rfl
end Go.Proofs.Ytkpgjcahmpekbaa
