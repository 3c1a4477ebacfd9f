/-
  Joined: TwK.
-/
import Derived.Test.YtkpgjcahmpekbaaTT25
import Derived.Test.YtkpgjcahmpekbaaTT19
namespace Go.Proofs.Ytkpgjcahmpekbaa
open Go.RowKit

instance : DecidableEq Vo := fun a b => decidable_of_iff (a.eqb b = true) Vo.eqb_iff
theorem Try.key_int : KeyT Try.prog 3 encI (fun _ => True) :=
 KeyT.now Try.underlying3 (fun x y => by simp only [Instr.sameNow, encI, if_true]; rfl)
  (fun em x w _ => by unfold Instr.checkKey; simp [encI, run_underlying Try.underlying3]) (fun x _ => by simp [encI, Instr.sameBits])
abbrev encV (v : Vo) : Value := .agg (Vo.cells v).toArray
abbrev okV (v : Vo) : Prop := v.dg.length = 32
theorem V_len (x : Vo) (h : okV x) : (Vo.cells x).length = 34 := Vo.cells_len x h
theorem V_one (x : Vo) : (Vo.cells x).toArray.all (·.oneCell') = true := Vo.one x
theorem V_okz : okV voZ := rfl
theorem chk_v (em : Bool) (x : Vo) (w : World) (h : okV x) : (Instr.checkKey em 10000 29 (encV x)).run Try.prog w = .ok () w := by
 obtain ⟨a, b, d⟩ := x
 obtain ⟨x0, x1, x2, x3, x4, x5, x6, x7, x8, x9, x10, x11, x12, x13, x14, x15, x16, x17, x18, x19, x20, x21, x22, x23, x24, x25, x26, x27, x28, x29, x30, x31, rfl⟩ := vs_lit d h
 kernel_rfl
theorem bits_list : ∀ (n : Nat) (l : List UInt8), ((vs l).zip (vs l)).all (fun (x, y) => Instr.sameBits n x y) = true
 | _, [] => rfl
 | n, a :: l => by
  have := bits_list n l
  simp only [vs, u8, List.map_cons, List.zip_cons_cons, List.all_cons, Bool.and_eq_true] at this ⊢
  exact ⟨by cases n <;> simp [Instr.sameBits], this⟩
theorem bits_v (x : Vo) : Instr.sameBits 10000 (encV x) (encV x) = true := by
 unfold encV
 rw [show (10000 : Nat) = 9999 + 1 from rfl, Instr.sameBits]
 simp only [beq_self_eq_true, Bool.true_and, Vo.cells, List.zip_cons_cons, List.all_cons, Bool.and_eq_true]
 exact ⟨by simp [Instr.sameBits], by simp [Instr.sameBits], bits_list 9999 x.dg⟩
theorem eq_vo_plain (x y : Vo) (hx : okV x) (hy : okV y) (w : World) : (Op.equal 29 (encV x) (encV y)).run Try.prog w = .ok (decide (x = y)) w := by
 have h := eq_vov x y hx hy w
 have e : x.eqb y = decide (x = y) := by rw [Bool.eq_iff_iff, Vo.eqb_iff, decide_eq_true_iff]
 rw [e] at h
 unfold binOp at h
 unfold encV
 cases hr : (Op.equal 29 (.agg (Vo.cells x).toArray) (.agg (Vo.cells y).toArray)).run Try.prog w with
 | ok b w' =>
  simp [hr, Result.andThen] at h
  rw [h.1, h.2]
 | _ => simp [hr, Result.andThen] at h
theorem Try.key_v : KeyT Try.prog 29 encV okV :=
 KeyT.asking Try.underlying29 (fun x e es => by simp [Instr.findNow, Instr.sameNow]) eq_vo_plain chk_v (fun x _ => bits_v x)
theorem Try.zero_v (w : World) : (zeroValue 29).run Try.prog w = .ok (encV voZ) w := by kernel_rfl
theorem Try.zero_i (w : World) : (zeroValue 3).run Try.prog w = .ok (.int .i64 0) w := by kernel_rfl

end Go.Proofs.Ytkpgjcahmpekbaa
