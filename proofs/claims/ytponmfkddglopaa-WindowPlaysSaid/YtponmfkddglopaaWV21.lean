/-
  Joined: TwK.
-/
import Derived.Test.YtponmfkddglopaaWV20
import Derived.Test.YtponmfkddglopaaWV13
namespace Go.Proofs.Ytponmfkddglopaa
open Go.RowKit

instance : DecidableEq Vo := fun a b => decidable_of_iff (a.eqb b = true) Vo.eqb_iff
theorem Try.key_int : KeyT Try.prog 3 encI (fun _ => True) :=
 KeyT.now Try.underlying3 (fun x y => by simp only [Instr.sameNow, encI, if_true]; rfl)
  (fun em x w _ => by unfold Instr.checkKey; simp [encI, run_underlying Try.underlying3]) (fun x _ => by simp [encI, Instr.sameBits])
abbrev encD (d : List UInt8) : Value := .agg (vs d).toArray
abbrev okD (d : List UInt8) : Prop := d.length = 32
theorem D_len (x : List UInt8) (h : okD x) : (vs x).length = 32 := by simpa [vs, okD] using h
theorem D_one (x : List UInt8) : (vs x).toArray.all (·.oneCell') = true := Array.all_eq_true_iff_forall_mem.2 (fun u hu => by
 simp only [vs, List.mem_toArray, List.mem_map] at hu
 obtain ⟨b, _, rfl⟩ := hu
 rfl)
theorem D_okz : okD dgZ := rfl
theorem chk_d (em : Bool) (x : List UInt8) (w : World) (h : okD x) : (Instr.checkKey em 10000 40 (encD x)).run Try.prog w = .ok () w := by
 obtain ⟨x0, x1, x2, x3, x4, x5, x6, x7, x8, x9, x10, x11, x12, x13, x14, x15, x16, x17, x18, x19, x20, x21, x22, x23, x24, x25, x26, x27, x28, x29, x30, x31, rfl⟩ := vs_lit x h
 kernel_rfl
theorem bits_list : ∀ (n : Nat) (l : List UInt8), ((vs l).zip (vs l)).all (fun (x, y) => Instr.sameBits n x y) = true
 | _, [] => rfl
 | n, a :: l => by
  have := bits_list n l
  simp only [vs, u8, List.map_cons, List.zip_cons_cons, List.all_cons, Bool.and_eq_true] at this ⊢
  exact ⟨by cases n <;> simp [Instr.sameBits], this⟩
theorem bits_d (x : List UInt8) : Instr.sameBits 10000 (encD x) (encD x) = true := by
 unfold encD
 rw [show (10000 : Nat) = 9999 + 1 from rfl, Instr.sameBits]
 simp only [beq_self_eq_true, Bool.true_and]
 exact bits_list 9999 x
theorem Try.key_d : KeyT Try.prog 40 encD okD :=
 KeyT.asking Try.underlying40 (fun x e es => by simp [Instr.findNow, Instr.sameNow])
  (fun x y hx hy w => by
   show (Op.equalIn 10000 _ _ _).run _ _ = _
   unfold encD
   rw [eq_dgy x y hx hy w]
   congr 1
   rw [Bool.eq_iff_iff]; simp)
  chk_d (fun x _ => bits_d x)
theorem Try.zero_d (w : World) : (zeroValue 40).run Try.prog w = .ok (encD dgZ) w := by kernel_rfl
theorem Try.zero_i (w : World) : (zeroValue 3).run Try.prog w = .ok (.int .i64 0) w := by kernel_rfl

end Go.Proofs.Ytponmfkddglopaa
