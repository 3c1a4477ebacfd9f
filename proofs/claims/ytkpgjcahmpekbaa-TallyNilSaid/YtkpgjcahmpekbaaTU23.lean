/-
  Joined: TwK, TwSD.
-/
import Derived.Test.YtkpgjcahmpekbaaTU15
import Derived.Test.YtkpgjcahmpekbaaTU22
import Derived.Defers
import Derived.Outline
import Derived.Recover
namespace Go.Proofs.Ytkpgjcahmpekbaa
open Go.RowKit

instance : DecidableEq Vo := fun a b => decidable_of_iff (a.eqb b = true) Vo.eqb_iff
theorem Try.key_int : KeyT Try.prog 3 encI (fun _ => True) :=
 KeyT.now Try.underlying3 (fun x y => by simp only [Instr.sameNow, encI, if_true]; rfl)
  (fun em x w _ => by unfold Instr.checkKey; simp [encI, run_underlying Try.underlying3]) (fun x _ => by simp [encI, Instr.sameBits])
theorem D_one (x : List UInt8) : (vs x).toArray.all (·.oneCell') = true := Array.all_eq_true_iff_forall_mem.2 (fun u hu => by
 simp only [vs, List.mem_toArray, List.mem_map] at hu
 obtain ⟨b, _, rfl⟩ := hu
 rfl)
theorem bits_list : ∀ (n : Nat) (l : List UInt8), ((vs l).zip (vs l)).all (fun (x, y) => Instr.sameBits n x y) = true
 | _, [] => rfl
 | n, a :: l => by
  have := bits_list n l
  simp only [vs, u8, List.map_cons, List.zip_cons_cons, List.all_cons, Bool.and_eq_true] at this ⊢
  exact ⟨by cases n <;> simp [Instr.sameBits], this⟩
theorem Try.zero_i (w : World) : (zeroValue 3).run Try.prog w = .ok (.int .i64 0) w := by kernel_rfl

end Go.Proofs.Ytkpgjcahmpekbaa

namespace Go.Proofs.Ytkpgjcahmpekbaa
open Go.RowKit

theorem Try.sz_bool20 (w : World) : (sizeOf 4).run Try.prog w = .ok 1 w := by kernel_rfl
theorem results_cell_one {P : Program} {fn : Func} {p : Tmp} {ty : TypeId} (h : fn.results = #[.cell p ty]) (tmps : Array Value) (w : World) (a : Addr) (v : Value) (hag : (isAgg ty).run P w = .ok false w)
  (hp : tmps.getD p undef = .pointer (some a)) (hc : w.cell? a = some v) : (results fn tmps).run P w = .ok v w := by
 have hp' : tmps[p]?.getD undef = .pointer (some a) := by simpa using hp
 simp [results, h, hp', asAddr, loadVar, hag, hc]
theorem Try.agg_bool20 (w : World) : (isAgg 4).run Try.prog w = .ok false w := by kernel_rfl

end Go.Proofs.Ytkpgjcahmpekbaa
