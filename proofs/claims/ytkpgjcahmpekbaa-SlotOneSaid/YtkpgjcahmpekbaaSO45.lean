/-
  Joined: SlF.
-/
import Derived.Deep.RegionHeld
import Derived.Deep.CutBlock
import Derived.Test.YtkpgjcahmpekbaaSO28
import Derived.Test.YtkpgjcahmpekbaaSO13
namespace Go.Proofs.Ytkpgjcahmpekbaa
open Go.RowKit

theorem Try.empty_ey (g : Nat) (w : World) (hg : w.heap.size = g) : (Instr.buildSlice 68 0 #[]).run Try.prog w = .ok (.slice (some ⟨g, 0, none⟩) 0 0) (w.alloc (.cells #[] 129)) := by
 subst hg
 kernel_rfl
theorem Try.sz_bo (w : World) : (sizeOf 4).run Try.prog w = .ok 1 w := by kernel_rfl
theorem Try.sz_eys (w : World) : (sizeOf 68).run Try.prog w = .ok 1 w := by kernel_rfl
theorem vs_one_ (d : List UInt8) : (vs d).toArray.all (·.oneCell') = true := Array.all_eq_true_iff_forall_mem.2 (fun u hu => by
 simp only [List.mem_toArray, vs, List.mem_map] at hu
 obtain ⟨b, _, rfl⟩ := hu
 rfl)
theorem step_store_in_ {P : Program} {w : World} {ops : Array Oper} {o : Oper} {a : Act} {K : Act → World → Prop} {Q : Exit → Act → World → Prop} {F : Prop} (hw : Region.wanted o (yielded ops a.tmps) = true) (ty : TypeId) (x y : Operand) (ho : o.op = .store ty x y)
  (g i : Nat) (cells : List Value) (hx : a.eval x = .pointer (some ⟨g, i, none⟩)) (hy : a.eval y = .agg cells.toArray) (t : TypeId) (pre old post : List Value) (hg : Blk w g t (pre ++ (old ++ post))) (hp : i = pre.length) (hi : (P.info? ty).map (·.size) = some cells.length)
  (hold : old.length = cells.length) (h1 : cells.toArray.all (·.oneCell') = true)
  (h : ∀ w', Blk w' g t (pre ++ (cells ++ post)) → w.grownBy w' (some g) → K (a.put o.dst undef) w') : if Region.wanted o (yielded ops a.tmps) = true then Oper.wp P o a w K Q else F := by
 rw [if_pos hw]
 subst hp
 have hth : w.there g pre.length cells.toArray.size := fun j hj => ⟨by
  have hj' : j < cells.length := by simpa using hj
  rw [hg.cell]
  have : pre.length + j < (pre ++ (old ++ post)).length := by simp; omega
  simp [List.getElem?_eq_getElem this], hg.frozen _⟩
 exact wp_store_mid ty x y ho g pre.length cells.toArray hx hy hth (by simpa using hi) h1 (h _ (by simpa using Blk.cells (t := t) g cells pre old post w hold hg) (by simpa using only_cells g cells pre.length w))
end Go.Proofs.Ytkpgjcahmpekbaa
