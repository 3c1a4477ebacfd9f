/-
  Joined: VoB, VoC.
-/
import Derived.Test.YtpolofehkckaoaaUT9
import Derived.Test.YtpolofehkckaoaaUT7
import Derived.Test.YtpolofehkckaoaaUT10
namespace Go.Proofs.Ytpolofehkckaoaa
open Go.RowKit

def Vo.cells (v : Vo) : List Value := .int .i64 v.vw :: .int .i64 v.sq :: vs v.dg
def Vu.cells (v : Vu) : List Value := .int .i64 v.cl :: .int .i64 v.sp :: (vs v.dg ++ [.int .u32 (v.ms : Int)])
def Re.cells (v : Re) : List Value := [.int .i64 v.vw, .int .i64 v.cl, .int .i64 v.sp, .int .i64 v.rs]
/-- one cell, kept -/
structure CellK (w : World) (p : Addr) (v : Value) : Prop where
 lt : p.block < w.heap.size
 eq : w.cell? p = some v
theorem CellK.through {w w' : World} {p : Addr} {v : Value} (h : CellK w p v) (hb : Below w.heap.size w w') : CellK w' p v := ⟨Nat.lt_of_lt_of_le h.lt hb.size, (hb.cell (p := p) h.lt).trans h.eq⟩

end Go.Proofs.Ytpolofehkckaoaa

namespace Go.Proofs.Ytpolofehkckaoaa
open Go.RowKit

theorem vs_lit (l : List UInt8) (h : l.length = 32) : ∃ x0 x1 x2 x3 x4 x5 x6 x7 x8 x9 x10 x11 x12 x13 x14 x15 x16 x17 x18 x19 x20 x21 x22 x23 x24 x25 x26 x27 x28 x29 x30 x31 : UInt8, l = [x0, x1, x2, x3, x4, x5, x6, x7, x8, x9, x10, x11, x12, x13, x14, x15, x16, x17, x18, x19, x20, x21, x22, x23, x24, x25, x26, x27, x28, x29, x30, x31] := by
 match l, h with
 | [x0, x1, x2, x3, x4, x5, x6, x7, x8, x9, x10, x11, x12, x13, x14, x15, x16, x17, x18, x19, x20, x21, x22, x23, x24, x25, x26, x27, x28, x29, x30, x31], _ => exact ⟨x0, x1, x2, x3, x4, x5, x6, x7, x8, x9, x10, x11, x12, x13, x14, x15, x16, x17, x18, x19, x20, x21, x22, x23, x24, x25, x26, x27, x28, x29, x30, x31, rfl⟩
theorem Vo.cells_len (v : Vo) (h : v.dg.length = 32) : (Vo.cells v).length = 34 := by simp [Vo.cells, vs_length, h]
theorem Vu.cells_len (v : Vu) (h : v.dg.length = 32) : (Vu.cells v).length = 35 := by simp [Vu.cells, vs_length, h]
theorem Vo.one (v : Vo) : (Vo.cells v).toArray.all (·.oneCell') = true := Array.all_eq_true_iff_forall_mem.2 (fun u hu => by
 simp only [Vo.cells, List.mem_toArray, List.mem_cons] at hu
 rcases hu with rfl | rfl | hu
 ·rfl
 ·rfl
 ·exact vs_one u hu)
theorem Vu.one (v : Vu) : (Vu.cells v).toArray.all (·.oneCell') = true := Array.all_eq_true_iff_forall_mem.2 (fun u hu => by
 simp only [Vu.cells, List.mem_toArray, List.mem_cons, List.mem_append, List.not_mem_nil, or_false] at hu
 rcases hu with rfl | rfl | hu | rfl
 ·rfl
 ·rfl
 ·exact vs_one u hu
 ·rfl)
theorem Re.one (v : Re) : (Re.cells v).toArray.all (·.oneCell') = true := by simp [Re.cells, Value.oneCell']
end Go.Proofs.Ytpolofehkckaoaa
