/-
  Joined: VoD, VoG, VoH, VoB, VoC, VoE.
-/
import Derived.Test.YtpngcdafamkhcaaVoP
import Derived.Test.YtpngcdafamkhcaaBaM
import Derived.Test.YtpngcdafamkhcaaOBy
import Derived.Test.YtpngcdafamkhcaaRqDf
import Derived.Test.YtpngcdafamkhcaaRqT
import Derived.Deep.CutRange
namespace Go.Proofs.Ytpngcdafamkhcaa
section
open Go.RowKit

theorem ret_bo {b c : Bool} (h : b = c) : Ending.returned (.bool b) = Ending.returned (.bool c) := by rw [h]

set_option maxHeartbeats 1000000 in
theorem rview_any (v : Int) (w : World) : Calls Try.prog 11 #[.int .i64 v] w fun e w' => e = .returned (.bool (isW v)) ∧ w' = w := by
  unfold isW
  by_cases h1 : 0 ≤ v
  · have d1 : decide (0 ≤ v) = true := by simpa using h1
    go_enter Try.func11, Try.ntmps11
    go_wp2
    go_ret
    exact ⟨ret_bo (by simp [h1]), rfl⟩
  · have d1 : decide (0 ≤ v) = false := by simpa using h1
    go_enter Try.func11, Try.ntmps11
    go_wp2
    go_ret
    exact ⟨ret_bo (by simp), rfl⟩

set_option maxHeartbeats 1000000 in
theorem rseq_any (v : Int) (w : World) : Calls Try.prog 12 #[.int .i64 v] w fun e w' => e = .returned (.bool (isW v)) ∧ w' = w := by
  unfold isW
  by_cases h1 : 0 ≤ v
  · have d1 : decide (0 ≤ v) = true := by simpa using h1
    go_enter Try.func12, Try.ntmps12
    go_wp2
    go_ret
    exact ⟨ret_bo (by simp [h1]), rfl⟩
  · have d1 : decide (0 ≤ v) = false := by simpa using h1
    go_enter Try.func12, Try.ntmps12
    go_wp2
    go_ret
    exact ⟨ret_bo (by simp), rfl⟩
end

section
open Go.RowKit

end

section
open Go.RowKit

theorem below2_ (w : World) (A B : Obj) : Below w.heap.size w ((w.alloc A).alloc B) := (below1_ w A).alloc (below1_ w A).size B
theorem only_own_ {a b c : World} {g : Nat} {row : Option Nat} (hab : a.grownBy b (some g)) (hbc : b.grownBy c row) (hh : ∀ h, row = some h → a.heap.size ≤ h) : a.grownBy c (some g) :=
  ⟨hbc.os.trans hab.os, hbc.tape.trans hab.tape, hbc.output.trans hab.output, Nat.le_trans hab.size hbc.size, fun i hi hne => (hbc.block i (Nat.lt_of_lt_of_le hi hab.size) (fun e => by have := hh i e.symm; omega)).trans (hab.block i hi hne)⟩
theorem put_next {ys : List UInt8} {i : Nat} (h : i < ys.length) (h32 : i < 32) : (vs (ys.take i ++ List.replicate (32 - i) 0)).set i (u8 ys[i]) = vs (ys.take (i + 1) ++ List.replicate (32 - (i + 1)) 0) := by
  have e : List.replicate (32 - i) (0 : UInt8) = 0 :: List.replicate (32 - (i + 1)) 0 := by
    rw [← List.replicate_succ]; congr 1; omega
  have hl : (ys.take i).length = i := by rw [List.length_take]; omega
  have e2 : ys.take i ++ ys[i] :: List.replicate (32 - (i + 1)) 0 = ys.take (i + 1) ++ List.replicate (32 - (i + 1)) 0 := by
    rw [List.take_add_one, List.getElem?_eq_getElem h, List.append_assoc]
    rfl
  unfold vs
  rw [← List.map_set, List.set_append_right _ _ (by omega), hl, Nat.sub_self, e, List.set_cons_zero, e2]
theorem copied (st : Option (List UInt8)) {m : Nat} (h : (tval 32 st).length = m) : (tval 32 st).take m ++ List.replicate (32 - m) 0 = tagOf (tval 32 st) := by
  rcases tval_32 st with h9 | h9
  · rw [tagOf_32 h9, ← h, List.take_length, h9]
    simp
  · rw [h9] at h ⊢
    subst h
    rfl
end

section
open Go.RowKit

def Vo.cells (v : Vo) : List Value := .int .i64 v.vw :: .int .i64 v.sq :: vs v.dg
def Vu.cells (v : Vu) : List Value := .int .i64 v.cl :: .int .i64 v.sp :: (vs v.dg ++ [.int .u32 (v.ms : Int)])
def Re.cells (v : Re) : List Value := [.int .i64 v.vw, .int .i64 v.cl, .int .i64 v.sp, .int .i64 v.rs]
theorem Try.agg_int (w : World) : (isAgg 3).run Try.prog w = .ok false w := by kernel_rfl
theorem Try.agg_i64 (w : World) : (isAgg 2).run Try.prog w = .ok false w := by kernel_rfl
theorem Try.agg_u32 (w : World) : (isAgg 28).run Try.prog w = .ok false w := by kernel_rfl
theorem Try.agg_er (w : World) : (isAgg 33).run Try.prog w = .ok false w := by kernel_rfl
theorem Try.agg_es (w : World) : (isAgg 22).run Try.prog w = .ok false w := by kernel_rfl
theorem conv_u32u {P : Program} (t t' : TypeId) (ht : P.underlying t = some (.int .u32)) (ht' : P.underlying t' = some (.int .u64)) (m : Nat) (h : m < 4294967296) (w : World) : (convert t t' (.int .u32 (m : Int))).run P w = .ok (.int .u64 (m : Int)) w := by
  have e : IntKind.u64.wrap (m : Int) = (m : Int) := IntWalk.u64_in _ (by omega)
  simp [convert, run_underlying ht, run_underlying ht', Conv.intToInt, e]

/-- one cell, kept -/
structure CellK (w : World) (p : Addr) (v : Value) : Prop where
  lt : p.block < w.heap.size
  eq : w.cell? p = some v
theorem CellK.through {w w' : World} {p : Addr} {v : Value} (h : CellK w p v) (hb : Below w.heap.size w w') : CellK w' p v := ⟨Nat.lt_of_lt_of_le h.lt hb.size, (hb.cell (p := p) h.lt).trans h.eq⟩
end

section
open Go.RowKit

theorem vs_lit (l : List UInt8) (h : l.length = 32) : ∃ x0 x1 x2 x3 x4 x5 x6 x7 x8 x9 x10 x11 x12 x13 x14 x15 x16 x17 x18 x19 x20 x21 x22 x23 x24 x25 x26 x27 x28 x29 x30 x31 : UInt8, l = [x0, x1, x2, x3, x4, x5, x6, x7, x8, x9, x10, x11, x12, x13, x14, x15, x16, x17, x18, x19, x20, x21, x22, x23, x24, x25, x26, x27, x28, x29, x30, x31] := by
  match l, h with
  | [x0, x1, x2, x3, x4, x5, x6, x7, x8, x9, x10, x11, x12, x13, x14, x15, x16, x17, x18, x19, x20, x21, x22, x23, x24, x25, x26, x27, x28, x29, x30, x31], _ => exact ⟨x0, x1, x2, x3, x4, x5, x6, x7, x8, x9, x10, x11, x12, x13, x14, x15, x16, x17, x18, x19, x20, x21, x22, x23, x24, x25, x26, x27, x28, x29, x30, x31, rfl⟩
theorem Try.build_vo (a b : Int) (d : List UInt8) (hd : d.length = 32) (w : World) : (Instr.build 43 #[(0, .int .i64 a), (1, .int .i64 b), (2, .agg (vs d).toArray)]).run Try.prog w = .ok (.agg (Vo.cells ⟨a, b, d⟩).toArray) w := by
  obtain ⟨x0, x1, x2, x3, x4, x5, x6, x7, x8, x9, x10, x11, x12, x13, x14, x15, x16, x17, x18, x19, x20, x21, x22, x23, x24, x25, x26, x27, x28, x29, x30, x31, rfl⟩ := vs_lit d hd
  kernel_rfl
theorem Try.build_re (a b c d : Int) (w : World) : (Instr.build 48 #[(0, .int .i64 a), (1, .int .i64 b), (2, .int .i64 c), (3, .int .i64 d)]).run Try.prog w = .ok (.agg (Re.cells ⟨a, b, c, d⟩).toArray) w := by kernel_rfl
theorem Try.build_vo0 (w : World) : (Instr.build 43 #[]).run Try.prog w = .ok (.agg (Vo.cells Vo.no).toArray) w := by kernel_rfl
theorem Try.build_re0 (w : World) : (Instr.build 48 #[]).run Try.prog w = .ok (.agg (Re.cells Re.no).toArray) w := by kernel_rfl
theorem Try.build_pr0 (w : World) : (Instr.build 24 #[]).run Try.prog w = .ok (.agg #[.int .i64 0, .int .i64 0, .slice none 0 0]) w := by kernel_rfl
theorem Vo.cells_len (v : Vo) (h : v.dg.length = 32) : (Vo.cells v).length = 34 := by simp [Vo.cells, vs_length, h]
theorem Vu.cells_len (v : Vu) (h : v.dg.length = 32) : (Vu.cells v).length = 35 := by simp [Vu.cells, vs_length, h]
theorem Vo.one (v : Vo) : (Vo.cells v).toArray.all (·.oneCell') = true := Array.all_eq_true_iff_forall_mem.2 (fun u hu => by
  simp only [Vo.cells, List.mem_toArray, List.mem_cons] at hu
  rcases hu with rfl | rfl | hu
  · rfl
  · rfl
  · exact vs_one u hu)
theorem Vu.one (v : Vu) : (Vu.cells v).toArray.all (·.oneCell') = true := Array.all_eq_true_iff_forall_mem.2 (fun u hu => by
  simp only [Vu.cells, List.mem_toArray, List.mem_cons, List.mem_append, List.not_mem_nil, or_false] at hu
  rcases hu with rfl | rfl | hu | rfl
  · rfl
  · rfl
  · exact vs_one u hu
  · rfl)
theorem Vu.last (v : Vu) (h : (Vu.cells v).length = 35) : (Vu.cells v)[34]? = some (.int .u32 (v.ms : Int)) := by
  have h2 : (vs v.dg).length = 32 := by simpa [Vu.cells] using h
  unfold Vu.cells
  rw [List.getElem?_cons_succ, List.getElem?_cons_succ, List.getElem?_append_right (by omega), h2]
  rfl
theorem Re.one (v : Re) : (Re.cells v).toArray.all (·.oneCell') = true := by simp [Re.cells, Value.oneCell']
theorem eq_dg9 (d : List UInt8) (hd : d.length = 32) (w : World) : (Op.equalIn 9999 41 (.agg (vs d).toArray) (.agg (vs d).toArray)).run Try.prog w = .ok true w := by
  obtain ⟨i, hi⟩ := Option.isSome_iff_exists.1 (show (Try.prog.info? 5).isSome = true by kernel_rfl)
  rw [show (9999 : Nat) = 9997 + 1 + 1 from rfl, run_equalIn_array w (9997 + 1) _ _ Try.underlying41 hi, show Try.prog.cellsOf 5 = 1 by kernel_rfl, List.range_eq_range', run_eqItems_bytes 9997 5 w Try.underlying5 d d 32 0 (by omega) (by omega)]
  simp
set_option maxRecDepth 100000 in
set_option maxHeartbeats 4000000 in
theorem eq_vo (v : Vo) (h : v.dg.length = 32) (w : World) : (binOp .eql 43 (.agg (Vo.cells v).toArray) (.agg (Vo.cells v).toArray)).run Try.prog w = .ok (.bool true) w := by
  obtain ⟨a, b, d⟩ := v
  obtain ⟨x0, x1, x2, x3, x4, x5, x6, x7, x8, x9, x10, x11, x12, x13, x14, x15, x16, x17, x18, x19, x20, x21, x22, x23, x24, x25, x26, x27, x28, x29, x30, x31, rfl⟩ := vs_lit d h
  have hdq := eq_dg9 [x0, x1, x2, x3, x4, x5, x6, x7, x8, x9, x10, x11, x12, x13, x14, x15, x16, x17, x18, x19, x20, x21, x22, x23, x24, x25, x26, x27, x28, x29, x30, x31] rfl w
  simp only [vs, u8, List.map_cons, List.map_nil] at hdq
  simp [go_sem, Vo.cells, vs, u8, hdq]
theorem eq_re (v : Re) (w : World) : (binOp .eql 48 (.agg (Re.cells v).toArray) (.agg (Re.cells v).toArray)).run Try.prog w = .ok (.bool true) w := by
  simp [go_sem, Re.cells]
end

section
open Go.RowKit

/-- a call that answers what is no slice, and an error -/
def Told (w : World) (cells : List Value) (er : Int) (e : Ending) (w' : World) : Prop := e = .returned (.tuple #[.agg cells.toArray, .int .i64 er]) ∧ Below w.heap.size w w'
theorem fold_vo (a b : Int) (d : List UInt8) (h : d.length = 32) (X : Vo) (hX : (⟨a, b, d⟩ : Vo) = X) : List.foldl (fun (cs : Array Value) (x : Value × Nat) => cs.setIfInBounds (2 + x.snd) x.fst) #[.int .i64 a, .int .i64 b, .int .u8 0, .int .u8 0, .int .u8 0, .int .u8 0, .int .u8 0, .int .u8 0, .int .u8 0, .int .u8 0, .int .u8 0, .int .u8 0, .int .u8 0, .int .u8 0, .int .u8 0, .int .u8 0, .int .u8 0, .int .u8 0, .int .u8 0, .int .u8 0, .int .u8 0, .int .u8 0, .int .u8 0, .int .u8 0, .int .u8 0, .int .u8 0, .int .u8 0, .int .u8 0, .int .u8 0, .int .u8 0, .int .u8 0, .int .u8 0, .int .u8 0, .int .u8 0] (vs d).zipIdx = (Vo.cells X).toArray := by
  subst hX
  obtain ⟨x0, x1, x2, x3, x4, x5, x6, x7, x8, x9, x10, x11, x12, x13, x14, x15, x16, x17, x18, x19, x20, x21, x22, x23, x24, x25, x26, x27, x28, x29, x30, x31, rfl⟩ := vs_lit d h
  kernel_rfl
theorem fold_vu (a b : Int) (d : List UInt8) (m : Nat) (h : d.length = 32) (X : Vu) (hX : (⟨a, b, d, m⟩ : Vu) = X) : (List.foldl (fun (cs : Array Value) (x : Value × Nat) => cs.setIfInBounds (2 + x.snd) x.fst) #[.int .i64 a, .int .i64 b, .int .u8 0, .int .u8 0, .int .u8 0, .int .u8 0, .int .u8 0, .int .u8 0, .int .u8 0, .int .u8 0, .int .u8 0, .int .u8 0, .int .u8 0, .int .u8 0, .int .u8 0, .int .u8 0, .int .u8 0, .int .u8 0, .int .u8 0, .int .u8 0, .int .u8 0, .int .u8 0, .int .u8 0, .int .u8 0, .int .u8 0, .int .u8 0, .int .u8 0, .int .u8 0, .int .u8 0, .int .u8 0, .int .u8 0, .int .u8 0, .int .u8 0, .int .u8 0, .int .u32 0] (vs d).zipIdx).setIfInBounds 34 (.int .u32 (m : Int)) = (Vu.cells X).toArray := by
  subst hX
  obtain ⟨x0, x1, x2, x3, x4, x5, x6, x7, x8, x9, x10, x11, x12, x13, x14, x15, x16, x17, x18, x19, x20, x21, x22, x23, x24, x25, x26, x27, x28, x29, x30, x31, rfl⟩ := vs_lit d h
  kernel_rfl
theorem fold_sz (a b : Int) (d : List UInt8) (h : d.length = 32) : (List.foldl (fun (cs : Array Value) (x : Value × Nat) => cs.setIfInBounds (2 + x.snd) x.fst) #[.int .i64 a, .int .i64 b, .int .u8 0, .int .u8 0, .int .u8 0, .int .u8 0, .int .u8 0, .int .u8 0, .int .u8 0, .int .u8 0, .int .u8 0, .int .u8 0, .int .u8 0, .int .u8 0, .int .u8 0, .int .u8 0, .int .u8 0, .int .u8 0, .int .u8 0, .int .u8 0, .int .u8 0, .int .u8 0, .int .u8 0, .int .u8 0, .int .u8 0, .int .u8 0, .int .u8 0, .int .u8 0, .int .u8 0, .int .u8 0, .int .u8 0, .int .u8 0, .int .u8 0, .int .u8 0, .int .u32 0] (vs d).zipIdx).size = 35 := by
  obtain ⟨x0, x1, x2, x3, x4, x5, x6, x7, x8, x9, x10, x11, x12, x13, x14, x15, x16, x17, x18, x19, x20, x21, x22, x23, x24, x25, x26, x27, x28, x29, x30, x31, rfl⟩ := vs_lit d h
  kernel_rfl
theorem nval1_lt (st : Option (List UInt8)) : nval 1 st < 256 := by
  have := nval_lt 1 st
  omega
theorem conv_u64_32 {P : Program} (t t' : TypeId) (ht : P.underlying t = some (.int .u64)) (ht' : P.underlying t' = some (.int .u32)) (v : Nat) (h : v < 4294967296) (w : World) : (convert t t' (.int .u64 (v : Int))).run P w = .ok (.int .u32 (v : Int)) w := by
  have e : IntKind.u32.wrap (v : Int) = (v : Int) := IntWalk.u32_in _ (by omega)
  simp [convert, run_underlying ht, run_underlying ht', Conv.intToInt, e]
end

end Go.Proofs.Ytpngcdafamkhcaa
