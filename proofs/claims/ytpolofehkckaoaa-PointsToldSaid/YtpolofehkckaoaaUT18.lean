/-
  Joined: PtMv, PtE, PtO, PtB.
-/
import Derived.Test.YtpolofehkckaoaaUT16
import Derived.Test.YtpolofehkckaoaaUT17
namespace Go.Proofs.Ytpolofehkckaoaa
open Go.RowKit

section
variable {w w' : World} {R gO m rc : Nat} {r : Ptp} {ss rs : List Pl} {RA : Option Addr}
theorem own_self {l : List Po} (h : r.self < r.of.length) : (r.of.set r.self l).getD r.self [] = l := by
 rw [List.getD_eq_getElem?_getD, List.getElem?_set_self h]
 rfl
theorem DPt.tl {s1 A1 RA1 : Option Addr} {s2 s3 : Nat} {y : Po} {l l' : List Po} (h : DPt w R gO r ss RA m rc rs) (hl : r.of[r.self]? = some l) (hyl : l = y :: l') (hs : ss[r.self]? = some (s1, s2, s3)) (hp : PosIn w s1 s2 l) (h23 : s2 ≤ s3) (h3m : s3 ≤ maxLen)
  (hf : Ft (fun q => q = R ∨ q = gO) w w') (hbR : Blk w' R tPt (ptC r.n r.self r.of.length gO (.slice RA1 (m - 1) (rc - 1)))) (hbO : Blk w' gO tPos ((ss.map Pl.val).set r.self (.slice A1 (s2 - 1) (s3 - 1))))
  (hA : (if s3 = 1 then s1 else s1.map (·.add (1 * 33))) = A1) (hR : (if rc = 1 then RA else RA.map (·.add (1 * 1))) = RA1) :
  DPt w' R gO { r with of := r.of.set r.self l', rows := r.rows.tail } (ss.set r.self (A1, s2 - 1, s3 - 1)) RA1 (m - 1) (rc - 1) rs.tail := by
 have hsl : r.self < r.of.length := by rw [h.nl]; exact h.sf
 have hown : ownL r = l := by unfold ownL; rw [List.getD_eq_getElem?_getD, hl]; rfl
 have hs2 : s2 = l'.length + 1 := by rw [← hp.len, hyl]; rfl
 have hm : m = l'.length + 1 := by rw [h.ro, hown, hyl]; rfl
 obtain ⟨m0, rfl⟩ : ∃ m0, m = m0 + 1 := ⟨l'.length, hm⟩
 obtain ⟨z0, rfl⟩ : ∃ z0, s2 = z0 + 1 := ⟨l'.length, hs2⟩
 simp only [Nat.add_sub_cancel] at *
 obtain ⟨A2, hA2, hsa⟩ := hp.1.cutFrom (i := 1) (by omega) h23
 rw [hA] at hA2
 subst hA2
 obtain ⟨A3, hA3, hsr⟩ := h.rr.cutFrom (i := 1) (by omega) h.hrc.1
 rw [hR] at hA3
 subst hA3
 have hmem : (s1, z0 + 1, s3) ∈ ss := List.mem_of_getElem? hs
 have hrow : ∀ q, plB (RA1, m0, rc - 1) q → plB (RA, m0 + 1, rc) q := fun q hq => vt_tail hR hq
 refine ⟨?_, ?_, AllO.set (h.all.mono (fun s hs l hl => hl.off hf (fun q hq e => e.elim (h.io s hs q hq).1 (h.io s hs q hq).2.1))) ⟨⟨?_, fun p hp2 => hp.2 p (by rw [hyl]; exact List.mem_cons_of_mem _ hp2)⟩, by show z0 ≤ s3 - 1; omega, by show s3 - 1 ≤ maxLen; omega⟩, ?_, ?_, (fun hm2 a ha => ?_), ⟨by have := h.hrc.1; omega, by have := h.hrc.2; omega⟩, ?_, h.n1, h.n7, ?_, h.sf, fun q hq => h.nr q (hrow q hq), fun s hs2 q hq => ?_, fun s hs2 q hq => ?_⟩
 ·show Blk w' R tPt (ptC r.n r.self (r.of.set r.self l').length gO _)
  rw [List.length_set]
  exact hbR
 ·rw [List.map_set]
  exact hbO
 ·rw [hyl, List.map_cons, List.drop_succ_cons, List.drop_zero, Nat.add_sub_cancel] at hsa
  exact Sl.off hsa hf (fun q hq e => by
   have h9 := h.io _ hmem q (vt_tail hA hq)
   exact e.elim h9.1 h9.2.1)
 ·rw [Nat.add_sub_cancel] at hsr
  have h9 : (rs.map fun s => [s.val]).drop 1 = rs.tail.map fun s => [s.val] := by rw [List.drop_one, List.map_tail]
  rw [h9] at hsr
  exact Sl.off hsr hf (fun q hq e => by
   have h9 := h.nr q (hrow q ⟨hq.1, hq.2⟩)
   exact e.elim h9.1 h9.2)
 ·have h9 := (h.rb.mono (fun s hs l hl => hl.off hf (fun q hq e => e.elim (h.ib s hs q hq).1 (h.ib s hs q hq).2.1))).drop 1
  rw [List.drop_one, List.drop_one] at h9
  exact h9
 ·have h9 := hrow a.block ⟨hm2, a, ha, rfl⟩
  obtain ⟨_, a0, ha0, hb0⟩ := h9
  obtain ⟨cs, hb⟩ := h.rk (Nat.succ_pos _) a0 ha0
  have hb1 : a0.block = a.block := hb0
  rw [hb1] at hb
  exact ⟨cs, hf.blk hb (fun e => by
   have h8 := h.nr a.block (hrow a.block ⟨hm2, a, ha, rfl⟩)
   exact e.elim h8.1 h8.2)⟩
 ·show m0 = ((r.of.set r.self l').getD r.self []).length
  rw [own_self hsl]
  omega
 ·show (r.of.set r.self l').length = r.n
  rw [List.length_set]
  exact h.nl
 ·rcases List.mem_or_eq_of_mem_set hs2 with h9 | rfl
  ·have h8 := h.io s h9 q hq
   exact ⟨h8.1, h8.2.1, fun h7 => h8.2.2 (hrow q h7)⟩
  ·have h8 := h.io _ hmem q (vt_tail hA hq)
   exact ⟨h8.1, h8.2.1, fun h7 => h8.2.2 (hrow q h7)⟩
 ·have h8 := h.ib s (List.mem_of_mem_tail hs2) q hq
  exact ⟨h8.1, h8.2.1, fun h7 => h8.2.2 (hrow q h7)⟩
end
end Go.Proofs.Ytpolofehkckaoaa

namespace Go.Proofs.Ytpolofehkckaoaa
open Go.RowKit

theorem Try.el_u1 : El Try.prog 34 5 1 1 (.int .u8 0) := ⟨Try.underlying34, by kernel_rfl, rfl, by omega, by omega, by omega⟩
def u1C (b : UInt8) : List Value := [u8 b]
theorem sl_of_by {w : World} {A : Option Addr} {n : Nat} {xs : List UInt8} (h : By w (fun _ => True) A n xs) : Sl w 1 A n (xs.map u1C) :=
 ⟨by rw [List.length_map]; exact h.1, fun hn => by
  obtain ⟨g, o, e, _, hc⟩ := h.2 hn
  refine ⟨g, o, e, fun i cs hi j v hv => ?_⟩
  rw [List.getElem?_map] at hi
  obtain ⟨b, hb, rfl⟩ := Option.map_eq_some_iff.1 hi
  have hj : j = 0 := by
   have := (List.getElem?_eq_some_iff.1 hv).1
   simp [u1C] at this
   omega
  subst hj
  have h1 := hc i b hb
  simp only [u1C, List.getElem?_cons_zero, Option.some.injEq] at hv
  rw [← hv, Nat.mul_one, Nat.add_zero]
  exact h1⟩
theorem by_of_sl {w : World} {A : Option Addr} {n : Nat} {xs : List UInt8} (h : Sl w 1 A n (xs.map u1C)) : By w (fun _ => True) A n xs :=
 ⟨by have := h.1; rwa [List.length_map] at this, fun hn => by
  obtain ⟨g, o, e, hc⟩ := h.2 hn
  refine ⟨g, o, e, trivial, fun j u hu => ?_⟩
  have h1 := hc j (u1C u) (by rw [List.getElem?_map, hu]; rfl) 0 (u8 u) rfl
  rwa [Nat.mul_one, Nat.add_zero] at h1⟩
section
variable {w w' : World} {R gO m rc : Nat} {r : Ptp} {ss rs : List Pl} {RA : Option Addr}
end

end Go.Proofs.Ytpolofehkckaoaa

namespace Go.Proofs.Ytpolofehkckaoaa
open Go.RowKit

theorem Try.box_dg (d : List UInt8) (h : d.length = 32) (w : World) : (Instr.box 28 (.agg (vs d).toArray)).run Try.prog w = .ok (.pointer (some ⟨w.heap.size, 0, none⟩)) (w.alloc (.cells (vs d).toArray 28)) := by
 obtain ⟨x0, x1, x2, x3, x4, x5, x6, x7, x8, x9, x10, x11, x12, x13, x14, x15, x16, x17, x18, x19, x20, x21, x22, x23, x24, x25, x26, x27, x28, x29, x30, x31, rfl⟩ := vs_lit d h
 kernel_rfl
theorem Try.bld_po23 (a : Int) (d : List UInt8) (hd : d.length = 32) (w : World) : (Instr.build tPo #[(0, .int .i64 a), (1, .agg (vs d).toArray)]).run Try.prog w = .ok (.agg (Po.cells ⟨a, d⟩).toArray) w := by
 obtain ⟨x0, x1, x2, x3, x4, x5, x6, x7, x8, x9, x10, x11, x12, x13, x14, x15, x16, x17, x18, x19, x20, x21, x22, x23, x24, x25, x26, x27, x28, x29, x30, x31, rfl⟩ := vs_lit d hd
 kernel_rfl
end Go.Proofs.Ytpolofehkckaoaa

namespace Go.Proofs.Ytpolofehkckaoaa
open Go.RowKit

def bytG (b : List (List UInt8)) : Option Nat → List UInt8
 | some i => b.getD i []
 | none => []
def bytR (r : Ptp) (x : Po) : List UInt8 := bytG r.rows (firstP x (ownL r) 0)
end Go.Proofs.Ytpolofehkckaoaa
