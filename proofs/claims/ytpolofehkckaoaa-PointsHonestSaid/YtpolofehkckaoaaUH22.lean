/-
  Joined: PtK, PtG.
-/
import Derived.Lib.MinMax
import Derived.BigQuiet
import Derived.Deep.CutRange
import Derived.Test.YtpolofehkckaoaaUH21
import Derived.Test.YtpolofehkckaoaaUH15
namespace Go.Proofs.Ytpolofehkckaoaa
open Go.RowKit

section
variable {P : World → Nat → Ptp → (Nat → Prop) → Prop} {w0 w : World} {B : Nat} {Z : Nat → Prop}
end
theorem ris_at {l : List Po} (h : Ris l) {i j : Nat} {y x : Po} (hy : l[i]? = some y) (hx : l[j]? = some x) (hij : i < j) : y.sq < x.sq := by
 unfold Ris at h
 obtain ⟨h1, h2⟩ := List.getElem?_eq_some_iff.1 hy
 obtain ⟨h3, h4⟩ := List.getElem?_eq_some_iff.1 hx
 have h9 := List.pairwise_iff_getElem.1 h i j (by simpa using h1) (by simpa using h3) hij
 rw [List.getElem_map, List.getElem_map, h2, h4] at h9
 exact h9
end Go.Proofs.Ytpolofehkckaoaa

namespace Go.Proofs.Ytpolofehkckaoaa
open Go.RowKit

abbrev tAct : TypeId := 45
theorem Pa.len {x : Pa} (h : x.x.dg.length = 32) : x.cells.length = 36 := by simp [Pa.cells, Po.cells_len _ h]
theorem Pa.one (x : Pa) : x.cells.toArray.all (·.oneCell') = true := Array.all_eq_true_iff_forall_mem.2 (fun u hu => by
 simp only [Pa.cells, List.mem_toArray, List.mem_cons, List.mem_append] at hu
 rcases hu with rfl | rfl | h | rfl | h
 ·rfl
 ·rfl
 ·exact Array.all_eq_true_iff_forall_mem.1 (Po.one x.x) u (by simpa using h)
 ·rfl
 ·cases h)
theorem PasIn.len {w : World} {A : Option Addr} {k : Nat} {l : List Pa} (h : PasIn w A k l) : l.length = k := by simpa using h.1.len
theorem PasIn.at {w w' : World} {A : Option Addr} {k : Nat} {l : List Pa} (h : PasIn w A k l) (hb : Below w.heap.size w w') {i : Nat} (hi : i < k) : ∃ g o x, A = some ⟨g, o, none⟩ ∧ l[i]? = some x ∧ PaOk w x ∧ w'.rangeAt g (o + i * 36) x.cells := by
 obtain ⟨g, o, cs, e, h1, _, _, h4⟩ := (h.1.through hb).at hi
 have hl : i < l.length := by rw [h.len]; exact hi
 rw [List.getElem?_map, List.getElem?_eq_getElem hl] at h1
 simp only [Option.map_some, Option.some.injEq] at h1
 subst h1
 exact ⟨g, o, l[i], e, List.getElem?_eq_getElem hl, h.2 _ (List.getElem_mem hl), h4⟩
theorem Try.el_pa : El Try.prog 22 tAct 36 80 (.agg (Pa.cells ⟨0, 0, poZ, [], none, 0, 0⟩).toArray) := ⟨Try.underlying22, by kernel_rfl, rfl, by omega, by omega, by omega⟩
theorem Try.ix_pa (W : World) (g o n c j : Nat) (hj : j < n) : (Instr.indexAt 22 (.slice (some ⟨g, o, none⟩) n c) (.int .i64 (j : Int))).run Try.prog W = .ok (.pointer (some ⟨g, o + j * 36, none⟩)) W := Try.el_pa.index (by kernel_rfl) W g o n c j hj
theorem Try.zero_pa (w : World) : (zeroValue tAct).run Try.prog w = .ok (.agg (Pa.cells ⟨0, 0, poZ, [], none, 0, 0⟩).toArray) w := by kernel_rfl
theorem pa_point {w : World} {g : Nat} {x : Pa} (h : Blk w g tAct x.cells) : w.rangeAt g 2 (Po.cells x.x) := fun j v hv => by
 refine h.cellAt (i := 2 + j) ?_
 rw [Nat.add_comm]
 show (Po.cells x.x ++ [.slice x.A x.n x.c])[j]? = some v
 rw [List.getElem?_append_left (List.getElem?_eq_some_iff.1 hv).1]
 exact hv
section
variable {P : World → Nat → Ptp → (Nat → Prop) → Prop} {w0 w : World} {B : Nat} {r : Ptp} {Z Y : Nat → Prop}
theorem Fx.less (h : Fx P w0 w B r Z) (hz : ∀ q, Y q → Z q) : Fx P w0 w B r Y := by
 obtain ⟨D, h1, h2, h3, h4⟩ := h
 exact ⟨D, h1, h2, fun q hq => ⟨(h3 q hq).1, fun h9 => (h3 q hq).2 (hz q h9)⟩, fun q hq => h4 q (hz q hq)⟩
/-- liars alone: nothing is weak, nothing is stable -/
theorem Votd.none2 {LS : List Nat} {r : Ptp} {k : Nat} (h : Votd LS r) (hk : LS.length ≤ k) (hn : r.n = 3 * k + 1) (above : Int) : weakR r above = (poZ, false) ∧ stabR r above = (poZ, false) := by
 have hf : (k : Int) ≤ fltN r.n := by
  unfold fltN
  split <;> omega
 have hs : ∀ y, (supO y r.of : Int) < fltN r.n + 1 := fun y => by have := h.sup y; omega
 constructor
 ·unfold weakR
  rw [weak_no hs]
 ·unfold stabR bestO
  rw [best_no (fun y => by have := hs y; omega)]
theorem fxH_new (C : PtsP P) (n : Nat) (h1 : 1 ≤ n) (h7 : n ≤ 7) (hb : Below w0.heap.size w0 w) : Calls Try.prog 7 #[.int .i64 (n : Int), .int .i64 0] w fun e w' => ∃ B, e = .returned (.pointer (some ⟨B, 0, none⟩)) ∧ Fx P w0 w' B ⟨n, 0, List.replicate n [], []⟩ (fun _ => False) :=
 (C.new_ n 0 w h1 h7 (by omega)).mono fun e w' ⟨B, D, e1, hp, hb2, hd⟩ => ⟨B, e1, Fx.begin hp (below_step hb hb2) (fun q hq => Nat.le_trans hb.size (hd q hq))⟩
theorem fxH_weak (C : PtsP P) {LS : List Nat} {k m : Nat} (h : Fx P w0 w B r Z) (hl : Lens m r) (hm : m ≤ 100000) (hv : Votd LS r) (hk : LS.length ≤ k) (hn : r.n = 3 * k + 1) (above : Int) : Calls Try.prog 11 #[.pointer (some ⟨B, 0, none⟩), .int .i64 above] w fun e w' => e = .returned (.tuple #[.agg (Po.cells poZ).toArray, .bool false]) ∧ Fx P w0 w' B r Z ∧ Below w.heap.size w w' := by
 have h1 := h.weak C ⟨fun l hm2 => Nat.le_trans (hl l hm2) hm⟩ above
 rw [(hv.none2 hk hn above).1] at h1
 exact h1
theorem fxH_stab (C : PtsP P) {LS : List Nat} {k m : Nat} (h : Fx P w0 w B r Z) (hl : Lens m r) (hm : m ≤ 100000) (hv : Votd LS r) (hk : LS.length ≤ k) (hn : r.n = 3 * k + 1) (above : Int) : Calls Try.prog 10 #[.pointer (some ⟨B, 0, none⟩), .int .i64 above] w fun e w' => e = .returned (.tuple #[.agg (Po.cells poZ).toArray, .bool false]) ∧ Fx P w0 w' B r Z ∧ Below w.heap.size w w' := by
 have h1 := h.stable C ⟨fun l hm2 => Nat.le_trans (hl l hm2) hm⟩ above
 rw [(hv.none2 hk hn above).2] at h1
 exact h1
end

end Go.Proofs.Ytpolofehkckaoaa
