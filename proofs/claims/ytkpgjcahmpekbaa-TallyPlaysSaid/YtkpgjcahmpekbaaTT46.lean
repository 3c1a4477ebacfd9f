/-
  Joined: TpA.
-/
import Derived.Test.YtkpgjcahmpekbaaTT41
import Derived.Test.YtkpgjcahmpekbaaTT22
import Derived.Test.YtkpgjcahmpekbaaTT42
import Derived.Test.YtkpgjcahmpekbaaTT43
import Derived.Test.YtkpgjcahmpekbaaTT44
import Derived.Test.YtkpgjcahmpekbaaTT45
namespace Go.Proofs.Ytkpgjcahmpekbaa
open Go.RowKit

/-- an act, as it lies in memory -/
structure Ac where
 kd : Int
 who : Int
 v : Vo
def Ac.cells (x : Ac) : List Value := .int .u8 x.kd :: .int .i64 x.who :: Vo.cells x.v
theorem Ac.len {x : Ac} (h : x.v.dg.length = 32) : x.cells.length = 36 := by simp [Ac.cells, Vo.cells_len _ h]
theorem Ac.one (x : Ac) : x.cells.toArray.all (·.oneCell') = true := Array.all_eq_true_iff_forall_mem.2 (fun u hu => by
 simp only [Ac.cells, Vo.cells, List.mem_toArray, List.mem_cons, vs, List.mem_map] at hu
 rcases hu with rfl | rfl | rfl | rfl | ⟨b, _, rfl⟩ <;> rfl)
structure AcOk (x : Ac) : Prop where
 dg : x.v.dg.length = 32
 lo : 0 ≤ x.kd
 hi : x.kd ≤ 255
 who : In64 x.who
def AcsIn (w : World) (A : Option Addr) (k : Nat) (l : List Ac) : Prop := Sl w 36 A k (l.map Ac.cells) ∧ ∀ x ∈ l, AcOk x
theorem AcsIn.len {w : World} {A : Option Addr} {k : Nat} {l : List Ac} (h : AcsIn w A k l) : l.length = k := by simpa using h.1.len
theorem AcsIn.at {w w' : World} {A : Option Addr} {k : Nat} {l : List Ac} (h : AcsIn w A k l) (hb : Below w.heap.size w w') {i : Nat} (hi : i < k) : ∃ g o x, A = some ⟨g, o, none⟩ ∧ AcOk x ∧ w'.rangeAt g (o + i * 36) x.cells := by
 obtain ⟨g, o, cs, e, h1, _, _, h4⟩ := (h.1.through hb).at hi
 have hl : i < l.length := by rw [h.len]; exact hi
 rw [List.getElem?_map, List.getElem?_eq_getElem hl] at h1
 simp only [Option.map_some, Option.some.injEq] at h1
 subst h1
 have h2 := h.2 _ (List.getElem_mem hl)
 exact ⟨g, o, l[i], e, h2, h4⟩
theorem Try.el_ac : El Try.prog 22 33 36 64 (.agg (Ac.cells ⟨0, 0, voZ⟩).toArray) := ⟨Try.underlying22, by kernel_rfl, rfl, by omega, by omega, by omega⟩
theorem Try.ix_ac (W : World) (g o n c j : Nat) (hj : j < n) : (Instr.indexAt 22 (.slice (some ⟨g, o, none⟩) n c) (.int .i64 (j : Int))).run Try.prog W = .ok (.pointer (some ⟨g, o + j * 36, none⟩)) W := Try.el_ac.index (by kernel_rfl) W g o n c j hj
theorem Try.zero_ac (w : World) : (zeroValue 33).run Try.prog w = .ok (.agg (Ac.cells ⟨0, 0, voZ⟩).toArray) w := by kernel_rfl
theorem ac_v {x : Ac} {g : Nat} {W : World} (h : Blk W g 33 x.cells) : W.rangeAt g 2 (Vo.cells x.v) := Blk.range (pre := [.int .u8 x.kd, .int .i64 x.who]) (post := []) (by simpa [Ac.cells] using h)
/-- both, the program's in the three blocks of D3, the document's in its row's -/
structure JT (w0 W : World) (g gv gc : Nat) (M : List (Int × Vo)) (sv : Value) (R : Tl) : Prop where
 tl : TlR 90 encV okV W g gv gc M
 ow : OOn W w0.heap.size sv R
 be : Below w0.heap.size w0 W
 dd : ∀ q, D3 g gv gc q → w0.heap.size ≤ q
 ap : ∀ q, sv.ownBlock = some q → ¬ D3 g gv gc q
section
variable {w0 W W' : World} {g gv gc : Nat} {M M' : List (Int × Vo)} {sv sv' : Value} {R R' : Tl}
theorem JT.prog (h : JT w0 W g gv gc M sv R) (h1 : TlR 90 encV okV W' g gv gc M') (h2 : Ft (D3 g gv gc) W W') : JT w0 W' g gv gc M' sv R :=
 ⟨h1, ⟨h.ow.1.keep (fun b _ hl hq => h2.block b hl (fun h9 => h.ap b hq h9)), h.ow.2⟩, h2.below h.be h.be.size h.dd, h.dd, h.ap⟩
theorem JT.through (h : JT w0 W g gv gc M sv R) (hb : Below W.heap.size W W') : JT w0 W' g gv gc M sv R := ⟨h.tl.through hb, h.ow.through hb, below_step h.be hb, h.dd, h.ap⟩
theorem JT.doc (h : JT w0 W g gv gc M sv R) (h1 : OOn W' W.heap.size sv' R') (hb : Below W.heap.size W W') : JT w0 W' g gv gc M sv' R' :=
 ⟨h.tl.through hb, h1.weak h.be.size, below_step h.be hb, h.dd, fun q hq h9 => by have := (h1.1.lt q hq).1; have := h.tl.lt q h9; omega⟩
theorem JT.first {w1 : World} (h1 : Below w0.heap.size w0 w1) (h : TlR 90 encV okV W g gv gc []) (hb : Below w1.heap.size w1 W) (hd : ∀ q, D3 g gv gc q → w1.heap.size ≤ q) : JT w0 W g gv gc [] (.slice none 0 0) [] :=
 ⟨h, OOn.nil _ _, below_step h1 hb, fun q hq => Nat.le_trans h1.size (hd q hq), fun q hq => by simp [Value.ownBlock] at hq⟩
end
theorem leastM_ok {w : World} {gv : Nat} {M : List (Int × Vo)} (h : VMp encV okV w gv M) (at_ : Int) : ∀ l : List Int, okV ((leastM M voZ at_ l).getD voZ)
 | [] => V_okz
 | a :: l => by
  unfold leastM
  split
  ·exact ok_get h V_okz a
  ·exact leastM_ok h at_ l
theorem leastT_ok {w : World} {gv : Nat} {M : List (Int × Vo)} (h : VMp encV okV w gv M) (at_ : Int) : okV ((leastT M voZ at_).getD voZ) := by
 unfold leastT
 split
 ·exact V_okz
 ·exact leastM_ok h at_ _
theorem neq_same (p : Vo) (h : okV p) (w : World) : (binOp .neq 29 (.agg (Vo.cells p).toArray) (.agg (Vo.cells p).toArray)).run Try.prog w = .ok (.bool false) w := by
 rw [neq_vov p p h h w, Vo.eqb_iff.2 rfl]
 rfl
theorem eq_dec (p q : Vo) (hp : okV p) (hq : okV q) (w : World) : (binOp .eql 29 (.agg (Vo.cells p).toArray) (.agg (Vo.cells q).toArray)).run Try.prog w = .ok (.bool (decide (p = q))) w := by
 rw [eq_vov p q hp hq w, show p.eqb q = decide (p = q) by rw [Bool.eq_iff_iff, Vo.eqb_iff, decide_eq_true_iff]]
theorem put_in {M : List (Int × Vo)} {who : Int} {v : Vo} (h : ∀ p ∈ M, In64 p.1) (hw : In64 who) : ∀ p ∈ putM who v M, In64 p.1 := by
 intro p hp
 rcases mem_putM hp with rfl | hp
 ·exact hw
 ·exact h p hp

end Go.Proofs.Ytkpgjcahmpekbaa
