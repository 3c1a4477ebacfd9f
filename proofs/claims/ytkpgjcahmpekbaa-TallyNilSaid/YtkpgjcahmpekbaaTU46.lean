/-
  Joined: SlX.
-/
import Derived.Deep.RegionHeld
import Derived.Deep.CutBlock
import Derived.Test.YtkpgjcahmpekbaaTU45
namespace Go.Proofs.Ytkpgjcahmpekbaa
open Go.RowKit

/-- a slot of one's own, made behind w0, and a digest beside it -/
def FX (T : World → Value → (Nat → Prop) → Slt → Prop) (w0 w : World) (v : Value) (s : Slt) (g : Nat) (d : List UInt8) : Prop :=
 ∃ D, T w v D s ∧ Below w0.heap.size w0 w ∧ (∀ q, D q → w0.heap.size ≤ q) ∧ Blk w g 27 (vs d) ∧ ¬ D g
section
variable {T : World → Value → (Nat → Prop) → Slt → Prop} {w0 w w' : World} {v : Value} {s : Slt} {g : Nat} {d : List UInt8}
theorem FX.below (h : FX T w0 w v s g d) : Below w0.heap.size w0 w := by obtain ⟨_, _, h2, _⟩ := h; exact h2
theorem FX.blk (h : FX T w0 w v s g d) : Blk w g 27 (vs d) := by obtain ⟨_, _, _, _, h4, _⟩ := h; exact h4
theorem FX.through (V : SlotV T) (h : FX T w0 w v s g d) (hb : Below w.heap.size w w') : FX T w0 w' v s g d := by
 obtain ⟨D, h1, h2, h3, h4, h5⟩ := h
 exact ⟨D, V.through h1 hb, below_step h2 hb, h3, h4.through hb, h5⟩
theorem FX.step {D D' : Nat → Prop} {s' : Slt} (h2 : Below w0.heap.size w0 w) (h3 : ∀ q, D q → w0.heap.size ≤ q) (h4 : Blk w g 27 (vs d)) (h5 : ¬ D g) (h6 : T w' v D' s') (h7 : Ft D w w') (h8 : ∀ q, D' q → D q ∨ w.heap.size ≤ q) : FX T w0 w' v s' g d :=
 ⟨D', h6, h7.below h2 h2.size h3, fun q hq => (h8 q hq).elim (h3 q) (fun h9 => Nat.le_trans h2.size h9), h7.blk h4 h5, fun hq => (h8 g hq).elim h5 (fun h9 => by have := h4.lt; omega)⟩
theorem FX.prepare (V : SlotV T) (h : FX T w0 w v s g d) (l : SlLow s) {who r : Int} {d' : List UInt8} {s' : Slt} (e1 : prepS s who d' = (s', r)) (hd : d'.length = 32) : Calls Try.prog 41 #[v, .int .i64 who, .agg (vs d').toArray] w fun e w' => e = .returned (.int .i64 r) ∧ FX T w0 w' v s' g d := by
 obtain ⟨D, h1, h2, h3, h4, h5⟩ := h
 refine (V.prepare who d' h1 l hd).mono ?_
 rintro e w' ⟨rfl, D', h6, h7, h8⟩
 rw [e1] at h6 ⊢
 exact ⟨rfl, FX.step h2 h3 h4 h5 h6 h7 h8⟩
theorem FX.prepared (V : SlotV T) (h : FX T w0 w v s g d) (l : SlLow s) {p : Int} {b : Bool} (e1 : prepB s p = b) : Calls Try.prog 43 #[v, .int .i64 p] w fun e w' => e = .returned (.bool b) ∧ FX T w0 w' v s g d := by
 have h0 := h
 obtain ⟨D, h1, h2, h3, h4, h5⟩ := h
 refine (V.prepared p h1 l).mono ?_
 rintro e w' ⟨rfl, hb⟩
 exact ⟨by rw [e1], h0.through V hb⟩
theorem FX.committed (V : SlotV T) (h : FX T w0 w v s g d) (l : SlLow s) {b : Bool} (e1 : commB s = b) : Calls Try.prog 44 #[v] w fun e w' => e = .returned (.bool b) ∧ FX T w0 w' v s g d := by
 have h0 := h
 obtain ⟨D, h1, h2, h3, h4, h5⟩ := h
 refine (V.committed h1 l).mono ?_
 rintro e w' ⟨rfl, hb⟩
 exact ⟨by rw [e1], h0.through V hb⟩
theorem FX.votes (V : SlotV T) (h : FX T w0 w v s g d) (l : SlLow s) {a b : Nat} (ha : s.pr.length = a) (hb : s.cm.length = b) : Calls Try.prog 39 #[v] w fun e w' => e = .returned (.tuple #[.int .i64 (a : Int), .int .i64 (b : Int)]) ∧ FX T w0 w' v s g d := by
 have h0 := h
 obtain ⟨D, h1, h2, h3, h4, h5⟩ := h
 refine (V.votes h1 l).mono ?_
 rintro e w' ⟨rfl, hb2⟩
 exact ⟨by rw [ha, hb], h0.through V hb2⟩
end
end Go.Proofs.Ytkpgjcahmpekbaa
