/-
  Joined: SlF2.
-/
import Derived.Test.YtkpgjcahmpekbaaTU46
import Derived.Test.YtkpgjcahmpekbaaTU18
import Derived.Test.YtkpgjcahmpekbaaTU45
namespace Go.Proofs.Ytkpgjcahmpekbaa
open Go.RowKit

def F2 (T : World → Value → (Nat → Prop) → Slt → Prop) (w0 w : World) (va vb : Value) (sa sb : Slt) : Prop :=
 ∃ Da Db, T w va Da sa ∧ T w vb Db sb ∧ Below w0.heap.size w0 w ∧ (∀ q, Da q → w0.heap.size ≤ q) ∧ (∀ q, Db q → w0.heap.size ≤ q) ∧ ∀ q, Da q → ¬ Db q
section
variable {T : World → Value → (Nat → Prop) → Slt → Prop} {w0 w w' : World} {va vb : Value} {sa sb : Slt}
theorem F2.below (h : F2 T w0 w va vb sa sb) : Below w0.heap.size w0 w := by obtain ⟨_, _, _, _, h2, _⟩ := h; exact h2
theorem F2.through (V : SlotV T) (h : F2 T w0 w va vb sa sb) (hb : Below w.heap.size w w') : F2 T w0 w' va vb sa sb := by
 obtain ⟨Da, Db, h1, h2, h3, h4, h5, h6⟩ := h
 exact ⟨Da, Db, V.through h1 hb, V.through h2 hb, below_step h3 hb, h4, h5, h6⟩
theorem F2.step (V : SlotV T) {Da Da' Db : Nat → Prop} {s' : Slt} (h2 : T w vb Db sb) (h3 : Below w0.heap.size w0 w) (h4 : ∀ q, Da q → w0.heap.size ≤ q) (h5 : ∀ q, Db q → w0.heap.size ≤ q) (h6 : ∀ q, Da q → ¬ Db q) (h7 : T w' va Da' s') (h8 : Ft Da w w') (h9 : ∀ q, Da' q → Da q ∨ w.heap.size ≤ q) : F2 T w0 w' va vb s' sb :=
 ⟨Da', Db, h7, V.ft h2 h8 (fun q hb ha => h6 q ha hb), h8.below h3 h3.size h4, fun q hq => (h9 q hq).elim (h4 q) (fun h => Nat.le_trans h3.size h), h5, fun q hq hb => (h9 q hq).elim (fun h => h6 q h hb) (fun h => by have := V.lt h2 q hb; omega)⟩
theorem F2.made (V : SlotV T) {w1 : World} {Da Db : Nat → Prop} (h1 : T w1 va Da sa) (hb1 : Below w0.heap.size w0 w1) (hd1 : ∀ q, Da q → w0.heap.size ≤ q) (h2 : T w vb Db sb) (hb2 : Below w1.heap.size w1 w) (hd2 : ∀ q, Db q → w1.heap.size ≤ q) : F2 T w0 w va vb sa sb :=
 ⟨Da, Db, V.through h1 hb2, h2, below_step hb1 hb2, hd1, fun q hq => Nat.le_trans hb1.size (hd2 q hq), fun q ha hb => by have := V.lt h1 q ha; have := hd2 q hb; omega⟩
theorem F2.commit (V : SlotV T) (h : F2 T w0 w va vb sa sb) (l : SlLow sa) {who r : Int} {d : List UInt8} {s' : Slt} (e1 : commS sa who d = (s', r)) (hd : d.length = 32) : Calls Try.prog 42 #[va, .int .i64 who, .agg (vs d).toArray] w fun e w' => e = .returned (.int .i64 r) ∧ F2 T w0 w' va vb s' sb := by
 obtain ⟨Da, Db, h1, h2, h3, h4, h5, h6⟩ := h
 refine (V.commit who d h1 l hd).mono ?_
 rintro e w' ⟨rfl, D', h7, h8, h9⟩
 rw [e1] at h7 ⊢
 exact ⟨rfl, F2.step V h2 h3 h4 h5 h6 h7 h8 h9⟩
theorem F2.propose (V : SlotV T) (h : F2 T w0 w va vb sa sb) (l : SlLow sa) {r : Int} {d : List UInt8} {s' : Slt} (e1 : propS sa d [] = (s', r)) (hd : d.length = 32) : Calls Try.prog 40 #[va, .agg (vs d).toArray, .slice none 0 0] w fun e w' => e = .returned (.int .i64 r) ∧ F2 T w0 w' va vb s' sb := by
 obtain ⟨Da, Db, h1, h2, h3, h4, h5, h6⟩ := h
 refine (V.propose d [] none 0 0 h1 l hd EysIn.none_ (by omega)).mono ?_
 rintro e w' ⟨rfl, D', h7, h8, h9⟩
 rw [e1] at h7 ⊢
 exact ⟨rfl, F2.step V h2 h3 h4 h5 h6 h7 h8 h9⟩
theorem F2.committed (V : SlotV T) (h : F2 T w0 w va vb sa sb) (l : SlLow sa) {b : Bool} (e1 : commB sa = b) : Calls Try.prog 44 #[va] w fun e w' => e = .returned (.bool b) ∧ F2 T w0 w' va vb sa sb := by
 have h0 := h
 obtain ⟨Da, Db, h1, h2, h3, h4, h5, h6⟩ := h
 refine (V.committed h1 l).mono ?_
 rintro e w' ⟨rfl, hb⟩
 exact ⟨by rw [e1], h0.through V hb⟩
end
theorem Try.el_u8s : El Try.prog 45 5 1 1 (.int .u8 0) := ⟨Try.underlying45, by kernel_rfl, rfl, by omega, by omega, by omega⟩
theorem Try.ix_u8 (W : World) (g o n c j : Nat) (hj : j < n) : (Instr.indexAt 45 (.slice (some ⟨g, o, none⟩) n c) (.int .i64 (j : Int))).run Try.prog W = .ok (.pointer (some ⟨g, o + j, none⟩)) W := by
 have h9 := Try.el_u8s.index (by kernel_rfl) W g o n c j hj
 simpa using h9
theorem tmod_nat (a b : Nat) : ((a : Int)).tmod (b : Int) = ((a % b : Nat) : Int) := by
 rw [Int.tmod_eq_emod_of_nonneg (by omega)]
 omega

end Go.Proofs.Ytkpgjcahmpekbaa
