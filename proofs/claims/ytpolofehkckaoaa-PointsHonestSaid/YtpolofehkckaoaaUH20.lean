/-
  Joined: PtX.
-/
import Derived.Test.YtpolofehkckaoaaUH18
import Derived.Test.YtpolofehkckaoaaUH19
namespace Go.Proofs.Ytpolofehkckaoaa
open Go.RowKit

/-- what is asked of the program's checkpoints: 'P w B r D': the pointer to block B holds r, in blocks D -/
structure PtsP (P : World → Nat → Ptp → (Nat → Prop) → Prop) : Prop where
 off : ∀ {w w' : World} {B : Nat} {r : Ptp} {D E : Nat → Prop}, P w B r D → Ft E w w' → (∀ q, D q → ¬ E q) → P w' B r D
 lt : ∀ {w : World} {B : Nat} {r : Ptp} {D : Nat → Prop}, P w B r D → ∀ q, D q → q < w.heap.size
 new_ : ∀ (n self : Nat) (w : World), 1 ≤ n → n ≤ 7 → self < n → Calls Try.prog 7 #[.int .i64 (n : Int), .int .i64 (self : Int)] w fun e w' => ∃ B D, e = .returned (.pointer (some ⟨B, 0, none⟩)) ∧ P w' B ⟨n, self, List.replicate n [], []⟩ D ∧ Below w.heap.size w w' ∧ ∀ q, D q → w.heap.size ≤ q
 own : ∀ {w : World} {B : Nat} {r : Ptp} {D : Nat → Prop} (q : Int) (d b : List UInt8) (A : Option Addr) (k c : Nat), P w B r D → PtLow r → (-9223372036854775808 ≤ q ∧ q ≤ 9223372036854775807) → d.length = 32 → By w (fun _ => True) A k b → k ≤ 1000000 → (∀ q, plB (A, k, k) q → ¬ D q) → Calls Try.prog 8 #[(.pointer (some ⟨B, 0, none⟩)), .int .i64 q, .agg (vs d).toArray, .slice A k c] w fun e w' => e = .returned (.tuple #[]) ∧ ∃ D', P w' B (ownR r q d b) D' ∧ Ft D w w' ∧ ∀ q, D' q → D q ∨ w.heap.size ≤ q
 vote : ∀ {w : World} {B : Nat} {r : Ptp} {D : Nat → Prop} (who : Int) (x : Po), P w B r D → PtLow r → x.dg.length = 32 → Calls Try.prog 13 #[(.pointer (some ⟨B, 0, none⟩)), .int .i64 who, .agg (Po.cells x).toArray] w fun e w' => e = .returned (.bool (voteR r who x).2) ∧ ∃ D', P w' B (voteR r who x).1 D' ∧ Ft D w w' ∧ ∀ q, D' q → D q ∨ w.heap.size ≤ q
 move : ∀ {w : World} {B : Nat} {r : Ptp} {D : Nat → Prop} (low : Int), P w B r D → PtLow r → Calls Try.prog 9 #[(.pointer (some ⟨B, 0, none⟩)), .int .i64 low] w fun e w' => e = .returned (.tuple #[]) ∧ ∃ D', P w' B (moveR r low) D' ∧ Ft D w w' ∧ ∀ q, D' q → D q ∨ w.heap.size ≤ q
 stable : ∀ {w : World} {B : Nat} {r : Ptp} {D : Nat → Prop} (above : Int), P w B r D → PtLow r → Calls Try.prog 10 #[(.pointer (some ⟨B, 0, none⟩)), .int .i64 above] w fun e w' => e = .returned (.tuple #[.agg (Po.cells (stabR r above).1).toArray, .bool (stabR r above).2]) ∧ Below w.heap.size w w'
 weak : ∀ {w : World} {B : Nat} {r : Ptp} {D : Nat → Prop} (above : Int), P w B r D → PtLow r → Calls Try.prog 11 #[(.pointer (some ⟨B, 0, none⟩)), .int .i64 above] w fun e w' => e = .returned (.tuple #[.agg (Po.cells (weakR r above).1).toArray, .bool (weakR r above).2]) ∧ Below w.heap.size w w'
 supp : ∀ {w : World} {B : Nat} {r : Ptp} {D : Nat → Prop} (x : Po), P w B r D → PtLow r → x.dg.length = 32 → Calls Try.prog 14 #[(.pointer (some ⟨B, 0, none⟩)), .agg (Po.cells x).toArray] w fun e w' => e = .returned (.int .i64 (supO x r.of : Int)) ∧ Below w.heap.size w w'
 bytes : ∀ {w : World} {B : Nat} {r : Ptp} {D : Nat → Prop} (x : Po), P w B r D → PtLow r → x.dg.length = 32 → Calls Try.prog 12 #[(.pointer (some ⟨B, 0, none⟩)), .agg (Po.cells x).toArray] w fun e w' => (∃ A k c, e = .returned (.tuple #[.slice A k c, .bool (firstP x (ownL r) 0).isSome]) ∧ By w' (fun _ => True) A k (bytR r x)) ∧ Below w.heap.size w w'
 told : ∀ {w : World} {B : Nat} {r : Ptp} {D : Nat → Prop} , P w B r D → PtLow r → Calls Try.prog 15 #[(.pointer (some ⟨B, 0, none⟩))] w fun e w' => (∃ A k c, e = .returned (.slice A k c) ∧ PosIn w' A k (toldR r)) ∧ Below w.heap.size w w'
 votes : ∀ {w : World} {B : Nat} {r : Ptp} {D : Nat → Prop} (who : Nat), P w B r D → PtLow r → who < r.n → Calls Try.prog 16 #[(.pointer (some ⟨B, 0, none⟩)), .int .i64 (who : Int)] w fun e w' => (∃ A k c, e = .returned (.slice A k c) ∧ PosIn w' A k (r.of.getD who [])) ∧ Below w.heap.size w w'
/-- the program's checkpoints, since a world at which a law began, beside blocks of the law's own -/
def Fx (P : World → Nat → Ptp → (Nat → Prop) → Prop) (w0 w : World) (B : Nat) (r : Ptp) (Z : Nat → Prop) : Prop := ∃ D, P w B r D ∧ Below w0.heap.size w0 w ∧ (∀ q, D q → w0.heap.size ≤ q ∧ ¬ Z q) ∧ ∀ q, Z q → q < w.heap.size
section
variable {P : World → Nat → Ptp → (Nat → Prop) → Prop} {w0 w w' : World} {B : Nat} {r : Ptp} {Z : Nat → Prop}
theorem Fx.begin {B : Nat} {D : Nat → Prop} (h : P w B r D) (hb : Below w0.heap.size w0 w) (hd : ∀ q, D q → w0.heap.size ≤ q) : Fx P w0 w B r (fun _ => False) := ⟨D, h, hb, fun q hq => ⟨hd q hq, id⟩, fun _ h => h.elim⟩
theorem Fx.since (h : Fx P w0 w B r Z) : Below w0.heap.size w0 w := by
 obtain ⟨D, _, hb, _⟩ := h
 exact hb
theorem Fx.through (C : PtsP P) (h : Fx P w0 w B r Z) (hb : Below w.heap.size w w') : Fx P w0 w' B r Z := by
 obtain ⟨D, h1, h2, h3, h4⟩ := h
 refine ⟨D, C.off h1 (Ft.of_below hb) (fun _ _ h => h), below_step h2 hb, h3, fun q hq => ?_⟩
 have := h4 q hq
 have := hb.size
 omega
/-- a block that has come since: one's own -/
theorem Fx.alloc (C : PtsP P) (h : Fx P w0 w B r Z) {g : Nat} (hb : Below w.heap.size w w') (hg : w.heap.size ≤ g) (hl : g < w'.heap.size) : Fx P w0 w' B r (fun q => Z q ∨ q = g) := by
 obtain ⟨D, h1, h2, h3, h4⟩ := h
 refine ⟨D, C.off h1 (Ft.of_below hb) (fun _ _ h => h), below_step h2 hb, fun q hq => ⟨(h3 q hq).1, fun h9 => h9.elim (h3 q hq).2 (fun e => ?_)⟩, fun q hq => hq.elim (fun h9 => ?_) (fun e => e ▸ hl)⟩
 ·have := C.lt h1 q hq
  omega
 ·have := h4 q h9
  have := hb.size
  omega
theorem Fx.turned {D D' : Nat → Prop} {r' : Ptp} (h2 : Below w0.heap.size w0 w) (h3 : ∀ q, D q → w0.heap.size ≤ q ∧ ¬ Z q) (h4 : ∀ q, Z q → q < w.heap.size) (hp : P w' B r' D') (hf : Ft D w w') (hd : ∀ q, D' q → D q ∨ w.heap.size ≤ q) : Fx P w0 w' B r' Z ∧ Ft (fun q => w0.heap.size ≤ q ∧ ¬ Z q) w w' := by
 have hs := h2.size
 have hs' := hf.size
 refine ⟨⟨D', hp, hf.below h2 h2.size (fun b hb => (h3 b hb).1), fun q hq => ?_, fun q hq => by have := h4 q hq; omega⟩, ⟨hf.os, hf.tape, hf.output, hf.size, fun b hb hn => hf.block b hb (fun h9 => hn (h3 b h9))⟩⟩
 rcases hd q hq with h9 | h9
 ·exact h3 q h9
 ·exact ⟨by omega, fun h8 => by have := h4 q h8; omega⟩
theorem Fx.vote (C : PtsP P) (h : Fx P w0 w B r Z) (hl : PtLow r) (who : Int) (x : Po) (hx : x.dg.length = 32) : Calls Try.prog 13 #[(.pointer (some ⟨B, 0, none⟩)), .int .i64 who, .agg (Po.cells x).toArray] w fun e w' => e = .returned (.bool (voteR r who x).2) ∧ Fx P w0 w' B (voteR r who x).1 Z ∧ Ft (fun q => w0.heap.size ≤ q ∧ ¬ Z q) w w' := by
 obtain ⟨D, h1, h2, h3, h4⟩ := h
 exact (C.vote who x h1 hl hx).mono fun e w' ⟨e1, D', hp, hf, hd⟩ => ⟨e1, Fx.turned h2 h3 h4 hp hf hd⟩
theorem Fx.own (C : PtsP P) (h : Fx P w0 w B r Z) (hl : PtLow r) (q : Int) (d b : List UInt8) (A : Option Addr) (k c : Nat) (h64 : -9223372036854775808 ≤ q ∧ q ≤ 9223372036854775807) (hd : d.length = 32) (hb : By w (fun _ => True) A k b) (hk : k ≤ 1000000) (ha : ∀ q, plB (A, k, k) q → q < w0.heap.size ∨ Z q) :
  Calls Try.prog 8 #[(.pointer (some ⟨B, 0, none⟩)), .int .i64 q, .agg (vs d).toArray, .slice A k c] w fun e w' => e = .returned (.tuple #[]) ∧ Fx P w0 w' B (ownR r q d b) Z ∧ Ft (fun q => w0.heap.size ≤ q ∧ ¬ Z q) w w' := by
 obtain ⟨D, h1, h2, h3, h4⟩ := h
 exact (C.own q d b A k c h1 hl h64 hd hb hk (fun q hq h9 => by
  have h8 := h3 q h9
  rcases ha q hq with h7 | h7
  ·omega
  ·exact h8.2 h7)).mono fun e w' ⟨e1, D', hp, hf, hd⟩ => ⟨e1, Fx.turned h2 h3 h4 hp hf hd⟩
theorem Fx.move (C : PtsP P) (h : Fx P w0 w B r Z) (hl : PtLow r) (low : Int) : Calls Try.prog 9 #[(.pointer (some ⟨B, 0, none⟩)), .int .i64 low] w fun e w' => e = .returned (.tuple #[]) ∧ Fx P w0 w' B (moveR r low) Z ∧ Ft (fun q => w0.heap.size ≤ q ∧ ¬ Z q) w w' := by
 obtain ⟨D, h1, h2, h3, h4⟩ := h
 exact (C.move low h1 hl).mono fun e w' ⟨e1, D', hp, hf, hd⟩ => ⟨e1, Fx.turned h2 h3 h4 hp hf hd⟩
theorem Fx.stable (C : PtsP P) (h : Fx P w0 w B r Z) (hl : PtLow r) (above : Int) : Calls Try.prog 10 #[(.pointer (some ⟨B, 0, none⟩)), .int .i64 above] w fun e w' => e = .returned (.tuple #[.agg (Po.cells (stabR r above).1).toArray, .bool (stabR r above).2]) ∧ Fx P w0 w' B r Z ∧ Below w.heap.size w w' := by
 have hh := h
 obtain ⟨D, h1, h2, h3, h4⟩ := h
 exact (C.stable above h1 hl).mono fun e w' ⟨e1, hb⟩ => ⟨e1, Fx.through C hh hb, hb⟩
theorem Fx.weak (C : PtsP P) (h : Fx P w0 w B r Z) (hl : PtLow r) (above : Int) : Calls Try.prog 11 #[(.pointer (some ⟨B, 0, none⟩)), .int .i64 above] w fun e w' => e = .returned (.tuple #[.agg (Po.cells (weakR r above).1).toArray, .bool (weakR r above).2]) ∧ Fx P w0 w' B r Z ∧ Below w.heap.size w w' := by
 have hh := h
 obtain ⟨D, h1, h2, h3, h4⟩ := h
 exact (C.weak above h1 hl).mono fun e w' ⟨e1, hb⟩ => ⟨e1, Fx.through C hh hb, hb⟩
theorem Fx.supp (C : PtsP P) (h : Fx P w0 w B r Z) (hl : PtLow r) (x : Po) (hx : x.dg.length = 32) : Calls Try.prog 14 #[(.pointer (some ⟨B, 0, none⟩)), .agg (Po.cells x).toArray] w fun e w' => e = .returned (.int .i64 (supO x r.of : Int)) ∧ Fx P w0 w' B r Z ∧ Below w.heap.size w w' := by
 have hh := h
 obtain ⟨D, h1, h2, h3, h4⟩ := h
 exact (C.supp x h1 hl hx).mono fun e w' ⟨e1, hb⟩ => ⟨e1, Fx.through C hh hb, hb⟩
theorem Fx.bytes (C : PtsP P) (h : Fx P w0 w B r Z) (hl : PtLow r) (x : Po) (hx : x.dg.length = 32) : Calls Try.prog 12 #[(.pointer (some ⟨B, 0, none⟩)), .agg (Po.cells x).toArray] w fun e w' => (∃ A k c, e = .returned (.tuple #[.slice A k c, .bool (firstP x (ownL r) 0).isSome]) ∧ By w' (fun _ => True) A k (bytR r x)) ∧ Fx P w0 w' B r Z ∧ Below w.heap.size w w' := by
 have hh := h
 obtain ⟨D, h1, h2, h3, h4⟩ := h
 exact (C.bytes x h1 hl hx).mono fun e w' ⟨e1, hb⟩ => ⟨e1, Fx.through C hh hb, hb⟩
theorem Fx.told (C : PtsP P) (h : Fx P w0 w B r Z) (hl : PtLow r)  : Calls Try.prog 15 #[(.pointer (some ⟨B, 0, none⟩))] w fun e w' => (∃ A k c, e = .returned (.slice A k c) ∧ PosIn w' A k (toldR r)) ∧ Fx P w0 w' B r Z ∧ Below w.heap.size w w' := by
 have hh := h
 obtain ⟨D, h1, h2, h3, h4⟩ := h
 exact (C.told h1 hl).mono fun e w' ⟨e1, hb⟩ => ⟨e1, Fx.through C hh hb, hb⟩
theorem Fx.votes (C : PtsP P) (h : Fx P w0 w B r Z) (hl : PtLow r) (who : Nat) (hw : who < r.n) : Calls Try.prog 16 #[(.pointer (some ⟨B, 0, none⟩)), .int .i64 (who : Int)] w fun e w' => (∃ A k c, e = .returned (.slice A k c) ∧ PosIn w' A k (r.of.getD who [])) ∧ Fx P w0 w' B r Z ∧ Below w.heap.size w w' := by
 have hh := h
 obtain ⟨D, h1, h2, h3, h4⟩ := h
 exact (C.votes who h1 hl hw).mono fun e w' ⟨e1, hb⟩ => ⟨e1, Fx.through C hh hb, hb⟩
end

end Go.Proofs.Ytpolofehkckaoaa
