/-
  Joined: SlL0.
-/
import Derived.Test.YtkpgjcahmpekbaaTU22
namespace Go.Proofs.Ytkpgjcahmpekbaa
open Go.RowKit

/-- how much a slot holds, at most -/
structure SlLow (s : Slt) : Prop where
 n1 : 1 ≤ s.n
 n7 : s.n ≤ 7
 pr : s.pr.length ≤ 1000
 cm : s.cm.length ≤ 1000
 es : s.es.length ≤ 1000
theorem SlLow.no {n : Int} (h1 : 1 ≤ n) (h7 : n ≤ 7) : SlLow (Slt.no n) := ⟨h1, h7, Nat.zero_le _, Nat.zero_le _, Nat.zero_le _⟩
/-- T w v D s: v is a slot that holds s, and of memory it has the blocks of D -/
structure SlotV (T : World → Value → (Nat → Prop) → Slt → Prop) : Prop where
 lt : ∀ {w : World} {v : Value} {D : Nat → Prop} {s : Slt}, T w v D s → ∀ q, D q → q < w.heap.size
 keep : ∀ {w w' : World} {v : Value} {D : Nat → Prop} {s : Slt}, T w v D s → w.heap.size ≤ w'.heap.size → (∀ q, D q → w'.heap[q]? = w.heap[q]?) → T w' v D s
 new : ∀ (n : Int) (w : World), 1 ≤ n → n ≤ 7 → Calls Try.prog 37 #[.int .i64 n] w fun e w' => ∃ v D, e = .returned v ∧ T w' v D (Slt.no n) ∧ Below w.heap.size w w' ∧ ∀ q, D q → w.heap.size ≤ q
 none_ : ∀ (n : Int) (w : World), n < 1 ∨ 7 < n → Calls Try.prog 37 #[.int .i64 n] w fun e w' => e = .returned (.pointer none) ∧ Below w.heap.size w w'
 propose : ∀ {w : World} {v : Value} {D : Nat → Prop} {s : Slt} (d : List UInt8) (es : List Ey) (E : Option Addr) (k c : Nat), T w v D s → SlLow s → d.length = 32 → EysIn w E k es → k ≤ 1000 → Calls Try.prog 40 #[v, .agg (vs d).toArray, .slice E k c] w fun e w' => e = .returned (.int .i64 (propS s d es).2) ∧ ∃ D', T w' v D' (propS s d es).1 ∧ Ft D w w' ∧ ∀ q, D' q → D q ∨ w.heap.size ≤ q
 prepare : ∀ {w : World} {v : Value} {D : Nat → Prop} {s : Slt} (who : Int) (d : List UInt8), T w v D s → SlLow s → d.length = 32 → Calls Try.prog 41 #[v, .int .i64 who, .agg (vs d).toArray] w fun e w' => e = .returned (.int .i64 (prepS s who d).2) ∧ ∃ D', T w' v D' (prepS s who d).1 ∧ Ft D w w' ∧ ∀ q, D' q → D q ∨ w.heap.size ≤ q
 commit : ∀ {w : World} {v : Value} {D : Nat → Prop} {s : Slt} (who : Int) (d : List UInt8), T w v D s → SlLow s → d.length = 32 → Calls Try.prog 42 #[v, .int .i64 who, .agg (vs d).toArray] w fun e w' => e = .returned (.int .i64 (commS s who d).2) ∧ ∃ D', T w' v D' (commS s who d).1 ∧ Ft D w w' ∧ ∀ q, D' q → D q ∨ w.heap.size ≤ q
 prepared : ∀ {w : World} {v : Value} {D : Nat → Prop} {s : Slt} (p : Int), T w v D s → SlLow s → Calls Try.prog 43 #[v, .int .i64 p] w fun e w' => e = .returned (.bool (prepB s p)) ∧ Below w.heap.size w w'
 committed : ∀ {w : World} {v : Value} {D : Nat → Prop} {s : Slt}, T w v D s → SlLow s → Calls Try.prog 44 #[v] w fun e w' => e = .returned (.bool (commB s)) ∧ Below w.heap.size w w'
 votes : ∀ {w : World} {v : Value} {D : Nat → Prop} {s : Slt}, T w v D s → SlLow s → Calls Try.prog 39 #[v] w fun e w' => e = .returned (.tuple #[.int .i64 (s.pr.length : Int), .int .i64 (s.cm.length : Int)]) ∧ Below w.heap.size w w'
 proposal : ∀ {w : World} {v : Value} {D : Nat → Prop} {s : Slt}, T w v D s → SlLow s → Calls Try.prog 38 #[v] w fun e w' => ∃ d E k c, e = .returned (.tuple #[.agg (vs d).toArray, .slice E k c, .bool s.has]) ∧ d.length = 32 ∧ (s.has = true → d = s.dg ∧ EysIn w' E k s.es) ∧ Below w.heap.size w w'
section
variable {T : World → Value → (Nat → Prop) → Slt → Prop} {w w' : World} {v : Value} {D : Nat → Prop} {s : Slt}
theorem SlotV.through (V : SlotV T) (h : T w v D s) (hb : Below w.heap.size w w') : T w' v D s := V.keep h hb.size (fun q hq => hb.block q (V.lt h q hq))
theorem SlotV.ft {D' : Nat → Prop} (V : SlotV T) (h : T w v D s) (hb : Ft D' w w') (ha : ∀ q, D q → ¬ D' q) : T w' v D s := V.keep h hb.size (fun q hq => hb.block q (V.lt h q hq) (ha q hq))
end
end Go.Proofs.Ytkpgjcahmpekbaa
