/-
  The program's mayEndorse and readEnds, walked.
-/
import Derived.Test.YtgbobemhogeeeaaRqT
import Derived.Test.YtgbobemhogeeeaaRqR
namespace Go.Proofs.Ytgbobemhogeeeaa
open Go.RowKit

/-- do they rise, above this one and below n? -/
def risE (n : Int) : Int → List En → Bool
  | _, [] => true
  | last, e :: es => !decide (e.og ≤ last) && !decide (n ≤ e.og) && risE n e.og es
theorem risE_some (n : Int) : ∀ (last : Int) (es : List En), 0 ≤ last → (∀ e ∈ es, (e.ts.length : Int) = n) → risE n last es = esOk n (some last) es
  | _, [], _, _ => rfl
  | last, e :: es, h0, hl => by
    have h1 := hl e (List.mem_cons_self ..)
    unfold risE esOk
    by_cases ha : e.og ≤ last
    · have d1 : decide (last < e.og) = false := by simpa using ha
      simp [ha, d1]
    by_cases hb : n ≤ e.og
    · simp [ha, hb, show ¬ e.og < n by omega]
    rw [risE_some n e.og es (by omega) fun x hx => hl x (List.mem_cons_of_mem _ hx)]
    simp [ha, hb, h1, show e.og < n by omega, show last < e.og by omega, show 0 ≤ e.og by omega]
theorem risE_none (n : Int) (es : List En) (h0 : ∀ e ∈ es, 0 ≤ e.og) (hl : ∀ e ∈ es, (e.ts.length : Int) = n) : risE n (-1) es = esOk n none es := by
  cases es with
  | nil => rfl
  | cons e es =>
    have h1 := hl e (List.mem_cons_self ..)
    have h2 := h0 e (List.mem_cons_self ..)
    unfold risE esOk
    by_cases hb : n ≤ e.og
    · simp [hb, show ¬ e.og < n by omega]
    rw [risE_some n e.og es h2 fun x hx => hl x (List.mem_cons_of_mem _ hx)]
    simp [hb, h1, h2, show e.og < n by omega, show ¬ e.og ≤ -1 by omega]

/-- behind a call that turned block g an own block is turned -/
theorem only_own_ {a b c : World} {g : Nat} {row : Option Nat} (hab : a.grownBy b (some g)) (hbc : b.grownBy c row) (hh : ∀ h, row = some h → a.heap.size ≤ h) : a.grownBy c (some g) :=
  ⟨hbc.os.trans hab.os, hbc.tape.trans hab.tape, hbc.output.trans hab.output, Nat.le_trans hab.size hbc.size, fun i hi hne => (hbc.block i (Nat.lt_of_lt_of_le hi hab.size) (fun e => by have := hh i e.symm; omega)).trans (hab.block i hi hne)⟩
theorem cval_le_ (most : Nat) (st : Option (List UInt8)) : cval most st ≤ most := by unfold cval; split <;> omega
theorem Try.build_en (i : Int) (A : Option Addr) (n c : Nat) (w : World) : (Instr.build 34 #[(0, .int .i64 i), (1, .slice A n c)]).run Try.prog w = .ok (.agg #[.int .i64 i, .slice A n c]) w := by kernel_rfl

end Go.Proofs.Ytgbobemhogeeeaa
