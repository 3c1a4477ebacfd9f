/-
  Reading a ledger: numbers with signs, what is built, what reading everything comes to. No walk here.
-/
import Derived.Test.YtkbeodlihmmdbaaLgRr
import Derived.Test.YtkbeodlihmmdbaaLgBy
import Derived.Test.YtkbeodlihmmdbaaEl2
namespace Go.Proofs.Ytkbeodlihmmdbaa
open Go.RowKit

theorem Try.alloc_lt (g : Nat) (w : World) (hg : w.heap.size = g) : (Instr.alloc 27 true (.tuple #[])).run Try.prog w = .ok (.pointer (some ⟨g, 0, none⟩)) (w.alloc (.cells #[.string (ba []), .int .i64 0, .int .i64 0, .int .i64 0, .string (ba []), .string (ba [])] 27)) := by
  subst hg
  kernel_rfl
theorem wrap_sx (v : Nat) (h : v < 18446744073709551616) : IntKind.i64.wrap (v : Int) = sx 8 v := by
  have e : ∀ V, sx 8 V = if V < 9223372036854775808 then (V : Int) else V - 18446744073709551616 := fun V => by simp [sx]
  rw [e]
  simp [IntKind.wrap, IntKind.signed, IntKind.bits]
  split <;> omega
theorem sx_small {v : Nat} (h : v < 9223372036854775808) : sx 8 v = v := by simp [sx, h]
theorem conv_i64 {P : Program} (t t' : TypeId) (ht : P.underlying t = some (.int .u64)) (ht' : P.underlying t' = some (.int .i64)) (v : Nat) (h : v < 18446744073709551616) (w : World) : (convert t t' (.int .u64 (v : Int))).run P w = .ok (.int .i64 (sx 8 v)) w := by
  simp [convert, run_underlying ht, run_underlying ht', Conv.intToInt, wrap_sx v h]
theorem conv_small {P : Program} (t t' : TypeId) (ht : P.underlying t = some (.int .u64)) (ht' : P.underlying t' = some (.int .i64)) (v : Nat) (h : v < 9223372036854775808) (w : World) : (convert t t' (.int .u64 (v : Int))).run P w = .ok (.int .i64 (v : Int)) w := by
  rw [conv_i64 t t' ht ht' v (by omega), sx_small h]
theorem Try.build_rd (A : Option Addr) (n c : Nat) (w : World) : (Instr.build 87 #[(0, .slice A n c)]).run Try.prog w = .ok (.agg #[.slice A n c, .int .i64 0]) w := by kernel_rfl
theorem Try.build_lg2 (i j : Int) (w : World) : (Instr.build 25 #[(0, .int .i64 i), (1, .int .i64 j)]).run Try.prog w = .ok (.agg #[.int .i64 i, .int .i64 j, .slice none 0 0, .slice none 0 0]) w := by kernel_rfl
theorem Try.build_l6 (a b d : ByteArray) (i j k : Int) (w : World) : (Instr.build 27 #[(0, .string a), (1, .int .i64 i), (2, .int .i64 j), (3, .int .i64 k), (4, .string b), (5, .string d)]).run Try.prog w = .ok (.agg #[.string a, .int .i64 i, .int .i64 j, .int .i64 k, .string b, .string d]) w := by kernel_rfl
theorem Try.build_o3 (i j k : Int) (w : World) : (Instr.build 30 #[(0, .int .i64 i), (1, .int .i64 j), (2, .int .i64 k)]).run Try.prog w = .ok (.agg #[.int .i64 i, .int .i64 j, .int .i64 k]) w := by kernel_rfl
theorem only_new {a b c : World} {g h : Nat} (hab : a.grownBy b (some g)) (hbc : b.grownBy c (some h)) (hh : a.heap.size ≤ h) : a.grownBy c (some g) :=
  ⟨hbc.os.trans hab.os, hbc.tape.trans hab.tape, hbc.output.trans hab.output, Nat.le_trans hab.size hbc.size, fun i hi hne => (hbc.block i (Nat.lt_of_lt_of_le hi hab.size) (fun e => by have := Option.some.inj e; omega)).trans (hab.block i hi hne)⟩
/-- A block of cells that are no bytes is turned. -/
theorem By.far {w w' : World} {A : Option Addr} {n g : Nat} {xs : List UInt8} {t : TypeId} {cs : List Value} (h : By w (fun _ => True) A n xs) (hg : w.grownBy w' (some g)) (hb : Blk w g t cs) (hc : ∀ v ∈ cs, ∀ u : UInt8, v ≠ u8 u) : By w' (fun _ => True) A n xs :=
  ⟨h.1, fun hn => by
    obtain ⟨b, o, e, _, hc1⟩ := h.2 hn
    refine ⟨b, o, e, trivial, fun j u hu => hg.cell (hc1 j u hu) (fun e2 => ?_)⟩
    have e3 : b = g := Option.some.inj e2
    subst e3
    have h2 := hc1 j u hu
    rw [hb.cell] at h2
    exact hc _ (List.mem_of_getElem? h2) u rfl⟩
theorem no_u8 (a b d : ByteArray) (i j k : Int) : ∀ v ∈ ([.string a, .int .i64 i, .int .i64 j, .int .i64 k, .string b, .string d] : List Value), ∀ u : UInt8, v ≠ u8 u := by
  intro v hv u
  simp at hv
  rcases hv with rfl | rfl | rfl | rfl | rfl | rfl <;> simp [u8]
theorem tval_le (k : Nat) (st : Option (List UInt8)) : (tval k st).length ≤ k := by
  cases st with
  | none => simp [tval]
  | some xs => rw [tval_some]; split <;> simp; omega
theorem rval_le (most : Nat) (st : Option (List UInt8)) : (rval most st).length ≤ most := by
  unfold rval
  split
  · exact Nat.le_trans (tval_le _ _) (by assumption)
  · simp
theorem rdMany_mem {α : Type} {rd : Option (List UInt8) → α × Option (List UInt8)} {p : α → Prop} (h : ∀ st, p (rd st).1) : ∀ (n : Nat) (st : Option (List UInt8)), ∀ x ∈ (rdMany rd n st).1, p x
  | 0, _, x, hx => by cases hx
  | n + 1, none, x, hx => by rw [rdMany_none] at hx; cases hx
  | n + 1, some xs, x, hx => by
    rw [rdMany_some] at hx
    rcases List.mem_cons.1 hx with rfl | hx
    · exact h _
    · exact rdMany_mem h n _ x hx
theorem rdMany_step {α : Type} (rd : Option (List UInt8) → α × Option (List UInt8)) (k : Nat) (xs : List UInt8) (pre : List α) : (pre ++ (rdMany rd (k + 1) (some xs)).1, (rdMany rd (k + 1) (some xs)).2) = ((pre ++ [(rd (some xs)).1]) ++ (rdMany rd k (rd (some xs)).2).1, (rdMany rd k (rd (some xs)).2).2) := by
  rw [rdMany_some]
  simp

/-- which ledger bytes tell, and whether they tell one -/
def parseB (xs : List UInt8) : Lg × Bool := match parseLg xs with | some l => (l, true) | none => (Lg.no, false)
def LgOutB (w : World) (l : Lg) (b : Bool) (e : Ending) (w' : World) : Prop := ∃ A n c B m d, e = .returned (.tuple #[l.val A n c B m d, .bool b]) ∧ LgIn w' A n B m l ∧ Below w.heap.size w w'

theorem Try.agg_so (w : World) : (isAgg 23).run Try.prog w = .ok false w := by kernel_rfl
theorem cval_le (most : Nat) (st : Option (List UInt8)) : cval most st ≤ most := by
  unfold cval
  split <;> omega
theorem parseB_yes {xs : List UInt8} {l : Lg} (h : rdLg xs = (l, some [])) (hr : l.right = true) : parseB xs = (l, true) := by
  unfold parseB parseLg
  rw [h]
  simp [hr]
theorem parseB_no {xs : List UInt8} {l : Lg} {st : Option (List UInt8)} (h : rdLg xs = (l, st)) (hn : st ≠ some [] ∨ l.right = false) : parseB xs = (Lg.no, false) := by
  unfold parseB parseLg
  rw [h]
  have h2 : ¬ (st = some [] ∧ l.right = true) := fun ⟨a, b⟩ => by
    rcases hn with hn | hn
    · exact hn a
    · rw [b] at hn; cases hn
  rw [if_neg h2]


end Go.Proofs.Ytkbeodlihmmdbaa
