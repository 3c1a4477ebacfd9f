/-
  The document's ParseCore, walked.
-/
import Derived.Test.YtpngcdafamkhcaaRqC
import Derived.Test.YtpngcdafamkhcaaCoR
import Derived.Test.YtpngcdafamkhcaaEl2
import Derived.Deep.CutRange
namespace Go.Proofs.Ytpngcdafamkhcaa
open Go.RowKit

theorem wrap_sx (v : Nat) (h : v < 18446744073709551616) : IntKind.i64.wrap (v : Int) = sx 8 v := by
  have e : ∀ V, sx 8 V = if V < 9223372036854775808 then (V : Int) else V - 18446744073709551616 := fun V => by simp [sx]
  rw [e]
  simp [IntKind.wrap, IntKind.signed, IntKind.bits]
  split <;> omega
theorem sx_small {v : Nat} (h : v < 9223372036854775808) : sx 8 v = v := by simp [sx, h]
theorem conv_i64 {P : Program} (t t' : TypeId) (ht : P.underlying t = some (.int .u64)) (ht' : P.underlying t' = some (.int .i64)) (v : Nat) (h : v < 18446744073709551616) (w : World) : (convert t t' (.int .u64 (v : Int))).run P w = .ok (.int .i64 (sx 8 v)) w := by
  simp [convert, run_underlying ht, run_underlying ht', Conv.intToInt, wrap_sx v h]
theorem conv_small {P : Program} (t t' : TypeId) (ht : P.underlying t = some (.int .u64)) (ht' : P.underlying t' = some (.int .i64)) (v : Nat) (h : v < 9223372036854775808) (w : World) : (convert t t' (.int .u64 (v : Int))).run P w = .ok (.int .i64 (v : Int)) w := by
  rw [conv_i64 t t' ht ht' v (by omega), sx_small h]

theorem only_new {a b c : World} {g h : Nat} (hab : a.grownBy b (some g)) (hbc : b.grownBy c (some h)) (hh : a.heap.size ≤ h) : a.grownBy c (some g) :=
  ⟨hbc.os.trans hab.os, hbc.tape.trans hab.tape, hbc.output.trans hab.output, Nat.le_trans hab.size hbc.size, fun i hi hne => (hbc.block i (Nat.lt_of_lt_of_le hi hab.size) (fun e => by have := Option.some.inj e; omega)).trans (hab.block i hi hne)⟩
/-- A block of cells that are no bytes is turned. -/
theorem By.far {w w' : World} {A : Option Addr} {n g : Nat} {xs : List UInt8} {t : TypeId} {cs : List Value} (h : By w (fun _ => True) A n xs) (hg : w.grownBy w' (some g)) (hb : Blk w g t cs) (hc : ∀ v ∈ cs, ∀ u : UInt8, v ≠ u8 u) : By w' (fun _ => True) A n xs :=
  ⟨h.1, fun hn => by
    obtain ⟨b, o, e, _, hc1⟩ := h.2 hn
    refine ⟨b, o, e, trivial, fun j u hu => hg.cell (hc1 j u hu) (fun e2 => ?_)⟩
    have e3 : b = g := Option.some.inj e2
    subst e3
    have h2 := hc1 j u hu
    rw [hb.cell] at h2
    exact hc _ (List.mem_of_getElem? h2) u rfl⟩

theorem results_cell_row_tmp1 {P : Program} {fn : Func} {p u : Tmp} {ty : TypeId} (h : fn.results = #[.cell p ty, .tmp u]) (tmps : Array Value) (w : World) (g : Nat) (t : TypeId) (cs : Array Value) (fr : Nat × Nat) (d : TypeDesc)
    (hp : tmps.getD p undef = .pointer (some ⟨g, 0, none⟩)) (hg : w.heap[g]? = some (.cells cs t fr))
    (hu : P.underlying ty = some d) (hd : (match d with | .struct _ | .array _ _ => true | _ => false) = true) (hi : (P.info? ty).map (·.size) = some cs.size) :
    (results fn tmps).run P w = .ok (.tuple #[.agg cs, tmps.getD u undef]) w := by
  have hp' : tmps[p]?.getD undef = .pointer (some ⟨g, 0, none⟩) := by simpa using hp
  simp [results, h, hp', asAddr, run_loadVar_row w g t ty cs fr d hg hu hd hi]
def stL : Option (List UInt8) → Nat
  | some r => r.length
  | none => 0
theorem nnext_stL (k : Nat) (st : Option (List UInt8)) : stL (nnext k st) ≤ stL st := by
  cases st with
  | none => exact Nat.le_refl _
  | some xs => rw [nnext_some]; split <;> simp [stL]
theorem tval_stL (k : Nat) (st : Option (List UInt8)) : (tval k st).length ≤ stL st := by
  cases st with
  | none => simp [tval_none]
  | some xs => rw [tval_some]; split <;> simp [stL]; omega
theorem rval_stL (m : Nat) (st : Option (List UInt8)) : (rval m st).length ≤ stL st := by
  unfold rval
  split
  · exact Nat.le_trans (tval_stL _ _) (nnext_stL _ _)
  · simp
theorem Try.alloc_cr (g : Nat) (w : World) (hg : w.heap.size = g) : (Instr.alloc 27 true (.tuple #[])).run Try.prog w = .ok (.pointer (some ⟨g, 0, none⟩)) (w.alloc (.cells #[.int .i64 0, .int .i64 0, .int .i64 0, .string (ba []), .int .i64 0, .int .i64 0, .string (ba [])] 27)) := by
  subst hg
  kernel_rfl
theorem Try.zero_cr (w : World) : (zeroValue 27).run Try.prog w = .ok (.agg #[.int .i64 0, .int .i64 0, .int .i64 0, .string (ba []), .int .i64 0, .int .i64 0, .string (ba [])]) w := by kernel_rfl
theorem Try.build_cr (w : World) : (Instr.build 27 #[]).run Try.prog w = .ok (.agg #[.int .i64 0, .int .i64 0, .int .i64 0, .string (ba []), .int .i64 0, .int .i64 0, .string (ba [])]) w := by kernel_rfl
theorem Try.build_rdr (A : Option Addr) (n c : Nat) (w : World) : (Instr.build 67 #[(0, .slice A n c)]).run Try.prog w = .ok (.agg #[.slice A n c, .int .i64 0]) w := by kernel_rfl
theorem Try.build_c7 (a b : ByteArray) (i j k p q : Int) (w : World) : (Instr.build 27 #[(0, .int .i64 i), (1, .int .i64 j), (2, .int .i64 k), (3, .string a), (4, .int .i64 p), (5, .int .i64 q), (6, .string b)]).run Try.prog w = .ok (.agg #[.int .i64 i, .int .i64 j, .int .i64 k, .string a, .int .i64 p, .int .i64 q, .string b]) w := by kernel_rfl
theorem no_u8c (a b : ByteArray) (i j k p q : Int) : ∀ v ∈ ([.int .i64 i, .int .i64 j, .int .i64 k, .string a, .int .i64 p, .int .i64 q, .string b] : List Value), ∀ u : UInt8, v ≠ u8 u := by
  intro v hv u
  simp at hv
  rcases hv with rfl | rfl | rfl | rfl | rfl | rfl | rfl <;> simp [u8]
theorem one7 (a b : ByteArray) (i j k p q : Int) : ([.int .i64 i, .int .i64 j, .int .i64 k, .string a, .int .i64 p, .int .i64 q, .string b] : List Value).toArray.all (·.oneCell') = true := by simp [Value.oneCell']

end Go.Proofs.Ytpngcdafamkhcaa
