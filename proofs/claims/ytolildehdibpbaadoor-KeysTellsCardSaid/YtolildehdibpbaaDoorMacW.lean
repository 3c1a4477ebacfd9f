/-
  HMAC-SHA256 AS A PLAIN FUNCTION; words for bytes in a block. No walk here.
-/
import Derived.Test.YtolildehdibpbaaDoorHashW
import Derived.Laws.BitsAllLaws
import Derived.IntWalk
namespace Go.Proofs.YtolildehdibpbaaDoor
open Go.RowKit

/-- what a key is, if it is longer than a block -/
def short (k : List UInt8) : List UInt8 := if 64 < k.length then sha k else k
/-- a key, as long as a block -/
def key64 (k : List UInt8) : List UInt8 := short k ++ List.replicate (64 - (short k).length) 0
def mask (b : List UInt8) (m : UInt8) : List UInt8 := b.map (· ^^^ m)
/-- THE TAG. -/
def hmac (key text : List UInt8) : List UInt8 := sha (mask (key64 key) 92 ++ sha (mask (key64 key) 54 ++ text))
theorem short_le (k : List UInt8) : (short k).length ≤ 64 := by
  unfold short
  split
  · rw [sha_length]; omega
  · omega
theorem key64_length (k : List UInt8) : (key64 k).length = 64 := by
  have := short_le k
  simp [key64]
  omega
theorem mask_length (b : List UInt8) (m : UInt8) : (mask b m).length = b.length := by simp [mask]
theorem hmac_length (key text : List UInt8) : (hmac key text).length = 32 := sha_length _
theorem mask_at (b : List UInt8) (m : UInt8) (i : Nat) (x : UInt8) (h : b[i]? = some x) : (mask b m)[i]? = some (x ^^^ m) := by simp [mask, h]

/-- two bytes, xor -/
theorem u8_xor_toNat (x y : UInt8) : bits .xor .u8 (x.toNat : Int) (y.toNat : Int) = ((x ^^^ y).toNat : Int) := by
  rw [u8_xor_nat _ _ x.toNat_lt y.toNat_lt, UInt8.toNat_xor]

/-- A block that holds bytes reads as them. -/
theorem By.of_blk {w : World} {g : Nat} {t : TypeId} {xs : List UInt8} (h : Blk w g t (vs xs)) {Q : Nat → Prop} (hQ : Q g) : By w Q (some ⟨g, 0, none⟩) xs.length xs :=
  ⟨rfl, fun _ => ⟨g, 0, rfl, hQ, fun j u hu => by
    rw [Nat.zero_add, h.cell, vs_get, hu]
    rfl⟩⟩
theorem By.of_blk_n {w : World} {g n : Nat} {t : TypeId} {xs : List UInt8} (h : Blk w g t (vs xs)) (hn : xs.length = n) {Q : Nat → Prop} (hQ : Q g) : By w Q (some ⟨g, 0, none⟩) n xs := by
  subst hn
  exact By.of_blk h hQ
/-- what copy takes from it -/
theorem By.srcAll {w : World} {Q : Nat → Prop} {A : Option Addr} {n : Nat} {xs : List UInt8} (h : By w Q A n xs) (hpos : 0 < (vs xs).length) : ∃ ad, A = some ad ∧ ∀ j v, (vs xs)[j]? = some v → w.cell? (ad.add j) = some v := by
  rw [vs_length, h.1] at hpos
  obtain ⟨g, o, e, _, hc⟩ := h.2 hpos
  refine ⟨_, e, fun j v hv => ?_⟩
  rw [vs_get] at hv
  obtain ⟨x, hx, rfl⟩ := Option.map_eq_some_iff.1 hv
  have ea : (⟨g, o, none⟩ : Addr).add j = ⟨g, o + j, none⟩ := by unfold Addr.add; split <;> simp_all
  rw [ea]
  exact hc j x hx
def zero64 : List UInt8 := List.replicate 64 0
theorem splice_key (k : List UInt8) : splice (vs zero64) 0 (vs k) = vs (k ++ List.replicate (64 - k.length) 0) := by
  unfold splice zero64
  simp [vs, -List.reduceReplicate]

theorem i64_or_nat (a b : Nat) (ha : a < 9223372036854775808) (hb : b < 9223372036854775808) : bits .or .i64 (a : Int) (b : Int) = ((a ||| b : Nat) : Int) := by
  have hx : a ||| b < 2 ^ 63 := Nat.or_lt_two_pow (by omega) (by omega)
  show IntKind.i64.wrap ((BitVec.ofInt 64 (a : Int) ||| BitVec.ofInt 64 (b : Int)).toNat : Int) = _
  rw [BitVec.toNat_or, ofInt_u64 a (by omega), ofInt_u64 b (by omega)]
  exact IntWalk.i64_in _ (by omega)
theorem i64_xor_nat (a b : Nat) (ha : a < 9223372036854775808) (hb : b < 9223372036854775808) : bits .xor .i64 (a : Int) (b : Int) = ((a ^^^ b : Nat) : Int) := by
  have hx : a ^^^ b < 2 ^ 63 := Nat.xor_lt_two_pow (by omega) (by omega)
  show IntKind.i64.wrap ((BitVec.ofInt 64 (a : Int) ^^^ BitVec.ofInt 64 (b : Int)).toNat : Int) = _
  rw [BitVec.toNat_xor, ofInt_u64 a (by omega), ofInt_u64 b (by omega)]
  exact IntWalk.i64_in _ (by omega)

/-- A store of a whole row, the world behind it a letter, at a step of a region that draws. -/
theorem step_store_blk {P : Program} {ops : Array Oper} {o : Oper} {a : Act} {w : World} {K : Act → World → Prop} {Q : Exit → Act → World → Prop} {E : Prop} (hgd : o.guard = none) (ty : TypeId) (x y : Operand) (ho : o.op = .store ty x y)
    (g : Nat) (cells : List Value) (hx : a.eval x = .pointer (some ⟨g, 0, none⟩)) (hy : a.eval y = .agg cells.toArray) (t : TypeId) (old : List Value) (hg : Blk w g t old) (hi : (P.info? ty).map (·.size) = some cells.length)
    (hold : old.length = cells.length) (h1 : cells.toArray.all (·.oneCell') = true)
    (h : ∀ w', Blk w' g t cells → w.grownBy w' (some g) → K (a.put o.dst undef) w') : if Region.wanted o (yielded ops a.tmps) = true then Oper.wp P o a w K Q else E := by
  have hw : Region.wanted o (yielded ops a.tmps) = true := by simp [Region.wanted, hgd]
  rw [if_pos hw]
  exact wp_store_row ty x y ho g cells.toArray hx hy t old.toArray hg (by simpa using hi) (by simpa using hold) h1 (h _ (hg.row cells) (only_row w g _))

/-- one byte, in a block of its own -/
theorem By.one8 {w : World} {Q : Nat → Prop} {b : UInt8} (t : TypeId) (hQ : Q w.heap.size) : By (w.alloc (.cells #[.int .u8 (b.toNat : Int)] t)) Q (some ⟨w.heap.size, 0, none⟩) 1 [b] := by
  refine ⟨rfl, fun _ => ⟨_, _, rfl, hQ, fun j u hu => ?_⟩⟩
  match j, hu with
  | 0, hu =>
    simp at hu
    subst hu
    rw [cell_of_row _ w.heap.size _ _ _ _ (heap_alloc_new w _)]
    rfl

/-- A load of a whole row, guarded. -/
theorem wpList_load_blk_g {P : Program} {ops : Array Oper} {rest : List Oper} {o : Oper} {a : Act} {w : World} {Q : Exit → Act → World → Prop} (ty : TypeId) (x : Operand) (ho : o.op = .load ty x) (hw : Region.wanted o (yielded ops a.tmps) = true)
    (g : Nat) (hx : a.eval x = .pointer (some ⟨g, 0, none⟩)) (t : TypeId) (cells : List Value) (d : TypeDesc) (hg : Blk w g t cells)
    (hu : P.underlying ty = some d) (hd : (match d with | .struct _ | .array _ _ => true | _ => false) = true) (hi : (P.info? ty).map (·.size) = some cells.length)
    (h : wpList P ops Q rest (a.put o.dst (.agg cells.toArray)) w) : wpList P ops Q (o :: rest) a w := by
  rw [wpList, if_pos hw]
  exact .inl (wp_load_row ty x ho g hx t cells.toArray (0, 0) d hg hu hd (by simpa using hi) h)

/-- A conversion, taken first in a region that draws. -/
theorem yields_conv {P : Program} {ops : Array Oper} {S : World → Prop} {op : Oper} {a : Act} (hw : Region.wanted op (yielded ops a.tmps) = true) (src dst : TypeId) (x : Operand) (ho : op.op = .convert src dst x)
    (p : Value) (hx : a.eval x = p) (v : Value) (hS : ∀ w, S w → (convert src dst p).run P w = .ok v w) : YieldsIf P ops S op v a :=
  .inl ⟨hw, fun w hw' => by
    unfold execOp
    simp only [ho, hx, Sem.run_bind, hS w hw', Result.andThen_ok]
    rfl⟩

end Go.Proofs.YtolildehdibpbaaDoor
