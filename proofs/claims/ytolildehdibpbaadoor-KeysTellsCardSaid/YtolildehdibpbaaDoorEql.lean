/-
  '==' of arrays of bytes, by value.
-/
import Derived.Test.YtolildehdibpbaaDoorRowW
import Derived.ChangeKeysEq
import Derived.Laws.StructEq
namespace Go.Proofs.YtolildehdibpbaaDoor
open Go.RowKit

theorem run_eqItems_bytes {P : Program} (d : Nat) (e : TypeId) (w : World) (he : P.underlying e = some (.int .u8)) (xs ys : List UInt8) :
    ∀ (m k : Nat), k + m = xs.length → xs.length = ys.length → (Op.eqItems (d + 1) e 1 (vs xs).toArray (vs ys).toArray (List.range' k m)).run P w = .ok (xs.drop k == ys.drop k) w
  | 0, k, h, hl => by
    rw [List.drop_eq_nil_of_le (by omega), List.drop_eq_nil_of_le (by omega)]
    rfl
  | m + 1, k, h, hl => by
    have hk : k < xs.length := by omega
    have hk2 : k < ys.length := by omega
    have hag : (isAgg e).run P w = .ok false w := by simp [isAgg, Sem.run_bind, run_underlying he]
    have hp : ∀ zs : List UInt8, (hz : k < zs.length) → (part e (vs zs).toArray (k * 1)).run P w = .ok (u8 zs[k]) w := fun zs hz => by
      have hv : (vs zs)[k]? = some (u8 zs[k]) := by rw [vs_get, List.getElem?_eq_getElem hz]; rfl
      simp [part, Sem.run_bind, hag, hv]
    have ih := run_eqItems_bytes d e w he xs ys m (k + 1) (by omega) hl
    rw [List.range'_succ]
    simp only [Op.eqItems, Sem.run_bind, hp xs hk, hp ys hk2, Result.andThen_ok]
    unfold u8
    rw [run_equalIn_int w d e .u8 .u8 _ _ he, List.drop_eq_getElem_cons hk, List.drop_eq_getElem_cons hk2]
    simp only [Result.andThen_ok, List.cons_beq_cons]
    by_cases hx : xs[k] = ys[k]
    · simp [hx, ih]
    · have hne : ((xs[k].toNat : Int) == (ys[k].toNat : Int)) = false := by
        simp only [beq_eq_false_iff_ne, ne_eq]
        intro h
        exact hx (UInt8.toNat_inj.1 (by omega))
      simp [hne, hx]

/-- WHETHER TWO ARRAYS OF BYTES ARE THE SAME. -/
theorem run_eql_bytes {P : Program} (w : World) (t e : TypeId) (n : Nat) (ht : P.underlying t = some (.array n e)) (he : P.underlying e = some (.int .u8)) (hs : (P.info? e).isSome = true) (hc : P.cellsOf e = 1) (xs ys : List UInt8) (hx : xs.length = n) (hy : ys.length = n) :
    (binOp .eql t (.agg (vs xs).toArray) (.agg (vs ys).toArray)).run P w = .ok (.bool (xs == ys)) w := by
  obtain ⟨i, hi⟩ := Option.isSome_iff_exists.1 hs
  rw [run_eql_struct, show (10000 : Nat) = 9998 + 1 + 1 from rfl, run_equalIn_array w (9998 + 1) _ _ ht hi, hc, List.range_eq_range', run_eqItems_bytes 9998 e w he xs ys n 0 (by omega) (by omega)]
  rfl

end Go.Proofs.YtolildehdibpbaaDoor
