/-
  The document's block: words, no walk.
-/
import Derived.Test.YtolildehdibpbaaDoorRNumB
import Derived.Test.YtolildehdibpbaaDoorRTurn
import Derived.Test.YtolildehdibpbaaDoorWd
namespace Go.Proofs.YtolildehdibpbaaDoor
open Go.RowKit

theorem shl_or (v : Nat) (x : UInt8) (hv : v < 16777216) : (UInt32.ofNat v <<< 8) ||| x.toUInt32 = UInt32.ofNat (v * 256 + x.toNat) := by
  have hx := x.toNat_lt
  apply UInt32.toNat_inj.1
  rw [UInt32.toNat_or, UInt32.toNat_shiftLeft, UInt32.toNat_ofNat_of_lt' (by simp [UInt32.size]; omega), UInt32.toNat_ofNat_of_lt' (by simp [UInt32.size]; omega)]
  have e : v <<< ((8 : UInt32).toNat % 32) % 2 ^ 32 = v * 256 := by
    show v <<< 8 % 2 ^ 32 = v * 256
    rw [Nat.shiftLeft_eq]
    omega
  rw [e]
  have e2 : x.toUInt32.toNat = x.toNat := by simp
  rw [e2, nat_join 8 (v * 256) x.toNat (by omega) (by omega)]
theorem beW_beN (l : List UInt8) (j : Nat) (hj : j ≤ 4) : beW (l.take j) = UInt32.ofNat (beN (l.take j)) := by
  induction j with
  | zero => simp [beW, beN]
  | succ j ih =>
    rcases Nat.lt_or_ge j l.length with h | h
    · have hs := beN_small l j 3 (by omega)
      rw [List.take_succ_eq_append_getElem h]
      have e1 : beW (l.take j ++ [l[j]]) = (beW (l.take j) <<< 8) ||| l[j].toUInt32 := by unfold beW; rw [List.foldl_append]; rfl
      rw [e1, ih (by omega), beN_snoc, shl_or _ _ (by simpa using hs)]
    · have := ih (by omega)
      rw [List.take_of_length_le (by omega)] at this ⊢
      exact this
theorem word_n32 (l : List UInt8) : ((beN (l.take 4) : Nat) : Int) = n32 (beW (l.take 4)) := by
  have hs := beN_small l 4 4 (by omega)
  rw [beW_beN l 4 (by omega), n32_ofNat _ (by simpa using hs)]
theorem n32_mod (x : UInt32) : n32 x % 4294967296 = n32 x := by
  have h0 := n32_lo x
  have h1 := n32_hi x
  omega

/-- 'b[l:h]', whatever the capacity. -/
theorem run_cut2 {P : Program} (w : World) (t e : TypeId) (A : Option Addr) (n c : Nat) (k1 k2 : IntKind) (l h : Int) (ht : P.underlying t = some (.slice e)) (hs : (P.info? e).map (·.size) = some 1) (h0 : 0 ≤ l) (h1 : l ≤ h) (h2 : h ≤ c) :
    (Instr.slice t (.slice A n c) (some (.int k1 l)) (some (.int k2 h)) none).run P w = .ok (.slice (cutA A c l.toNat) (h.toNat - l.toNat) (c - l.toNat)) w := by
  have eh : (h.toNat : Int) = h := Int.toNat_of_nonneg (by omega)
  cases hq : P.info? e with
  | none => simp [hq] at hs
  | some info =>
    have hi : info.size = 1 := by simpa [hq] using hs
    simp [Instr.slice, Sem.run_bind, run_underlying ht, Instr.sliceBounds, run_sliceBound, sizeOf, typeInfo, hq, hi, h0, h1, h2, eh, (by omega : 0 ≤ h), cutA]
theorem By.bk {w w' : World} {A : Option Addr} {n : Nat} {xs : List UInt8} (h : By w (Bk w) A n xs) (hb : Below w.heap.size w w') : By w' (Bk w') A n xs :=
  h.keepBk (w' := w') (row := none) ⟨hb.os, hb.tape, hb.output, hb.size, fun k hk _ => hb.block k hk⟩ (fun k h => by cases h)
/-- A reader of the four bytes of a word, in a new block. -/
theorem RS.word {w : World} {A : Option Addr} {c j : Nat} {b : List UInt8} (h : By w (Bk w) A 64 b) (hc : 64 ≤ c) (hm : c ≤ maxLen) (hj : j < 16) :
    RS (w.alloc (.cells #[.slice (cutA A c (4 * j)) 4 (c - 4 * j), .int .i64 0] tQ)) w.heap.size tQ ((b.drop (4 * j)).take 4) 0 := by
  refine ⟨_, 4, _, heap_alloc_new w _, by omega, by omega, fun _ => ?_⟩
  have h1 := h.bk (w' := w.alloc (.cells #[.slice (cutA A c (4 * j)) 4 (c - 4 * j), .int .i64 0] tQ)) ((Below.refl _ w).alloc (Nat.le_refl _) _)
  have h2 := h1.drop (k := 4 * j) (c := c) (by omega) hc
  exact h2.take (k := 4) (by omega)

theorem rturn_q (x : UInt32) (n : Int) (h0 : 0 ≤ n) (h1 : n < 32) (w : World) :
    Calls Tryd.prog 49 #[.int .u32 (n32 x), .int .i64 n] w fun e w' => e = .returned (.int .u32 (n32 (rotr x n.toNat))) ∧ w' = w :=
  (rturn_mod x n n.toNat (by omega) (by omega) w).mono fun _ _ ⟨he, hw⟩ => ⟨he, hw.symm⟩
theorem rthree_q (x : UInt32) (i j k : Int) (hi : 0 ≤ i ∧ i < 32) (hj : 0 ≤ j ∧ j < 32) (hk : 0 ≤ k ∧ k < 32) (w : World) :
    Calls Tryd.prog 50 #[.int .u32 (n32 x), .int .i64 i, .int .i64 j, .int .i64 k] w fun e w' => e = .returned (.int .u32 (n32 (three x i.toNat j.toNat k.toNat))) ∧ w' = w := by
  have h := rthree_any x i.toNat j.toNat k.toNat (by omega) (by omega) (by omega) w
  rw [Int.toNat_of_nonneg hi.1, Int.toNat_of_nonneg hj.1, Int.toNat_of_nonneg hk.1] at h
  exact h.mono fun _ _ ⟨he, hw⟩ => ⟨he, hw.symm⟩

end Go.Proofs.YtolildehdibpbaaDoor
