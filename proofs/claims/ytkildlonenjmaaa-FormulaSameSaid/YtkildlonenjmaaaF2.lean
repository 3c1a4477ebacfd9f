/-
  Whether a policy holds: the program's, and the document's.
-/
import Derived.Test.YtkildlonenjmaaaU32
namespace Go.Proofs.Ytkildlonenjmaaa
open Go.RowKit

set_option maxHeartbeats 4000000 in
set_option maxRecDepth 100000 in
theorem holds_any (s : Nat) (hs : s < 4294967296) (f : Fm) : ∀ (A : Option Addr) (n c : Nat) (w : World), f.rng 7 = true → f.In w (fun _ => True) A n →
    Calls Try.prog 43 #[f.val A n c, .int .u32 (s : Int)] w fun e w' => e = .returned (.bool (f.hold s)) ∧ Below w.heap.size w w' := by
  induction f using Fm.ind with
  | h o a ks ih =>
    intro A n c w hr h
    cases ks with
    | nil =>
      obtain rfl : 0 = n := h.len
      unfold Fm.val
      clear h ih
      have ho : 0 ≤ o ∧ o < 7 := by simp [Fm.rng] at hr; omega
      clear hr
      have hh : (Fm.mk o a []).hold s = s.testBit o.toNat := rfl
      rw [hh]
      have hsh := shr_u32 s o ho
      have hbs := bit_shr s o.toNat hs
      simp only [Fm.org, Fm.nd]
      generalize s.testBit o.toNat = x at *
      generalize ((s / 2 ^ o.toNat : Nat) : Int) = y at *
      clear hh ho
      cases x
      all_goals
        simp only [if_true, if_false, Bool.false_eq_true] at hbs
        go_enter Try.func43, Try.ntmps43
        go_wp2_with (go_at_call 46; (with_reducible refine (isorg_any _ _ _ _ _ _).mono ?_); rintro e w1 ⟨rfl, hb1⟩; have HX1 : Hid (Below w.heap.size w w1) := Lib.hid (((Below.refl _ w).alloc (Nat.le_refl _) _).trans (hb1.mono (by simp))); have HB1 := Lib.hid (Blk.through (Blk.fresh (w := w) (t := 33) rfl rfl) hb1); have d0 := HB1.out.cellAt (i := 0) rfl; clear hb1)
        go_ret
        exact ⟨rfl, HX1.out⟩
    | cons k0 ks0 =>
      have hpos : 0 < n := by have := h.len; simp at this; omega
      have hlen := h.len
      have hd0 : decide ((n : Int) = 0) = false := by simp; omega
      have hd1 : decide (n = 0) = false := by simp; omega
      have hbeq : ((n : Int) == 0) = false := by simp; omega
      have hst : (Fm.mk o a (k0 :: ks0)).hold s = decide (a ≤ (Fm.holds s (k0 :: ks0) : Int)) := rfl
      rw [hst]
      have hr2 : Fm.rngs 7 (k0 :: ks0) = true := by simp only [Fm.rng, Bool.and_eq_true] at hr; exact hr.1
      clear hst hr
      generalize hks : k0 :: ks0 = ks at *
      clear hks
      have hmax := h.2.1
      unfold maxLen at hmax
      have HF := Lib.hid h
      unfold Fm.val
      simp only [Fm.org, Fm.nd]
      have HX0 : Hid (Below w.heap.size w (w.alloc (.cells #[.int .i64 o, .int .i64 a, .slice A n c] 33))) := Lib.hid ((Below.refl _ w).alloc (Nat.le_refl _) _)
      have HB0 : Hid (Blk (w.alloc (.cells #[.int .i64 o, .int .i64 a, .slice A n c] 33)) w.heap.size 33 [.int .i64 o, .int .i64 a, .slice A n c]) := Lib.hid (Blk.fresh rfl rfl)
      have HI := Lib.hid ih
      have HR2 := Lib.hid hr2
      clear h ih hr2
      go_enter Try.func43, Try.ntmps43
      go_wp2_with (go_at_call 46; (with_reducible refine (isorg_any _ _ _ _ _ _).mono ?_); rintro e w1 ⟨rfl, hb1⟩; have HXB : Hid (Below w.heap.size w w1) := Lib.hid (HX0.out.trans (hb1.mono (by simp))); have HBB := Lib.hid (HB0.out.through hb1); have d2 := HBB.out.cellAt (i := 2) rfl; clear hb1)
      go_loopw [5, 19] (fun cv iv wr => ∃ i m : Nat, i ≤ n ∧ iv = .int .i64 i ∧ cv = .int .i64 m ∧ m ≤ i ∧ Below w.heap.size w wr ∧ Blk wr w.heap.size 33 [.int .i64 o, .int .i64 a, .slice A n c] ∧ m + Fm.holds s (ks.drop i) = Fm.holds s ks) (fun _ iv _ => n - (intOf iv).toNat)
      case atStart => exact ⟨0, 0, Nat.zero_le _, rfl, rfl, Nat.le_refl _, HXB.out, HBB.out, Nat.zero_add _⟩
      case round =>
        obtain ⟨i, m, hi, rfl, rfl, hm, hx, hb, hs⟩ := hrel
        have HX := Lib.hid hx
        have HB := Lib.hid hb
        clear hx hb
        by_cases hlt : i < n
        · obtain ⟨k, g, b, A', n', c', hk1, hk2, hk3, rfl, _, hr, hk⟩ := (HF.out.through HX.out).kid hlt
          have HR := Lib.hid hr
          have HK := Lib.hid hk
          rw [hk3] at hs
          clear hr hk hk1 hk3
          have hcall : ∀ W, k.In W (fun _ => True) A' n' → Calls Try.prog 43 #[.agg #[.int .i64 k.org, .int .i64 k.nd, .slice A' n' c'], .int .u32 (s : Int)] W fun e w' => e = .returned (.bool (k.hold s)) ∧ Below W.heap.size W w' := fun W h => HI.out k hk2 A' n' c' W (Fm.rngs_mem HR2.out hk2) h
          have hcons : Fm.holds s (k :: ks.drop (i + 1)) = (if k.hold s then 1 else 0) + Fm.holds s (ks.drop (i + 1)) := rfl
          rw [hcons] at hs
          cases hkx : k.hold s <;> rw [hkx] at hcall hs <;> have HC := Lib.hid hcall <;> have HS := Lib.hid hs <;> clear hcall hkx hcons hs
          all_goals
            go_wp2_with (first
              | (refine wpList_load_mid rfl 33 (.tmp 21) rfl g (b + i * 3) (by simp [Act.eval]) [.int .i64 k.org, .int .i64 k.nd, .slice A' n' c'] _ HR.out Try.underlying33 rfl (by kernel_rfl) ?_)
              | (go_at_call 43; (with_reducible refine (HC.out _ (HK.out.alloc _)).mono ?_); rintro e w5 ⟨rfl, hb5⟩; have hx5 : Below wr.heap.size wr w5 := ((Below.refl _ wr).alloc (Nat.le_refl _) _).trans (hb5.mono (by simp)); have HX5 := Lib.hid (HX.out.trans (hx5.mono HX.out.size)); have HB5 := Lib.hid (HB.out.through hx5); clear hb5 hx5))
          · go_roundw
            case rel => exact ⟨i + 1, m, by omega, by go_num, rfl, by omega, HX5.out, HB5.out, by simpa using HS.out⟩
            case measure => simp [intOf]; omega
          · go_roundw
            case rel => exact ⟨i + 1, m + 1, by omega, by go_num, by go_num, by omega, HX5.out, HB5.out, by have := HS.out; simp at this; omega⟩
            case measure => simp [intOf]; omega
        · obtain rfl : i = n := by omega
          have c1 := HB.out.cellAt (i := 1) rfl
          have hs : m = Fm.holds s ks := by rw [← hs, List.drop_of_length_le (by omega)]; rfl
          rw [← hs]
          go_wp2
          go_ret
          exact ⟨rfl, HX.out⟩

end Go.Proofs.Ytkildlonenjmaaa
