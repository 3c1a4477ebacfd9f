/-
  isOrg; the document's Stands.
-/
import Derived.Test.YtkildlonenjmaaaFm
namespace Go.Proofs.Ytkildlonenjmaaa
open Go.RowKit

set_option maxHeartbeats 1000000 in
theorem isorg_any (o a : Int) (A : Option Addr) (n c : Nat) (w : World) :
    Calls Try.prog 46 #[.agg #[.int .i64 o, .int .i64 a, .slice A n c]] w fun e w' => e = .returned (.bool (decide (n = 0))) ∧ Below w.heap.size w w' := by
  go_enter Try.func46, Try.ntmps46
  go_wp2
  go_ret
  refine ⟨?_, (Below.refl _ w).alloc (Nat.le_refl _) _⟩
  show Ending.returned (.bool ((n : Int) == 0)) = _
  congr 2
  rw [Bool.eq_iff_iff]
  simp

set_option maxHeartbeats 4000000 in
set_option maxRecDepth 100000 in
theorem stands_any (x : Int) (f : Fm) : ∀ (A : Option Addr) (n c : Nat) (w : World), f.In w (fun _ => True) A n →
    Calls Try.prog 30 #[f.val A n c, .int .i64 x] w fun e w' => e = .returned (.bool (f.stands x)) ∧ Below w.heap.size w w' := by
  induction f using Fm.ind with
  | h o a ks ih =>
    intro A n c w h
    have HI := Lib.hid ih
    clear ih
    cases ks with
    | nil =>
      obtain rfl : 0 = n := h.len
      unfold Fm.val
      clear h
      go_enter Try.func30, Try.ntmps30
      go_wp2
      go_ret
      exact ⟨rfl, (Below.refl _ w).alloc (Nat.le_refl _) _⟩
    | cons k0 ks0 =>
      have hpos : 0 < n := by have := h.len; simp at this; omega
      have hlen := h.len
      have hd0 : decide ((n : Int) = 0) = false := by simp; omega
      have hbeq : ((n : Int) == 0) = false := by simp; omega
      have hst : (Fm.mk o a (k0 :: ks0)).stands x = Fm.standss x (k0 :: ks0) := rfl
      rw [hst]
      clear hst
      generalize hks : k0 :: ks0 = ks at *
      clear hks
      have hmax := h.2.1
      unfold maxLen at hmax
      have HF := Lib.hid h
      unfold Fm.val
      simp only [Fm.org, Fm.nd]
      have HX0 : Hid (Below w.heap.size w (w.alloc (.cells #[.int .i64 o, .int .i64 a, .slice A n c] 33))) := Lib.hid ((Below.refl _ w).alloc (Nat.le_refl _) _)
      have HB0 : Hid (Blk (w.alloc (.cells #[.int .i64 o, .int .i64 a, .slice A n c] 33)) w.heap.size 33 [.int .i64 o, .int .i64 a, .slice A n c]) := Lib.hid (Blk.fresh rfl rfl)
      clear h
      go_enter Try.func30, Try.ntmps30
      go_wp2
      go_loopw [18] (fun iv wr => ∃ i : Nat, i ≤ n ∧ iv = .int .i64 i ∧ Below w.heap.size w wr ∧ Blk wr w.heap.size 33 [.int .i64 o, .int .i64 a, .slice A n c] ∧ Fm.standss x ks = Fm.standss x (ks.drop i)) (fun iv _ => n - (intOf iv).toNat)
      case atStart => exact ⟨0, Nat.zero_le _, rfl, HX0.out, HB0.out, rfl⟩
      case round =>
        obtain ⟨i, hi, rfl, hx, hb, hs⟩ := hrel
        have HX := Lib.hid hx
        have HB := Lib.hid hb
        clear hx hb
        by_cases hlt : i < n
        · obtain ⟨k, g, b, A', n', c', hk1, hk2, hk3, rfl, _, hr, hk⟩ := (HF.out.through HX.out).kid hlt
          have HR := Lib.hid hr
          have HK := Lib.hid hk
          rw [hk3] at hs
          clear hr hk hk1 hk3
          have hcall : ∀ W, k.In W (fun _ => True) A' n' → Calls Try.prog 30 #[.agg #[.int .i64 k.org, .int .i64 k.nd, .slice A' n' c'], .int .i64 x] W fun e w' => e = .returned (.bool (k.stands x)) ∧ Below W.heap.size W w' := fun W h => HI.out k hk2 A' n' c' W h
          have hcons : Fm.standss x (k :: ks.drop (i + 1)) = (k.stands x || Fm.standss x (ks.drop (i + 1))) := rfl
          rw [hcons] at hs
          cases hkx : k.stands x <;> rw [hkx] at hcall hs <;> have HC := Lib.hid hcall <;> clear hcall hkx hcons
          all_goals
            go_wp2_with (first
              | (refine wpList_load_mid rfl 33 (.tmp 20) rfl g (b + i * 3) (by simp [Act.eval]) [.int .i64 k.org, .int .i64 k.nd, .slice A' n' c'] _ HR.out Try.underlying33 rfl (by kernel_rfl) ?_)
              | (go_at_call 30; (with_reducible refine (HC.out _ (HK.out.alloc _)).mono ?_); rintro e w5 ⟨rfl, hb5⟩; have hx5 : Below wr.heap.size wr w5 := ((Below.refl _ wr).alloc (Nat.le_refl _) _).trans (hb5.mono (by simp)); have HX5 := Lib.hid (HX.out.trans (hx5.mono HX.out.size)); have HB5 := Lib.hid (HB.out.through hx5); clear hb5 hx5))
          · go_roundw
            case rel => exact ⟨i + 1, by omega, by go_num, HX5.out, HB5.out, by simpa using hs⟩
            case measure => simp [intOf]; omega
          · go_ret
            exact ⟨by rw [hs]; rfl, HX5.out⟩
        · obtain rfl : i = n := by omega
          go_wp2
          go_ret
          exact ⟨by rw [hs, List.drop_of_length_le (by omega)]; rfl, HX.out⟩

end Go.Proofs.Ytkildlonenjmaaa
