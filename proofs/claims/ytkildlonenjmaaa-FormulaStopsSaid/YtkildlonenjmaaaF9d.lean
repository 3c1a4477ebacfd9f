/-
  The document's Least.
-/
import Derived.Test.YtkildlonenjmaaaF9b
namespace Go.Proofs.Ytkildlonenjmaaa
open Go.RowKit

set_option maxHeartbeats 4000000 in
set_option maxRecDepth 100000 in
theorem rleast_any (f : Fm) (A : Option Addr) (n c : Nat) (w : World) (hm : f.rng 7 = true) (h : f.In w (fun _ => True) A n) :
    Calls Try.prog 32 #[f.val A n c] w fun e w' => e = .returned (.int .i64 (f.least : Int)) ∧ Below w.heap.size w w' := by
  obtain ⟨r, hr⟩ : ∃ r, r = f.least := ⟨_, rfl⟩
  rw [← hr]
  have HR := Lib.hid hr
  clear hr
  have HF := Lib.hid h
  have hh : ∀ (s : Nat) (W : World), s < 128 → f.In W (fun _ => True) A n → Calls Try.prog 31 #[f.val A n c, .int .u32 (s : Int)] W fun e w' => e = .returned (.bool (f.hold s)) ∧ Below W.heap.size W w' := fun s W hs h1 => rholds_any s (by omega) f A n c W hm h1
  unfold Fm.val at hh
  unfold Fm.val
  generalize f.org = fo at *
  generalize f.nd = fa at *
  have HH := Lib.hid hh
  clear h hm hh
  have hB0 : Blk (w.alloc (.cells #[.int .i64 fo, .int .i64 fa, .slice A n c] 33)) w.heap.size 33 [.int .i64 fo, .int .i64 fa, .slice A n c] := Blk.fresh rfl rfl
  have HB0 := Lib.hid hB0
  have HX0 : Hid (Below w.heap.size w (w.alloc (.cells #[.int .i64 fo, .int .i64 fa, .slice A n c] 33))) := Lib.hid ((Below.refl _ w).alloc (Nat.le_refl _) _)
  clear hB0
  · go_enter Try.func32, Try.ntmps32
    go_wp2
    go_loopw [3, 4] (fun mv iv wr => ∃ i m : Nat, i ≤ 128 ∧ iv = .int .u32 (i : Int) ∧ mv = .int .i64 (m : Int) ∧ m ≤ 7 ∧ Below w.heap.size w wr ∧ Blk wr w.heap.size 33 [.int .i64 fo, .int .i64 fa, .slice A n c] ∧ m = f.lst i) (fun _ iv _ => 128 - (intOf iv).toNat)
    case atStart => exact ⟨0, 7, by omega, rfl, rfl, Nat.le_refl _, HX0.out, HB0.out, rfl⟩
    case round =>
      obtain ⟨i, m, hi, rfl, rfl, hm7, hx, hb, hm⟩ := hrel
      have HX := Lib.hid hx
      have HB := Lib.hid hb
      clear hx hb
      by_cases hlt : i < 128
      · have hc := f.lst_succ i
        rw [← hm] at hc
        have hcall := fun W h => HH.out i W (by omega) h
        have hk7 : cnt i ≤ 7 := cntTo_le i 7
        have hcnt := fun W => count_b i (by omega) W
        cases hb : f.hold i <;> rw [hb] at hc <;> simp only [hb] at hcall <;> have HC := Lib.hid hc <;> have HL := Lib.hid hcall <;> have HN := Lib.hid hcnt <;> clear hc hcall hb hm hcnt
        · go_wp2_with (first
            | (refine wpList_load_blk rfl 33 (.tmp 1) rfl w.heap.size rfl 33 [.int .i64 fo, .int .i64 fa, .slice A n c] _ HB.out Try.underlying33 rfl (by kernel_rfl) ?_)
            | (go_at_call 31; (with_reducible refine (HL.out _ (HF.out.through HX.out)).mono ?_); rintro e wb ⟨rfl, hb⟩; have HXb := Lib.hid (HX.out.trans (hb.mono HX.out.size)); have HBb := Lib.hid (HB.out.through hb); clear hb))
          go_roundw
          case rel => exact ⟨i + 1, m, by omega, by go_num, rfl, hm7, HXb.out, HBb.out, by rw [HC.out]; simp⟩
          case measure => simp [intOf]; omega
        · generalize cnt i = y at *
          rcases Nat.lt_trichotomy m y with hy | hy | hy
          all_goals
            go_wp2_with (first
              | (refine wpList_load_blk rfl 33 (.tmp 1) rfl w.heap.size rfl 33 [.int .i64 fo, .int .i64 fa, .slice A n c] _ HB.out Try.underlying33 rfl (by kernel_rfl) ?_)
              | (go_at_call 31; (with_reducible refine (HL.out _ (HF.out.through HX.out)).mono ?_); rintro e wb ⟨rfl, hb⟩; have HXb := Lib.hid (HX.out.trans (hb.mono HX.out.size)); have HBb := Lib.hid (HB.out.through hb); clear hb)
              | (go_at_call 48; (with_reducible refine (HN.out _).mono ?_); rintro e wc ⟨rfl, hb⟩; have HXc := Lib.hid (HXb.out.trans (hb.mono HXb.out.size)); have HBc := Lib.hid (HBb.out.through hb); clear hb))
            go_roundw
            case rel => exact ⟨i + 1, min m y, by omega, by go_num, by (congr 1; omega), by omega, HXc.out, HBc.out, by rw [HC.out]; simp⟩
            case measure => simp [intOf]; omega
      · have hi8 : i = 128 := by omega
        have HC := Lib.hid (HR.out.trans (Fm.least_of hi8))
        have HM9 := Lib.hid hm
        clear hm
        subst hi8
        go_wp2
        go_ret
        exact ⟨by rw [HC.out, ← HM9.out]; rfl, HX.out⟩

end Go.Proofs.Ytkildlonenjmaaa
