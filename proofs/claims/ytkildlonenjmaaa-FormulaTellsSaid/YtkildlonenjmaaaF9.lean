/-
  The program's Names.
-/
import Derived.Test.YtkildlonenjmaaaF8
namespace Go.Proofs.Ytkildlonenjmaaa
open Go.RowKit

mutual
theorem Fm.names_lt : ∀ (f : Fm), f.rng 7 = true → f.names < 128
  | .mk o a [], h => by
    simp [Fm.rng] at h
    have hp : 2 ^ o.toNat < 2 ^ 7 := Nat.pow_lt_pow_right (by omega) (by omega)
    simpa [Fm.names] using hp
  | .mk o a (k :: ks), h => by
    simp only [Fm.rng, Bool.and_eq_true] at h
    exact Fm.namess_lt (k :: ks) h.1
theorem Fm.namess_lt : ∀ (ks : List Fm), Fm.rngs 7 ks = true → Fm.namess ks < 128
  | [], _ => by simp [Fm.namess]
  | k :: ks, h => by
    simp only [Fm.rngs, Bool.and_eq_true] at h
    have h1 := Fm.names_lt k h.1
    have h2 := Fm.namess_lt ks h.2
    have := Nat.or_lt_two_pow (x := k.names) (y := Fm.namess ks) (n := 7) (by omega) (by omega)
    simpa [Fm.namess] using this
end
/-- what Names tells -/
def Fm.nms (f : Fm) : Nat := if f.mb then f.names else 0
theorem Fm.nms_lt (f : Fm) : f.nms < 128 := by
  unfold Fm.nms
  cases hm : f.mb
  · simp
  · simpa using Fm.names_lt f (Fm.mb_rng hm)

set_option maxHeartbeats 4000000 in
set_option maxRecDepth 100000 in
theorem Name_any (f : Fm) (A : Option Addr) (n c : Nat) (w : World) (hz : f.few) (h : f.In w (fun _ => True) A n) :
    Calls Try.prog 26 #[f.val A n c] w fun e w' => e = .returned (.int .u32 (f.nms : Int)) ∧ Below w.heap.size w w' := by
  have hmf : ∀ (fn : Fn) (first cap : Array Value) (w : World), (Instr.makeFunc fn first cap).run Try.prog w = .ok (.func fn first cap) w := fun _ _ _ _ => rfl
  have hmb : ∀ W, f.In W (fun _ => True) A n → Calls Try.prog 42 #[f.val A n c] W fun e w' => e = .returned (.bool f.mb) ∧ Below W.heap.size W w' := fun W h1 => maybe_any f A n c W hz h1
  have HF := Lib.hid h
  unfold Fm.nms
  cases hm : f.mb
  · rw [hm] at hmb
    rw [if_neg (by simp)]
    unfold Fm.val at hmb
    unfold Fm.val
    generalize f.org = fo at *
    generalize f.nd = fa at *
    have HM := Lib.hid hmb
    clear hmb h hm
    have hB0 : Blk (w.alloc (.cells #[.int .i64 fo, .int .i64 fa, .slice A n c] 33)) w.heap.size 33 [.int .i64 fo, .int .i64 fa, .slice A n c] := Blk.fresh rfl rfl
    have HB0 := Lib.hid hB0
    have HX0 : Hid (Below w.heap.size w (w.alloc (.cells #[.int .i64 fo, .int .i64 fa, .slice A n c] 33))) := Lib.hid ((Below.refl _ w).alloc (Nat.le_refl _) _)
    clear hB0
    go_enter Try.func26, Try.ntmps26
    go_wp2_with (first
      | (refine wpList_load_blk rfl 33 (.tmp 1) rfl w.heap.size rfl 33 [.int .i64 fo, .int .i64 fa, .slice A n c] _ HB0.out Try.underlying33 rfl (by kernel_rfl) ?_)
      | (go_at_call 42; (with_reducible refine (HM.out _ (HF.out.through HX0.out)).mono ?_); rintro e wa ⟨rfl, hb⟩; have HXa := Lib.hid (HX0.out.trans (hb.mono HX0.out.size)); have HBa := Lib.hid (HB0.out.through hb); clear hb))
    go_ret
    exact ⟨rfl, HXa.out⟩
  · rw [hm] at hmb
    rw [if_pos rfl]
    have hlt := Fm.names_lt f (Fm.mb_rng hm)
    have hcall : ∀ W g, f.In W (· ≠ g) A n → Blk W g 34 [.int .u32 0] → Calls Try.prog 44 #[f.val A n c, .int .i64 1, .func (.func 45) #[] #[.pointer (some ⟨g, 0, none⟩)]] W fun e w' => e = .returned (.bool true) ∧ Blk w' g 34 [.int .u32 (f.names : Int)] ∧ W.grownBy w' (some g) := fun W g h1 h2 => by
      have := each_names f 0 g 1 A n c W (Fm.mb_rng hm) (by simpa using hlt) h1 h2
      simpa only [Nat.zero_or] using this
    generalize f.names = v at *
    unfold Fm.val at hmb hcall
    unfold Fm.val
    generalize f.org = fo at *
    generalize f.nd = fa at *
    have HM := Lib.hid hmb
    have HC := Lib.hid hcall
    clear hmb h hm hcall hlt
    have hB0 : Blk (w.alloc (.cells #[.int .i64 fo, .int .i64 fa, .slice A n c] 33)) w.heap.size 33 [.int .i64 fo, .int .i64 fa, .slice A n c] := Blk.fresh rfl rfl
    have HB0 := Lib.hid hB0
    have HX0 : Hid (Below w.heap.size w (w.alloc (.cells #[.int .i64 fo, .int .i64 fa, .slice A n c] 33))) := Lib.hid ((Below.refl _ w).alloc (Nat.le_refl _) _)
    clear hB0
    go_enter Try.func26, Try.ntmps26
    go_wp2_with (first
      | (refine wpList_load_blk rfl 33 (.tmp 1) rfl w.heap.size rfl 33 [.int .i64 fo, .int .i64 fa, .slice A n c] _ HB0.out Try.underlying33 rfl (by kernel_rfl) ?_)
      | (go_at_call 42; (with_reducible refine (HM.out _ (HF.out.through HX0.out)).mono ?_); rintro e wa ⟨rfl, hb⟩; have HXa := Lib.hid (HX0.out.trans (hb.mono HX0.out.size)); have HBa := Lib.hid (HB0.out.through hb); clear hb)
      | (refine wpList_load_blk rfl 33 (.tmp 1) rfl w.heap.size rfl 33 [.int .i64 fo, .int .i64 fa, .slice A n c] _ (HBa.out.alloc _) Try.underlying33 rfl (by kernel_rfl) ?_)
      | (go_at_call 44; (with_reducible refine (HC.out _ wa.heap.size (((HF.out.through HXa.out).apart (Nat.le_refl _)).alloc _) (Blk.fresh rfl rfl)).mono ?_); rintro e wb ⟨rfl, hs, hg⟩; have HSb := Lib.hid hs; have c0 := HSb.out.cellAt (i := 0) rfl; have HXb : Hid (Below w.heap.size w wb) := Lib.hid (HXa.out.trans (((Below.refl _ wa).alloc (Nat.le_refl _) _).grown hg (by simp) (fun k hk => by have := Option.some.inj hk; omega) |>.mono HXa.out.size)); clear hs hg))
    go_ret
    exact ⟨rfl, HXb.out⟩

end Go.Proofs.Ytkildlonenjmaaa
