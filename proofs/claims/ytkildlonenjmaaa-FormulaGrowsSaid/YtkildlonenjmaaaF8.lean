/-
  The program's Holds, Stops, Names; the document's Right.
-/
import Derived.Test.YtkildlonenjmaaaF7
import Derived.Test.YtkildlonenjmaaaOnes
namespace Go.Proofs.Ytkildlonenjmaaa
open Go.RowKit

/-- it may be, of some n -/
def Fm.mb (f : Fm) : Bool := decide (f.check 7 = 0)
theorem Fm.mb_iff (f : Fm) : f.mb = true ↔ f.size ≤ 32 ∧ f.depth ≤ 5 ∧ f.rng 7 = true := by
  unfold Fm.mb Fm.check
  rw [decide_eq_true_eq]
  cases hr : f.rng 7 <;> simp <;> split <;> try split
  all_goals first | omega | (simp; omega)
theorem Fm.mb_rng {f : Fm} (h : f.mb = true) : f.rng 7 = true := ((Fm.mb_iff f).1 h).2.2

set_option maxHeartbeats 4000000 in
set_option maxRecDepth 100000 in
theorem maybe_any (f : Fm) (A : Option Addr) (n c : Nat) (w : World) (hz : f.few) (h : f.In w (fun _ => True) A n) :
    Calls Try.prog 42 #[f.val A n c] w fun e w' => e = .returned (.bool f.mb) ∧ Below w.heap.size w w' := by
  have hcall : ∀ W, f.In W (fun _ => True) A n → Calls Try.prog 22 #[f.val A n c, .int .i64 7] W fun e w' => e = .returned (.int .i64 (f.check 7)) ∧ Below W.heap.size W w' := fun W h1 => check_any f 7 A n c W hz h1
  have HF := Lib.hid h
  unfold Fm.val at hcall ⊢
  unfold Fm.mb
  generalize f.org = fo at *
  generalize f.nd = fa at *
  have hB0 : Blk (w.alloc (.cells #[.int .i64 fo, .int .i64 fa, .slice A n c] 33)) w.heap.size 33 [.int .i64 fo, .int .i64 fa, .slice A n c] := Blk.fresh rfl rfl
  have HB0 := Lib.hid hB0
  have HX0 : Hid (Below w.heap.size w (w.alloc (.cells #[.int .i64 fo, .int .i64 fa, .slice A n c] 33))) := Lib.hid ((Below.refl _ w).alloc (Nat.le_refl _) _)
  clear hB0
  generalize hk : f.check 7 = k at *
  by_cases h0 : k = 0
  · subst h0
    have HC := Lib.hid hcall
    clear hcall h hk
    go_enter Try.func42, Try.ntmps42
    go_wp2_with (first
      | (refine wpList_load_blk rfl 33 (.tmp 1) rfl w.heap.size rfl 33 [.int .i64 fo, .int .i64 fa, .slice A n c] _ HB0.out Try.underlying33 rfl (by kernel_rfl) ?_)
      | (go_at_call 22; (with_reducible refine (HC.out _ (HF.out.through HX0.out)).mono ?_); rintro e wa ⟨rfl, hb⟩; have HXa := Lib.hid (HX0.out.trans (hb.mono HX0.out.size)); have HBa := Lib.hid (HB0.out.through hb); clear hb))
    go_ret
    exact ⟨rfl, HXa.out⟩
  · have h1 : (k == 0) = false := by simpa using h0
    have hd : decide (k = 0) = false := by simpa using h0
    have HD := Lib.hid hd
    have HC := Lib.hid hcall
    clear hcall h hk hd
    go_enter Try.func42, Try.ntmps42
    go_wp2_with (first
      | (refine wpList_load_blk rfl 33 (.tmp 1) rfl w.heap.size rfl 33 [.int .i64 fo, .int .i64 fa, .slice A n c] _ HB0.out Try.underlying33 rfl (by kernel_rfl) ?_)
      | (go_at_call 22; (with_reducible refine (HC.out _ (HF.out.through HX0.out)).mono ?_); rintro e wa ⟨rfl, hb⟩; have HXa := Lib.hid (HX0.out.trans (hb.mono HX0.out.size)); have HBa := Lib.hid (HB0.out.through hb); clear hb))
    go_ret
    exact ⟨ret_bool (by rw [HD.out]), HXa.out⟩

set_option maxHeartbeats 4000000 in
set_option maxRecDepth 100000 in
theorem right_any (f : Fm) (A : Option Addr) (n c : Nat) (w : World) (hz : f.few) (h : f.In w (fun _ => True) A n) :
    Calls Try.prog 24 #[f.val A n c] w fun e w' => e = .returned (.bool f.mb) ∧ Below w.heap.size w w' := by
  have hcall : ∀ W, f.In W (fun _ => True) A n → Calls Try.prog 23 #[f.val A n c, .int .i64 7] W fun e w' => e = .returned (.int .i64 (f.check 7)) ∧ Below W.heap.size W w' := fun W h1 => rcheck_any f 7 A n c W hz h1
  have HF := Lib.hid h
  unfold Fm.val at hcall ⊢
  unfold Fm.mb
  generalize f.org = fo at *
  generalize f.nd = fa at *
  have hB0 : Blk (w.alloc (.cells #[.int .i64 fo, .int .i64 fa, .slice A n c] 33)) w.heap.size 33 [.int .i64 fo, .int .i64 fa, .slice A n c] := Blk.fresh rfl rfl
  have HB0 := Lib.hid hB0
  have HX0 : Hid (Below w.heap.size w (w.alloc (.cells #[.int .i64 fo, .int .i64 fa, .slice A n c] 33))) := Lib.hid ((Below.refl _ w).alloc (Nat.le_refl _) _)
  clear hB0
  generalize hk : f.check 7 = k at *
  by_cases h0 : k = 0
  · subst h0
    have HC := Lib.hid hcall
    clear hcall h hk
    go_enter Try.func24, Try.ntmps24
    go_wp2_with (first
      | (refine wpList_load_blk rfl 33 (.tmp 1) rfl w.heap.size rfl 33 [.int .i64 fo, .int .i64 fa, .slice A n c] _ HB0.out Try.underlying33 rfl (by kernel_rfl) ?_)
      | (go_at_call 23; (with_reducible refine (HC.out _ (HF.out.through HX0.out)).mono ?_); rintro e wa ⟨rfl, hb⟩; have HXa := Lib.hid (HX0.out.trans (hb.mono HX0.out.size)); have HBa := Lib.hid (HB0.out.through hb); clear hb))
    go_ret
    exact ⟨rfl, HXa.out⟩
  · have h1 : (k == 0) = false := by simpa using h0
    have hd : decide (k = 0) = false := by simpa using h0
    have HD := Lib.hid hd
    have HC := Lib.hid hcall
    clear hcall h hk hd
    go_enter Try.func24, Try.ntmps24
    go_wp2_with (first
      | (refine wpList_load_blk rfl 33 (.tmp 1) rfl w.heap.size rfl 33 [.int .i64 fo, .int .i64 fa, .slice A n c] _ HB0.out Try.underlying33 rfl (by kernel_rfl) ?_)
      | (go_at_call 23; (with_reducible refine (HC.out _ (HF.out.through HX0.out)).mono ?_); rintro e wa ⟨rfl, hb⟩; have HXa := Lib.hid (HX0.out.trans (hb.mono HX0.out.size)); have HBa := Lib.hid (HB0.out.through hb); clear hb))
    go_ret
    exact ⟨ret_bool (by rw [HD.out]), HXa.out⟩

set_option maxHeartbeats 4000000 in
set_option maxRecDepth 100000 in
theorem Hold_any (s : Nat) (hs : s < 4294967296) (f : Fm) (A : Option Addr) (n c : Nat) (w : World) (hz : f.few) (h : f.In w (fun _ => True) A n) :
    Calls Try.prog 25 #[f.val A n c, .int .u32 (s : Int)] w fun e w' => e = .returned (.bool (f.mb && f.hold s)) ∧ Below w.heap.size w w' := by
  have hmb : ∀ W, f.In W (fun _ => True) A n → Calls Try.prog 42 #[f.val A n c] W fun e w' => e = .returned (.bool f.mb) ∧ Below W.heap.size W w' := fun W h1 => maybe_any f A n c W hz h1
  have HF := Lib.hid h
  cases hm : f.mb
  · rw [hm] at hmb
    unfold Fm.val at hmb
    unfold Fm.val
    generalize f.org = fo at *
    generalize f.nd = fa at *
    have HM := Lib.hid hmb
    clear hmb h hm
    have hB0 : Blk (w.alloc (.cells #[.int .i64 fo, .int .i64 fa, .slice A n c] 33)) w.heap.size 33 [.int .i64 fo, .int .i64 fa, .slice A n c] := Blk.fresh rfl rfl
    have HB0 := Lib.hid hB0
    have HX0 : Hid (Below w.heap.size w (w.alloc (.cells #[.int .i64 fo, .int .i64 fa, .slice A n c] 33))) := Lib.hid ((Below.refl _ w).alloc (Nat.le_refl _) _)
    clear hB0
    go_enter Try.func25, Try.ntmps25
    go_wp2_with (first
      | (refine wpList_load_blk rfl 33 (.tmp 2) rfl w.heap.size rfl 33 [.int .i64 fo, .int .i64 fa, .slice A n c] _ HB0.out Try.underlying33 rfl (by kernel_rfl) ?_)
      | (go_at_call 42; (with_reducible refine (HM.out _ (HF.out.through HX0.out)).mono ?_); rintro e wa ⟨rfl, hb⟩; have HXa := Lib.hid (HX0.out.trans (hb.mono HX0.out.size)); have HBa := Lib.hid (HB0.out.through hb); clear hb))
    go_ret
    exact ⟨rfl, HXa.out⟩
  · rw [hm] at hmb
    have hcall : ∀ W, f.In W (fun _ => True) A n → Calls Try.prog 43 #[f.val A n c, .int .u32 (s : Int)] W fun e w' => e = .returned (.bool (f.hold (s))) ∧ Below W.heap.size W w' := fun W h1 => holds_any (s) hs f A n c W (Fm.mb_rng hm) h1
    generalize f.hold (s) = v at *
    unfold Fm.val at hmb hcall
    unfold Fm.val
    generalize f.org = fo at *
    generalize f.nd = fa at *
    have HM := Lib.hid hmb
    have HC := Lib.hid hcall
    clear hmb h hm hcall
    have hB0 : Blk (w.alloc (.cells #[.int .i64 fo, .int .i64 fa, .slice A n c] 33)) w.heap.size 33 [.int .i64 fo, .int .i64 fa, .slice A n c] := Blk.fresh rfl rfl
    have HB0 := Lib.hid hB0
    have HX0 : Hid (Below w.heap.size w (w.alloc (.cells #[.int .i64 fo, .int .i64 fa, .slice A n c] 33))) := Lib.hid ((Below.refl _ w).alloc (Nat.le_refl _) _)
    clear hB0
    go_enter Try.func25, Try.ntmps25
    go_wp2_with (first
      | (refine wpList_load_blk rfl 33 (.tmp 2) rfl w.heap.size rfl 33 [.int .i64 fo, .int .i64 fa, .slice A n c] _ HB0.out Try.underlying33 rfl (by kernel_rfl) ?_)
      | (go_at_call 42; (with_reducible refine (HM.out _ (HF.out.through HX0.out)).mono ?_); rintro e wa ⟨rfl, hb⟩; have HXa := Lib.hid (HX0.out.trans (hb.mono HX0.out.size)); have HBa := Lib.hid (HB0.out.through hb); clear hb)
      | (refine wpList_load_blk_g 33 (.tmp 2) rfl (by kernel_rfl) w.heap.size rfl 33 [.int .i64 fo, .int .i64 fa, .slice A n c] _ HBa.out Try.underlying33 rfl (by kernel_rfl) ?_)
      | (go_at_call 43; (with_reducible refine (HC.out _ (HF.out.through HXa.out)).mono ?_); rintro e wb ⟨rfl, hb⟩; have HXb := Lib.hid (HXa.out.trans (hb.mono HXa.out.size)); have HBb := Lib.hid (HBa.out.through hb); clear hb))
    go_ret
    exact ⟨ret_bool (by simp), HXb.out⟩

set_option maxHeartbeats 4000000 in
set_option maxRecDepth 100000 in
theorem Stop_any (s : Nat) (hs : s < 4294967296) (f : Fm) (A : Option Addr) (n c : Nat) (w : World) (hz : f.few) (h : f.In w (fun _ => True) A n) :
    Calls Try.prog 28 #[f.val A n c, .int .u32 (s : Int)] w fun e w' => e = .returned (.bool (f.mb && !f.hold (cpl s))) ∧ Below w.heap.size w w' := by
  have hmb : ∀ W, f.In W (fun _ => True) A n → Calls Try.prog 42 #[f.val A n c] W fun e w' => e = .returned (.bool f.mb) ∧ Below W.heap.size W w' := fun W h1 => maybe_any f A n c W hz h1
  have HF := Lib.hid h
  cases hm : f.mb
  · rw [hm] at hmb
    unfold Fm.val at hmb
    unfold Fm.val
    generalize f.org = fo at *
    generalize f.nd = fa at *
    have HM := Lib.hid hmb
    clear hmb h hm
    have hB0 : Blk (w.alloc (.cells #[.int .i64 fo, .int .i64 fa, .slice A n c] 33)) w.heap.size 33 [.int .i64 fo, .int .i64 fa, .slice A n c] := Blk.fresh rfl rfl
    have HB0 := Lib.hid hB0
    have HX0 : Hid (Below w.heap.size w (w.alloc (.cells #[.int .i64 fo, .int .i64 fa, .slice A n c] 33))) := Lib.hid ((Below.refl _ w).alloc (Nat.le_refl _) _)
    clear hB0
    go_enter Try.func28, Try.ntmps28
    go_wp2_with (first
      | (refine wpList_load_blk rfl 33 (.tmp 2) rfl w.heap.size rfl 33 [.int .i64 fo, .int .i64 fa, .slice A n c] _ HB0.out Try.underlying33 rfl (by kernel_rfl) ?_)
      | (go_at_call 42; (with_reducible refine (HM.out _ (HF.out.through HX0.out)).mono ?_); rintro e wa ⟨rfl, hb⟩; have HXa := Lib.hid (HX0.out.trans (hb.mono HX0.out.size)); have HBa := Lib.hid (HB0.out.through hb); clear hb))
    go_ret
    exact ⟨rfl, HXa.out⟩
  · rw [hm] at hmb
    have hcall : ∀ W, f.In W (fun _ => True) A n → Calls Try.prog 43 #[f.val A n c, .int .u32 (cpl s : Int)] W fun e w' => e = .returned (.bool (f.hold (cpl s))) ∧ Below W.heap.size W w' := fun W h1 => holds_any (cpl s) (cpl_lt s) f A n c W (Fm.mb_rng hm) h1
    generalize f.hold (cpl s) = v at *
    unfold Fm.val at hmb hcall
    unfold Fm.val
    generalize f.org = fo at *
    generalize f.nd = fa at *
    have HM := Lib.hid hmb
    have HC := Lib.hid hcall
    clear hmb h hm hcall
    have hB0 : Blk (w.alloc (.cells #[.int .i64 fo, .int .i64 fa, .slice A n c] 33)) w.heap.size 33 [.int .i64 fo, .int .i64 fa, .slice A n c] := Blk.fresh rfl rfl
    have HB0 := Lib.hid hB0
    have HX0 : Hid (Below w.heap.size w (w.alloc (.cells #[.int .i64 fo, .int .i64 fa, .slice A n c] 33))) := Lib.hid ((Below.refl _ w).alloc (Nat.le_refl _) _)
    clear hB0
    go_enter Try.func28, Try.ntmps28
    go_wp2_with (first
      | (refine wpList_load_blk rfl 33 (.tmp 2) rfl w.heap.size rfl 33 [.int .i64 fo, .int .i64 fa, .slice A n c] _ HB0.out Try.underlying33 rfl (by kernel_rfl) ?_)
      | (go_at_call 42; (with_reducible refine (HM.out _ (HF.out.through HX0.out)).mono ?_); rintro e wa ⟨rfl, hb⟩; have HXa := Lib.hid (HX0.out.trans (hb.mono HX0.out.size)); have HBa := Lib.hid (HB0.out.through hb); clear hb)
      | (refine wpList_load_blk_g 33 (.tmp 2) rfl (by kernel_rfl) w.heap.size rfl 33 [.int .i64 fo, .int .i64 fa, .slice A n c] _ HBa.out Try.underlying33 rfl (by kernel_rfl) ?_)
      | (go_at_call 43; (first | rw [u32_not s hs] | rw [u32_not' s hs]); (with_reducible refine (HC.out _ (HF.out.through HXa.out)).mono ?_); rintro e wb ⟨rfl, hb⟩; have HXb := Lib.hid (HXa.out.trans (hb.mono HXa.out.size)); have HBb := Lib.hid (HBa.out.through hb); clear hb))
    go_ret
    exact ⟨ret_bool (by simp), HXb.out⟩

end Go.Proofs.Ytkildlonenjmaaa
