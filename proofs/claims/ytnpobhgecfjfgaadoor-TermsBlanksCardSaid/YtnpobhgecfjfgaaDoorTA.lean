/-
  isOrg; the closures that are shown the nodes (out of formula).
-/
import Derived.Test.YtnpobhgecfjfgaaDoorFm
namespace Go.Proofs.YtnpobhgecfjfgaaDoor
open Go.RowKit

set_option maxHeartbeats 1000000 in
theorem isorg_any (o a : Int) (A : Option Addr) (n c : Nat) (w : World) :
    Calls Tryd.prog 47 #[.agg #[.int .i64 o, .int .i64 a, .slice A n c]] w fun e w' => e = .returned (.bool (decide (n = 0))) ∧ Below w.heap.size w w' := by
  go_enter Tryd.func47, Tryd.ntmps47
  go_wp2
  go_ret
  refine ⟨?_, (Below.refl _ w).alloc (Nat.le_refl _) _⟩
  show Ending.returned (.bool ((n : Int) == 0)) = _
  congr 2
  rw [Bool.eq_iff_iff]
  simp

theorem Tryd.size_int (w : World) : (sizeOf 3).run Tryd.prog w = .ok 1 w := by kernel_rfl

theorem ret_bool {b c : Bool} (h : b = c) : Ending.returned (Value.bool b) = Ending.returned (.bool c) := by rw [h]

set_option maxHeartbeats 1000000 in
theorem many1_any (o a d : Int) (A : Option Addr) (n c s g : Nat) (w : World) (hb : Blk w g 3 [.int .i64 (s : Int)]) (hs : s ≤ 1000) :
    Calls Tryd.prog 44 #[.agg #[.int .i64 o, .int .i64 a, .slice A n c], .int .i64 d, .pointer (some ⟨g, 0, none⟩)] w fun e w' => e = .returned (.bool (decide (s + 1 ≤ 32))) ∧ Blk w' g 3 [.int .i64 ((s + 1 : Nat) : Int)] ∧ w.grownBy w' (some g) := by
  have hb2 : Blk (w.alloc (.cells #[.int .i64 o, .int .i64 a, .slice A n c] 25)) g 3 [.int .i64 (s : Int)] := hb.alloc _
  have c0 := hb2.cellAt (i := 0) rfl
  have HB := Lib.hid hb2
  clear hb hb2
  go_enter Tryd.func44, Tryd.ntmps44
  go_wp2_with (refine wpList_store_cell rfl 3 (.tmp 2) (.tmp 7) rfl g 0 rfl (.int .i64 ((s : Int) + 1)) rfl rfl rfl Tryd.size_int 3 [.int .i64 (s : Int)] HB.out (by simp) ?_; intro w1 hb1 hg1; have H1 : Hid (Blk w1 g 3 [.int .i64 ((s : Int) + 1)]) := Lib.hid hb1; have d0 := H1.out.cellAt (i := 0) rfl; have HG1 := Lib.hid (only_trans (World.grownBy_alloc w _ (some g)) hg1); clear hb1 hg1)
  go_ret
  exact ⟨by congr 2; simp; omega, H1.out, HG1.out⟩

set_option maxHeartbeats 1000000 in
theorem deep1_any (o a d : Int) (A : Option Addr) (n c : Nat) (w : World) :
    Calls Tryd.prog 45 #[.agg #[.int .i64 o, .int .i64 a, .slice A n c], .int .i64 d] w fun e w' => e = .returned (.bool (decide (d ≤ 5))) ∧ Below w.heap.size w w' := by
  go_enter Tryd.func45, Tryd.ntmps45
  go_wp2
  go_ret
  exact ⟨rfl, (Below.refl _ w).alloc (Nat.le_refl _) _⟩

/-- whether a node's own numbers may be -/
def rng1 (x o a : Int) (n : Nat) : Bool := if n = 0 then decide (0 ≤ o) && decide (o < x) && decide (a = 0) else decide (o = 0) && decide (1 ≤ a) && decide (a ≤ (n : Int))

set_option maxHeartbeats 2000000 in
set_option maxRecDepth 100000 in
theorem within1_any (x o a d : Int) (A : Option Addr) (n c g : Nat) (w : World) (hb : Blk w g 3 [.int .i64 x]) :
    Calls Tryd.prog 46 #[.agg #[.int .i64 o, .int .i64 a, .slice A n c], .int .i64 d, .pointer (some ⟨g, 0, none⟩)] w fun e w' => e = .returned (.bool (rng1 x o a n)) ∧ Below w.heap.size w w' := by
  have HB := Lib.hid hb
  clear hb
  obtain ⟨v, hv⟩ : ∃ v, v = rng1 x o a n := ⟨_, rfl⟩
  rw [← hv]
  have HV := Lib.hid hv
  clear hv
  by_cases hn : n = 0
  · subst hn
    rcases (show a ≠ 0 ∨ (a = 0 ∧ o < 0) ∨ (a = 0 ∧ 0 ≤ o ∧ x ≤ o) ∨ (a = 0 ∧ 0 ≤ o ∧ o < x) by omega) with h | ⟨h, h2⟩ | ⟨h, h2, h3⟩ | ⟨h, h2, h3⟩
    case' inl => have h4 : (a == 0) = false := by simpa using h
    case' inr.inl | inr.inr.inl | inr.inr.inr => have h4 : (a == 0) = true := by simpa using h
    all_goals
      go_enter Tryd.func46, Tryd.ntmps46
      go_wp2_with (go_at_call 47; (with_reducible refine (isorg_any _ _ _ _ _ _).mono ?_); rintro e w1 ⟨rfl, hb1⟩; have HX1 : Hid (Below w.heap.size w w1) := Lib.hid (((Below.refl _ w).alloc (Nat.le_refl _) _).trans (hb1.mono (by simp))); have B1 := Lib.hid (Blk.through (Blk.fresh (w := w) (t := 25) rfl rfl) hb1); have d0 := B1.out.cellAt (i := 0) rfl; have d1 := B1.out.cellAt (i := 1) rfl; have d2 := B1.out.cellAt (i := 2) rfl; have H1 := Lib.hid (HB.out.through HX1.out); have e0 := H1.out.cellAt (i := 0) rfl; clear hb1)
      go_ret
      refine ⟨ret_bool ?_, HX1.out⟩
      rw [HV.out]
      unfold rng1
      rw [if_pos rfl]
      rw [Bool.eq_iff_iff]; simp only [Bool.and_eq_true, decide_eq_true_eq, Bool.false_eq_true, true_iff, false_iff]; omega
  · have hd1 : decide (n = 0) = false := by simp; omega
    rcases (show o ≠ 0 ∨ (o = 0 ∧ a < 1) ∨ (o = 0 ∧ 1 ≤ a ∧ (n : Int) < a) ∨ (o = 0 ∧ 1 ≤ a ∧ a ≤ (n : Int)) by omega) with h | ⟨h, h2⟩ | ⟨h, h2, h3⟩ | ⟨h, h2, h3⟩
    case' inl => have h4 : (o == 0) = false := by simpa using h
    case' inr.inl | inr.inr.inl | inr.inr.inr => have h4 : (o == 0) = true := by simpa using h
    all_goals
      go_enter Tryd.func46, Tryd.ntmps46
      go_wp2_with (go_at_call 47; (with_reducible refine (isorg_any _ _ _ _ _ _).mono ?_); rintro e w1 ⟨rfl, hb1⟩; have HX1 : Hid (Below w.heap.size w w1) := Lib.hid (((Below.refl _ w).alloc (Nat.le_refl _) _).trans (hb1.mono (by simp))); have B1 := Lib.hid (Blk.through (Blk.fresh (w := w) (t := 25) rfl rfl) hb1); have d0 := B1.out.cellAt (i := 0) rfl; have d1 := B1.out.cellAt (i := 1) rfl; have d2 := B1.out.cellAt (i := 2) rfl; have H1 := Lib.hid (HB.out.through HX1.out); have e0 := H1.out.cellAt (i := 0) rfl; clear hb1)
      go_ret
      refine ⟨ret_bool ?_, HX1.out⟩
      rw [HV.out]
      unfold rng1
      rw [if_neg hn]
      rw [Bool.eq_iff_iff]; simp only [Bool.and_eq_true, decide_eq_true_eq, Bool.false_eq_true, true_iff, false_iff]; omega

end Go.Proofs.YtnpobhgecfjfgaaDoor
