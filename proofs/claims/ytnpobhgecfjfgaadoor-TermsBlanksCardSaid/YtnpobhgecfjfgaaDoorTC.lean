/-
  The program's Check (out of formula).
-/
import Derived.Test.YtnpobhgecfjfgaaDoorTB
namespace Go.Proofs.YtnpobhgecfjfgaaDoor
open Go.RowKit

set_option maxHeartbeats 4000000 in
set_option maxRecDepth 100000 in
theorem ismany_any (f : Fm) (A : Option Addr) (n c : Nat) (w : World) (hz : f.size ≤ 200) (h : f.In w (fun _ => True) A n) :
    Calls Tryd.prog 32 #[f.val A n c] w fun e w' => e = .returned (.bool (decide (32 < f.size))) ∧ Below w.heap.size w w' := by
  have hmf : ∀ (fn : Fn) (first cap : Array Value) (w : World), (Instr.makeFunc fn first cap).run Tryd.prog w = .ok (.func fn first cap) w := fun _ _ _ _ => rfl
  have hcall : ∀ W g, f.In W (· ≠ g) A n → Blk W g 3 [.int .i64 0] → Calls Tryd.prog 43 #[f.val A n c, .int .i64 1, .func (.func 44) #[] #[.pointer (some ⟨g, 0, none⟩)]] W fun e w' => e = .returned (.bool (!decide (32 < f.size))) ∧ W.grownBy w' (some g) := fun W g h1 h2 => by
    refine (each_many f 0 g 1 A n c W (by omega) h1 h2).mono ?_
    rintro e w' ⟨s', rfl, _, _, hg⟩
    refine ⟨ret_bool ?_, hg⟩
    rw [Bool.eq_iff_iff]
    simp
  have HF := Lib.hid (h.apart (g := w.heap.size + 1) (by omega))
  unfold Fm.val at hcall ⊢
  cases hv : decide (32 < f.size) <;> rw [hv] at hcall <;> have HC := Lib.hid hcall <;> clear hcall hv h
  all_goals
    go_enter Tryd.func32, Tryd.ntmps32
    go_wp2_with (go_at_call 43; (with_reducible refine (HC.out _ (w.heap.size + 1) ((HF.out.alloc _).alloc _) (Blk.fresh (by simp) rfl)).mono ?_); rintro e w1 ⟨rfl, hg1⟩; have hx1 : Below w.heap.size w w1 := (((Below.refl _ w).alloc (Nat.le_refl _) _).alloc (by simp) _).grown hg1 (by simp; omega) (fun k hk => by have := Option.some.inj hk; omega); have HX1 := Lib.hid hx1; clear hg1 hx1)
    go_ret
    exact ⟨rfl, HX1.out⟩

set_option maxHeartbeats 4000000 in
set_option maxRecDepth 100000 in
theorem isdeep_any (f : Fm) (A : Option Addr) (n c : Nat) (w : World) (hz : f.depth ≤ 50) (h : f.In w (fun _ => True) A n) :
    Calls Tryd.prog 33 #[f.val A n c] w fun e w' => e = .returned (.bool (decide (5 < f.depth))) ∧ Below w.heap.size w w' := by
  have hcall : ∀ W, f.In W (fun _ => True) A n → Calls Tryd.prog 43 #[f.val A n c, .int .i64 1, .func (.func 45) #[] #[]] W fun e w' => e = .returned (.bool (!decide (5 < f.depth))) ∧ Below W.heap.size W w' := fun W h1 => by
    refine (each_deep f 1 A n c W (by omega) (by omega) h1).mono ?_
    rintro e w' ⟨rfl, hg⟩
    refine ⟨ret_bool ?_, hg⟩
    rw [Bool.eq_iff_iff]
    simp
    omega
  have HF := Lib.hid h
  unfold Fm.val at hcall ⊢
  cases hv : decide (5 < f.depth) <;> rw [hv] at hcall <;> have HC := Lib.hid hcall <;> clear hcall hv h
  all_goals
    go_enter Tryd.func33, Tryd.ntmps33
    go_wp2_with (go_at_call 43; (with_reducible refine (HC.out _ (HF.out.alloc _)).mono ?_); rintro e w1 ⟨rfl, hb1⟩; have HX1 : Hid (Below w.heap.size w w1) := Lib.hid (((Below.refl _ w).alloc (Nat.le_refl _) _).trans (hb1.mono (by simp))); clear hb1)
    go_ret
    exact ⟨rfl, HX1.out⟩

set_option maxHeartbeats 4000000 in
set_option maxRecDepth 100000 in
theorem iswithin_any (x : Int) (f : Fm) (A : Option Addr) (n c : Nat) (w : World) (h : f.In w (fun _ => True) A n) :
    Calls Tryd.prog 34 #[f.val A n c, .int .i64 x] w fun e w' => e = .returned (.bool (f.rng x)) ∧ Below w.heap.size w w' := by
  have hmf : ∀ (fn : Fn) (first cap : Array Value) (w : World), (Instr.makeFunc fn first cap).run Tryd.prog w = .ok (.func fn first cap) w := fun _ _ _ _ => rfl
  have hcall : ∀ W g, f.In W (fun _ => True) A n → Blk W g 3 [.int .i64 x] → Calls Tryd.prog 43 #[f.val A n c, .int .i64 1, .func (.func 46) #[] #[.pointer (some ⟨g, 0, none⟩)]] W fun e w' => e = .returned (.bool (f.rng x)) ∧ Below W.heap.size W w' := fun W g h1 h2 => each_within x f g 1 A n c W h1 h2
  have HF := Lib.hid h
  have HC := Lib.hid hcall
  unfold Fm.val at HC ⊢
  clear hcall h
  go_enter Tryd.func34, Tryd.ntmps34
  go_wp2_with (go_at_call 43; (with_reducible refine (HC.out _ (w.heap.size + 1) ((HF.out.alloc _).alloc _) (Blk.fresh (by simp) rfl)).mono ?_); rintro e w1 ⟨rfl, hb1⟩; have hx1 : Below w.heap.size w w1 := (((Below.refl _ w).alloc (Nat.le_refl _) _).alloc (by simp) _).trans (hb1.mono (by simp; omega)); have HX1 := Lib.hid hx1; clear hb1 hx1)
  go_ret
  exact ⟨rfl, HX1.out⟩

set_option maxHeartbeats 4000000 in
set_option maxRecDepth 100000 in
theorem check_any (f : Fm) (x : Int) (A : Option Addr) (n c : Nat) (w : World) (hz : f.few) (h : f.In w (fun _ => True) A n) :
    Calls Tryd.prog 16 #[f.val A n c, .int .i64 x] w fun e w' => e = .returned (.int .i64 (f.check x)) ∧ Below w.heap.size w w' := by
  obtain ⟨hz1, hz2⟩ := hz
  obtain ⟨v, hv⟩ : ∃ v, v = f.check x := ⟨_, rfl⟩
  rw [← hv]
  have HF := Lib.hid h
  unfold Fm.check at hv
  have hB0 : Blk (w.alloc (.cells #[.int .i64 f.org, .int .i64 f.nd, .slice A n c] 25)) w.heap.size 25 [.int .i64 f.org, .int .i64 f.nd, .slice A n c] := Blk.fresh rfl rfl
  have HB0 := Lib.hid hB0
  have HX0 : Hid (Below w.heap.size w (w.alloc (.cells #[.int .i64 f.org, .int .i64 f.nd, .slice A n c] 25))) := Lib.hid ((Below.refl _ w).alloc (Nat.le_refl _) _)
  clear hB0 h
  rcases (show x < 1 ∨ 7 < x ∨ (1 ≤ x ∧ x ≤ 7 ∧ 32 < f.size) ∨ (1 ≤ x ∧ x ≤ 7 ∧ f.size ≤ 32 ∧ 5 < f.depth) ∨ (1 ≤ x ∧ x ≤ 7 ∧ f.size ≤ 32 ∧ f.depth ≤ 5 ∧ f.rng x = false) ∨ (1 ≤ x ∧ x ≤ 7 ∧ f.size ≤ 32 ∧ f.depth ≤ 5 ∧ f.rng x = true) by cases f.rng x <;> simp <;> omega) with h1 | h1 | ⟨h1, h2, h3⟩ | ⟨h1, h2, h3, h4⟩ | ⟨h1, h2, h3, h4, h5⟩ | ⟨h1, h2, h3, h4, h5⟩
  · rw [if_pos (Or.inl h1)] at hv
    have HV := Lib.hid hv
    clear hv
    unfold Fm.val
    clear hz1 hz2
    go_enter Tryd.func16, Tryd.ntmps16
    go_wp2
    go_ret
    exact ⟨by rw [HV.out]; rfl, HX0.out⟩
  · rw [if_pos (Or.inr h1)] at hv
    have HV := Lib.hid hv
    clear hv
    unfold Fm.val
    clear hz1 hz2
    go_enter Tryd.func16, Tryd.ntmps16
    go_wp2
    go_ret
    exact ⟨by rw [HV.out]; rfl, HX0.out⟩
  · rw [if_neg (by omega), if_pos h3] at hv
    have HV := Lib.hid hv
    clear hv
    have hm : ∀ W, f.In W (fun _ => True) A n → Calls Tryd.prog 32 #[.agg #[.int .i64 f.org, .int .i64 f.nd, .slice A n c]] W fun e w' => e = .returned (.bool true) ∧ Below W.heap.size W w' := fun W h => by have := ismany_any f A n c W hz1 h; rw [show decide (32 < f.size) = true by simp; omega] at this; exact this
    have HM := Lib.hid hm
    clear hm
    unfold Fm.val
    generalize f.org = fo at *
    generalize f.nd = fa at *
    clear hz1 hz2
    go_enter Tryd.func16, Tryd.ntmps16
    go_wp2_with (first
      | (refine wpList_load_blk rfl 25 (.tmp 2) rfl w.heap.size rfl 25 [.int .i64 fo, .int .i64 fa, .slice A n c] _ HB0.out Tryd.underlying25 rfl (by kernel_rfl) ?_)
      | (go_at_call 32; (with_reducible refine (HM.out _ (HF.out.through HX0.out)).mono ?_); rintro e wa ⟨rfl, hb⟩; have HXa := Lib.hid (HX0.out.trans (hb.mono HX0.out.size)); have HBa := Lib.hid (HB0.out.through hb); clear hb)
      | (refine wpList_load_blk rfl 25 (.tmp 2) rfl w.heap.size rfl 25 [.int .i64 fo, .int .i64 fa, .slice A n c] _ HBa.out Tryd.underlying25 rfl (by kernel_rfl) ?_))
    go_ret
    exact ⟨by rw [HV.out]; rfl, HXa.out⟩
  · rw [if_neg (by omega), if_neg (by omega), if_pos h4] at hv
    have HV := Lib.hid hv
    clear hv
    have hm : ∀ W, f.In W (fun _ => True) A n → Calls Tryd.prog 32 #[.agg #[.int .i64 f.org, .int .i64 f.nd, .slice A n c]] W fun e w' => e = .returned (.bool false) ∧ Below W.heap.size W w' := fun W h => by have := ismany_any f A n c W hz1 h; rw [show decide (32 < f.size) = false by simp; omega] at this; exact this
    have HM := Lib.hid hm
    have hd : ∀ W, f.In W (fun _ => True) A n → Calls Tryd.prog 33 #[.agg #[.int .i64 f.org, .int .i64 f.nd, .slice A n c]] W fun e w' => e = .returned (.bool true) ∧ Below W.heap.size W w' := fun W h => by have := isdeep_any f A n c W hz2 h; rw [show decide (5 < f.depth) = true by simp; omega] at this; exact this
    have HD := Lib.hid hd
    clear hm hd
    unfold Fm.val
    generalize f.org = fo at *
    generalize f.nd = fa at *
    clear hz1 hz2
    go_enter Tryd.func16, Tryd.ntmps16
    go_wp2_with (first
      | (refine wpList_load_blk rfl 25 (.tmp 2) rfl w.heap.size rfl 25 [.int .i64 fo, .int .i64 fa, .slice A n c] _ HB0.out Tryd.underlying25 rfl (by kernel_rfl) ?_)
      | (go_at_call 32; (with_reducible refine (HM.out _ (HF.out.through HX0.out)).mono ?_); rintro e wa ⟨rfl, hb⟩; have HXa := Lib.hid (HX0.out.trans (hb.mono HX0.out.size)); have HBa := Lib.hid (HB0.out.through hb); clear hb)
      | (refine wpList_load_blk rfl 25 (.tmp 2) rfl w.heap.size rfl 25 [.int .i64 fo, .int .i64 fa, .slice A n c] _ HBa.out Tryd.underlying25 rfl (by kernel_rfl) ?_)
      | (go_at_call 33; (with_reducible refine (HD.out _ (HF.out.through HXa.out)).mono ?_); rintro e wb ⟨rfl, hb⟩; have HXb := Lib.hid (HXa.out.trans (hb.mono HXa.out.size)); have HBb := Lib.hid (HBa.out.through hb); clear hb)
      | (refine wpList_load_blk rfl 25 (.tmp 2) rfl w.heap.size rfl 25 [.int .i64 fo, .int .i64 fa, .slice A n c] _ HBb.out Tryd.underlying25 rfl (by kernel_rfl) ?_))
    go_ret
    exact ⟨by rw [HV.out]; rfl, HXb.out⟩
  · rw [if_neg (by omega), if_neg (by omega), if_neg (by omega), if_pos h5] at hv
    have HV := Lib.hid hv
    clear hv
    have hm : ∀ W, f.In W (fun _ => True) A n → Calls Tryd.prog 32 #[.agg #[.int .i64 f.org, .int .i64 f.nd, .slice A n c]] W fun e w' => e = .returned (.bool false) ∧ Below W.heap.size W w' := fun W h => by have := ismany_any f A n c W hz1 h; rw [show decide (32 < f.size) = false by simp; omega] at this; exact this
    have HM := Lib.hid hm
    have hd : ∀ W, f.In W (fun _ => True) A n → Calls Tryd.prog 33 #[.agg #[.int .i64 f.org, .int .i64 f.nd, .slice A n c]] W fun e w' => e = .returned (.bool false) ∧ Below W.heap.size W w' := fun W h => by have := isdeep_any f A n c W hz2 h; rw [show decide (5 < f.depth) = false by simp; omega] at this; exact this
    have HD := Lib.hid hd
    have hw : ∀ W, f.In W (fun _ => True) A n → Calls Tryd.prog 34 #[.agg #[.int .i64 f.org, .int .i64 f.nd, .slice A n c], .int .i64 x] W fun e w' => e = .returned (.bool false) ∧ Below W.heap.size W w' := fun W h => by have := iswithin_any x f A n c W h; rw [h5] at this; exact this
    have HW := Lib.hid hw
    clear hm hd hw
    unfold Fm.val
    generalize f.org = fo at *
    generalize f.nd = fa at *
    clear hz1 hz2
    go_enter Tryd.func16, Tryd.ntmps16
    go_wp2_with (first
      | (refine wpList_load_blk rfl 25 (.tmp 2) rfl w.heap.size rfl 25 [.int .i64 fo, .int .i64 fa, .slice A n c] _ HB0.out Tryd.underlying25 rfl (by kernel_rfl) ?_)
      | (go_at_call 32; (with_reducible refine (HM.out _ (HF.out.through HX0.out)).mono ?_); rintro e wa ⟨rfl, hb⟩; have HXa := Lib.hid (HX0.out.trans (hb.mono HX0.out.size)); have HBa := Lib.hid (HB0.out.through hb); clear hb)
      | (refine wpList_load_blk rfl 25 (.tmp 2) rfl w.heap.size rfl 25 [.int .i64 fo, .int .i64 fa, .slice A n c] _ HBa.out Tryd.underlying25 rfl (by kernel_rfl) ?_)
      | (go_at_call 33; (with_reducible refine (HD.out _ (HF.out.through HXa.out)).mono ?_); rintro e wb ⟨rfl, hb⟩; have HXb := Lib.hid (HXa.out.trans (hb.mono HXa.out.size)); have HBb := Lib.hid (HBa.out.through hb); clear hb)
      | (refine wpList_load_blk rfl 25 (.tmp 2) rfl w.heap.size rfl 25 [.int .i64 fo, .int .i64 fa, .slice A n c] _ HBb.out Tryd.underlying25 rfl (by kernel_rfl) ?_)
      | (go_at_call 34; (with_reducible refine (HW.out _ (HF.out.through HXb.out)).mono ?_); rintro e wc ⟨rfl, hb⟩; have HXc := Lib.hid (HXb.out.trans (hb.mono HXb.out.size)); have HBc := Lib.hid (HBb.out.through hb); clear hb)
      | (refine wpList_load_blk rfl 25 (.tmp 2) rfl w.heap.size rfl 25 [.int .i64 fo, .int .i64 fa, .slice A n c] _ HBc.out Tryd.underlying25 rfl (by kernel_rfl) ?_))
    go_ret
    exact ⟨by rw [HV.out]; rfl, HXc.out⟩
  · rw [if_neg (by omega), if_neg (by omega), if_neg (by omega), if_neg (by rw [h5]; simp)] at hv
    have HV := Lib.hid hv
    clear hv
    have hm : ∀ W, f.In W (fun _ => True) A n → Calls Tryd.prog 32 #[.agg #[.int .i64 f.org, .int .i64 f.nd, .slice A n c]] W fun e w' => e = .returned (.bool false) ∧ Below W.heap.size W w' := fun W h => by have := ismany_any f A n c W hz1 h; rw [show decide (32 < f.size) = false by simp; omega] at this; exact this
    have HM := Lib.hid hm
    have hd : ∀ W, f.In W (fun _ => True) A n → Calls Tryd.prog 33 #[.agg #[.int .i64 f.org, .int .i64 f.nd, .slice A n c]] W fun e w' => e = .returned (.bool false) ∧ Below W.heap.size W w' := fun W h => by have := isdeep_any f A n c W hz2 h; rw [show decide (5 < f.depth) = false by simp; omega] at this; exact this
    have HD := Lib.hid hd
    have hw : ∀ W, f.In W (fun _ => True) A n → Calls Tryd.prog 34 #[.agg #[.int .i64 f.org, .int .i64 f.nd, .slice A n c], .int .i64 x] W fun e w' => e = .returned (.bool true) ∧ Below W.heap.size W w' := fun W h => by have := iswithin_any x f A n c W h; rw [h5] at this; exact this
    have HW := Lib.hid hw
    clear hm hd hw
    unfold Fm.val
    generalize f.org = fo at *
    generalize f.nd = fa at *
    clear hz1 hz2
    go_enter Tryd.func16, Tryd.ntmps16
    go_wp2_with (first
      | (refine wpList_load_blk rfl 25 (.tmp 2) rfl w.heap.size rfl 25 [.int .i64 fo, .int .i64 fa, .slice A n c] _ HB0.out Tryd.underlying25 rfl (by kernel_rfl) ?_)
      | (go_at_call 32; (with_reducible refine (HM.out _ (HF.out.through HX0.out)).mono ?_); rintro e wa ⟨rfl, hb⟩; have HXa := Lib.hid (HX0.out.trans (hb.mono HX0.out.size)); have HBa := Lib.hid (HB0.out.through hb); clear hb)
      | (refine wpList_load_blk rfl 25 (.tmp 2) rfl w.heap.size rfl 25 [.int .i64 fo, .int .i64 fa, .slice A n c] _ HBa.out Tryd.underlying25 rfl (by kernel_rfl) ?_)
      | (go_at_call 33; (with_reducible refine (HD.out _ (HF.out.through HXa.out)).mono ?_); rintro e wb ⟨rfl, hb⟩; have HXb := Lib.hid (HXa.out.trans (hb.mono HXa.out.size)); have HBb := Lib.hid (HBa.out.through hb); clear hb)
      | (refine wpList_load_blk rfl 25 (.tmp 2) rfl w.heap.size rfl 25 [.int .i64 fo, .int .i64 fa, .slice A n c] _ HBb.out Tryd.underlying25 rfl (by kernel_rfl) ?_)
      | (go_at_call 34; (with_reducible refine (HW.out _ (HF.out.through HXb.out)).mono ?_); rintro e wc ⟨rfl, hb⟩; have HXc := Lib.hid (HXb.out.trans (hb.mono HXb.out.size)); have HBc := Lib.hid (HBb.out.through hb); clear hb)
      | (refine wpList_load_blk rfl 25 (.tmp 2) rfl w.heap.size rfl 25 [.int .i64 fo, .int .i64 fa, .slice A n c] _ HBc.out Tryd.underlying25 rfl (by kernel_rfl) ?_))
    go_ret
    exact ⟨by rw [HV.out]; rfl, HXc.out⟩

end Go.Proofs.YtnpobhgecfjfgaaDoor
