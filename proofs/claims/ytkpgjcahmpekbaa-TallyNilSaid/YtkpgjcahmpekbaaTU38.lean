/-
  Joined: TwSS.
-/
import Derived.Test.YtkpgjcahmpekbaaTU28
namespace Go.Proofs.Ytkpgjcahmpekbaa
open Go.RowKit


theorem same1_S (p : Value) (w : World) :
  CallsD Try.prog 83 #[p] .returning w fun e u' w' => e = .returned (.tuple #[]) ∧ u' = .returning ∧ w' = w := by
 refine callsD_of_wpS Try.func83 rfl fun c₀ cs hu => ?_
 apply wpS_seq
 apply wpS_region
 simp [wpOpsS, go_sem, recoverD, hu, Try.ntmps83, Exit.thenS]
 refine wpS_cond (t := false) (by simp [Act.eval, Array.replicate]) ?_
 simp only [Bool.false_eq_true, if_false]
 refine wpS_of_wp (wp_skip ?_)
 cases c₀
 simp_all [bodyPostS, results, Try.results83]

set_option maxHeartbeats 16000000 in
set_option maxRecDepth 100000 in
theorem same_S (x y : (List UInt8)) (w : World) :
  Calls Try.prog 57 #[encS x, encS y] w fun e w' => e = .returned (.bool (decide (x = y))) ∧ Below w.heap.size w w' := by
 have hmf : ∀ (fn : Fn) (first cap : Array Value) (w : World), (Instr.makeFunc fn first cap).run Try.prog w = .ok (.func fn first cap) w := fun _ _ _ _ => rfl
 obtain ⟨bb, hbb⟩ : ∃ bb, decide (x = y) = bb := ⟨_, rfl⟩
 rw [hbb]
 have e0 : (x == y) = bb := by rw [← hbb, Bool.eq_iff_iff]; simp
 have h1 := ba_list x
 have h2 := ba_list y
 clear hbb
 have H4 : Hid (Blk (w.alloc (.cells #[.bool false] 4)) w.heap.size 4 [.bool false]) := Lib.hid (Blk.fresh rfl rfl)
 have HX : Hid (Below w.heap.size w (w.alloc (.cells #[.bool false] 4))) := Lib.hid ((Below.refl _ w).alloc (Nat.le_refl _) _)
 go_enter_defers Try.func57, Try.ntmps57
 go_wp2_with (first
  | (refine wpList_store_cell rfl 4 (.tmp 4) (.tmp 8) rfl w.heap.size 0 rfl (.bool bb) rfl rfl rfl Try.sz_bool20 4 [.bool false] H4.out (by simp) ?_; intro w4 hb4 hg4; have HB4 : Hid (Blk w4 w.heap.size 4 [.bool bb]) := Lib.hid hb4; have HX4 : Hid (Below w.heap.size w w4) := Lib.hid (HX.out.grown hg4 HX.out.size (fun k hk => Option.some.inj hk ▸ Nat.le_refl _)); clear hb4 hg4))
 refine leaves_cons (f := 83) (args := #[.pointer (some ⟨w.heap.size, 0, none⟩)]) (by simp) (by simp [go_sem]) ?_
 refine (same1_S _ _).mono ?_
 rintro e u' w'' ⟨rfl, rfl, rfl⟩
 exact ⟨_, results_cell_one rfl _ _ ⟨w.heap.size, 0, none⟩ (.bool bb) (Try.agg_bool20 _) rfl (HB4.out.cellAt rfl), rfl, HX4.out⟩

end Go.Proofs.Ytkpgjcahmpekbaa
