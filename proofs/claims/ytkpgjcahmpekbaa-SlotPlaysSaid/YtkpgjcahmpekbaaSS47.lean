/-
  Joined: SpN.
-/
import Derived.Test.YtkpgjcahmpekbaaSS44
import Derived.Test.YtkpgjcahmpekbaaSST
namespace Go.Proofs.Ytkpgjcahmpekbaa
open Go.RowKit

theorem Try.bld_dgz20 (w : World) : (Instr.build 27 #[]).run Try.prog w = .ok (.agg (vs dgZ).toArray) w := by kernel_rfl
set_option maxHeartbeats 16000000 in
set_option maxRecDepth 100000 in
theorem proposal_nil (w : World) : Calls Try.prog 38 #[.pointer none] w fun e w' => e = .returned (.tuple #[.agg (vs dgZ).toArray, .slice none 0 0, .bool false]) ∧ Below w.heap.size w w' := by
 have hz : ∀ W, (zeroValue 27).run Try.prog W = .ok (.agg (vs dgZ).toArray) W := fun W => Try.zero_d W
 have HZl : Hid ((vs dgZ).length = 32) := Lib.hid (D_len _ D_okz)
 have HZ : Hid (Blk (w.alloc (.cells (vs dgZ).toArray 27)) w.heap.size 27 (vs dgZ)) := Lib.hid (Blk.fresh rfl rfl)
 have HX2 := Lib.hid (below1_ w (.cells (vs dgZ).toArray 27))
 go_enter Try.func38, Try.ntmps38
 go_wp2_with (first
  | (go_at_call 69; (with_reducible refine (isnone_nil _).mono ?_); rintro e w9 ⟨rfl, hw9⟩; subst hw9)
  | (refine wpList_build_to rfl 27 [] rfl [] rfl (.agg (vs dgZ).toArray) (Try.bld_dgz20 _) ?_)
  | (refine wpList_store_blk rfl 27 (.tmp 2) (.tmp 7) rfl w.heap.size (vs dgZ) rfl rfl 27 (vs dgZ) HZ.out (by rw [HZl.out]; kernel_rfl) rfl (D_one dgZ) ?_; intro w4 hb9 hg9; have HB4 := Lib.hid hb9; have HX4 : Hid (Below w.heap.size w w4) := Lib.hid (HX2.out.grown hg9 HX2.out.size (fun b hb => by have := Option.some.inj hb; omega)); clear hb9 hg9))
 (try simp only [Exit.inBlock, Exit.then]); refine bodyPost_ret (results_cell_row_tmp2 rfl _ _ w.heap.size 27 _ (0, 0) _ rfl HB4.out Try.underlying27 rfl (by rw [List.size_toArray, HZl.out]; kernel_rfl)) rfl ?_
 exact ⟨rfl, HX4.out⟩
set_option maxHeartbeats 16000000 in
set_option maxRecDepth 100000 in
theorem votes_nil (w : World) : Calls Try.prog 39 #[.pointer none] w fun e w' => e = .returned (.tuple #[.int .i64 0, .int .i64 0]) ∧ Below w.heap.size w w' := by
 go_enter Try.func39, Try.ntmps39
 go_wp2_with (first
  | (go_at_call 69; (with_reducible refine (isnone_nil _).mono ?_); rintro e w9 ⟨rfl, hw9⟩; subst hw9))
 go_ret2
 exact ⟨rfl, Below.refl _ _⟩
set_option maxHeartbeats 16000000 in
set_option maxRecDepth 100000 in
theorem propose_nil (w : World) : Calls Try.prog 40 #[.pointer none, .agg (vs dgZ).toArray, .slice none 0 0] w fun e w' => e = .returned (.int .i64 1) ∧ Below w.heap.size w w' := by
 go_enter Try.func40, Try.ntmps40
 go_wp2_with (first
  | (go_at_call 69; (with_reducible refine (isnone_nil _).mono ?_); rintro e w9 ⟨rfl, hw9⟩; subst hw9))
 go_ret
 exact ⟨rfl, below1_ w _⟩
set_option maxHeartbeats 16000000 in
set_option maxRecDepth 100000 in
theorem prepare_nil (w : World) : Calls Try.prog 41 #[.pointer none, .int .i64 0, .agg (vs dgZ).toArray] w fun e w' => e = .returned (.int .i64 1) ∧ Below w.heap.size w w' := by
 go_enter Try.func41, Try.ntmps41
 go_wp2_with (first
  | (go_at_call 69; (with_reducible refine (isnone_nil _).mono ?_); rintro e w9 ⟨rfl, hw9⟩; subst hw9))
 go_ret
 exact ⟨rfl, below1_ w _⟩
set_option maxHeartbeats 16000000 in
set_option maxRecDepth 100000 in
theorem commit_nil (w : World) : Calls Try.prog 42 #[.pointer none, .int .i64 0, .agg (vs dgZ).toArray] w fun e w' => e = .returned (.int .i64 1) ∧ Below w.heap.size w w' := by
 go_enter Try.func42, Try.ntmps42
 go_wp2_with (first
  | (go_at_call 69; (with_reducible refine (isnone_nil _).mono ?_); rintro e w9 ⟨rfl, hw9⟩; subst hw9))
 go_ret
 exact ⟨rfl, below1_ w _⟩
set_option maxHeartbeats 16000000 in
set_option maxRecDepth 100000 in
theorem prepared_nil (w : World) : Calls Try.prog 43 #[.pointer none, .int .i64 0] w fun e w' => e = .returned (.bool false) ∧ Below w.heap.size w w' := by
 go_enter Try.func43, Try.ntmps43
 go_wp2_with (first
  | (go_at_call 69; (with_reducible refine (isnone_nil _).mono ?_); rintro e w9 ⟨rfl, hw9⟩; subst hw9))
 go_ret
 exact ⟨rfl, Below.refl _ _⟩
set_option maxHeartbeats 16000000 in
set_option maxRecDepth 100000 in
theorem committed_nil (w : World) : Calls Try.prog 44 #[.pointer none] w fun e w' => e = .returned (.bool false) ∧ Below w.heap.size w w' := by
 go_enter Try.func44, Try.ntmps44
 go_upto_region 1 with fail
 refine wp_region_held_drew (S := fun W => Below w.heap.size w W) (by kernel_rfl) (Below.refl _ w).drew (fun hHeld => ?_)
 change wpAnyH _ _ _ _ _ _ #[false, false, false, false, false, false, false, false, false, false, false, false, false, false, false, false, false, false, false, false, false, false, false, false, false, false, false] _ _
 refine tkq (i := 0) (d := 3) (v := (.pointer none)) rfl rfl (Or.inl ⟨by kernel_rfl, fun w hSw => ?_⟩) (by assumption) ?_
 ·(try dsimp only at hSw); go_simp <;> (try rfl)
 simp only [Act.put, sq1, sq2, sq3]
 refine wpAnyH_ready (rs := [1]) (by kernel_rfl) (by simp) ?_
 refine AllReadyH.cons rfl (fun K hK => ?_) AllReadyH.nil
 go_simp
 refine (isnone_nil w.drew).mono ?_
 rintro e w3 ⟨rfl, hw9⟩; subst hw9
 go_wp2_with fail
 refine hK.out _ _ hHeld (fun hHeld1 => ?_)
 clear hHeld hK K
 have hHeld := hHeld1
 clear hHeld1
 refine tkq (i := 2) (d := 5) (v := (.bool false)) rfl rfl (Or.inl ⟨by kernel_rfl, fun w hSw => ?_⟩) (by assumption) ?_
 ·(try dsimp only at hSw); go_simp <;> (try rfl)
 simp only [Act.put, sq1, sq2, sq3]
 refine tkq (i := 3) (d := 6) (v := (.bool false)) rfl rfl (Or.inl ⟨by kernel_rfl, fun w hSw => ?_⟩) (by assumption) ?_
 ·(try dsimp only at hSw); go_simp <;> (try rfl)
 simp only [Act.put, sq1, sq2, sq3]
 refine tkv (i := 4) (d := 7) rfl rfl (by assumption) ?_
 simp only [Act.put, sq1, sq2, sq3]
 refine tkv (i := 5) (d := 8) rfl rfl (by assumption) ?_
 simp only [Act.put, sq1, sq2, sq3]
 refine tkv (i := 6) (d := 9) rfl rfl (by assumption) ?_
 simp only [Act.put, sq1, sq2, sq3]
 refine tkv (i := 7) (d := 10) rfl rfl (by assumption) ?_
 simp only [Act.put, sq1, sq2, sq3]
 refine tkq (i := 8) (d := 11) (v := (.bool false)) rfl rfl (Or.inl ⟨by kernel_rfl, fun w hSw => ?_⟩) (by assumption) ?_
 ·(try dsimp only at hSw); go_simp <;> (try rfl)
 simp only [Act.put, sq1, sq2, sq3]
 refine tkq (i := 9) (d := 12) (v := (.bool false)) rfl rfl (Or.inl ⟨by kernel_rfl, fun w hSw => ?_⟩) (by assumption) ?_
 ·(try dsimp only at hSw); go_simp <;> (try rfl)
 simp only [Act.put, sq1, sq2, sq3]
 refine tkv (i := 10) (d := 13) rfl rfl (by assumption) ?_
 simp only [Act.put, sq1, sq2, sq3]
 refine tkv (i := 11) (d := 14) rfl rfl (by assumption) ?_
 simp only [Act.put, sq1, sq2, sq3]
 refine tkv (i := 12) (d := 15) rfl rfl (by assumption) ?_
 simp only [Act.put, sq1, sq2, sq3]
 refine tkv (i := 13) (d := 16) rfl rfl (by assumption) ?_
 simp only [Act.put, sq1, sq2, sq3]
 refine tkv (i := 14) (d := 17) rfl rfl (by assumption) ?_
 simp only [Act.put, sq1, sq2, sq3]
 refine tkv (i := 15) (d := 18) rfl rfl (by assumption) ?_
 simp only [Act.put, sq1, sq2, sq3]
 refine tkv (i := 16) (d := 19) rfl rfl (by assumption) ?_
 simp only [Act.put, sq1, sq2, sq3]
 refine tkv (i := 17) (d := 20) rfl rfl (by assumption) ?_
 simp only [Act.put, sq1, sq2, sq3]
 refine tkv (i := 18) (d := 21) rfl rfl (by assumption) ?_
 simp only [Act.put, sq1, sq2, sq3]
 refine tkv (i := 19) (d := 22) rfl rfl (by assumption) ?_
 simp only [Act.put, sq1, sq2, sq3]
 refine tkv (i := 20) (d := 23) rfl rfl (by assumption) ?_
 simp only [Act.put, sq1, sq2, sq3]
 refine tkv (i := 21) (d := 24) rfl rfl (by assumption) ?_
 simp only [Act.put, sq1, sq2, sq3]
 refine tkv (i := 22) (d := 25) rfl rfl (by assumption) ?_
 simp only [Act.put, sq1, sq2, sq3]
 refine tkv (i := 23) (d := 26) rfl rfl (by assumption) ?_
 simp only [Act.put, sq1, sq2, sq3]
 refine tkv (i := 24) (d := 27) rfl rfl (by assumption) ?_
 simp only [Act.put, sq1, sq2, sq3]
 refine tkq (i := 25) (d := 28) (v := (.bool false)) rfl rfl (Or.inl ⟨by kernel_rfl, fun w hSw => ?_⟩) (by assumption) ?_
 ·(try dsimp only at hSw); go_simp <;> (try rfl)
 simp only [Act.put, sq1, sq2, sq3]
 refine tkq (i := 26) (d := 2) (v := (.bool false)) rfl rfl (Or.inl ⟨by kernel_rfl, fun w hSw => ?_⟩) (by assumption) ?_
 ·(try dsimp only at hSw); go_simp <;> (try rfl)
 simp only [Act.put, sq1, sq2, sq3]
 refine wpAnyH_done (by kernel_rfl) ?_ _
 go_wp2
 go_ret
 exact ⟨rfl, (Below.refl _ w).drew⟩

end Go.Proofs.Ytkpgjcahmpekbaa
