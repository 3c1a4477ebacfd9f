/-
  Joined: SlA.
-/
import Derived.Test.YtponmfkddglopaaWV15
import Derived.Test.YtponmfkddglopaaWVT
namespace Go.Proofs.Ytponmfkddglopaa
open Go.RowKit

set_option maxHeartbeats 16000000 in
set_option maxRecDepth 100000 in
theorem rprepare_any_ (s : Slt) (who : Int) (d : List UInt8) (R : Nat) (bv cv : Value) (A : Option Addr) (k c : Nat) (w : World) (hR : Blk w R 57 (slC s bv (.slice A k c) cv)) (h : WdIn w A k s.pr) (hk : k ≤ 100000) (hs : s.dg.length = 32) (hd : d.length = 32) :
  Calls Try.prog 15 #[.pointer (some ⟨R, 0, none⟩), .int .i64 who, .agg (vs d).toArray] w fun e w' => ∃ (A2 : Option Addr) (n2 c2 : Nat) (w1 : World), e = .returned (.int .i64 (prepS s who d).2) ∧ Blk w' R 57 (slC (prepS s who d).1 bv (.slice A2 n2 c2) cv) ∧ Below w.heap.size w w1 ∧ w1.grownBy w' (some R) ∧ ((prepS s who d).2 ≠ 0 ∧ A2 = A ∧ n2 = k ∧ c2 = c ∨ (prepS s who d).2 = 0 ∧ OWd w1 w.heap.size (.slice A2 n2 c2) (s.pr ++ [(who, d)])) := by
 have HI : Hid (WdIn (w.alloc (.cells (vs d).toArray 40)) A k s.pr) := Lib.hid (h.through (below1_ w _))
 have HKk := Lib.hid hk
 have HSd := Lib.hid hs
 have HDd := Lib.hid hd
 have HVd : Hid ((vs d).length = 32) := Lib.hid (by simpa [vs] using hd)
 have HR0 : Hid (Blk (w.alloc (.cells (vs d).toArray 40)) R 57 (slC s bv (.slice A k c) cv)) := Lib.hid (hR.through (below1_ w _))
 have HD0 : Hid (Blk (w.alloc (.cells (vs d).toArray 40)) w.heap.size 40 (vs d)) := Lib.hid (Blk.fresh rfl rfl)
 clear h hk hs hd hR
 go_enter Try.func15, Try.ntmps15
 go_upto_region 1 with (fail)
 refine wp_region_held_drew (S := fun W => Below (w.alloc (.cells (vs d).toArray 40)).heap.size (w.alloc (.cells (vs d).toArray 40)) W) (by kernel_rfl) (Below.refl _ (w.alloc (.cells (vs d).toArray 40))).drew (fun hHeld => ?_)
 change wpAnyH _ _ _ _ _ _ #[false, false, false, false, false, false, false, false, false, false, false, false, false] _ _
 refine tkq (i := 0) (d := 10) (v := (.pointer (some ⟨R, 0, none⟩))) rfl rfl (Or.inl ⟨by kernel_rfl, fun w hSw => ?_⟩) (by assumption) ?_
 ·(try dsimp only at hSw); go_simp <;> (try rfl)
 simp only [Act.put, sq1, sq2, sq3]
 refine tkq (i := 1) (d := 11) (v := (.pointer (some ⟨R, 0, none⟩))) rfl rfl (Or.inl ⟨by kernel_rfl, fun w hSw => ?_⟩) (by assumption) ?_
 ·(try dsimp only at hSw); go_simp <;> (try rfl)
 simp only [Act.put, sq1, sq2, sq3]
 refine tkq (i := 2) (d := 12) (v := (.pointer (some ⟨R, 0, none⟩))) rfl rfl (Or.inl ⟨by kernel_rfl, fun w hSw => ?_⟩) (by assumption) ?_
 ·(try dsimp only at hSw); go_simp <;> (try rfl)
 simp only [Act.put, sq1, sq2, sq3]
 refine tkq (i := 3) (d := 13) (v := (.pointer (some ⟨R, 35, none⟩))) rfl rfl (Or.inl ⟨by kernel_rfl, fun w hSw => ?_⟩) (by assumption) ?_
 ·(try dsimp only at hSw); go_simp <;> (try rfl)
 simp only [Act.put, sq1, sq2, sq3]
 refine tkq (i := 4) (d := 14) (v := (.slice A k c)) rfl rfl (yields_load_at (by kernel_rfl) 55 (.tmp 13) rfl (.pointer (some ⟨R, 35, none⟩)) (by simp [Act.eval]) (.slice A k c) (fun W hW => load_one' (Try.agg_wds W) ((HR0.out.through hW).cellAt (i := 35) (slC_p _ _ _ _ HSd.out)))) (by assumption) ?_
 simp only [Act.put, sq1, sq2, sq3]
 refine tkq (i := 5) (d := 15) (v := (.int .i64 who)) rfl rfl (Or.inl ⟨by kernel_rfl, fun w hSw => ?_⟩) (by assumption) ?_
 ·(try dsimp only at hSw); go_simp <;> (try rfl)
 simp only [Act.put, sq1, sq2, sq3]
 refine tkq (i := 6) (d := 16) (v := (.agg (vs d).toArray)) rfl rfl (yieldsIf_load_mid (by kernel_rfl) 40 (.tmp 5) rfl w.heap.size 0 (by simp [Act.eval]) (vs d) _ (fun W hW => Blk.range (pre := []) (post := []) (by simpa using HD0.out.through hW)) Try.underlying40 rfl (by rw [HVd.out]; kernel_rfl)) (by assumption) ?_
 simp only [Act.put, sq1, sq2, sq3]
 refine wpAnyH_ready (rs := [7]) (by kernel_rfl) (by simp) ?_
 refine AllReadyH.cons rfl (fun K hK => ?_) AllReadyH.nil
 go_simp
 refine ((rvote_any_ s.pr s.n who d R _ A k c _ (HI.out.through hHeld) HKk.out HDd.out (HR0.out.through hHeld))).mono ?_
 rintro e w1 ⟨A2, n2, c2, rfl, hb1, ho1⟩; have HX1 := Lib.hid (below_step hHeld hb1); have HR1 := Lib.hid ((HR0.out.through hHeld).through hb1); have HS1 := Lib.hid hHeld.size; have HO1 := Lib.hid ho1; clear hb1 ho1
 go_wp2_with fail
 refine hK.out _ _ HX1.out (fun hHeld1 => ?_)
 clear hHeld hK K
 have hHeld := hHeld1
 clear hHeld1
 refine tkq (i := 8) (d := 9) (v := (.tuple #[.slice A2 n2 c2, .int .i64 (voteE s.n s.pr who d)])) rfl rfl (Or.inl ⟨by kernel_rfl, fun w hSw => ?_⟩) (by assumption) ?_
 ·(try dsimp only at hSw); go_simp <;> (try rfl)
 simp only [Act.put, sq1, sq2, sq3]
 refine tkq (i := 9) (d := 18) (v := (.slice A2 n2 c2)) rfl rfl (Or.inl ⟨by kernel_rfl, fun w hSw => ?_⟩) (by assumption) ?_
 ·(try dsimp only at hSw); go_simp <;> (try rfl)
 simp only [Act.put, sq1, sq2, sq3]
 refine tkq (i := 10) (d := 19) (v := (.int .i64 (voteE s.n s.pr who d))) rfl rfl (Or.inl ⟨by kernel_rfl, fun w hSw => ?_⟩) (by assumption) ?_
 ·(try dsimp only at hSw); go_simp <;> (try rfl)
 simp only [Act.put, sq1, sq2, sq3]
 refine tkq (i := 11) (d := 7) (v := (.slice A2 n2 c2)) rfl rfl (Or.inl ⟨by kernel_rfl, fun w hSw => ?_⟩) (by assumption) ?_
 ·(try dsimp only at hSw); go_simp <;> (try rfl)
 simp only [Act.put, sq1, sq2, sq3]
 refine tkq (i := 12) (d := 8) (v := (.int .i64 (voteE s.n s.pr who d))) rfl rfl (Or.inl ⟨by kernel_rfl, fun w hSw => ?_⟩) (by assumption) ?_
 ·(try dsimp only at hSw); go_simp <;> (try rfl)
 simp only [Act.put, sq1, sq2, sq3]
 refine wpAnyH_done (by kernel_rfl) ?_ _
 go_wp2_with (first
  | (refine wpList_store_cell rfl 55 (.tmp 23) (.tmp 21) rfl R 35 rfl (.slice A2 n2 c2) rfl rfl rfl Try.sz_wds 57 (slC s bv (.slice A k c) cv) HR1.out (by rw [slC_len _ _ _ _ HSd.out]; omega) ?_; intro w2 hb2 hg2; rw [slC_setP _ _ _ _ _ (voteW s.n s.pr who d) HSd.out] at hb2; have HB2 := Lib.hid hb2; have HG2 := Lib.hid hg2; clear hb2 hg2))
 go_ret
 exact ⟨A2, n2, c2, w1, rfl, HB2.out, below_step (below1_ w _) HX1.out, HG2.out, HO1.out.elim (fun h9 => .inl h9) (fun h9 => .inr ⟨h9.1, h9.2.weak (by simp)⟩)⟩

end Go.Proofs.Ytponmfkddglopaa
