/-
  Joined: SwD.
-/
import Derived.Test.YtkpgjcahmpekbaaSS43
import Derived.Test.YtkpgjcahmpekbaaSS31
import Derived.Test.YtkpgjcahmpekbaaSST
namespace Go.Proofs.Ytkpgjcahmpekbaa
open Go.RowKit

theorem results_cell_row_tmp2 {P : Program} {fn : Func} {p u v : Tmp} {ty : TypeId} (h : fn.results = #[.cell p ty, .tmp u, .tmp v]) (tmps : Array Value) (w : World) (g : Nat) (t : TypeId) (cs : Array Value) (fr : Nat × Nat) (d : TypeDesc)
  (hp : tmps.getD p undef = .pointer (some ⟨g, 0, none⟩)) (hg : w.heap[g]? = some (.cells cs t fr))
  (hu : P.underlying ty = some d) (hd : (match d with | .struct _ | .array _ _ => true | _ => false) = true) (hi : (P.info? ty).map (·.size) = some cs.size) :
  (results fn tmps).run P w = .ok (.tuple #[.agg cs, tmps.getD u undef, tmps.getD v undef]) w := by
 have hp' : tmps[p]?.getD undef = .pointer (some ⟨g, 0, none⟩) := by simpa using hp
 simp [results, h, hp', asAddr, run_loadVar_row w g t ty cs fr d hg hu hd hi]
theorem Try.bld_slot (n : Int) (a b : Option Addr) (w : World) : (Instr.build 123 #[(0, .int .i64 n), (4, .pointer a), (5, .pointer b)]).run Try.prog w = .ok (.agg (slC (Slt.no n) (.slice none 0 0) (.pointer a) (.pointer b)).toArray) w := by kernel_rfl
set_option maxHeartbeats 16000000 in
set_option maxRecDepth 100000 in
theorem clone_ey (es : List Ey) (A : Option Addr) (n c : Nat) (w : World) (h : EysIn w A n es) (hn : n ≤ 1000000) :
  Calls Try.prog 70 #[.slice A n c] w fun e w' => ∃ A2 n2 c2, e = .returned (.slice A2 n2 c2) ∧ OEy w' w.heap.size (.slice A2 n2 c2) es ∧ Below w.heap.size w w' := by
 have q22 : ∀ (w : World) (a : Option Addr) (n c n' c' : Nat), (binOp .eql 68 (.slice a n c) (.slice none n' c')).run Try.prog w = .ok (.bool a.isNone) w := fun w a n c n' c' => Lib.run_eql_slice_nil w _ _ a n c n' c' Try.underlying68
 rcases A with _ | ad
 ·obtain rfl : n = 0 := by
   rcases Nat.eq_zero_or_pos n with h0 | h0
   ·exact h0
   ·obtain ⟨_, _, h, _⟩ := h.1.2 h0
    cases h
  obtain rfl : es = [] := List.eq_nil_of_length_eq_zero h.len
  clear h
  go_enter Try.func70, Try.ntmps70
  go_wp2
  go_ret
  exact ⟨none, 0, 0, rfl, OEy.nil _ _, Below.refl _ _⟩
 ·have HI := Lib.hid h.1
  have HL := Lib.hid h.len
  have HM := Lib.hid h.2
  have HWl : Hid (∀ y ∈ es.map Ey.cells, y.length = 8) := Lib.hid (fun y hy => by obtain ⟨x, _, rfl⟩ := List.mem_map.1 hy; rfl)
  have HWo : Hid (∀ y ∈ es.map Ey.cells, ∀ u ∈ y, u.oneCell' = true) := Lib.hid (fun y hy => by obtain ⟨x, _, rfl⟩ := List.mem_map.1 hy; exact x.one)
  have hmk := Try.empty_ey w.heap.size w rfl
  clear h
  go_enter Try.func70, Try.ntmps70
  go_wp2_with (at_builtin; (refine wpList_append_sl rfl Try.el_ey (.tmp 5) (.tmp 6) rfl w.heap.size (.slice (some ⟨w.heap.size, 0, none⟩) 0 0) [] rfl (osMade w 129 8) (some ad) n c (es.map Ey.cells) rfl (HI.out.alloc _) HWl.out HWo.out (by have := HL.out; simp; omega) (by simp) ?_); intro v' w1 ho hg; have HO := Lib.hid ho; have HX : Hid (Below w.heap.size w w1) := Lib.hid ((below1_ w _).grown hg (by simp) (fun q hq => by simp [Value.ownBlock] at hq; omega)); clear ho hg)
  obtain ⟨A7, c7, rfl, _, _, _⟩ := HO.out.out
  go_ret
  exact ⟨A7, _, c7, rfl, ⟨by simpa using HO.out, HM.out⟩, HX.out⟩
set_option maxHeartbeats 16000000 in
set_option maxRecDepth 100000 in
theorem new_sw (n : Int) (w : World) (h1 : 1 ≤ n) (h7 : n ≤ 7) :
  Calls Try.prog 37 #[.int .i64 n] w fun e w' => ∃ R gp pv pc gm mv mc, e = .returned (.pointer (some ⟨R, 0, none⟩)) ∧ SwR w' R gp pv pc gm mv mc (.slice none 0 0) (Slt.no n) ∧ Below w.heap.size w w' ∧ ∀ q, DS R gp pv pc gm mv mc (.slice none 0 0) q → w.heap.size ≤ q := by
 go_enter Try.func37, Try.ntmps37
 go_wp2_with (first
  | (go_at_call 68; (with_reducible refine (new_D w).mono ?_); rintro e w1 ⟨gp, pv, pc, rfl, h9, hb9, hq9⟩; have HP1 := Lib.hid h9; have HX1 := Lib.hid hb9; have HQ1 := Lib.hid hq9; clear h9 hb9 hq9)
  | (go_at_call 68; (with_reducible refine (new_D w1).mono ?_); rintro e w2 ⟨gm, mv, mc, rfl, h9, hb9, hq9⟩; have HM2 := Lib.hid h9; have HX2 := Lib.hid hb9; have HQ2 := Lib.hid hq9; have HP2 := Lib.hid (HP1.out.through hb9); clear h9 hb9 hq9)
  | (refine wpList_build_to rfl 123 _ rfl [(0, .int .i64 n), (4, .pointer (some ⟨gp, 0, none⟩)), (5, .pointer (some ⟨gm, 0, none⟩))] rfl (.agg (slC (Slt.no n) (.slice none 0 0) (.pointer (some ⟨gp, 0, none⟩)) (.pointer (some ⟨gm, 0, none⟩))).toArray) (Try.bld_slot n _ _ _) ?_))
 go_ret
 have x3 := below1_ w2 (.cells (slC (Slt.no n) (.slice none 0 0) (.pointer (some ⟨gp, 0, none⟩)) (.pointer (some ⟨gm, 0, none⟩))).toArray 123)
 have s1 := HX1.out.size
 have s2 := HX2.out.size
 refine ⟨w2.heap.size, gp, pv, pc, gm, mv, mc, rfl, ⟨Blk.fresh rfl rfl, HP2.out.through x3, HM2.out.through x3, OEy.nil _ _, rfl, fun q ha hb => ?_, fun q hq => by simp [Value.ownBlock] at hq⟩, below_step (below_step HX1.out HX2.out) x3, ?_⟩
 ·have := HP1.out.lt q ha
  have := HQ2.out q hb
  omega
 ·rintro q (rfl | hq | hq | hq)
  ·omega
  ·exact HQ1.out q hq
  ·have := HQ2.out q hq; omega
  ·simp [Value.ownBlock] at hq
set_option maxHeartbeats 16000000 in
set_option maxRecDepth 100000 in
theorem new_sw_none (n : Int) (w : World) (h : n < 1 ∨ 7 < n) : Calls Try.prog 37 #[.int .i64 n] w fun e w' => e = .returned (.pointer none) ∧ Below w.heap.size w w' := by
 by_cases h1 : n < 1
 ·go_enter Try.func37, Try.ntmps37
  go_wp2
  go_ret
  exact ⟨rfl, Below.refl _ w⟩
 ·have h2 : 7 < n := by omega
  go_enter Try.func37, Try.ntmps37
  go_wp2
  go_ret
  exact ⟨rfl, Below.refl _ w⟩
set_option maxHeartbeats 16000000 in
set_option maxRecDepth 100000 in
theorem proposal_sw {w : World} {R gp pv pc gm mv mc : Nat} {bv : Value} {s : Slt} (h : SwR w R gp pv pc gm mv mc bv s) (hl : SlLow s) :
  Calls Try.prog 38 #[(.pointer (some ⟨R, 0, none⟩))] w fun e w' => ∃ d E k c, e = .returned (.tuple #[.agg (vs d).toArray, .slice E k c, .bool s.has]) ∧ d.length = 32 ∧ (s.has = true → d = s.dg ∧ EysIn w' E k s.es) ∧ Below w.heap.size w w' := by
 have hz : ∀ W, (zeroValue 27).run Try.prog W = .ok (.agg (vs dgZ).toArray) W := fun W => Try.zero_d W
 have HZl : Hid ((vs dgZ).length = 32) := Lib.hid (D_len _ D_okz)
 obtain ⟨A, n, c, rfl, hnc, hcm, he, _⟩ := h.bat.out
 have hnl := he.len
 have HNn : Hid (n ≤ 1000000) := Lib.hid (by have := hl.es; omega)
 have HSd := Lib.hid h.dg
 have HVs : Hid ((vs s.dg).length = 32) := Lib.hid (D_len _ h.dg)
 have HN1 := Lib.hid hl.n1
 have HB := Lib.hid h.box
 have HE := Lib.hid he
 have HZ : Hid (Blk (w.alloc (.cells (vs dgZ).toArray 27)) w.heap.size 27 (vs dgZ)) := Lib.hid (Blk.fresh rfl rfl)
 have HX2 := Lib.hid (below1_ w (.cells (vs dgZ).toArray 27))
 have HB2 := Lib.hid (HB.out.through HX2.out)
 clear h hl he hnc hcm hnl
 go_enter Try.func38, Try.ntmps38
 go_upto_region 3 with (go_at_call 69; (with_reducible refine (isnone_sl R s _ _ _ _ HB2.out HN1.out).mono ?_); rintro e w9 ⟨rfl, hw9⟩; subst hw9)
 refine wp_region_held_drew (S := fun W => Below w.heap.size w W) (by kernel_rfl) (HX2.out.trans (Below.refl _ _).drew) (fun hHeld => ?_)
 change wpAnyH _ _ _ _ _ _ #[false, false, false, false, false, false, false, false, false, false, false, false, false, false, false, false] _ _
 refine tkq (i := 0) (d := 8) (v := (.pointer (some ⟨R, 0, none⟩))) rfl rfl (Or.inl ⟨by kernel_rfl, fun w hSw => ?_⟩) (by assumption) ?_
 ·(try dsimp only at hSw); go_simp <;> (try rfl)
 simp only [Act.put, sq1, sq2, sq3]
 refine tkq (i := 1) (d := 9) (v := (.pointer (some ⟨R, 0, none⟩))) rfl rfl (Or.inl ⟨by kernel_rfl, fun w hSw => ?_⟩) (by assumption) ?_
 ·(try dsimp only at hSw); go_simp <;> (try rfl)
 simp only [Act.put, sq1, sq2, sq3]
 refine tkq (i := 2) (d := 10) (v := (.pointer (some ⟨R, 2, none⟩))) rfl rfl (Or.inl ⟨by kernel_rfl, fun w hSw => ?_⟩) (by assumption) ?_
 ·(try dsimp only at hSw); go_simp <;> (try rfl)
 simp only [Act.put, sq1, sq2, sq3]
 refine tkq (i := 3) (d := 11) (v := (.agg (vs s.dg).toArray)) rfl rfl (yieldsIf_load_mid (by kernel_rfl) 27 (.tmp 10) rfl R 2 (by simp [Act.eval]) (vs s.dg) _ (fun W hW => slC_dgP _ _ _ _ _ _ (HB.out.through hW)) Try.underlying27 rfl (by rw [HVs.out]; kernel_rfl)) (by assumption) ?_
 simp only [Act.put, sq1, sq2, sq3]
 refine tkq (i := 4) (d := 12) (v := (.pointer (some ⟨R, 0, none⟩))) rfl rfl (Or.inl ⟨by kernel_rfl, fun w hSw => ?_⟩) (by assumption) ?_
 ·(try dsimp only at hSw); go_simp <;> (try rfl)
 simp only [Act.put, sq1, sq2, sq3]
 refine tkq (i := 5) (d := 13) (v := (.pointer (some ⟨R, 0, none⟩))) rfl rfl (Or.inl ⟨by kernel_rfl, fun w hSw => ?_⟩) (by assumption) ?_
 ·(try dsimp only at hSw); go_simp <;> (try rfl)
 simp only [Act.put, sq1, sq2, sq3]
 refine tkq (i := 6) (d := 14) (v := (.pointer (some ⟨R, 34, none⟩))) rfl rfl (Or.inl ⟨by kernel_rfl, fun w hSw => ?_⟩) (by assumption) ?_
 ·(try dsimp only at hSw); go_simp <;> (try rfl)
 simp only [Act.put, sq1, sq2, sq3]
 refine tkq (i := 7) (d := 15) (v := (.slice A n c)) rfl rfl (yields_load_at (by kernel_rfl) 68 (.tmp 14) rfl (.pointer (some ⟨R, 34, none⟩)) (by simp [Act.eval]) (.slice A n c) (fun W hW => load_one' (Try.agg_eys20 W) (Blk.cellAt (i := 34) (HB.out.through hW) (slC_b _ _ _ _ HSd.out)))) (by assumption) ?_
 simp only [Act.put, sq1, sq2, sq3]
 refine tkq (i := 9) (d := 17) (v := (.pointer (some ⟨R, 0, none⟩))) rfl rfl (Or.inl ⟨by kernel_rfl, fun w hSw => ?_⟩) (by assumption) ?_
 ·(try dsimp only at hSw); go_simp <;> (try rfl)
 simp only [Act.put, sq1, sq2, sq3]
 refine tkq (i := 10) (d := 18) (v := (.pointer (some ⟨R, 0, none⟩))) rfl rfl (Or.inl ⟨by kernel_rfl, fun w hSw => ?_⟩) (by assumption) ?_
 ·(try dsimp only at hSw); go_simp <;> (try rfl)
 simp only [Act.put, sq1, sq2, sq3]
 refine tkq (i := 11) (d := 19) (v := (.pointer (some ⟨R, 1, none⟩))) rfl rfl (Or.inl ⟨by kernel_rfl, fun w hSw => ?_⟩) (by assumption) ?_
 ·(try dsimp only at hSw); go_simp <;> (try rfl)
 simp only [Act.put, sq1, sq2, sq3]
 refine tkq (i := 12) (d := 20) (v := (.bool s.has)) rfl rfl (yields_load_at (by kernel_rfl) 4 (.tmp 19) rfl (.pointer (some ⟨R, 1, none⟩)) (by simp [Act.eval]) (.bool s.has) (fun W hW => load_one' (Try.agg_bool20 W) (Blk.cellAt (i := 1) (HB.out.through hW) (rfl)))) (by assumption) ?_
 simp only [Act.put, sq1, sq2, sq3]
 refine wpAnyH_ready (rs := [8]) (by kernel_rfl) (by simp) ?_
 refine AllReadyH.cons rfl (fun K hK => ?_) AllReadyH.nil
 go_simp
 refine (clone_ey s.es A n c _ (HE.out.through (hHeld)) HNn.out).mono ?_
 rintro e w3 ⟨A2, n2, c2, rfl, ho9, hb9⟩; have HX3 : Hid (Below w.heap.size w w3) := Lib.hid (below_step hHeld hb9); have HO3 := Lib.hid ho9; have HB3 : Hid (Blk w3 w.heap.size 27 (vs dgZ)) := Lib.hid (Blk.through (w := (w.alloc (.cells (vs dgZ).toArray 27)).drew) HZ.out.drew hb9); clear ho9 hb9
 go_wp2_with fail
 refine hK.out _ _ HX3.out (fun hHeld1 => ?_)
 clear hHeld hK K
 have hHeld := hHeld1
 clear hHeld1
 refine wpAnyH_ready (rs := [13]) (by kernel_rfl) (by simp) ?_
 refine AllReadyH.cons (o := ⟨none, .store 27 (.tmp 2) (.tmp 11), _, _, _, none⟩) rfl (fun K hK => ?_) AllReadyH.nil
 refine step_store_blk rfl 27 (.tmp 2) (.tmp 11) rfl w.heap.size (vs s.dg) (by simp [Act.eval]) rfl 27 (vs dgZ) HB3.out (by rw [HVs.out]; kernel_rfl) (HZl.out.trans HVs.out.symm) (D_one s.dg) ?_; intro w4 hb9 hg9; have HB4 := Lib.hid hb9; have HX4 : Hid (Below w.heap.size w w4) := Lib.hid (HX3.out.grown hg9 HX3.out.size (fun b hb => by have := Option.some.inj hb; omega)); have HO4 : Hid (OEy w4 (w.heap.size + 1) (.slice A2 n2 c2) s.es) := Lib.hid ⟨(HO3.out.1.weak (by simp)).far hg9 (by omega), HO3.out.2⟩; clear hb9 hg9
 refine hK.out _ _ HX4.out (fun hHeld1 => ?_)
 clear hHeld hK K
 have hHeld := hHeld1
 clear hHeld1
 change wpAnyH _ _ _ _ _ _ _ (Act.put _ none undef) _
 simp only [Act.put]
 refine tkq (i := 14) (d := 3) (v := (.slice A2 n2 c2)) rfl rfl (Or.inl ⟨by kernel_rfl, fun w hSw => ?_⟩) (by assumption) ?_
 ·(try dsimp only at hSw); go_simp <;> (try rfl)
 simp only [Act.put, sq1, sq2, sq3]
 refine tkq (i := 15) (d := 4) (v := (.bool s.has)) rfl rfl (Or.inl ⟨by kernel_rfl, fun w hSw => ?_⟩) (by assumption) ?_
 ·(try dsimp only at hSw); go_simp <;> (try rfl)
 simp only [Act.put, sq1, sq2, sq3]
 refine wpAnyH_done (by kernel_rfl) ?_ _
 go_wp2
 (try simp only [Exit.inBlock, Exit.then]); refine bodyPost_ret (results_cell_row_tmp2 rfl _ _ w.heap.size 27 _ (0, 0) _ rfl HB4.out Try.underlying27 rfl (by rw [List.size_toArray, HVs.out]; kernel_rfl)) rfl ?_
 obtain ⟨A9, n9, c9, e9, _, _, he9, _⟩ := HO4.out.out
 obtain ⟨rfl, rfl, rfl⟩ := Value.slice.inj e9
 exact ⟨s.dg, A2, n2, c2, rfl, HSd.out, fun _ => ⟨rfl, he9⟩, HX4.out⟩

end Go.Proofs.Ytkpgjcahmpekbaa
