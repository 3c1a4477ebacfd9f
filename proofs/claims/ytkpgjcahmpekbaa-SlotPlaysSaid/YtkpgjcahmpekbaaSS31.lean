/-
  Joined: SlF.
-/
import Derived.Deep.RegionHeld
import Derived.Deep.CutBlock
import Derived.Test.YtkpgjcahmpekbaaSS23
import Derived.Test.YtkpgjcahmpekbaaSS11
import Derived.Test.YtkpgjcahmpekbaaSST
namespace Go.Proofs.Ytkpgjcahmpekbaa
open Go.RowKit

theorem Try.empty_ey (g : Nat) (w : World) (hg : w.heap.size = g) : (Instr.buildSlice 68 0 #[]).run Try.prog w = .ok (.slice (some ⟨g, 0, none⟩) 0 0) (w.alloc (.cells #[] 129)) := by
 subst hg
 kernel_rfl
theorem Try.sz_bo (w : World) : (sizeOf 4).run Try.prog w = .ok 1 w := by kernel_rfl
theorem Try.sz_eys (w : World) : (sizeOf 68).run Try.prog w = .ok 1 w := by kernel_rfl
theorem vs_one_ (d : List UInt8) : (vs d).toArray.all (·.oneCell') = true := Array.all_eq_true_iff_forall_mem.2 (fun u hu => by
 simp only [List.mem_toArray, vs, List.mem_map] at hu
 obtain ⟨b, _, rfl⟩ := hu
 rfl)
theorem step_store_in_ {P : Program} {w : World} {ops : Array Oper} {o : Oper} {a : Act} {K : Act → World → Prop} {Q : Exit → Act → World → Prop} {F : Prop} (hw : Region.wanted o (yielded ops a.tmps) = true) (ty : TypeId) (x y : Operand) (ho : o.op = .store ty x y)
  (g i : Nat) (cells : List Value) (hx : a.eval x = .pointer (some ⟨g, i, none⟩)) (hy : a.eval y = .agg cells.toArray) (t : TypeId) (pre old post : List Value) (hg : Blk w g t (pre ++ (old ++ post))) (hp : i = pre.length) (hi : (P.info? ty).map (·.size) = some cells.length)
  (hold : old.length = cells.length) (h1 : cells.toArray.all (·.oneCell') = true)
  (h : ∀ w', Blk w' g t (pre ++ (cells ++ post)) → w.grownBy w' (some g) → K (a.put o.dst undef) w') : if Region.wanted o (yielded ops a.tmps) = true then Oper.wp P o a w K Q else F := by
 rw [if_pos hw]
 subst hp
 have hth : w.there g pre.length cells.toArray.size := fun j hj => ⟨by
  have hj' : j < cells.length := by simpa using hj
  rw [hg.cell]
  have : pre.length + j < (pre ++ (old ++ post)).length := by simp; omega
  simp [List.getElem?_eq_getElem this], hg.frozen _⟩
 exact wp_store_mid ty x y ho g pre.length cells.toArray hx hy hth (by simpa using hi) h1 (h _ (by simpa using Blk.cells (t := t) g cells pre old post w hold hg) (by simpa using only_cells g cells pre.length w))
set_option maxHeartbeats 16000000 in
set_option maxRecDepth 100000 in
theorem rpropose_any_ (s : Slt) (d : List UInt8) (es : List Ey) (R : Nat) (bv pv cv : Value) (E : Option Addr) (k c : Nat) (w : World) (hR : Blk w R 80 (slC s bv pv cv)) (h : EysIn w E k es) (hk : k ≤ 100000) (hs : s.dg.length = 32) (hd : d.length = 32) :
  Calls Try.prog 45 #[.pointer (some ⟨R, 0, none⟩), .agg (vs d).toArray, .slice E k c] w fun e w' => e = .returned (.int .i64 (propS s d es).2) ∧ ((propS s d es).2 ≠ 0 ∧ Below w.heap.size w w' ∨ (propS s d es).2 = 0 ∧ ∃ (A2 : Option Addr) (n2 c2 : Nat), Blk w' R 80 (slC (propS s d es).1 (.slice A2 n2 c2) pv cv) ∧ Os w' w.heap.size 129 8 (.slice A2 n2 c2) (es.map Ey.cells) ∧ w.grownBy w' (some R)) := by
 have HKk := Lib.hid hk
 have HSd := Lib.hid hs
 have HDd := Lib.hid hd
 have HVd : Hid ((vs d).length = 32) := Lib.hid (by simpa [vs] using hd)
 have HVs : Hid ((vs s.dg).length = 32) := Lib.hid (by simpa [vs] using hs)
 have HRl2 : Hid (R < w.heap.size) := Lib.hid hR.lt
 have HRl : Hid (R < (w.alloc (.cells (vs d).toArray 27)).heap.size) := Lib.hid (by have := hR.lt; simp; omega)
 have HR : Hid (Blk (w.alloc (.cells (vs d).toArray 27)) R 80 (slC s bv pv cv)) := Lib.hid (hR.through (below1_ w _))
 have HE : Hid (EysIn (w.alloc (.cells (vs d).toArray 27)) E k es) := Lib.hid (h.through (below1_ w _))
 have HD : Hid (Blk (w.alloc (.cells (vs d).toArray 27)) w.heap.size 27 (vs d)) := Lib.hid (Blk.fresh rfl rfl)
 have HWl : Hid (∀ y ∈ es.map Ey.cells, y.length = 8) := Lib.hid (fun y hy => by obtain ⟨x, _, rfl⟩ := List.mem_map.1 hy; rfl)
 have HWo : Hid (∀ y ∈ es.map Ey.cells, ∀ u ∈ y, u.oneCell' = true) := Lib.hid (fun y hy => by obtain ⟨x, _, rfl⟩ := List.mem_map.1 hy; exact x.one)
 have hxeq := fun (W : World) => eq_dgy s.dg d hs hd W
 clear h hk hs hd hR
 unfold propS
 cases hh : s.has with
 | true =>
  have HH := Lib.hid hh
  by_cases hg : s.dg = d
  ·rw [if_pos ⟨rfl, hg⟩]
   have hd2 : (s.dg == d) = true := by simpa using hg
   rw [hd2] at hxeq
   clear hd2 hg hh
   go_enter Try.func45, Try.ntmps45
   go_upto_region 1 with (fail)
   refine wp_region_held_drew (S := fun W => Below (w.alloc (.cells (vs d).toArray 27)).heap.size (w.alloc (.cells (vs d).toArray 27)) W) (by kernel_rfl) (Below.refl _ (w.alloc (.cells (vs d).toArray 27))).drew (fun hHeld => ?_)
   change wpAnyH _ _ _ _ _ _ #[false, false, false, false, false, false, false, false, false, false, false, false] _ _
   refine tkq (i := 0) (d := 7) (v := (.pointer (some ⟨R, 0, none⟩))) rfl rfl (Or.inl ⟨by kernel_rfl, fun w hSw => ?_⟩) (by assumption) ?_
   ·(try dsimp only at hSw); go_simp <;> (try rfl)
   simp only [Act.put, sq1, sq2, sq3]
   refine tkq (i := 1) (d := 8) (v := (.pointer (some ⟨R, 0, none⟩))) rfl rfl (Or.inl ⟨by kernel_rfl, fun w hSw => ?_⟩) (by assumption) ?_
   ·(try dsimp only at hSw); go_simp <;> (try rfl)
   simp only [Act.put, sq1, sq2, sq3]
   refine tkq (i := 2) (d := 9) (v := (.pointer (some ⟨R, 1, none⟩))) rfl rfl (Or.inl ⟨by kernel_rfl, fun w hSw => ?_⟩) (by assumption) ?_
   ·(try dsimp only at hSw); go_simp <;> (try rfl)
   simp only [Act.put, sq1, sq2, sq3]
   refine tkq (i := 3) (d := 10) (v := (.bool true)) rfl rfl (yields_load_at (by kernel_rfl) 4 (.tmp 9) rfl (.pointer (some ⟨R, 1, none⟩)) (by simp [Act.eval]) (.bool true) (fun W hW => load_one' (Try.agg_b21 W) ((HR.out.through hW).cellAt (i := 1) (by rw [slC, HH.out]; rfl)))) (by assumption) ?_
   simp only [Act.put, sq1, sq2, sq3]
   refine tkq (i := 4) (d := 11) (v := (.bool true)) rfl rfl (Or.inl ⟨by kernel_rfl, fun w hSw => ?_⟩) (by assumption) ?_
   ·(try dsimp only at hSw); go_simp <;> (try rfl)
   simp only [Act.put, sq1, sq2, sq3]
   refine tkq (i := 5) (d := 12) (v := (.pointer (some ⟨R, 0, none⟩))) rfl rfl (Or.inl ⟨by kernel_rfl, fun w hSw => ?_⟩) (by assumption) ?_
   ·(try dsimp only at hSw); go_simp <;> (try rfl)
   simp only [Act.put, sq1, sq2, sq3]
   refine tkq (i := 6) (d := 13) (v := (.pointer (some ⟨R, 0, none⟩))) rfl rfl (Or.inl ⟨by kernel_rfl, fun w hSw => ?_⟩) (by assumption) ?_
   ·(try dsimp only at hSw); go_simp <;> (try rfl)
   simp only [Act.put, sq1, sq2, sq3]
   refine tkq (i := 7) (d := 14) (v := (.pointer (some ⟨R, 2, none⟩))) rfl rfl (Or.inl ⟨by kernel_rfl, fun w hSw => ?_⟩) (by assumption) ?_
   ·(try dsimp only at hSw); go_simp <;> (try rfl)
   simp only [Act.put, sq1, sq2, sq3]
   refine tkq (i := 8) (d := 15) (v := (.agg (vs s.dg).toArray)) rfl rfl (yieldsIf_load_mid (by kernel_rfl) 27 (.tmp 14) rfl R 2 (by simp [Act.eval]) (vs s.dg) _ (fun W hW => rangeAt.through (slC_dg _ _ _ _ _ _ HR.out) hW) Try.underlying27 rfl (by rw [HVs.out]; kernel_rfl)) (by assumption) ?_
   simp only [Act.put, sq1, sq2, sq3]
   refine tkq (i := 9) (d := 16) (v := (.agg (vs d).toArray)) rfl rfl (yieldsIf_load_mid (by kernel_rfl) 27 (.tmp 4) rfl w.heap.size 0 (by simp [Act.eval]) (vs d) _ (fun W hW => Blk.range (pre := []) (post := []) (by simpa using HD.out.through hW)) Try.underlying27 rfl (by rw [HVd.out]; kernel_rfl)) (by assumption) ?_
   simp only [Act.put, sq1, sq2, sq3]
   refine tkq (i := 10) (d := 17) (v := (.bool true)) rfl rfl (Or.inl ⟨by kernel_rfl, fun w hSw => ?_⟩) (by assumption) ?_
   ·(try dsimp only at hSw); go_simp <;> (try rfl)
   simp only [Act.put, sq1, sq2, sq3]
   refine tkq (i := 11) (d := 18) (v := (.bool true)) rfl rfl (Or.inl ⟨by kernel_rfl, fun w hSw => ?_⟩) (by assumption) ?_
   ·(try dsimp only at hSw); go_simp <;> (try rfl)
   simp only [Act.put, sq1, sq2, sq3]
   refine wpAnyH_done (by kernel_rfl) ?_ _
   have HX := Lib.hid hHeld
   have k1 := (HR.out.through HX.out).cellAt (i := 1) (show (slC s bv pv cv)[1]? = some _ by rw [slC, HH.out]; rfl)
   clear hHeld
   go_wp2
   go_ret
   exact ⟨rfl, .inl ⟨by decide, below_step (below1_ w _) HX.out⟩⟩
  ·rw [if_neg (fun h9 => hg h9.2), if_pos rfl]
   have hd2 : (s.dg == d) = false := by simpa using hg
   rw [hd2] at hxeq
   clear hd2 hg hh
   go_enter Try.func45, Try.ntmps45
   go_upto_region 1 with (fail)
   refine wp_region_held_drew (S := fun W => Below (w.alloc (.cells (vs d).toArray 27)).heap.size (w.alloc (.cells (vs d).toArray 27)) W) (by kernel_rfl) (Below.refl _ (w.alloc (.cells (vs d).toArray 27))).drew (fun hHeld => ?_)
   change wpAnyH _ _ _ _ _ _ #[false, false, false, false, false, false, false, false, false, false, false, false] _ _
   refine tkq (i := 0) (d := 7) (v := (.pointer (some ⟨R, 0, none⟩))) rfl rfl (Or.inl ⟨by kernel_rfl, fun w hSw => ?_⟩) (by assumption) ?_
   ·(try dsimp only at hSw); go_simp <;> (try rfl)
   simp only [Act.put, sq1, sq2, sq3]
   refine tkq (i := 1) (d := 8) (v := (.pointer (some ⟨R, 0, none⟩))) rfl rfl (Or.inl ⟨by kernel_rfl, fun w hSw => ?_⟩) (by assumption) ?_
   ·(try dsimp only at hSw); go_simp <;> (try rfl)
   simp only [Act.put, sq1, sq2, sq3]
   refine tkq (i := 2) (d := 9) (v := (.pointer (some ⟨R, 1, none⟩))) rfl rfl (Or.inl ⟨by kernel_rfl, fun w hSw => ?_⟩) (by assumption) ?_
   ·(try dsimp only at hSw); go_simp <;> (try rfl)
   simp only [Act.put, sq1, sq2, sq3]
   refine tkq (i := 3) (d := 10) (v := (.bool true)) rfl rfl (yields_load_at (by kernel_rfl) 4 (.tmp 9) rfl (.pointer (some ⟨R, 1, none⟩)) (by simp [Act.eval]) (.bool true) (fun W hW => load_one' (Try.agg_b21 W) ((HR.out.through hW).cellAt (i := 1) (by rw [slC, HH.out]; rfl)))) (by assumption) ?_
   simp only [Act.put, sq1, sq2, sq3]
   refine tkq (i := 4) (d := 11) (v := (.bool true)) rfl rfl (Or.inl ⟨by kernel_rfl, fun w hSw => ?_⟩) (by assumption) ?_
   ·(try dsimp only at hSw); go_simp <;> (try rfl)
   simp only [Act.put, sq1, sq2, sq3]
   refine tkq (i := 5) (d := 12) (v := (.pointer (some ⟨R, 0, none⟩))) rfl rfl (Or.inl ⟨by kernel_rfl, fun w hSw => ?_⟩) (by assumption) ?_
   ·(try dsimp only at hSw); go_simp <;> (try rfl)
   simp only [Act.put, sq1, sq2, sq3]
   refine tkq (i := 6) (d := 13) (v := (.pointer (some ⟨R, 0, none⟩))) rfl rfl (Or.inl ⟨by kernel_rfl, fun w hSw => ?_⟩) (by assumption) ?_
   ·(try dsimp only at hSw); go_simp <;> (try rfl)
   simp only [Act.put, sq1, sq2, sq3]
   refine tkq (i := 7) (d := 14) (v := (.pointer (some ⟨R, 2, none⟩))) rfl rfl (Or.inl ⟨by kernel_rfl, fun w hSw => ?_⟩) (by assumption) ?_
   ·(try dsimp only at hSw); go_simp <;> (try rfl)
   simp only [Act.put, sq1, sq2, sq3]
   refine tkq (i := 8) (d := 15) (v := (.agg (vs s.dg).toArray)) rfl rfl (yieldsIf_load_mid (by kernel_rfl) 27 (.tmp 14) rfl R 2 (by simp [Act.eval]) (vs s.dg) _ (fun W hW => rangeAt.through (slC_dg _ _ _ _ _ _ HR.out) hW) Try.underlying27 rfl (by rw [HVs.out]; kernel_rfl)) (by assumption) ?_
   simp only [Act.put, sq1, sq2, sq3]
   refine tkq (i := 9) (d := 16) (v := (.agg (vs d).toArray)) rfl rfl (yieldsIf_load_mid (by kernel_rfl) 27 (.tmp 4) rfl w.heap.size 0 (by simp [Act.eval]) (vs d) _ (fun W hW => Blk.range (pre := []) (post := []) (by simpa using HD.out.through hW)) Try.underlying27 rfl (by rw [HVd.out]; kernel_rfl)) (by assumption) ?_
   simp only [Act.put, sq1, sq2, sq3]
   refine tkq (i := 10) (d := 17) (v := (.bool false)) rfl rfl (Or.inl ⟨by kernel_rfl, fun w hSw => ?_⟩) (by assumption) ?_
   ·(try dsimp only at hSw); go_simp <;> (try rfl)
   simp only [Act.put, sq1, sq2, sq3]
   refine tkq (i := 11) (d := 18) (v := (.bool false)) rfl rfl (Or.inl ⟨by kernel_rfl, fun w hSw => ?_⟩) (by assumption) ?_
   ·(try dsimp only at hSw); go_simp <;> (try rfl)
   simp only [Act.put, sq1, sq2, sq3]
   refine wpAnyH_done (by kernel_rfl) ?_ _
   have HX := Lib.hid hHeld
   have k1 := (HR.out.through HX.out).cellAt (i := 1) (show (slC s bv pv cv)[1]? = some _ by rw [slC, HH.out]; rfl)
   clear hHeld
   go_wp2
   go_ret
   exact ⟨rfl, .inl ⟨by decide, below_step (below1_ w _) HX.out⟩⟩
 | false =>
  have HH := Lib.hid hh
  rw [if_neg (fun h9 => by cases h9.1), if_neg (fun h9 => by cases h9)]
  clear hh hxeq
  go_enter Try.func45, Try.ntmps45
  go_upto_region 1 with (fail)
  refine wp_region_held_drew (S := fun W => Below (w.alloc (.cells (vs d).toArray 27)).heap.size (w.alloc (.cells (vs d).toArray 27)) W) (by kernel_rfl) (Below.refl _ (w.alloc (.cells (vs d).toArray 27))).drew (fun hHeld => ?_)
  change wpAnyH _ _ _ _ _ _ #[false, false, false, false, false, false, false, false, false, false, false, false] _ _
  refine tkq (i := 0) (d := 7) (v := (.pointer (some ⟨R, 0, none⟩))) rfl rfl (Or.inl ⟨by kernel_rfl, fun w hSw => ?_⟩) (by assumption) ?_
  ·(try dsimp only at hSw); go_simp <;> (try rfl)
  simp only [Act.put, sq1, sq2, sq3]
  refine tkq (i := 1) (d := 8) (v := (.pointer (some ⟨R, 0, none⟩))) rfl rfl (Or.inl ⟨by kernel_rfl, fun w hSw => ?_⟩) (by assumption) ?_
  ·(try dsimp only at hSw); go_simp <;> (try rfl)
  simp only [Act.put, sq1, sq2, sq3]
  refine tkq (i := 2) (d := 9) (v := (.pointer (some ⟨R, 1, none⟩))) rfl rfl (Or.inl ⟨by kernel_rfl, fun w hSw => ?_⟩) (by assumption) ?_
  ·(try dsimp only at hSw); go_simp <;> (try rfl)
  simp only [Act.put, sq1, sq2, sq3]
  refine tkq (i := 3) (d := 10) (v := (.bool false)) rfl rfl (yields_load_at (by kernel_rfl) 4 (.tmp 9) rfl (.pointer (some ⟨R, 1, none⟩)) (by simp [Act.eval]) (.bool false) (fun W hW => load_one' (Try.agg_b21 W) ((HR.out.through hW).cellAt (i := 1) (by rw [slC, HH.out]; rfl)))) (by assumption) ?_
  simp only [Act.put, sq1, sq2, sq3]
  refine tkq (i := 4) (d := 11) (v := (.bool false)) rfl rfl (Or.inl ⟨by kernel_rfl, fun w hSw => ?_⟩) (by assumption) ?_
  ·(try dsimp only at hSw); go_simp <;> (try rfl)
  simp only [Act.put, sq1, sq2, sq3]
  refine tkv (i := 5) (d := 12) rfl rfl (by assumption) ?_
  simp only [Act.put, sq1, sq2, sq3]
  refine tkv (i := 6) (d := 13) rfl rfl (by assumption) ?_
  simp only [Act.put, sq1, sq2, sq3]
  refine tkv (i := 7) (d := 14) rfl rfl (by assumption) ?_
  simp only [Act.put, sq1, sq2, sq3]
  refine tkv (i := 8) (d := 15) rfl rfl (by assumption) ?_
  simp only [Act.put, sq1, sq2, sq3]
  refine tkv (i := 9) (d := 16) rfl rfl (by assumption) ?_
  simp only [Act.put, sq1, sq2, sq3]
  refine tkv (i := 10) (d := 17) rfl rfl (by assumption) ?_
  simp only [Act.put, sq1, sq2, sq3]
  refine tkq (i := 11) (d := 18) (v := (.bool false)) rfl rfl (Or.inl ⟨by kernel_rfl, fun w hSw => ?_⟩) (by assumption) ?_
  ·(try dsimp only at hSw); go_simp <;> (try rfl)
  simp only [Act.put, sq1, sq2, sq3]
  refine wpAnyH_done (by kernel_rfl) ?_ _
  have HX := Lib.hid hHeld
  have k1 := (HR.out.through HX.out).cellAt (i := 1) (show (slC s bv pv cv)[1]? = some _ by rw [slC, HH.out]; rfl)
  clear hHeld
  go_upto_region 5 with (fail)
  clear k1
  have HRl3 : Hid (R < ((w.alloc (.cells (vs d).toArray 27)).drew).heap.size) := Lib.hid (Nat.lt_of_lt_of_le HRl.out HX.out.size)
  generalize (w.alloc (.cells (vs d).toArray 27)).drew = wb at HX HRl3 ⊢
  refine wp_region_held_drew (S := fun W => wb.grownBy W (some R)) (by kernel_rfl) (only_below (Below.refl _ wb).drew) (fun hHeld => ?_)
  change wpAnyH _ _ _ _ _ _ #[false, false, false, false, false, false, false, false, false, false, false, false, false, false, false, false] _ _
  refine tkq (i := 0) (d := 23) (v := (.pointer (some ⟨R, 0, none⟩))) rfl rfl (Or.inl ⟨by kernel_rfl, fun w hSw => ?_⟩) (by assumption) ?_
  ·(try dsimp only at hSw); go_simp <;> (try rfl)
  simp only [Act.put, sq1, sq2, sq3]
  refine tkq (i := 1) (d := 24) (v := (.pointer (some ⟨R, 0, none⟩))) rfl rfl (Or.inl ⟨by kernel_rfl, fun w hSw => ?_⟩) (by assumption) ?_
  ·(try dsimp only at hSw); go_simp <;> (try rfl)
  simp only [Act.put, sq1, sq2, sq3]
  refine tkq (i := 2) (d := 25) (v := (.pointer (some ⟨R, 0, none⟩))) rfl rfl (Or.inl ⟨by kernel_rfl, fun w hSw => ?_⟩) (by assumption) ?_
  ·(try dsimp only at hSw); go_simp <;> (try rfl)
  simp only [Act.put, sq1, sq2, sq3]
  refine tkq (i := 3) (d := 26) (v := (.agg (vs d).toArray)) rfl rfl (yieldsIf_load_mid (by kernel_rfl) 27 (.tmp 4) rfl w.heap.size 0 (by simp [Act.eval]) (vs d) _ (fun W hW => Blk.range (pre := []) (post := []) (by simpa using ((HD.out.through HX.out).grown hW (fun e => by have := Option.some.inj e; have := HRl2.out; omega)))) Try.underlying27 rfl (by rw [HVd.out]; kernel_rfl)) (by assumption) ?_
  simp only [Act.put, sq1, sq2, sq3]
  refine tkq (i := 5) (d := 28) (v := (.slice E k c)) rfl rfl (Or.inl ⟨by kernel_rfl, fun w hSw => ?_⟩) (by assumption) ?_
  ·(try dsimp only at hSw); go_simp <;> (try rfl)
  simp only [Act.put, sq1, sq2, sq3]
  refine wpAnyH_ready (rs := [4]) (by kernel_rfl) (by simp) ?_
  refine AllReadyH.cons (o := ⟨some 27, .buildSlice 68 0 #[], _, _, _, none⟩) rfl (fun K hK => ?_) AllReadyH.nil
  refine step_mk_ (B := wb.heap.size) (e := 129) (k := 8) rfl rfl (Try.empty_ey _ _ rfl) (Nat.le_refl _) ?_; intro g0 u0 hn0 ho0 hb0; have HO0 := Lib.hid ho0; have HB0 : Hid (Below wb.heap.size wb u0) := Lib.hid (below_step (Below.refl _ wb).drew hb0); have HG0 : Hid (wb.grownBy u0 (some R)) := Lib.hid (only_below HB0.out); clear hn0 ho0 hb0
  refine hK.out _ _ HG0.out (fun hHeld1 => ?_)
  clear hHeld hK K
  have hHeld := hHeld1
  clear hHeld1
  change wpAnyH _ _ _ _ _ _ _ (Act.put _ (some (27 : Nat)) (.slice (some ⟨g0, 0, none⟩) 0 0)) _
  simp only [Act.put, sq1, sq2, sq3]
  refine wpAnyH_ready (rs := [6]) (by kernel_rfl) (by simp) ?_
  refine AllReadyH.cons (o := ⟨some 29, .call ⟨.builtin .append, #[.tmp 27, .tmp 28], #[68, 68]⟩, _, _, _, none⟩) rfl (fun K hK => ?_) AllReadyH.nil
  refine step_append_sl rfl Try.el_ey (.tmp 27) (.tmp 28) rfl wb.heap.size (.slice (some ⟨g0, 0, none⟩) 0 0) [] rfl HO0.out E k c (es.map Ey.cells) rfl ((HE.out.through HX.out).through HB0.out).1 HWl.out HWo.out (by have := HKk.out; simp; omega) HB0.out.size ?_; intro A5 n5 c5 u5 hn5 ho5 hg5; rw [List.nil_append] at hn5 ho5; have HO5 := Lib.hid ho5; have HR5 : Hid (Blk u5 R 80 (slC s bv pv cv)) := Lib.hid (((HR.out.through HX.out).through HB0.out).grown hg5 (fun e => by have h9 := (HO0.out.lt R e.symm).1; have := HRl3.out; omega)); have HG5 : Hid (wb.grownBy u5 (some R)) := Lib.hid (only_below (HB0.out.grown hg5 HB0.out.size (fun b hb => (HO0.out.lt b hb).1))); clear hn5 ho5 hg5
  refine hK.out _ _ HG5.out (fun hHeld1 => ?_)
  clear hHeld hK K
  have hHeld := hHeld1
  clear hHeld1
  change wpAnyH _ _ _ _ _ _ _ (Act.put _ (some (29 : Nat)) (.slice A5 n5 c5)) _
  simp only [Act.put, sq1, sq2, sq3]
  refine tkq (i := 7) (d := 30) (v := (.pointer (some ⟨R, 0, none⟩))) rfl rfl (Or.inl ⟨by kernel_rfl, fun w hSw => ?_⟩) (by assumption) ?_
  ·(try dsimp only at hSw); go_simp <;> (try rfl)
  simp only [Act.put, sq1, sq2, sq3]
  refine tkq (i := 8) (d := 31) (v := (.pointer (some ⟨R, 1, none⟩))) rfl rfl (Or.inl ⟨by kernel_rfl, fun w hSw => ?_⟩) (by assumption) ?_
  ·(try dsimp only at hSw); go_simp <;> (try rfl)
  simp only [Act.put, sq1, sq2, sq3]
  refine wpAnyH_ready (rs := [9]) (by kernel_rfl) (by simp) ?_
  refine AllReadyH.cons (o := ⟨none, .store 4 (.tmp 31) (.const (.bool true)), _, _, _, none⟩) rfl (fun K hK => ?_) AllReadyH.nil
  refine step_store_cell (by kernel_rfl) 4 (.tmp 31) (.const (.bool true)) rfl R 1 rfl (.bool true) rfl rfl rfl Try.sz_bo 80 (slC s bv pv cv) HR5.out (by rw [slC_len _ _ _ _ HSd.out]; omega) ?_; intro u9 hb9 hg9; have HR9 : Hid (Blk u9 R 80 (slC { s with has := true } bv pv cv)) := Lib.hid hb9; have HO9 : Hid (Os u9 wb.heap.size 129 8 (.slice A5 n5 c5) (es.map Ey.cells)) := Lib.hid (HO5.out.far hg9 HRl3.out); have HG9 := Lib.hid (only_trans HG5.out hg9); clear hb9 hg9
  refine hK.out _ _ HG9.out (fun hHeld1 => ?_)
  clear hHeld hK K
  have hHeld := hHeld1
  clear hHeld1
  change wpAnyH _ _ _ _ _ _ _ (Act.put _ none undef) _
  simp only [Act.put]
  refine tkq (i := 10) (d := 32) (v := (.pointer (some ⟨R, 0, none⟩))) rfl rfl (Or.inl ⟨by kernel_rfl, fun w hSw => ?_⟩) (by assumption) ?_
  ·(try dsimp only at hSw); go_simp <;> (try rfl)
  simp only [Act.put, sq1, sq2, sq3]
  refine tkq (i := 11) (d := 33) (v := (.pointer (some ⟨R, 2, none⟩))) rfl rfl (Or.inl ⟨by kernel_rfl, fun w hSw => ?_⟩) (by assumption) ?_
  ·(try dsimp only at hSw); go_simp <;> (try rfl)
  simp only [Act.put, sq1, sq2, sq3]
  refine wpAnyH_ready (rs := [12]) (by kernel_rfl) (by simp) ?_
  refine AllReadyH.cons (o := ⟨none, .store 27 (.tmp 33) (.tmp 26), _, _, _, none⟩) rfl (fun K hK => ?_) AllReadyH.nil
  refine step_store_in_ (by kernel_rfl) 27 (.tmp 33) (.tmp 26) rfl R 2 (vs d) rfl rfl 80 [.int .i64 s.n, .bool true] (vs s.dg) [bv, pv, cv] HR9.out rfl (by rw [HVd.out]; kernel_rfl) (by rw [HVd.out, HVs.out]) (vs_one_ d) ?_; intro u12 hb12 hg12; have HR12 : Hid (Blk u12 R 80 (slC { s with has := true, dg := d } bv pv cv)) := Lib.hid (by simpa [slC] using hb12); have HO12 : Hid (Os u12 wb.heap.size 129 8 (.slice A5 n5 c5) (es.map Ey.cells)) := Lib.hid (HO9.out.far hg12 HRl3.out); have HG12 := Lib.hid (only_trans HG9.out hg12); clear hb12 hg12
  refine hK.out _ _ HG12.out (fun hHeld1 => ?_)
  clear hHeld hK K
  have hHeld := hHeld1
  clear hHeld1
  change wpAnyH _ _ _ _ _ _ _ (Act.put _ none undef) _
  simp only [Act.put]
  refine tkq (i := 13) (d := 34) (v := (.pointer (some ⟨R, 0, none⟩))) rfl rfl (Or.inl ⟨by kernel_rfl, fun w hSw => ?_⟩) (by assumption) ?_
  ·(try dsimp only at hSw); go_simp <;> (try rfl)
  simp only [Act.put, sq1, sq2, sq3]
  refine tkq (i := 14) (d := 35) (v := (.pointer (some ⟨R, 34, none⟩))) rfl rfl (Or.inl ⟨by kernel_rfl, fun w hSw => ?_⟩) (by assumption) ?_
  ·(try dsimp only at hSw); go_simp <;> (try rfl)
  simp only [Act.put, sq1, sq2, sq3]
  refine wpAnyH_ready (rs := [15]) (by kernel_rfl) (by simp) ?_
  refine AllReadyH.cons (o := ⟨none, .store 68 (.tmp 35) (.tmp 29), _, _, _, none⟩) rfl (fun K hK => ?_) AllReadyH.nil
  refine step_store_cell (by kernel_rfl) 68 (.tmp 35) (.tmp 29) rfl R 34 rfl (.slice A5 n5 c5) rfl rfl rfl Try.sz_eys 80 (slC { s with has := true, dg := d } bv pv cv) HR12.out (by rw [slC_len _ _ _ _ HDd.out]; omega) ?_; intro u15 hb15 hg15; rw [slC_setB _ _ _ _ _ es HDd.out] at hb15; have HR15 := Lib.hid hb15; have HO15 : Hid (Os u15 wb.heap.size 129 8 (.slice A5 n5 c5) (es.map Ey.cells)) := Lib.hid (HO12.out.far hg15 HRl3.out); have HG15 := Lib.hid (only_trans HG12.out hg15); clear hb15 hg15
  refine hK.out _ _ HG15.out (fun hHeld1 => ?_)
  clear hHeld hK K
  have hHeld := hHeld1
  clear hHeld1
  change wpAnyH _ _ _ _ _ _ _ (Act.put _ none undef) _
  simp only [Act.put]
  refine wpAnyH_done (by kernel_rfl) ?_ _
  go_wp2
  go_ret
  exact ⟨rfl, by first | exact ⟨A5, n5, c5, HR15.out, HO15.out.weak (Nat.le_trans (by simp) HX.out.size), only_trans (only_below (below_step (below1_ w _) HX.out)) HG15.out⟩ | exact .inr ⟨rfl, A5, n5, c5, HR15.out, HO15.out.weak (Nat.le_trans (by simp) HX.out.size), only_trans (only_below (below_step (below1_ w _) HX.out)) HG15.out⟩⟩

end Go.Proofs.Ytkpgjcahmpekbaa
