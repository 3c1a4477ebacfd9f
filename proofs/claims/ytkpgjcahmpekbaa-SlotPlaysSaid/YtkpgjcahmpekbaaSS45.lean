/-
  Joined: SwE.
-/
import Derived.Test.YtkpgjcahmpekbaaSS44
import Derived.Test.YtkpgjcahmpekbaaSST
namespace Go.Proofs.Ytkpgjcahmpekbaa
open Go.RowKit

set_option maxHeartbeats 16000000 in
set_option maxRecDepth 100000 in
theorem propose_sw {w : World} {R gp pv pc gm mv mc : Nat} {bv : Value} {s : Slt} (d : List UInt8) (es : List Ey) (E : Option Addr) (k c : Nat) (h : SwR w R gp pv pc gm mv mc bv s) (hl : SlLow s) (hd : d.length = 32) (he : EysIn w E k es) (hk : k ≤ 1000) :
  Calls Try.prog 40 #[(.pointer (some ⟨R, 0, none⟩)), .agg (vs d).toArray, .slice E k c] w fun e w' => e = .returned (.int .i64 (propS s d es).2) ∧ ((propS s d es).1 = s ∧ Below w.heap.size w w' ∨ (propS s d es).1 = { s with has := true, dg := d, es := es } ∧ ∃ A2 n2 c2, SwR w' R gp pv pc gm mv mc (.slice A2 n2 c2) { s with has := true, dg := d, es := es } ∧ Ft (DS R gp pv pc gm mv mc bv) w w' ∧ ∀ q, (Value.slice A2 n2 c2).ownBlock = some q → w.heap.size ≤ q) := by
 have HDd := Lib.hid hd
 have HSd := Lib.hid h.dg
 have HVs : Hid ((vs s.dg).length = 32) := Lib.hid (D_len _ h.dg)
 have HVd : Hid ((vs d).length = 32) := Lib.hid (D_len _ hd)
 have HN1 := Lib.hid hl.n1
 have HKk : Hid (k ≤ 1000000) := Lib.hid (by omega)
 have HSR := Lib.hid h
 have HE := Lib.hid he
 have HX0 := Lib.hid (below1_ w (.cells (vs d).toArray 27))
 have HB := Lib.hid (h.box.through HX0.out)
 have HD0 : Hid (Blk (w.alloc (.cells (vs d).toArray 27)) w.heap.size 27 (vs d)) := Lib.hid (Blk.fresh rfl rfl)
 have HRw : Hid (R < w.heap.size) := Lib.hid h.box.lt
 have HNW : Hid (w.heap.size ≠ R) := Lib.hid (by have := h.box.lt; omega)
 have HNP : Hid (¬ D3 gp pv pc R) := Lib.hid (tl_ne h.box h.pr)
 have HNM : Hid (¬ D3 gm mv mc R) := Lib.hid (tl_ne h.box h.cm)
 have HPl := Lib.hid h.pr.lt
 have HMl := Lib.hid h.cm.lt
 have HAp := Lib.hid h.ap
 have hxe := fun W => eq_dgy s.dg d h.dg hd W
 clear h hl hd he hk
 unfold propS
 cases hh : s.has with
 | true =>
  have HHs := Lib.hid hh
  by_cases hg : s.dg = d
  ·rw [if_pos ⟨rfl, hg⟩]
   have e3 : (s.dg == d) = true := by simpa using hg
   rw [e3] at hxe
   clear hh hg e3
   go_enter Try.func40, Try.ntmps40
   go_upto_region 3 with (go_at_call 69; (with_reducible refine (isnone_sl R s _ _ _ _ HB.out HN1.out).mono ?_); rintro e w9 ⟨rfl, hw9⟩; subst hw9)
   refine wp_region_held_drew (S := fun W => Below (w.alloc (.cells (vs d).toArray 27)).heap.size (w.alloc (.cells (vs d).toArray 27)) W) (by kernel_rfl) (Below.refl _ (w.alloc (.cells (vs d).toArray 27))).drew (fun hHeld => ?_)
   change wpAnyH _ _ _ _ _ _ #[false, false, false, false, false, false, false, false, false, false, false, false, false] _ _
   refine tkq (i := 0) (d := 11) (v := (.pointer (some ⟨R, 0, none⟩))) rfl rfl (Or.inl ⟨by kernel_rfl, fun w hSw => ?_⟩) (by assumption) ?_
   ·(try dsimp only at hSw); go_simp <;> (try rfl)
   simp only [Act.put, sq1, sq2, sq3]
   refine tkq (i := 1) (d := 12) (v := (.pointer (some ⟨R, 0, none⟩))) rfl rfl (Or.inl ⟨by kernel_rfl, fun w hSw => ?_⟩) (by assumption) ?_
   ·(try dsimp only at hSw); go_simp <;> (try rfl)
   simp only [Act.put, sq1, sq2, sq3]
   refine tkq (i := 2) (d := 13) (v := (.pointer (some ⟨R, 1, none⟩))) rfl rfl (Or.inl ⟨by kernel_rfl, fun w hSw => ?_⟩) (by assumption) ?_
   ·(try dsimp only at hSw); go_simp <;> (try rfl)
   simp only [Act.put, sq1, sq2, sq3]
   refine tkq (i := 3) (d := 14) (v := (.bool true)) rfl rfl (yields_load_at (by kernel_rfl) 4 (.tmp 13) rfl (.pointer (some ⟨R, 1, none⟩)) (by simp [Act.eval]) (.bool true) (fun W hW => load_one' (Try.agg_bool20 W) (Blk.cellAt (i := 1) (HB.out.through hW) (by rw [slC, HHs.out]; rfl)))) (by assumption) ?_
   simp only [Act.put, sq1, sq2, sq3]
   refine tkq (i := 4) (d := 15) (v := (.bool true)) rfl rfl (Or.inl ⟨by kernel_rfl, fun w hSw => ?_⟩) (by assumption) ?_
   ·(try dsimp only at hSw); go_simp <;> (try rfl)
   simp only [Act.put, sq1, sq2, sq3]
   refine tkq (i := 5) (d := 16) (v := (.pointer (some ⟨R, 0, none⟩))) rfl rfl (Or.inl ⟨by kernel_rfl, fun w hSw => ?_⟩) (by assumption) ?_
   ·(try dsimp only at hSw); go_simp <;> (try rfl)
   simp only [Act.put, sq1, sq2, sq3]
   refine tkq (i := 6) (d := 17) (v := (.pointer (some ⟨R, 0, none⟩))) rfl rfl (Or.inl ⟨by kernel_rfl, fun w hSw => ?_⟩) (by assumption) ?_
   ·(try dsimp only at hSw); go_simp <;> (try rfl)
   simp only [Act.put, sq1, sq2, sq3]
   refine tkq (i := 7) (d := 18) (v := (.pointer (some ⟨R, 2, none⟩))) rfl rfl (Or.inl ⟨by kernel_rfl, fun w hSw => ?_⟩) (by assumption) ?_
   ·(try dsimp only at hSw); go_simp <;> (try rfl)
   simp only [Act.put, sq1, sq2, sq3]
   refine tkq (i := 8) (d := 19) (v := (.agg (vs s.dg).toArray)) rfl rfl (yieldsIf_load_mid (by kernel_rfl) 27 (.tmp 18) rfl R 2 (by simp [Act.eval]) (vs s.dg) _ (fun W hW => slC_dgP _ _ _ _ _ _ (HB.out.through hW)) Try.underlying27 rfl (by rw [HVs.out]; kernel_rfl)) (by assumption) ?_
   simp only [Act.put, sq1, sq2, sq3]
   refine tkq (i := 9) (d := 20) (v := (.agg (vs d).toArray)) rfl rfl (yieldsIf_load_mid (by kernel_rfl) 27 (.tmp 4) rfl w.heap.size 0 (by simp [Act.eval]) (vs d) _ (fun W hW => Blk.range (pre := []) (post := []) (by simpa using (HD0.out.through hW))) Try.underlying27 rfl (by rw [HVd.out]; kernel_rfl)) (by assumption) ?_
   simp only [Act.put, sq1, sq2, sq3]
   refine tkq (i := 10) (d := 21) (v := (.bool true)) rfl rfl (Or.inl ⟨by kernel_rfl, fun w hSw => ?_⟩) (by assumption) ?_
   ·(try dsimp only at hSw); go_simp <;> (try rfl)
   simp only [Act.put, sq1, sq2, sq3]
   refine tkq (i := 11) (d := 22) (v := (.bool true)) rfl rfl (Or.inl ⟨by kernel_rfl, fun w hSw => ?_⟩) (by assumption) ?_
   ·(try dsimp only at hSw); go_simp <;> (try rfl)
   simp only [Act.put, sq1, sq2, sq3]
   refine tkq (i := 12) (d := 10) (v := (.bool true)) rfl rfl (Or.inl ⟨by kernel_rfl, fun w hSw => ?_⟩) (by assumption) ?_
   ·(try dsimp only at hSw); go_simp <;> (try rfl)
   simp only [Act.put, sq1, sq2, sq3]
   refine wpAnyH_done (by kernel_rfl) ?_ _
   go_wp2
   go_ret
   exact ⟨rfl, .inl ⟨by first | trivial | rfl, below_step HX0.out (Below.refl _ _).drew⟩⟩
  ·rw [if_neg (fun h9 => hg h9.2), if_pos rfl]
   have e3 : (s.dg == d) = false := by simpa using hg
   rw [e3] at hxe
   have HK1 : Hid ((w.alloc (.cells (vs d).toArray 27)).drew.cell? ⟨R, 1, none⟩ = some (.bool true)) := Lib.hid (HB.out.drew.cellAt (i := 1) (by rw [slC, hh]; rfl))
   clear hh hg e3
   go_enter Try.func40, Try.ntmps40
   go_upto_region 3 with (go_at_call 69; (with_reducible refine (isnone_sl R s _ _ _ _ HB.out HN1.out).mono ?_); rintro e w9 ⟨rfl, hw9⟩; subst hw9)
   refine wp_region_held_drew (S := fun W => Below (w.alloc (.cells (vs d).toArray 27)).heap.size (w.alloc (.cells (vs d).toArray 27)) W) (by kernel_rfl) (Below.refl _ (w.alloc (.cells (vs d).toArray 27))).drew (fun hHeld => ?_)
   change wpAnyH _ _ _ _ _ _ #[false, false, false, false, false, false, false, false, false, false, false, false, false] _ _
   refine tkq (i := 0) (d := 11) (v := (.pointer (some ⟨R, 0, none⟩))) rfl rfl (Or.inl ⟨by kernel_rfl, fun w hSw => ?_⟩) (by assumption) ?_
   ·(try dsimp only at hSw); go_simp <;> (try rfl)
   simp only [Act.put, sq1, sq2, sq3]
   refine tkq (i := 1) (d := 12) (v := (.pointer (some ⟨R, 0, none⟩))) rfl rfl (Or.inl ⟨by kernel_rfl, fun w hSw => ?_⟩) (by assumption) ?_
   ·(try dsimp only at hSw); go_simp <;> (try rfl)
   simp only [Act.put, sq1, sq2, sq3]
   refine tkq (i := 2) (d := 13) (v := (.pointer (some ⟨R, 1, none⟩))) rfl rfl (Or.inl ⟨by kernel_rfl, fun w hSw => ?_⟩) (by assumption) ?_
   ·(try dsimp only at hSw); go_simp <;> (try rfl)
   simp only [Act.put, sq1, sq2, sq3]
   refine tkq (i := 3) (d := 14) (v := (.bool true)) rfl rfl (yields_load_at (by kernel_rfl) 4 (.tmp 13) rfl (.pointer (some ⟨R, 1, none⟩)) (by simp [Act.eval]) (.bool true) (fun W hW => load_one' (Try.agg_bool20 W) (Blk.cellAt (i := 1) (HB.out.through hW) (by rw [slC, HHs.out]; rfl)))) (by assumption) ?_
   simp only [Act.put, sq1, sq2, sq3]
   refine tkq (i := 4) (d := 15) (v := (.bool true)) rfl rfl (Or.inl ⟨by kernel_rfl, fun w hSw => ?_⟩) (by assumption) ?_
   ·(try dsimp only at hSw); go_simp <;> (try rfl)
   simp only [Act.put, sq1, sq2, sq3]
   refine tkq (i := 5) (d := 16) (v := (.pointer (some ⟨R, 0, none⟩))) rfl rfl (Or.inl ⟨by kernel_rfl, fun w hSw => ?_⟩) (by assumption) ?_
   ·(try dsimp only at hSw); go_simp <;> (try rfl)
   simp only [Act.put, sq1, sq2, sq3]
   refine tkq (i := 6) (d := 17) (v := (.pointer (some ⟨R, 0, none⟩))) rfl rfl (Or.inl ⟨by kernel_rfl, fun w hSw => ?_⟩) (by assumption) ?_
   ·(try dsimp only at hSw); go_simp <;> (try rfl)
   simp only [Act.put, sq1, sq2, sq3]
   refine tkq (i := 7) (d := 18) (v := (.pointer (some ⟨R, 2, none⟩))) rfl rfl (Or.inl ⟨by kernel_rfl, fun w hSw => ?_⟩) (by assumption) ?_
   ·(try dsimp only at hSw); go_simp <;> (try rfl)
   simp only [Act.put, sq1, sq2, sq3]
   refine tkq (i := 8) (d := 19) (v := (.agg (vs s.dg).toArray)) rfl rfl (yieldsIf_load_mid (by kernel_rfl) 27 (.tmp 18) rfl R 2 (by simp [Act.eval]) (vs s.dg) _ (fun W hW => slC_dgP _ _ _ _ _ _ (HB.out.through hW)) Try.underlying27 rfl (by rw [HVs.out]; kernel_rfl)) (by assumption) ?_
   simp only [Act.put, sq1, sq2, sq3]
   refine tkq (i := 9) (d := 20) (v := (.agg (vs d).toArray)) rfl rfl (yieldsIf_load_mid (by kernel_rfl) 27 (.tmp 4) rfl w.heap.size 0 (by simp [Act.eval]) (vs d) _ (fun W hW => Blk.range (pre := []) (post := []) (by simpa using (HD0.out.through hW))) Try.underlying27 rfl (by rw [HVd.out]; kernel_rfl)) (by assumption) ?_
   simp only [Act.put, sq1, sq2, sq3]
   refine tkq (i := 10) (d := 21) (v := (.bool false)) rfl rfl (Or.inl ⟨by kernel_rfl, fun w hSw => ?_⟩) (by assumption) ?_
   ·(try dsimp only at hSw); go_simp <;> (try rfl)
   simp only [Act.put, sq1, sq2, sq3]
   refine tkq (i := 11) (d := 22) (v := (.bool false)) rfl rfl (Or.inl ⟨by kernel_rfl, fun w hSw => ?_⟩) (by assumption) ?_
   ·(try dsimp only at hSw); go_simp <;> (try rfl)
   simp only [Act.put, sq1, sq2, sq3]
   refine tkq (i := 12) (d := 10) (v := (.bool false)) rfl rfl (Or.inl ⟨by kernel_rfl, fun w hSw => ?_⟩) (by assumption) ?_
   ·(try dsimp only at hSw); go_simp <;> (try rfl)
   simp only [Act.put, sq1, sq2, sq3]
   refine wpAnyH_done (by kernel_rfl) ?_ _
   have k1 := HK1.out
   go_wp2
   go_ret
   exact ⟨rfl, .inl ⟨by first | trivial | rfl, below_step HX0.out (Below.refl _ _).drew⟩⟩
 | false =>
  have HHs := Lib.hid hh
  rw [if_neg (fun h9 => by cases h9.1), if_neg (by decide)]
  have HK1 : Hid ((w.alloc (.cells (vs d).toArray 27)).drew.cell? ⟨R, 1, none⟩ = some (.bool false)) := Lib.hid (HB.out.drew.cellAt (i := 1) (by rw [slC, hh]; rfl))
  clear hh hxe
  go_enter Try.func40, Try.ntmps40
  go_upto_region 3 with (go_at_call 69; (with_reducible refine (isnone_sl R s _ _ _ _ HB.out HN1.out).mono ?_); rintro e w9 ⟨rfl, hw9⟩; subst hw9)
  refine wp_region_held_drew (S := fun W => Below (w.alloc (.cells (vs d).toArray 27)).heap.size (w.alloc (.cells (vs d).toArray 27)) W) (by kernel_rfl) (Below.refl _ (w.alloc (.cells (vs d).toArray 27))).drew (fun hHeld => ?_)
  change wpAnyH _ _ _ _ _ _ #[false, false, false, false, false, false, false, false, false, false, false, false, false] _ _
  refine tkq (i := 0) (d := 11) (v := (.pointer (some ⟨R, 0, none⟩))) rfl rfl (Or.inl ⟨by kernel_rfl, fun w hSw => ?_⟩) (by assumption) ?_
  ·(try dsimp only at hSw); go_simp <;> (try rfl)
  simp only [Act.put, sq1, sq2, sq3]
  refine tkq (i := 1) (d := 12) (v := (.pointer (some ⟨R, 0, none⟩))) rfl rfl (Or.inl ⟨by kernel_rfl, fun w hSw => ?_⟩) (by assumption) ?_
  ·(try dsimp only at hSw); go_simp <;> (try rfl)
  simp only [Act.put, sq1, sq2, sq3]
  refine tkq (i := 2) (d := 13) (v := (.pointer (some ⟨R, 1, none⟩))) rfl rfl (Or.inl ⟨by kernel_rfl, fun w hSw => ?_⟩) (by assumption) ?_
  ·(try dsimp only at hSw); go_simp <;> (try rfl)
  simp only [Act.put, sq1, sq2, sq3]
  refine tkq (i := 3) (d := 14) (v := (.bool false)) rfl rfl (yields_load_at (by kernel_rfl) 4 (.tmp 13) rfl (.pointer (some ⟨R, 1, none⟩)) (by simp [Act.eval]) (.bool false) (fun W hW => load_one' (Try.agg_bool20 W) (Blk.cellAt (i := 1) (HB.out.through hW) (by rw [slC, HHs.out]; rfl)))) (by assumption) ?_
  simp only [Act.put, sq1, sq2, sq3]
  refine tkq (i := 4) (d := 15) (v := (.bool false)) rfl rfl (Or.inl ⟨by kernel_rfl, fun w hSw => ?_⟩) (by assumption) ?_
  ·(try dsimp only at hSw); go_simp <;> (try rfl)
  simp only [Act.put, sq1, sq2, sq3]
  refine tkv (i := 5) (d := 16) rfl rfl (by assumption) ?_
  simp only [Act.put, sq1, sq2, sq3]
  refine tkv (i := 6) (d := 17) rfl rfl (by assumption) ?_
  simp only [Act.put, sq1, sq2, sq3]
  refine tkv (i := 7) (d := 18) rfl rfl (by assumption) ?_
  simp only [Act.put, sq1, sq2, sq3]
  refine tkv (i := 8) (d := 19) rfl rfl (by assumption) ?_
  simp only [Act.put, sq1, sq2, sq3]
  refine tkv (i := 9) (d := 20) rfl rfl (by assumption) ?_
  simp only [Act.put, sq1, sq2, sq3]
  refine tkv (i := 10) (d := 21) rfl rfl (by assumption) ?_
  simp only [Act.put, sq1, sq2, sq3]
  refine tkq (i := 11) (d := 22) (v := (.bool false)) rfl rfl (Or.inl ⟨by kernel_rfl, fun w hSw => ?_⟩) (by assumption) ?_
  ·(try dsimp only at hSw); go_simp <;> (try rfl)
  simp only [Act.put, sq1, sq2, sq3]
  refine tkq (i := 12) (d := 10) (v := (.bool false)) rfl rfl (Or.inl ⟨by kernel_rfl, fun w hSw => ?_⟩) (by assumption) ?_
  ·(try dsimp only at hSw); go_simp <;> (try rfl)
  simp only [Act.put, sq1, sq2, sq3]
  refine wpAnyH_done (by kernel_rfl) ?_ _
  have k1 := HK1.out
  have HX2 : Hid (Below w.heap.size w (w.alloc (.cells (vs d).toArray 27)).drew.drew) := Lib.hid (below_step HX0.out (Below.refl _ _).drew.drew)
  have HD2 : Hid (Blk (w.alloc (.cells (vs d).toArray 27)).drew.drew w.heap.size 27 (vs d)) := Lib.hid HD0.out.drew.drew
  have HE2 := Lib.hid (HE.out.through HX2.out)
  go_upto_region 7 with fail
  refine wp_region_held_drew (S := fun W => Ft (DS R gp pv pc gm mv mc bv) w W ∧ Blk W w.heap.size 27 (vs d)) (by kernel_rfl) ⟨Ft.of_below HX2.out, HD2.out⟩ (fun hHeld => ?_)
  change wpAnyH _ _ _ _ _ _ #[false, false, false, false, false, false, false, false, false, false, false, false, false, false, false] _ _
  refine tkq (i := 0) (d := 28) (v := (.pointer (some ⟨R, 0, none⟩))) rfl rfl (Or.inl ⟨by kernel_rfl, fun w hSw => ?_⟩) (by assumption) ?_
  ·(try dsimp only at hSw); go_simp <;> (try rfl)
  simp only [Act.put, sq1, sq2, sq3]
  refine tkq (i := 1) (d := 29) (v := (.pointer (some ⟨R, 0, none⟩))) rfl rfl (Or.inl ⟨by kernel_rfl, fun w hSw => ?_⟩) (by assumption) ?_
  ·(try dsimp only at hSw); go_simp <;> (try rfl)
  simp only [Act.put, sq1, sq2, sq3]
  refine tkq (i := 2) (d := 30) (v := (.pointer (some ⟨R, 0, none⟩))) rfl rfl (Or.inl ⟨by kernel_rfl, fun w hSw => ?_⟩) (by assumption) ?_
  ·(try dsimp only at hSw); go_simp <;> (try rfl)
  simp only [Act.put, sq1, sq2, sq3]
  refine tkq (i := 3) (d := 31) (v := (.agg (vs d).toArray)) rfl rfl (yieldsIf_load_mid (by kernel_rfl) 27 (.tmp 4) rfl w.heap.size 0 (by simp [Act.eval]) (vs d) _ (fun W hW => Blk.range (pre := []) (post := []) (by simpa using hW.2)) Try.underlying27 rfl (by rw [HVd.out]; kernel_rfl)) (by assumption) ?_
  simp only [Act.put, sq1, sq2, sq3]
  refine tkq (i := 4) (d := 32) (v := (.slice E k c)) rfl rfl (Or.inl ⟨by kernel_rfl, fun w hSw => ?_⟩) (by assumption) ?_
  ·(try dsimp only at hSw); go_simp <;> (try rfl)
  simp only [Act.put, sq1, sq2, sq3]
  refine wpAnyH_ready (rs := [5]) (by kernel_rfl) (by simp) ?_
  refine AllReadyH.cons rfl (fun K hK => ?_) AllReadyH.nil
  go_simp
  refine (clone_ey es E k c _ HE2.out HKk.out).mono ?_
  rintro e w3 ⟨A2, n2, c2, rfl, ho9, hb9⟩; have HO3 := Lib.hid ho9; have HX3 : Hid (Below w.heap.size w w3) := Lib.hid (below_step HX2.out hb9); have HR3 := Lib.hid (HSR.out.through HX3.out); have HR3P := Lib.hid HR3.out.pr; have HR3M := Lib.hid HR3.out.cm; have HF3 : Hid (Ft (DS R gp pv pc gm mv mc bv) w w3) := Lib.hid (Ft.of_below HX3.out); have HD3 := Lib.hid (HD2.out.through hb9); clear ho9 hb9
  go_wp2_with fail
  refine hK.out _ _ ⟨Ft.of_below HX3.out, HD3.out⟩ (fun hHeld1 => ?_)
  clear hHeld hK K
  have hHeld := hHeld1
  clear hHeld1
  refine tkq (i := 6) (d := 34) (v := (.pointer (some ⟨R, 0, none⟩))) rfl rfl (Or.inl ⟨by kernel_rfl, fun w hSw => ?_⟩) (by assumption) ?_
  ·(try dsimp only at hSw); go_simp <;> (try rfl)
  simp only [Act.put, sq1, sq2, sq3]
  refine tkq (i := 7) (d := 35) (v := (.pointer (some ⟨R, 1, none⟩))) rfl rfl (Or.inl ⟨by kernel_rfl, fun w hSw => ?_⟩) (by assumption) ?_
  ·(try dsimp only at hSw); go_simp <;> (try rfl)
  simp only [Act.put, sq1, sq2, sq3]
  refine wpAnyH_ready (rs := [8]) (by kernel_rfl) (by simp) ?_
  refine AllReadyH.cons (o := ⟨none, .store 4 (.tmp 35) (.const (.bool true)), _, _, _, none⟩) rfl (fun K hK => ?_) AllReadyH.nil
  refine step_store_cell (by kernel_rfl) 4 (.tmp 35) (.const (.bool true)) rfl R 1 rfl (.bool true) rfl rfl rfl Try.sz_bo 123 (slC s bv (.pointer (some ⟨gp, 0, none⟩)) (.pointer (some ⟨gm, 0, none⟩))) HR3.out.box (by rw [slC_len _ _ _ _ HSd.out]; omega) ?_; intro w4 hb9 hg9; have HGw4 : Hid (Blk w4 R 123 (slC { s with has := true } bv (.pointer (some ⟨gp, 0, none⟩)) (.pointer (some ⟨gm, 0, none⟩)))) := Lib.hid (hb9); have HDw4 := Lib.hid (HD3.out.grown hg9 (fun e => HNW.out (Option.some.inj e))); have HOw4 : Hid (OEy w4 w.heap.size (.slice A2 n2 c2) es) := Lib.hid ⟨(HO3.out.1.weak (B' := w.heap.size) (by simp)).far hg9 HRw.out, HO3.out.2⟩; have HPw4 := Lib.hid (HR3P.out.keep (fun q hq => hg9.block q (HR3P.out.lt q hq) (fun e => HNP.out (by rw [← Option.some.inj e]; exact hq)))); have HMw4 := Lib.hid (HR3M.out.keep (fun q hq => hg9.block q (HR3M.out.lt q hq) (fun e => HNM.out (by rw [← Option.some.inj e]; exact hq)))); have HFw4 : Hid (Ft (DS R gp pv pc gm mv mc bv) w w4) := Lib.hid (HF3.out.trans (D' := DS R gp pv pc gm mv mc bv) (Ft.of_grown hg9 (fun b hb => .inl (.inl (Option.some.inj hb).symm))) (fun q hq => .inl hq)); clear hb9 hg9
  refine hK.out _ _ ⟨HFw4.out, HDw4.out⟩ (fun hHeld1 => ?_)
  clear hHeld hK K
  have hHeld := hHeld1
  clear hHeld1
  change wpAnyH _ _ _ _ _ _ _ (Act.put _ none undef) _
  simp only [Act.put]
  refine tkq (i := 9) (d := 36) (v := (.pointer (some ⟨R, 0, none⟩))) rfl rfl (Or.inl ⟨by kernel_rfl, fun w hSw => ?_⟩) (by assumption) ?_
  ·(try dsimp only at hSw); go_simp <;> (try rfl)
  simp only [Act.put, sq1, sq2, sq3]
  refine tkq (i := 10) (d := 37) (v := (.pointer (some ⟨R, 2, none⟩))) rfl rfl (Or.inl ⟨by kernel_rfl, fun w hSw => ?_⟩) (by assumption) ?_
  ·(try dsimp only at hSw); go_simp <;> (try rfl)
  simp only [Act.put, sq1, sq2, sq3]
  refine wpAnyH_ready (rs := [11]) (by kernel_rfl) (by simp) ?_
  refine AllReadyH.cons (o := ⟨none, .store 27 (.tmp 37) (.tmp 31), _, _, _, none⟩) rfl (fun K hK => ?_) AllReadyH.nil
  refine step_store_in_ (by kernel_rfl) 27 (.tmp 37) (.tmp 31) rfl R 2 (vs d) rfl rfl 123 [.int .i64 s.n, .bool true] (vs s.dg) [bv, .pointer (some ⟨gp, 0, none⟩), .pointer (some ⟨gm, 0, none⟩)] HGw4.out rfl (by rw [HVd.out]; kernel_rfl) (by rw [HVd.out, HVs.out]) (vs_one_ d) ?_; intro w5 hb9 hg9; have HGw5 : Hid (Blk w5 R 123 (slC { s with has := true, dg := d } bv (.pointer (some ⟨gp, 0, none⟩)) (.pointer (some ⟨gm, 0, none⟩)))) := Lib.hid (by simpa [slC] using hb9); have HDw5 := Lib.hid (HDw4.out.grown hg9 (fun e => HNW.out (Option.some.inj e))); have HOw5 : Hid (OEy w5 w.heap.size (.slice A2 n2 c2) es) := Lib.hid ⟨HOw4.out.1.far hg9 HRw.out, HOw4.out.2⟩; have HPw5 := Lib.hid (HPw4.out.keep (fun q hq => hg9.block q (HPw4.out.lt q hq) (fun e => HNP.out (by rw [← Option.some.inj e]; exact hq)))); have HMw5 := Lib.hid (HMw4.out.keep (fun q hq => hg9.block q (HMw4.out.lt q hq) (fun e => HNM.out (by rw [← Option.some.inj e]; exact hq)))); have HFw5 : Hid (Ft (DS R gp pv pc gm mv mc bv) w w5) := Lib.hid (HFw4.out.trans (D' := DS R gp pv pc gm mv mc bv) (Ft.of_grown hg9 (fun b hb => .inl (.inl (Option.some.inj hb).symm))) (fun q hq => .inl hq)); clear hb9 hg9
  refine hK.out _ _ ⟨HFw5.out, HDw5.out⟩ (fun hHeld1 => ?_)
  clear hHeld hK K
  have hHeld := hHeld1
  clear hHeld1
  change wpAnyH _ _ _ _ _ _ _ (Act.put _ none undef) _
  simp only [Act.put]
  refine tkq (i := 12) (d := 38) (v := (.pointer (some ⟨R, 0, none⟩))) rfl rfl (Or.inl ⟨by kernel_rfl, fun w hSw => ?_⟩) (by assumption) ?_
  ·(try dsimp only at hSw); go_simp <;> (try rfl)
  simp only [Act.put, sq1, sq2, sq3]
  refine tkq (i := 13) (d := 39) (v := (.pointer (some ⟨R, 34, none⟩))) rfl rfl (Or.inl ⟨by kernel_rfl, fun w hSw => ?_⟩) (by assumption) ?_
  ·(try dsimp only at hSw); go_simp <;> (try rfl)
  simp only [Act.put, sq1, sq2, sq3]
  refine wpAnyH_ready (rs := [14]) (by kernel_rfl) (by simp) ?_
  refine AllReadyH.cons (o := ⟨none, .store 68 (.tmp 39) (.tmp 33), _, _, _, none⟩) rfl (fun K hK => ?_) AllReadyH.nil
  refine step_store_cell (by kernel_rfl) 68 (.tmp 39) (.tmp 33) rfl R 34 rfl (.slice A2 n2 c2) rfl rfl rfl Try.sz_eys 123 (slC { s with has := true, dg := d } bv (.pointer (some ⟨gp, 0, none⟩)) (.pointer (some ⟨gm, 0, none⟩))) HGw5.out (by rw [slC_len _ _ _ _ HDd.out]; omega) ?_; intro w6 hb9 hg9; have HGw6 : Hid (Blk w6 R 123 (slC { s with has := true, dg := d, es := es } (.slice A2 n2 c2) (.pointer (some ⟨gp, 0, none⟩)) (.pointer (some ⟨gm, 0, none⟩)))) := Lib.hid (by rw [slC_setB _ _ _ _ _ es HDd.out] at hb9; exact hb9); have HDw6 := Lib.hid (HDw5.out.grown hg9 (fun e => HNW.out (Option.some.inj e))); have HOw6 : Hid (OEy w6 w.heap.size (.slice A2 n2 c2) es) := Lib.hid ⟨HOw5.out.1.far hg9 HRw.out, HOw5.out.2⟩; have HPw6 := Lib.hid (HPw5.out.keep (fun q hq => hg9.block q (HPw5.out.lt q hq) (fun e => HNP.out (by rw [← Option.some.inj e]; exact hq)))); have HMw6 := Lib.hid (HMw5.out.keep (fun q hq => hg9.block q (HMw5.out.lt q hq) (fun e => HNM.out (by rw [← Option.some.inj e]; exact hq)))); have HFw6 : Hid (Ft (DS R gp pv pc gm mv mc bv) w w6) := Lib.hid (HFw5.out.trans (D' := DS R gp pv pc gm mv mc bv) (Ft.of_grown hg9 (fun b hb => .inl (.inl (Option.some.inj hb).symm))) (fun q hq => .inl hq)); clear hb9 hg9
  refine hK.out _ _ ⟨HFw6.out, HDw6.out⟩ (fun hHeld1 => ?_)
  clear hHeld hK K
  have hHeld := hHeld1
  clear hHeld1
  change wpAnyH _ _ _ _ _ _ _ (Act.put _ none undef) _
  simp only [Act.put]
  refine wpAnyH_done (by kernel_rfl) ?_ _
  go_wp2
  go_ret
  refine ⟨rfl, .inr ⟨by first | trivial | rfl, A2, n2, c2, ⟨HGw6.out, HPw6.out, HMw6.out, ⟨HOw6.out.1.weak (Nat.zero_le _), HOw6.out.2⟩, HDd.out, HAp.out, fun q hq => ?_⟩, HFw6.out, fun q hq => (HOw6.out.1.lt q hq).1⟩⟩
  have h9 := (HOw6.out.1.lt q hq).1
  exact ⟨by have := HRw.out; omega, fun h8 => by have := HPl.out q h8; omega, fun h8 => by have := HMl.out q h8; omega⟩

end Go.Proofs.Ytkpgjcahmpekbaa
