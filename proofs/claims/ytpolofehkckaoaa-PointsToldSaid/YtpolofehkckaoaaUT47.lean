/-
  Joined: PwX.
-/
import Derived.Test.YtpolofehkckaoaaUT46
import Derived.Test.YtpolofehkckaoaaUTT
namespace Go.Proofs.Ytpolofehkckaoaa
open Go.RowKit Go.Shelf
attribute [local go_sem] Oper.semAt_some

theorem pqss : ∀ (o : List (List Po)), (∀ l ∈ o, ∀ p ∈ l, p.dg.length = 32) → ∃ ofs : List (List Pq), ofs.map (fun l => l.map Subtype.val) = o
 | [], _ => ⟨[], rfl⟩
 | l :: o, h => by
  obtain ⟨ofs, ho⟩ := pqss o (fun l' hl => h l' (List.mem_cons_of_mem _ hl))
  exact ⟨pqs l (h l List.mem_cons_self) :: ofs, by rw [List.map_cons, ho, pqs_map]⟩
theorem PPt.dgs {w : World} {B mo mv : Nat} {r : Ptp} {ows : List Ow} {OE VE : List (Int × Value)} {vf : Nat → Pl} (h : PPt w B mo mv r ows OE VE vf) : ∀ l ∈ r.of, ∀ p ∈ l, p.dg.length = 32 := fun l hl p hp => by
 obtain ⟨i, hi, e⟩ := List.mem_iff_getElem.1 hl
 have hg : r.of.getD i [] = l := by rw [List.getD_eq_getElem?_getD, List.getElem?_eq_getElem hi, e]; rfl
 by_cases hs : i = r.self
 ·have h3 := h.ol
  unfold ownL at h3
  rw [← hs, hg] at h3
  rw [h3] at hp
  obtain ⟨o, ho, rfl⟩ := List.mem_map.1 hp
  exact (h.ob o ho).2.1
 ·have h4 := (h.vat i (by rw [← h.nl]; exact hi) hs).2.1.1
  rw [hg] at h4
  exact h4 p hp
theorem all_seq {w : World} {B mo mv : Nat} {r : Ptp} {ows : List Ow} {OE VE : List (Int × Value)} {vf : Nat → Pl} (h : PPt w B mo mv r ows OE VE vf) {W0 : World} {Bs : Nat} {ofs : List (List Pq)} {E : Nat → Prop} (hBs : w.cell? ⟨Bs, 0, none⟩ = some (.pointer (some ⟨B, 0, none⟩))) (hBn : Bs < w.heap.size) (hofs : ofs.map (fun l => l.map Subtype.val) = r.of) (hlen : ows.length ≤ 100000) (hb : Below w.heap.size w W0) (hE : ∀ q, E q → q < W0.heap.size) :
  SeqStopsK Fence.wide 3 Try.prog 51 #[.pointer (some ⟨Bs, 0, none⟩)] encQ (KpE w.heap.size E) (fun ys => ys = ofs.flatten) (fun pre => pre <+: ofs.flatten) ofs.flatten.length W0 := fun l J Jx W hW hJ hJx hY h0 => by
 have hW2 : Below w.heap.size w W := hb.trans (hW.mono hb.size)
 exact all1_p l Bs w.heap.size E ofs J Jx hY W hW2.size ((hW2.cell (p := ⟨Bs, 0, none⟩) hBn).trans hBs) hBn (h.low hW2 h.lt) h.lt (fun q hq => Nat.lt_of_lt_of_le (hE q hq) hW.size) hofs hlen (abides_below hJ) h0
theorem callFunc_v1 (args : Array Value) (w : World) : (callFunc 50 args).run Try.prog w = .ok (.enter 50 args) w := by kernel_rfl
theorem callFunc_a1 (args : Array Value) (w : World) : (callFunc 51 args).run Try.prog w = .ok (.enter 51 args) w := by kernel_rfl
set_option maxHeartbeats 16000000 in
set_option maxRecDepth 100000 in
theorem valuesC_p (A : Option Addr) (k c : Nat) (w : World) : Calls Try.prog 32 #[.slice A k c] w fun e w' => ∃ Bs, e = .returned (.func (.func 50) #[] #[.pointer (some ⟨Bs, 0, none⟩)]) ∧ w'.cell? ⟨Bs, 0, none⟩ = some (.slice A k c) ∧ Below w.heap.size w w' ∧ w.heap.size ≤ Bs ∧ Bs < w'.heap.size := by
 have hmf : ∀ (fn : Fn) (first cap : Array Value) (w : World), (Instr.makeFunc fn first cap).run Try.prog w = .ok (.func fn first cap) w := fun _ _ _ _ => rfl
 go_enter Try.func32, Try.ntmps32
 go_wp2
 go_ret
 exact ⟨w.heap.size, rfl, Blk.cellAt (Blk.fresh (w := w) rfl rfl) rfl, below1_ _ _, Nat.le_refl _, by simp⟩
set_option maxHeartbeats 16000000 in
set_option maxRecDepth 100000 in
theorem allC_p (w : World) (B : Nat) : Calls Try.prog 34 #[(.pointer (some ⟨B, 0, none⟩))] w fun e w' => ∃ Bs, e = .returned (.func (.func 51) #[] #[.pointer (some ⟨Bs, 0, none⟩)]) ∧ w'.cell? ⟨Bs, 0, none⟩ = some (.pointer (some ⟨B, 0, none⟩)) ∧ Below w.heap.size w w' ∧ w.heap.size ≤ Bs ∧ Bs < w'.heap.size := by
 have hmf : ∀ (fn : Fn) (first cap : Array Value) (w : World), (Instr.makeFunc fn first cap).run Try.prog w = .ok (.func fn first cap) w := fun _ _ _ _ => rfl
 go_enter Try.func34, Try.ntmps34
 go_wp2
 go_ret
 exact ⟨w.heap.size, rfl, Blk.cellAt (Blk.fresh (w := w) rfl rfl) rfl, below1_ _ _, Nat.le_refl _, by simp⟩
set_option maxHeartbeats 16000000 in
set_option maxRecDepth 100000 in
theorem stable_p {w : World} {B mo mv : Nat} {r : Ptp} {ows : List Ow} {OE VE : List (Int × Value)} {vf : Nat → Pl} (h : PPt w B mo mv r ows OE VE vf) (above : Int) (hlen : ows.length ≤ 100000) : Calls Try.prog 10 #[(.pointer (some ⟨B, 0, none⟩)), .int .i64 above] w fun e w' => e = .returned (.tuple #[.agg (Po.cells (stabR r above).1).toArray, .bool (stabR r above).2]) ∧ Below w.heap.size w w' := by
 have hz : ∀ W, (zeroValue tPo).run Try.prog W = .ok (.agg (Po.cells poZ).toArray) W := fun W => Try.zero_po W
 have hb0 := below1_ w (.cells (Po.cells poZ).toArray tPo)
 have HZ : Hid (Blk (w.alloc (.cells (Po.cells poZ).toArray tPo)) w.heap.size tPo (Po.cells poZ)) := Lib.hid (Blk.fresh rfl rfl)
 have HP := Lib.hid (h.through hb0)
 obtain ⟨xs, hxs⟩ : ∃ xs : List Pq, xs.map Subtype.val = r.of.getD r.self [] := ⟨pqs _ (fun p hp => by
  have h3 := h.ol
  unfold ownL at h3
  rw [h3] at hp
  obtain ⟨o, ho, rfl⟩ := List.mem_map.1 hp
  exact (h.ob o ho).2.1), pqs_map _⟩
 have HXs := Lib.hid hxs
 have HGS0 : Hid ((gF r.of (2 * fltP (r.n : Int) + 1) above (xs.map Subtype.val)).2 = stabR r above) := Lib.hid (by rw [hxs]; exact gF_stabR h above)
 have HKl : Hid ((r.of.getD r.self []).length ≤ 1000000) := Lib.hid (by
  have h3 := h.ol
  unfold ownL at h3
  rw [h3, List.length_map]
  omega)
 clear hxs
 have HH := Lib.hid h
 have HLen := Lib.hid hlen
 have HN1 := Lib.hid h.n1
 have HN7 : Hid ((r.n : Int) ≤ 1000000) := Lib.hid (by have := h.n7; omega)
 obtain ⟨sr, hsr⟩ : ∃ sr, stabR r above = sr := ⟨_, rfl⟩
 have HSl : Hid ((Po.cells sr.1).length = 33) := Lib.hid (by
  rw [← hsr, ← HGS0.out]
  exact Po.cells_len _ (gF_len _ _ _ _))
 rw [hsr] at HGS0 ⊢
 have HGS := HGS0
 have hwf : IntKind.i64.wrap (fltP (r.n : Int) + 1) = fltP (r.n : Int) + 1 := IntWalk.i64_in _ (by have := h.n7; unfold fltP; split <;> omega)
 have HB0 := Lib.hid hb0
 clear h hlen hb0 hsr HGS0
 go_enter Try.func10, Try.ntmps10
 go_upto_region 3 with (go_at_call 27; (with_reducible refine (isnone_p _ HP.out.box HN1.out).mono ?_); rintro e w9 ⟨rfl, hw9⟩; have hw8 := hw9.symm; clear hw9; subst hw8)
 generalize w.alloc (.cells (Po.cells poZ).toArray tPo) = w1 at *
 refine wp_region_held_drew (S := fun W5 => Below w.heap.size w W5) (by kernel_rfl) HB0.out.drew (fun hHeld => ?_)
 change wpAnyH _ _ _ _ _ _ #[false, false, false, false, false, false, false, false, false, false, false, false, false, false, false, false, false, false, false] _ _
 refine tkq (i := 0) (d := 9) (v := (.pointer (some ⟨B, 0, none⟩))) rfl rfl (Or.inl ⟨by kernel_rfl, fun w hSw => ?_⟩) (by assumption) ?_
 ·(try dsimp only at hSw); go_simp <;> (try rfl)
 simp only [Act.put, sq1, sq2, sq3]
 refine tkq (i := 1) (d := 10) (v := (.pointer (some ⟨B, 0, none⟩))) rfl rfl (Or.inl ⟨by kernel_rfl, fun w hSw => ?_⟩) (by assumption) ?_
 ·(try dsimp only at hSw); go_simp <;> (try rfl)
 simp only [Act.put, sq1, sq2, sq3]
 refine tkq (i := 2) (d := 11) (v := (.pointer (some ⟨B, 0, none⟩))) rfl rfl (Or.inl ⟨by kernel_rfl, fun w hSw => ?_⟩) (by assumption) ?_
 ·(try dsimp only at hSw); go_simp <;> (try rfl)
 simp only [Act.put, sq1, sq2, sq3]
 refine tkq (i := 3) (d := 12) (v := (.pointer (some ⟨B, 0, none⟩))) rfl rfl (Or.inl ⟨by kernel_rfl, fun w hSw => ?_⟩) (by assumption) ?_
 ·(try dsimp only at hSw); go_simp <;> (try rfl)
 simp only [Act.put, sq1, sq2, sq3]
 refine tkq (i := 4) (d := 13) (v := (.pointer (some ⟨B, 1, none⟩))) rfl rfl (Or.inl ⟨by kernel_rfl, fun w hSw => ?_⟩) (by assumption) ?_
 ·(try dsimp only at hSw); go_simp <;> (try rfl)
 simp only [Act.put, sq1, sq2, sq3]
 refine tkq (i := 5) (d := 14) (v := (.int .i64 (r.self : Int))) rfl rfl (yields_load_at (by kernel_rfl) 3 (.tmp 13) rfl (.pointer (some ⟨B, 1, none⟩)) (by simp [Act.eval]) (.int .i64 (r.self : Int)) (fun W hW => load_one' (Try.agg_in W) ((HH.out.low hW HH.out.lt).box.cellAt (i := 1) rfl))) (by assumption) ?_
 simp only [Act.put, sq1, sq2, sq3]
 refine tkq (i := 8) (d := 17) (v := (.int .i64 above)) rfl rfl (Or.inl ⟨by kernel_rfl, fun w hSw => ?_⟩) (by assumption) ?_
 ·(try dsimp only at hSw); go_simp <;> (try rfl)
 simp only [Act.put, sq1, sq2, sq3]
 refine tkq (i := 9) (d := 18) (v := (.pointer (some ⟨B, 0, none⟩))) rfl rfl (Or.inl ⟨by kernel_rfl, fun w hSw => ?_⟩) (by assumption) ?_
 ·(try dsimp only at hSw); go_simp <;> (try rfl)
 simp only [Act.put, sq1, sq2, sq3]
 refine tkq (i := 10) (d := 19) (v := (.pointer (some ⟨B, 0, none⟩))) rfl rfl (Or.inl ⟨by kernel_rfl, fun w hSw => ?_⟩) (by assumption) ?_
 ·(try dsimp only at hSw); go_simp <;> (try rfl)
 simp only [Act.put, sq1, sq2, sq3]
 refine tkq (i := 11) (d := 20) (v := (.pointer (some ⟨B, 0, none⟩))) rfl rfl (Or.inl ⟨by kernel_rfl, fun w hSw => ?_⟩) (by assumption) ?_
 ·(try dsimp only at hSw); go_simp <;> (try rfl)
 simp only [Act.put, sq1, sq2, sq3]
 refine tkq (i := 12) (d := 21) (v := (.int .i64 (r.n : Int))) rfl rfl (yields_load_at (by kernel_rfl) 3 (.tmp 20) rfl (.pointer (some ⟨B, 0, none⟩)) (by simp [Act.eval]) (.int .i64 (r.n : Int)) (fun W hW => load_one' (Try.agg_in W) ((HH.out.low hW HH.out.lt).box.cellAt (i := 0) rfl))) (by assumption) ?_
 simp only [Act.put, sq1, sq2, sq3]
 refine wpAnyH_ready (rs := [6]) (by kernel_rfl) (by simp) ?_
 refine AllReadyH.cons rfl (fun K hK => ?_) AllReadyH.nil
 go_simp
 refine (votes_any r.self (HH.out.low hHeld HH.out.lt) HH.out.sf HLen.out).mono ?_
 rintro e w6 ⟨⟨A6, k6, c6, rfl, ho6, hp6, _, _⟩, hb6⟩; have HX6 := Lib.hid (hHeld.trans (hb6.mono hHeld.size)); have HZ6 := Lib.hid (HZ.out.drew.through hb6); have HP6 := Lib.hid hp6; have HO6 := Lib.hid (fun q (hq : plB (A6, k6, k6) q) => (ho6.lt q (by obtain ⟨_, a9, e9, e8⟩ := hq; simp only at e9; subst e9; simp [Value.ownBlock, e8])).2); clear hp6 hb6 ho6
 go_wp2_with fail
 refine hK.out _ _ HX6.out (fun hHeld1 => ?_)
 clear hHeld hK K
 have hHeld := hHeld1
 clear hHeld1
 refine wpAnyH_ready (rs := [7]) (by kernel_rfl) (by simp) ?_
 refine AllReadyH.cons rfl (fun K hK => ?_) AllReadyH.nil
 go_simp
 refine (valuesC_p A6 k6 c6 w6).mono ?_
 rintro e w7 ⟨Bs, rfl, hc7, hb7, hl7, hs7⟩; have HX7 := Lib.hid (hHeld.trans (hb7.mono hHeld.size)); have HZ7 := Lib.hid (HZ6.out.through hb7); have HP7 := Lib.hid (HP6.out.through hb7); have HO7 := Lib.hid (fun q hq => Nat.lt_of_lt_of_le (HO6.out q hq) hb7.size); have HC7 := Lib.hid hc7; have HS7 := Lib.hid hs7; clear hc7 hb7 hl7 hs7
 go_wp2_with fail
 refine hK.out _ _ HX7.out (fun hHeld1 => ?_)
 clear hHeld hK K
 have hHeld := hHeld1
 clear hHeld1
 refine wpAnyH_ready (rs := [13]) (by kernel_rfl) (by simp) ?_
 refine AllReadyH.cons rfl (fun K hK => ?_) AllReadyH.nil
 go_simp
 refine (nquorum_any (r.n : Int) w7 HN7.out).mono ?_
 rintro e w8 ⟨rfl, hw8⟩; subst hw8
 go_wp2_with fail
 refine hK.out _ _ hHeld (fun hHeld1 => ?_)
 clear hHeld hK K
 have hHeld := hHeld1
 clear hHeld1
 refine wpAnyH_ready (rs := [14]) (by kernel_rfl) (by simp) ?_
 refine AllReadyH.cons rfl (fun K hK => ?_) AllReadyH.nil
 go_simp
 refine (greatest_p (HH.out.low HX7.out HH.out.lt) above (2 * fltP (r.n : Int) + 1) xs _ _ (fun E W0 hb hE => values_seq (E := E) (HP6.out.len ▸ HKl.out) HC7.out HS7.out (by rw [HXs.out]; exact HP7.out) HO7.out hb) callFunc_v1).mono ?_
 rintro e w9 ⟨he9, hb9⟩; rw [HGS.out] at he9; subst he9; have HX9 := Lib.hid (hHeld.trans (hb9.mono hHeld.size)); have HZ9 := Lib.hid (HZ7.out.through hb9); clear hb9
 go_wp2_with fail
 refine hK.out _ _ HX9.out (fun hHeld1 => ?_)
 clear hHeld hK K
 have hHeld := hHeld1
 clear hHeld1
 refine tkq (i := 15) (d := 24) (v := (.agg (Po.cells sr.1).toArray)) rfl rfl (Or.inl ⟨by kernel_rfl, fun w hSw => ?_⟩) (by assumption) ?_
 ·(try dsimp only at hSw); go_simp <;> (try rfl)
 simp only [Act.put, sq1, sq2, sq3]
 refine tkq (i := 16) (d := 25) (v := (.bool sr.2)) rfl rfl (Or.inl ⟨by kernel_rfl, fun w hSw => ?_⟩) (by assumption) ?_
 ·(try dsimp only at hSw); go_simp <;> (try rfl)
 simp only [Act.put, sq1, sq2, sq3]
 refine wpAnyH_ready (rs := [17]) (by kernel_rfl) (by simp) ?_
 refine AllReadyH.cons (o := ⟨none, .store tPo (.tmp 4) (.tmp 24), _, _, _, none⟩) rfl (fun K hK => ?_) AllReadyH.nil
 refine step_store_blk rfl tPo (.tmp 4) (.tmp 24) rfl w.heap.size (Po.cells sr.1) (by simp [Act.eval]) (by simp [Act.eval]) tPo (Po.cells poZ) HZ9.out (by rw [HSl.out]; kernel_rfl) (by rw [HSl.out]; rfl) (Po.one sr.1) ?_; intro w10 hb10 hg10; have HB10 := Lib.hid hb10; have HX10 := Lib.hid (hHeld.grown hg10 hHeld.size (fun q hq => by rw [← Option.some.inj hq]; exact Nat.le_refl _)); clear hb10 hg10
 refine hK.out _ _ HX10.out (fun hHeld1 => ?_)
 clear hHeld hK K
 have hHeld := hHeld1
 clear hHeld1
 change wpAnyH _ _ _ _ _ _ _ (Act.put _ none undef) _
 simp only [Act.put]
 refine tkq (i := 18) (d := 5) (v := (.bool sr.2)) rfl rfl (Or.inl ⟨by kernel_rfl, fun w hSw => ?_⟩) (by assumption) ?_
 ·(try dsimp only at hSw); go_simp <;> (try rfl)
 simp only [Act.put, sq1, sq2, sq3]
 refine wpAnyH_done (by kernel_rfl) ?_ _
 clear hHeld
 go_wp2
 (try simp only [Exit.inBlock, Exit.then]); refine bodyPost_ret (results_cell_row_tmp1 rfl _ _ w.heap.size tPo _ (0, 0) _ rfl HB10.out Try.underlying31 rfl (by rw [List.size_toArray, HSl.out]; kernel_rfl)) rfl ?_
 exact ⟨rfl, HX10.out⟩
set_option maxHeartbeats 16000000 in
set_option maxRecDepth 100000 in
theorem weak_p {w : World} {B mo mv : Nat} {r : Ptp} {ows : List Ow} {OE VE : List (Int × Value)} {vf : Nat → Pl} (h : PPt w B mo mv r ows OE VE vf) (above : Int) (hlen : ows.length ≤ 100000) : Calls Try.prog 11 #[(.pointer (some ⟨B, 0, none⟩)), .int .i64 above] w fun e w' => e = .returned (.tuple #[.agg (Po.cells (weakR r above).1).toArray, .bool (weakR r above).2]) ∧ Below w.heap.size w w' := by
 have hz : ∀ W, (zeroValue tPo).run Try.prog W = .ok (.agg (Po.cells poZ).toArray) W := fun W => Try.zero_po W
 have hb0 := below1_ w (.cells (Po.cells poZ).toArray tPo)
 have HZ : Hid (Blk (w.alloc (.cells (Po.cells poZ).toArray tPo)) w.heap.size tPo (Po.cells poZ)) := Lib.hid (Blk.fresh rfl rfl)
 have HP := Lib.hid (h.through hb0)
 obtain ⟨ofs, hof⟩ := pqss r.of h.dgs
 have HOf := Lib.hid hof
 have HGS0 : Hid ((gF r.of (fltP (r.n : Int) + 1) above (ofs.flatten.map Subtype.val)).2 = weakR r above) := Lib.hid (by
  rw [List.map_flatten, hof]
  exact gF_weakR h above)
 clear hof
 have HH := Lib.hid h
 have HLen := Lib.hid hlen
 have HN1 := Lib.hid h.n1
 have HN7 : Hid ((r.n : Int) ≤ 1000000) := Lib.hid (by have := h.n7; omega)
 obtain ⟨sr, hsr⟩ : ∃ sr, weakR r above = sr := ⟨_, rfl⟩
 have HSl : Hid ((Po.cells sr.1).length = 33) := Lib.hid (by
  rw [← hsr, ← HGS0.out]
  exact Po.cells_len _ (gF_len _ _ _ _))
 rw [hsr] at HGS0 ⊢
 have HGS := HGS0
 have hwf : IntKind.i64.wrap (fltP (r.n : Int) + 1) = fltP (r.n : Int) + 1 := IntWalk.i64_in _ (by have := h.n7; unfold fltP; split <;> omega)
 have HB0 := Lib.hid hb0
 clear h hlen hb0 hsr HGS0
 go_enter Try.func11, Try.ntmps11
 go_upto_region 3 with (go_at_call 27; (with_reducible refine (isnone_p _ HP.out.box HN1.out).mono ?_); rintro e w9 ⟨rfl, hw9⟩; have hw8 := hw9.symm; clear hw9; subst hw8)
 generalize w.alloc (.cells (Po.cells poZ).toArray tPo) = w1 at *
 refine wp_region_held_drew (S := fun W5 => Below w.heap.size w W5) (by kernel_rfl) HB0.out.drew (fun hHeld => ?_)
 change wpAnyH _ _ _ _ _ _ #[false, false, false, false, false, false, false, false, false, false, false, false, false, false, false] _ _
 refine tkq (i := 0) (d := 9) (v := (.pointer (some ⟨B, 0, none⟩))) rfl rfl (Or.inl ⟨by kernel_rfl, fun w hSw => ?_⟩) (by assumption) ?_
 ·(try dsimp only at hSw); go_simp <;> (try rfl)
 simp only [Act.put, sq1, sq2, sq3]
 refine tkq (i := 1) (d := 10) (v := (.pointer (some ⟨B, 0, none⟩))) rfl rfl (Or.inl ⟨by kernel_rfl, fun w hSw => ?_⟩) (by assumption) ?_
 ·(try dsimp only at hSw); go_simp <;> (try rfl)
 simp only [Act.put, sq1, sq2, sq3]
 refine tkq (i := 3) (d := 12) (v := (.int .i64 above)) rfl rfl (Or.inl ⟨by kernel_rfl, fun w hSw => ?_⟩) (by assumption) ?_
 ·(try dsimp only at hSw); go_simp <;> (try rfl)
 simp only [Act.put, sq1, sq2, sq3]
 refine tkq (i := 4) (d := 13) (v := (.pointer (some ⟨B, 0, none⟩))) rfl rfl (Or.inl ⟨by kernel_rfl, fun w hSw => ?_⟩) (by assumption) ?_
 ·(try dsimp only at hSw); go_simp <;> (try rfl)
 simp only [Act.put, sq1, sq2, sq3]
 refine tkq (i := 5) (d := 14) (v := (.pointer (some ⟨B, 0, none⟩))) rfl rfl (Or.inl ⟨by kernel_rfl, fun w hSw => ?_⟩) (by assumption) ?_
 ·(try dsimp only at hSw); go_simp <;> (try rfl)
 simp only [Act.put, sq1, sq2, sq3]
 refine tkq (i := 6) (d := 15) (v := (.pointer (some ⟨B, 0, none⟩))) rfl rfl (Or.inl ⟨by kernel_rfl, fun w hSw => ?_⟩) (by assumption) ?_
 ·(try dsimp only at hSw); go_simp <;> (try rfl)
 simp only [Act.put, sq1, sq2, sq3]
 refine tkq (i := 7) (d := 16) (v := (.int .i64 (r.n : Int))) rfl rfl (yields_load_at (by kernel_rfl) 3 (.tmp 15) rfl (.pointer (some ⟨B, 0, none⟩)) (by simp [Act.eval]) (.int .i64 (r.n : Int)) (fun W hW => load_one' (Try.agg_in W) ((HH.out.low hW HH.out.lt).box.cellAt (i := 0) rfl))) (by assumption) ?_
 simp only [Act.put, sq1, sq2, sq3]
 refine wpAnyH_ready (rs := [2]) (by kernel_rfl) (by simp) ?_
 refine AllReadyH.cons rfl (fun K hK => ?_) AllReadyH.nil
 go_simp
 refine (allC_p w1.drew B).mono ?_
 rintro e w7 ⟨Bs, rfl, hc7, hb7, hl7, hs7⟩; have HX7 := Lib.hid (hHeld.trans (hb7.mono hHeld.size)); have HZ7 := Lib.hid (HZ.out.drew.through hb7); have HC7 := Lib.hid hc7; have HS7 := Lib.hid hs7; clear hc7 hb7 hl7 hs7
 go_wp2_with fail
 refine hK.out _ _ HX7.out (fun hHeld1 => ?_)
 clear hHeld hK K
 have hHeld := hHeld1
 clear hHeld1
 refine wpAnyH_ready (rs := [8]) (by kernel_rfl) (by simp) ?_
 refine AllReadyH.cons rfl (fun K hK => ?_) AllReadyH.nil
 go_simp
 refine (nfaults_any (r.n : Int) w7 HN7.out).mono ?_
 rintro e w8 ⟨rfl, hw8⟩; subst hw8
 go_wp2_with fail
 refine hK.out _ _ hHeld (fun hHeld1 => ?_)
 clear hHeld hK K
 have hHeld := hHeld1
 clear hHeld1
 refine tkq (i := 9) (d := 18) (v := (.int .i64 (fltP (r.n : Int) + 1))) rfl rfl (Or.inl ⟨by kernel_rfl, fun w hSw => ?_⟩) (by assumption) ?_
 ·(try dsimp only at hSw); go_simp <;> (try rfl)
 simp only [Act.put, sq1, sq2, sq3]
 refine wpAnyH_ready (rs := [10]) (by kernel_rfl) (by simp) ?_
 refine AllReadyH.cons rfl (fun K hK => ?_) AllReadyH.nil
 go_simp
 refine (greatest_p (HH.out.low HX7.out HH.out.lt) above (fltP (r.n : Int) + 1) ofs.flatten _ _ (fun E W0 hb hE => all_seq (HH.out.low HX7.out HH.out.lt) (E := E) HC7.out HS7.out HOf.out HLen.out hb hE) callFunc_a1).mono ?_
 rintro e w9 ⟨he9, hb9⟩; rw [HGS.out] at he9; subst he9; have HX9 := Lib.hid (hHeld.trans (hb9.mono hHeld.size)); have HZ9 := Lib.hid (HZ7.out.through hb9); clear hb9
 go_wp2_with fail
 refine hK.out _ _ HX9.out (fun hHeld1 => ?_)
 clear hHeld hK K
 have hHeld := hHeld1
 clear hHeld1
 refine tkq (i := 11) (d := 20) (v := (.agg (Po.cells sr.1).toArray)) rfl rfl (Or.inl ⟨by kernel_rfl, fun w hSw => ?_⟩) (by assumption) ?_
 ·(try dsimp only at hSw); go_simp <;> (try rfl)
 simp only [Act.put, sq1, sq2, sq3]
 refine tkq (i := 12) (d := 21) (v := (.bool sr.2)) rfl rfl (Or.inl ⟨by kernel_rfl, fun w hSw => ?_⟩) (by assumption) ?_
 ·(try dsimp only at hSw); go_simp <;> (try rfl)
 simp only [Act.put, sq1, sq2, sq3]
 refine wpAnyH_ready (rs := [13]) (by kernel_rfl) (by simp) ?_
 refine AllReadyH.cons (o := ⟨none, .store tPo (.tmp 4) (.tmp 20), _, _, _, none⟩) rfl (fun K hK => ?_) AllReadyH.nil
 refine step_store_blk rfl tPo (.tmp 4) (.tmp 20) rfl w.heap.size (Po.cells sr.1) (by simp [Act.eval]) (by simp [Act.eval]) tPo (Po.cells poZ) HZ9.out (by rw [HSl.out]; kernel_rfl) (by rw [HSl.out]; rfl) (Po.one sr.1) ?_; intro w10 hb10 hg10; have HB10 := Lib.hid hb10; have HX10 := Lib.hid (hHeld.grown hg10 hHeld.size (fun q hq => by rw [← Option.some.inj hq]; exact Nat.le_refl _)); clear hb10 hg10
 refine hK.out _ _ HX10.out (fun hHeld1 => ?_)
 clear hHeld hK K
 have hHeld := hHeld1
 clear hHeld1
 change wpAnyH _ _ _ _ _ _ _ (Act.put _ none undef) _
 simp only [Act.put]
 refine tkq (i := 14) (d := 5) (v := (.bool sr.2)) rfl rfl (Or.inl ⟨by kernel_rfl, fun w hSw => ?_⟩) (by assumption) ?_
 ·(try dsimp only at hSw); go_simp <;> (try rfl)
 simp only [Act.put, sq1, sq2, sq3]
 refine wpAnyH_done (by kernel_rfl) ?_ _
 clear hHeld
 go_wp2
 (try simp only [Exit.inBlock, Exit.then]); refine bodyPost_ret (results_cell_row_tmp1 rfl _ _ w.heap.size tPo _ (0, 0) _ rfl HB10.out Try.underlying31 rfl (by rw [List.size_toArray, HSl.out]; kernel_rfl)) rfl ?_
 exact ⟨rfl, HX10.out⟩

end Go.Proofs.Ytpolofehkckaoaa
