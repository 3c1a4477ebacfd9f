/-
  Joined: PwD.
-/
import Derived.Test.YtpolofehkckaoaaUT32
import Derived.Test.YtpolofehkckaoaaUTT
namespace Go.Proofs.Ytpolofehkckaoaa
open Go.RowKit

def zOw : List Value := Po.cells poZ ++ [.slice none 0 0]
theorem Try.zero_ow (w : World) : (zeroValue tOw).run Try.prog w = .ok (.agg zOw.toArray) w := by kernel_rfl
theorem Try.alloc_ow (g : Nat) (w : World) (hg : w.heap.size = g) : (Instr.alloc tOw true (.tuple #[])).run Try.prog w = .ok (.pointer (some ⟨g, 0, none⟩)) (w.alloc (.cells zOw.toArray tOw)) := by
 subst hg
 kernel_rfl
theorem Blk.rngOw {W : World} {g : Nat} {o : Ow} {oc : List Value} (h : Blk W g tOw oc) (ho : oc = o.cells) : W.rangeAt g 0 (Po.cells o.po) := fun j v hv => by
 rw [Nat.zero_add]
 refine h.cellAt ?_
 rw [ho]
 unfold Ow.cells
 rw [List.getElem?_append_left (List.getElem?_eq_some_iff.1 hv).1]
 exact hv
theorem Ow.len (o : Ow) (h : o.po.dg.length = 32) : o.cells.length = 34 := by unfold Ow.cells; rw [List.length_append, Po.cells_len _ h]; rfl
theorem Ow.one (o : Ow) : o.cells.toArray.all (·.oneCell') = true := Array.all_eq_true_iff_forall_mem.2 (fun u hu => by
 rcases List.mem_append.1 (show u ∈ Po.cells o.po ++ [o.pl.val] by simpa [Ow.cells] using hu) with h | h
 ·exact Array.all_eq_true_iff_forall_mem.1 (Po.one o.po) u (by simpa using h)
 ·rw [List.mem_singleton.1 h]; rfl)
theorem zOw_one : zOw.toArray.all (·.oneCell') = true := Ow.one ⟨poZ, (none, 0, 0), []⟩
/-- what owned answers -/
def OwnIs (ows : List Ow) (x : Po) (oc : List Value) (bb : Bool) : Prop := bb = conP x (ows.map Ow.po) ∧ (bb = true → ∃ o ∈ ows, o.po = x ∧ oc = o.cells)
theorem eqb_iff {x y : Po} : x.eqb y = true ↔ x = y := by
 obtain ⟨a, d⟩ := x
 obtain ⟨b, e⟩ := y
 simp [Po.eqb]
theorem con_iff {x : Po} {l : List Po} : conP x l = true ↔ x ∈ l := by
 unfold conP
 rw [List.any_eq_true]
 constructor
 ·rintro ⟨y, hy, h⟩
  rw [eqb_iff.1 h]
  exact hy
 ·exact fun h => ⟨x, h, eqb_iff.2 rfl⟩
/-- the entry of a number -/
theorem get_ows {ows : List Ow} (hr : Ris (ows.map Ow.po)) (q : Int) : (getK q (ows.map Ow.ent) = none ∧ ∀ o ∈ ows, o.po.sq ≠ q) ∨ ∃ o ∈ ows, o.po.sq = q ∧ getK q (ows.map Ow.ent) = some o.val := by
 induction ows with
 | nil => exact .inl ⟨rfl, fun o h => by cases h⟩
 | cons o l ih =>
  rw [List.map_cons, ris_cons] at hr
  simp only [List.map_cons]
  unfold getK
  by_cases hq : q = o.po.sq
  ·rw [if_pos (show q = (Ow.ent o).1 from hq)]
   exact .inr ⟨o, List.mem_cons_self .., hq.symm, rfl⟩
  ·rw [if_neg (show ¬ q = (Ow.ent o).1 from hq)]
   rcases ih hr.2 with ⟨h1, h2⟩ | ⟨o', h1, h2, h3⟩
   ·refine .inl ⟨h1, fun o' ho' => ?_⟩
    rcases List.mem_cons.1 ho' with rfl | h9
    ·exact fun e => hq e.symm
    ·exact h2 o' h9
   ·exact .inr ⟨o', List.mem_cons_of_mem _ h1, h2, h3⟩
theorem ows_inj {ows : List Ow} (hr : Ris (ows.map Ow.po)) {o o' : Ow} (h : o ∈ ows) (h' : o' ∈ ows) (e : o.po.sq = o'.po.sq) : o = o' := by
 induction ows with
 | nil => cases h
 | cons a l ih =>
  rw [List.map_cons, ris_cons] at hr
  rcases List.mem_cons.1 h with rfl | h1 <;> rcases List.mem_cons.1 h' with rfl | h2
  ·rfl
  ·have := hr.1 o'.po (List.mem_map.2 ⟨o', h2, rfl⟩)
   omega
  ·have := hr.1 o.po (List.mem_map.2 ⟨o, h1, rfl⟩)
   omega
  ·exact ih hr.2 h1 h2
set_option maxHeartbeats 16000000 in
set_option maxRecDepth 100000 in
theorem owned_p {w : World} {B mo mv : Nat} {r : Ptp} {ows : List Ow} {OE VE : List (Int × Value)} {vf : Nat → Pl} (x : Po) (h : PPt w B mo mv r ows OE VE vf) (hx : x.dg.length = 32) :
  Calls Try.prog 36 #[(.pointer (some ⟨B, 0, none⟩)), .agg (Po.cells x).toArray] w fun e w' => ∃ oc bb, e = .returned (.tuple #[.agg oc.toArray, .bool bb]) ∧ oc.length = 34 ∧ oc.toArray.all (·.oneCell') = true ∧ OwnIs ows x oc bb ∧ Below w.heap.size w w' := by
 have hbx := fun W => Try.box_po x hx W
 have hz : ∀ W, (zeroValue tOw).run Try.prog W = .ok (.agg zOw.toArray) W := fun W => Try.zero_ow W
 have HXl : Hid ((Po.cells x).length = 33) := Lib.hid (Po.cells_len x hx)
 have HXd := Lib.hid hx
 have hr := h.ris
 rw [h.ol] at hr
 have hge := (get_perm h.op (by rw [ents_fst]; exact ris_nodup hr) x.sq)
 have HW : Hid (Below w.heap.size w ((w.alloc (.cells (Po.cells x).toArray tPo)).alloc (.cells zOw.toArray tOw)) ∧ Blk ((w.alloc (.cells (Po.cells x).toArray tPo)).alloc (.cells zOw.toArray tOw)) w.heap.size tPo (Po.cells x) ∧ Blk ((w.alloc (.cells (Po.cells x).toArray tPo)).alloc (.cells zOw.toArray tOw)) (w.heap.size + 1) tOw zOw) :=
  Lib.hid ⟨below_step (below1_ w _) (below1_ _ _), (Blk.fresh (cs := Po.cells x) rfl rfl).through (below1_ _ _), Blk.fresh (by simp) rfl⟩
 have HH := Lib.hid h
 have hob := h.ob
 clear h
 rcases get_ows hr x.sq with ⟨h1, h2⟩ | ⟨o, ho, hq, h1⟩
 ·obtain ⟨oc, hoc⟩ : ∃ oc, zOw = oc := ⟨_, rfl⟩
  obtain ⟨ok, hok⟩ : ∃ ok, false = ok := ⟨_, rfl⟩
  have HT : Hid ((.tuple #[.agg oc.toArray, .bool ok] : Value) = .tuple #[(getK x.sq OE).getD (.agg zOw.toArray), .bool (getK x.sq OE).isSome]) := Lib.hid (by rw [hge, h1, ← hoc, ← hok]; rfl)
  have HOl : Hid (oc.length = 34) := Lib.hid (by rw [← hoc]; rfl)
  have HO1 : Hid (oc.toArray.all (·.oneCell') = true) := Lib.hid (by rw [← hoc]; exact zOw_one)
  have HV : Hid (OwnIs ows x oc false) := Lib.hid ⟨by
   symm
   rw [Bool.eq_false_iff]
   intro h9
   obtain ⟨o, ho, e⟩ := List.mem_map.1 (con_iff.1 h9)
   exact h2 o ho (by rw [e]), fun h9 => by cases h9⟩
  clear hoc hge h1 h2 hob hr hx
  go_enter Try.func36, Try.ntmps36
  go_upto_region 1 with fail
  generalize hw4 : ((w.alloc (.cells (Po.cells x).toArray tPo)).alloc (.cells zOw.toArray tOw)) = w4 at *
  have HW4 := Lib.hid HW.out
  clear HW hw4
  refine wp_region_held_drew (S := fun W => Below w.heap.size w W ∧ Blk W w.heap.size tPo (Po.cells x) ∧ Blk W (w.heap.size + 1) tOw zOw) (by kernel_rfl) ⟨HW4.out.1.drew, HW4.out.2.1.drew, HW4.out.2.2.drew⟩ (fun hHeld => ?_)
  change wpAnyH _ _ _ _ _ _ #[false, false, false, false, false, false, false, false, false, false, false, false, false] _ _
  refine tkq (i := 0) (d := 9) (v := (.pointer (some ⟨B, 0, none⟩))) rfl rfl (Or.inl ⟨by kernel_rfl, fun w hSw => ?_⟩) (by assumption) ?_
  ·(try dsimp only at hSw); go_simp <;> (try rfl)
  simp only [Act.put, sq1, sq2, sq3]
  refine tkq (i := 1) (d := 10) (v := (.pointer (some ⟨B, 0, none⟩))) rfl rfl (Or.inl ⟨by kernel_rfl, fun w hSw => ?_⟩) (by assumption) ?_
  ·(try dsimp only at hSw); go_simp <;> (try rfl)
  simp only [Act.put, sq1, sq2, sq3]
  refine tkq (i := 2) (d := 11) (v := (.pointer (some ⟨B, 2, none⟩))) rfl rfl (Or.inl ⟨by kernel_rfl, fun w hSw => ?_⟩) (by assumption) ?_
  ·(try dsimp only at hSw); go_simp <;> (try rfl)
  simp only [Act.put, sq1, sq2, sq3]
  refine tkq (i := 3) (d := 12) (v := (.map (some mo))) rfl rfl (yields_load_at (by kernel_rfl) 55 (.tmp 11) rfl (.pointer (some ⟨B, 2, none⟩)) (by simp [Act.eval]) (.map (some mo)) (fun W hW => load_one' (Try.agg_mo W) ((HH.out.through hW.1).box.cellAt (i := 2) rfl))) (by assumption) ?_
  simp only [Act.put, sq1, sq2, sq3]
  refine tkq (i := 4) (d := 13) (v := (.pointer (some ⟨w.heap.size, 0, none⟩))) rfl rfl (Or.inl ⟨by kernel_rfl, fun w hSw => ?_⟩) (by assumption) ?_
  ·(try dsimp only at hSw); go_simp <;> (try rfl)
  simp only [Act.put, sq1, sq2, sq3]
  refine tkq (i := 5) (d := 14) (v := (.int .i64 x.sq)) rfl rfl (yields_load_at (by kernel_rfl) 2 (.tmp 13) rfl (.pointer (some ⟨w.heap.size, 0, none⟩)) (by simp [Act.eval]) (.int .i64 x.sq) (fun W hW => load_one' (Try.agg_i6 W) (hW.2.1.cellAt (i := 0) rfl))) (by assumption) ?_
  simp only [Act.put, sq1, sq2, sq3]
  refine tkq (i := 6) (d := 15) (v := (.tuple #[.agg oc.toArray, .bool ok])) rfl rfl (yields_look_to (by kernel_rfl) tMo (.tmp 12) (.tmp 14) true rfl (.map (some mo)) (.int .i64 x.sq) (by simp [Act.eval]) (by simp [Act.eval]) (.tuple #[.agg oc.toArray, .bool ok]) (fun W hW => by rw [HT.out]; exact (HH.out.through hW.1).om.look2 Try.keyp_i64 Try.underlying55 (fun _ _ => trivial) trivial (Try.zero_ow W))) (by assumption) ?_
  simp only [Act.put, sq1, sq2, sq3]
  refine tkq (i := 7) (d := 8) (v := (.tuple #[.agg oc.toArray, .bool ok])) rfl rfl (Or.inl ⟨by kernel_rfl, fun w hSw => ?_⟩) (by assumption) ?_
  ·(try dsimp only at hSw); go_simp <;> (try rfl)
  simp only [Act.put, sq1, sq2, sq3]
  refine tkq (i := 8) (d := 16) (v := (.agg oc.toArray)) rfl rfl (Or.inl ⟨by kernel_rfl, fun w hSw => ?_⟩) (by assumption) ?_
  ·(try dsimp only at hSw); go_simp <;> (try rfl)
  simp only [Act.put, sq1, sq2, sq3]
  refine tkq (i := 9) (d := 17) (v := (.bool ok)) rfl rfl (Or.inl ⟨by kernel_rfl, fun w hSw => ?_⟩) (by assumption) ?_
  ·(try dsimp only at hSw); go_simp <;> (try rfl)
  simp only [Act.put, sq1, sq2, sq3]
  refine wpAnyH_ready (rs := [10]) (by kernel_rfl) (by simp) ?_
  refine AllReadyH.cons (o := ⟨some 6, .alloc tOw, _, _, _, none⟩) rfl (fun K hK => ?_) AllReadyH.nil
  obtain ⟨g6, hg6⟩ : ∃ g6, w4.drew.heap.size = g6 := ⟨_, rfl⟩; refine step_alloc (by simp [Region.wanted]) tOw rfl (.pointer (some ⟨g6, 0, none⟩)) (w4.drew.alloc (.cells zOw.toArray tOw)) (Try.alloc_ow g6 w4.drew hg6) ?_; have HB6 : Hid (Blk (w4.drew.alloc (.cells zOw.toArray tOw)) g6 tOw zOw) := Lib.hid (Blk.fresh hg6.symm rfl); have X6 := Lib.hid (below1_ w4.drew (.cells zOw.toArray tOw)); have HG6 := Lib.hid hg6; clear hg6
  refine hK.out _ _ ⟨below_step hHeld.1 X6.out, hHeld.2.1.through X6.out, hHeld.2.2.through X6.out⟩ (fun hHeld1 => ?_)
  clear hHeld hK K
  have hHeld := hHeld1
  clear hHeld1
  change wpAnyH _ _ _ _ _ _ _ (Act.put _ (some (6 : Nat)) (.pointer (some ⟨g6, 0, none⟩))) _
  simp only [Act.put, sq1, sq2, sq3]
  refine wpAnyH_ready (rs := [11]) (by kernel_rfl) (by simp) ?_
  refine AllReadyH.cons (o := ⟨none, .store tOw (.tmp 6) (.tmp 16), _, _, _, none⟩) rfl (fun K hK => ?_) AllReadyH.nil
  refine step_store_blk rfl tOw (.tmp 6) (.tmp 16) rfl g6 oc (by simp [Act.eval]) (by simp [Act.eval]) tOw zOw HB6.out (by rw [HOl.out]; kernel_rfl) (by rw [HOl.out]; rfl) HO1.out ?_; intro w6 hb6 hg7; have HB7 := Lib.hid hb6; have HS7 : Hid (Below w.heap.size w w6 ∧ Blk w6 w.heap.size tPo (Po.cells x) ∧ Blk w6 (w.heap.size + 1) tOw zOw) := Lib.hid ⟨hHeld.1.grown hg7 hHeld.1.size (fun q hq => by rw [← Option.some.inj hq, ← HG6.out]; exact HW4.out.1.size), hHeld.2.1.grown hg7 (fun e => by have h9 := Option.some.inj e; have h8 := HG6.out; have h7 := HW4.out.2.1.lt; have h6 : w4.drew.heap.size = w4.heap.size := rfl; omega), hHeld.2.2.grown hg7 (fun e => by have h9 := Option.some.inj e; have h8 := HG6.out; have h7 := HW4.out.2.2.lt; have h6 : w4.drew.heap.size = w4.heap.size := rfl; omega)⟩; have HG7 : Hid (g6 ≠ (w.heap.size + 1)) := Lib.hid (fun e => by have h8 := HG6.out; have h7 := HW4.out.2.2.lt; have h6 : w4.drew.heap.size = w4.heap.size := rfl; omega); clear hb6 hg7
  refine hK.out _ _ HS7.out (fun hHeld1 => ?_)
  clear hHeld hK K
  have hHeld := hHeld1
  clear hHeld1
  change wpAnyH _ _ _ _ _ _ _ (Act.put _ none undef) _
  simp only [Act.put]
  refine tkq (i := 12) (d := 7) (v := (.bool ok)) rfl rfl (Or.inl ⟨by kernel_rfl, fun w hSw => ?_⟩) (by assumption) ?_
  ·(try dsimp only at hSw); go_simp <;> (try rfl)
  simp only [Act.put, sq1, sq2, sq3]
  refine wpAnyH_done (by kernel_rfl) ?_ _
  clear hHeld
  subst hok
  go_upto_region 2 with fail
  refine wp_region_held_drew (S := fun W => Below w.heap.size w W ∧ Blk W w.heap.size tPo (Po.cells x) ∧ Blk W g6 tOw oc) (by kernel_rfl) ⟨HS7.out.1.drew, HS7.out.2.1.drew, HB7.out.drew⟩ (fun hHeld => ?_)
  change wpAnyH _ _ _ _ _ _ #[false, false, false, false, false, false, false, false, false, false] _ _
  refine tkq (i := 0) (d := 18) (v := (.agg oc.toArray)) rfl rfl (yields_load_at (by kernel_rfl) tOw (.tmp 6) rfl (.pointer (some ⟨g6, 0, none⟩)) (by simp [Act.eval]) (.agg oc.toArray) (fun W hW => hW.2.2.loadAt tOw _ Try.underlying61 rfl (by rw [HOl.out]; kernel_rfl))) (by assumption) ?_
  simp only [Act.put, sq1, sq2, sq3]
  refine tkq (i := 1) (d := 19) (v := (.bool false)) rfl rfl (Or.inl ⟨by kernel_rfl, fun w hSw => ?_⟩) (by assumption) ?_
  ·(try dsimp only at hSw); go_simp <;> (try rfl)
  simp only [Act.put, sq1, sq2, sq3]
  refine tkq (i := 2) (d := 20) (v := (.bool false)) rfl rfl (Or.inl ⟨by kernel_rfl, fun w hSw => ?_⟩) (by assumption) ?_
  ·(try dsimp only at hSw); go_simp <;> (try rfl)
  simp only [Act.put, sq1, sq2, sq3]
  refine tkv (i := 3) (d := 21) rfl rfl (by assumption) ?_
  simp only [Act.put, sq1, sq2, sq3]
  refine tkv (i := 4) (d := 22) rfl rfl (by assumption) ?_
  simp only [Act.put, sq1, sq2, sq3]
  refine tkv (i := 5) (d := 23) rfl rfl (by assumption) ?_
  simp only [Act.put, sq1, sq2, sq3]
  refine tkv (i := 6) (d := 24) rfl rfl (by assumption) ?_
  simp only [Act.put, sq1, sq2, sq3]
  refine tkq (i := 7) (d := 25) (v := (.bool false)) rfl rfl (Or.inl ⟨by kernel_rfl, fun w hSw => ?_⟩) (by assumption) ?_
  ·(try dsimp only at hSw); go_simp <;> (try rfl)
  simp only [Act.put, sq1, sq2, sq3]
  refine wpAnyH_ready (rs := [8]) (by kernel_rfl) (by simp) ?_
  refine AllReadyH.cons (o := ⟨none, .store tOw (.tmp 4) (.tmp 18), _, _, _, none⟩) rfl (fun K hK => ?_) AllReadyH.nil
  refine step_store_blk rfl tOw (.tmp 4) (.tmp 18) rfl (w.heap.size + 1) oc (by simp [Act.eval]) (by simp [Act.eval]) tOw zOw HS7.out.2.2.drew (by rw [HOl.out]; kernel_rfl) (by rw [HOl.out]; rfl) HO1.out ?_; intro w8 hb8 hg8; have HB8 := Lib.hid hb8; have HS8 : Hid (Below w.heap.size w w8 ∧ Blk w8 w.heap.size tPo (Po.cells x) ∧ Blk w8 g6 tOw oc) := Lib.hid ⟨hHeld.1.grown hg8 hHeld.1.size (fun q hq => by rw [← Option.some.inj hq]; omega), hHeld.2.1.grown hg8 (fun e => by have h9 := Option.some.inj e; omega), hHeld.2.2.grown hg8 (fun e => HG7.out (Option.some.inj e))⟩; clear hb8 hg8
  refine hK.out _ _ HS8.out (fun hHeld1 => ?_)
  clear hHeld hK K
  have hHeld := hHeld1
  clear hHeld1
  change wpAnyH _ _ _ _ _ _ _ (Act.put _ none undef) _
  simp only [Act.put]
  refine tkq (i := 9) (d := 5) (v := (.bool false)) rfl rfl (Or.inl ⟨by kernel_rfl, fun w hSw => ?_⟩) (by assumption) ?_
  ·(try dsimp only at hSw); go_simp <;> (try rfl)
  simp only [Act.put, sq1, sq2, sq3]
  refine wpAnyH_done (by kernel_rfl) ?_ _
  clear hHeld
  go_wp2_with fail
  (try simp only [Exit.inBlock, Exit.then])
  refine bodyPost_ret (results_cell_row_tmp1 rfl _ _ (w.heap.size + 1) tOw _ (0, 0) _ rfl HB8.out Try.underlying61 rfl (by rw [List.size_toArray, HOl.out]; kernel_rfl)) rfl ?_
  exact ⟨oc, false, rfl, HOl.out, HO1.out, HV.out, HS8.out.1⟩
 ·obtain ⟨ok, hok⟩ : ∃ ok, true = ok := ⟨_, rfl⟩
  obtain ⟨oc, hoc⟩ : ∃ oc, o.cells = oc := ⟨_, rfl⟩
  have hod := (hob o ho).2.1
  have HT : Hid ((.tuple #[.agg oc.toArray, .bool ok] : Value) = .tuple #[(getK x.sq OE).getD (.agg zOw.toArray), .bool (getK x.sq OE).isSome]) := Lib.hid (by rw [hge, h1, ← hoc, ← hok]; rfl)
  have HOl : Hid (oc.length = 34) := Lib.hid (by rw [← hoc]; exact o.len hod)
  have HO1 : Hid (oc.toArray.all (·.oneCell') = true) := Lib.hid (by rw [← hoc]; exact o.one)
  have HYl : Hid ((Po.cells o.po).length = 33) := Lib.hid (Po.cells_len _ hod)
  have HOc : Hid (oc = o.cells) := Lib.hid hoc.symm
  obtain ⟨bb, hbb⟩ : ∃ bb, o.po.eqb x = bb := ⟨_, rfl⟩
  have heq := fun (W : World) => eq_po o.po x hod hx W
  rw [hbb] at heq
  have HV : Hid (OwnIs ows x oc bb) := Lib.hid (by
   have e1 : bb = conP x (ows.map Ow.po) := by
    rw [← hbb, Bool.eq_iff_iff, eqb_iff, con_iff]
    constructor
    ·exact fun e => List.mem_map.2 ⟨o, ho, e⟩
    ·intro e
     obtain ⟨o', ho', e'⟩ := List.mem_map.1 e
     rw [ows_inj hr ho ho' (by rw [hq, e']), e']
   exact ⟨e1, fun e2 => ⟨o, ho, eqb_iff.1 (hbb.trans e2), hoc.symm⟩⟩)
  clear hoc hge h1 hob hr hx hod hq hbb ho
  go_enter Try.func36, Try.ntmps36
  go_upto_region 1 with fail
  generalize hw4 : ((w.alloc (.cells (Po.cells x).toArray tPo)).alloc (.cells zOw.toArray tOw)) = w4 at *
  have HW4 := Lib.hid HW.out
  clear HW hw4
  refine wp_region_held_drew (S := fun W => Below w.heap.size w W ∧ Blk W w.heap.size tPo (Po.cells x) ∧ Blk W (w.heap.size + 1) tOw zOw) (by kernel_rfl) ⟨HW4.out.1.drew, HW4.out.2.1.drew, HW4.out.2.2.drew⟩ (fun hHeld => ?_)
  change wpAnyH _ _ _ _ _ _ #[false, false, false, false, false, false, false, false, false, false, false, false, false] _ _
  refine tkq (i := 0) (d := 9) (v := (.pointer (some ⟨B, 0, none⟩))) rfl rfl (Or.inl ⟨by kernel_rfl, fun w hSw => ?_⟩) (by assumption) ?_
  ·(try dsimp only at hSw); go_simp <;> (try rfl)
  simp only [Act.put, sq1, sq2, sq3]
  refine tkq (i := 1) (d := 10) (v := (.pointer (some ⟨B, 0, none⟩))) rfl rfl (Or.inl ⟨by kernel_rfl, fun w hSw => ?_⟩) (by assumption) ?_
  ·(try dsimp only at hSw); go_simp <;> (try rfl)
  simp only [Act.put, sq1, sq2, sq3]
  refine tkq (i := 2) (d := 11) (v := (.pointer (some ⟨B, 2, none⟩))) rfl rfl (Or.inl ⟨by kernel_rfl, fun w hSw => ?_⟩) (by assumption) ?_
  ·(try dsimp only at hSw); go_simp <;> (try rfl)
  simp only [Act.put, sq1, sq2, sq3]
  refine tkq (i := 3) (d := 12) (v := (.map (some mo))) rfl rfl (yields_load_at (by kernel_rfl) 55 (.tmp 11) rfl (.pointer (some ⟨B, 2, none⟩)) (by simp [Act.eval]) (.map (some mo)) (fun W hW => load_one' (Try.agg_mo W) ((HH.out.through hW.1).box.cellAt (i := 2) rfl))) (by assumption) ?_
  simp only [Act.put, sq1, sq2, sq3]
  refine tkq (i := 4) (d := 13) (v := (.pointer (some ⟨w.heap.size, 0, none⟩))) rfl rfl (Or.inl ⟨by kernel_rfl, fun w hSw => ?_⟩) (by assumption) ?_
  ·(try dsimp only at hSw); go_simp <;> (try rfl)
  simp only [Act.put, sq1, sq2, sq3]
  refine tkq (i := 5) (d := 14) (v := (.int .i64 x.sq)) rfl rfl (yields_load_at (by kernel_rfl) 2 (.tmp 13) rfl (.pointer (some ⟨w.heap.size, 0, none⟩)) (by simp [Act.eval]) (.int .i64 x.sq) (fun W hW => load_one' (Try.agg_i6 W) (hW.2.1.cellAt (i := 0) rfl))) (by assumption) ?_
  simp only [Act.put, sq1, sq2, sq3]
  refine tkq (i := 6) (d := 15) (v := (.tuple #[.agg oc.toArray, .bool ok])) rfl rfl (yields_look_to (by kernel_rfl) tMo (.tmp 12) (.tmp 14) true rfl (.map (some mo)) (.int .i64 x.sq) (by simp [Act.eval]) (by simp [Act.eval]) (.tuple #[.agg oc.toArray, .bool ok]) (fun W hW => by rw [HT.out]; exact (HH.out.through hW.1).om.look2 Try.keyp_i64 Try.underlying55 (fun _ _ => trivial) trivial (Try.zero_ow W))) (by assumption) ?_
  simp only [Act.put, sq1, sq2, sq3]
  refine tkq (i := 7) (d := 8) (v := (.tuple #[.agg oc.toArray, .bool ok])) rfl rfl (Or.inl ⟨by kernel_rfl, fun w hSw => ?_⟩) (by assumption) ?_
  ·(try dsimp only at hSw); go_simp <;> (try rfl)
  simp only [Act.put, sq1, sq2, sq3]
  refine tkq (i := 8) (d := 16) (v := (.agg oc.toArray)) rfl rfl (Or.inl ⟨by kernel_rfl, fun w hSw => ?_⟩) (by assumption) ?_
  ·(try dsimp only at hSw); go_simp <;> (try rfl)
  simp only [Act.put, sq1, sq2, sq3]
  refine tkq (i := 9) (d := 17) (v := (.bool ok)) rfl rfl (Or.inl ⟨by kernel_rfl, fun w hSw => ?_⟩) (by assumption) ?_
  ·(try dsimp only at hSw); go_simp <;> (try rfl)
  simp only [Act.put, sq1, sq2, sq3]
  refine wpAnyH_ready (rs := [10]) (by kernel_rfl) (by simp) ?_
  refine AllReadyH.cons (o := ⟨some 6, .alloc tOw, _, _, _, none⟩) rfl (fun K hK => ?_) AllReadyH.nil
  obtain ⟨g6, hg6⟩ : ∃ g6, w4.drew.heap.size = g6 := ⟨_, rfl⟩; refine step_alloc (by simp [Region.wanted]) tOw rfl (.pointer (some ⟨g6, 0, none⟩)) (w4.drew.alloc (.cells zOw.toArray tOw)) (Try.alloc_ow g6 w4.drew hg6) ?_; have HB6 : Hid (Blk (w4.drew.alloc (.cells zOw.toArray tOw)) g6 tOw zOw) := Lib.hid (Blk.fresh hg6.symm rfl); have X6 := Lib.hid (below1_ w4.drew (.cells zOw.toArray tOw)); have HG6 := Lib.hid hg6; clear hg6
  refine hK.out _ _ ⟨below_step hHeld.1 X6.out, hHeld.2.1.through X6.out, hHeld.2.2.through X6.out⟩ (fun hHeld1 => ?_)
  clear hHeld hK K
  have hHeld := hHeld1
  clear hHeld1
  change wpAnyH _ _ _ _ _ _ _ (Act.put _ (some (6 : Nat)) (.pointer (some ⟨g6, 0, none⟩))) _
  simp only [Act.put, sq1, sq2, sq3]
  refine wpAnyH_ready (rs := [11]) (by kernel_rfl) (by simp) ?_
  refine AllReadyH.cons (o := ⟨none, .store tOw (.tmp 6) (.tmp 16), _, _, _, none⟩) rfl (fun K hK => ?_) AllReadyH.nil
  refine step_store_blk rfl tOw (.tmp 6) (.tmp 16) rfl g6 oc (by simp [Act.eval]) (by simp [Act.eval]) tOw zOw HB6.out (by rw [HOl.out]; kernel_rfl) (by rw [HOl.out]; rfl) HO1.out ?_; intro w6 hb6 hg7; have HB7 := Lib.hid hb6; have HS7 : Hid (Below w.heap.size w w6 ∧ Blk w6 w.heap.size tPo (Po.cells x) ∧ Blk w6 (w.heap.size + 1) tOw zOw) := Lib.hid ⟨hHeld.1.grown hg7 hHeld.1.size (fun q hq => by rw [← Option.some.inj hq, ← HG6.out]; exact HW4.out.1.size), hHeld.2.1.grown hg7 (fun e => by have h9 := Option.some.inj e; have h8 := HG6.out; have h7 := HW4.out.2.1.lt; have h6 : w4.drew.heap.size = w4.heap.size := rfl; omega), hHeld.2.2.grown hg7 (fun e => by have h9 := Option.some.inj e; have h8 := HG6.out; have h7 := HW4.out.2.2.lt; have h6 : w4.drew.heap.size = w4.heap.size := rfl; omega)⟩; have HG7 : Hid (g6 ≠ (w.heap.size + 1)) := Lib.hid (fun e => by have h8 := HG6.out; have h7 := HW4.out.2.2.lt; have h6 : w4.drew.heap.size = w4.heap.size := rfl; omega); clear hb6 hg7
  refine hK.out _ _ HS7.out (fun hHeld1 => ?_)
  clear hHeld hK K
  have hHeld := hHeld1
  clear hHeld1
  change wpAnyH _ _ _ _ _ _ _ (Act.put _ none undef) _
  simp only [Act.put]
  refine tkq (i := 12) (d := 7) (v := (.bool ok)) rfl rfl (Or.inl ⟨by kernel_rfl, fun w hSw => ?_⟩) (by assumption) ?_
  ·(try dsimp only at hSw); go_simp <;> (try rfl)
  simp only [Act.put, sq1, sq2, sq3]
  refine wpAnyH_done (by kernel_rfl) ?_ _
  clear hHeld
  subst hok
  go_upto_region 2 with fail
  refine wp_region_held_drew (S := fun W => Below w.heap.size w W ∧ Blk W w.heap.size tPo (Po.cells x) ∧ Blk W g6 tOw oc) (by kernel_rfl) ⟨HS7.out.1.drew, HS7.out.2.1.drew, HB7.out.drew⟩ (fun hHeld => ?_)
  change wpAnyH _ _ _ _ _ _ #[false, false, false, false, false, false, false, false, false, false] _ _
  refine tkq (i := 0) (d := 18) (v := (.agg oc.toArray)) rfl rfl (yields_load_at (by kernel_rfl) tOw (.tmp 6) rfl (.pointer (some ⟨g6, 0, none⟩)) (by simp [Act.eval]) (.agg oc.toArray) (fun W hW => hW.2.2.loadAt tOw _ Try.underlying61 rfl (by rw [HOl.out]; kernel_rfl))) (by assumption) ?_
  simp only [Act.put, sq1, sq2, sq3]
  refine tkq (i := 1) (d := 19) (v := (.bool true)) rfl rfl (Or.inl ⟨by kernel_rfl, fun w hSw => ?_⟩) (by assumption) ?_
  ·(try dsimp only at hSw); go_simp <;> (try rfl)
  simp only [Act.put, sq1, sq2, sq3]
  refine tkq (i := 2) (d := 20) (v := (.bool true)) rfl rfl (Or.inl ⟨by kernel_rfl, fun w hSw => ?_⟩) (by assumption) ?_
  ·(try dsimp only at hSw); go_simp <;> (try rfl)
  simp only [Act.put, sq1, sq2, sq3]
  refine tkq (i := 3) (d := 21) (v := (.pointer (some ⟨g6, 0, none⟩))) rfl rfl (Or.inl ⟨by kernel_rfl, fun w hSw => ?_⟩) (by assumption) ?_
  ·(try dsimp only at hSw); go_simp <;> (try rfl)
  simp only [Act.put, sq1, sq2, sq3]
  refine tkq (i := 4) (d := 22) (v := (.agg (Po.cells o.po).toArray)) rfl rfl (yieldsIf_load_mid (by kernel_rfl) tPo (.tmp 21) rfl g6 0 (by simp [Act.eval]) (Po.cells o.po) _ (fun W hW => hW.2.2.rngOw HOc.out) Try.underlying31 rfl (by rw [HYl.out]; kernel_rfl)) (by assumption) ?_
  simp only [Act.put, sq1, sq2, sq3]
  refine tkq (i := 5) (d := 23) (v := (.agg (Po.cells x).toArray)) rfl rfl (yieldsIf_load_mid (by kernel_rfl) tPo (.tmp 3) rfl w.heap.size 0 (by simp [Act.eval]) (Po.cells x) _ (fun W hW => hW.2.1.rng0) Try.underlying31 rfl (by rw [HXl.out]; kernel_rfl)) (by assumption) ?_
  simp only [Act.put, sq1, sq2, sq3]
  refine tkq (i := 6) (d := 24) (v := (.bool bb)) rfl rfl (Or.inl ⟨by kernel_rfl, fun w hSw => ?_⟩) (by assumption) ?_
  ·(try dsimp only at hSw); go_simp <;> (try rfl)
  simp only [Act.put, sq1, sq2, sq3]
  refine tkq (i := 7) (d := 25) (v := (.bool bb)) rfl rfl (Or.inl ⟨by kernel_rfl, fun w hSw => ?_⟩) (by assumption) ?_
  ·(try dsimp only at hSw); go_simp <;> (try rfl)
  simp only [Act.put, sq1, sq2, sq3]
  refine wpAnyH_ready (rs := [8]) (by kernel_rfl) (by simp) ?_
  refine AllReadyH.cons (o := ⟨none, .store tOw (.tmp 4) (.tmp 18), _, _, _, none⟩) rfl (fun K hK => ?_) AllReadyH.nil
  refine step_store_blk rfl tOw (.tmp 4) (.tmp 18) rfl (w.heap.size + 1) oc (by simp [Act.eval]) (by simp [Act.eval]) tOw zOw HS7.out.2.2.drew (by rw [HOl.out]; kernel_rfl) (by rw [HOl.out]; rfl) HO1.out ?_; intro w8 hb8 hg8; have HB8 := Lib.hid hb8; have HS8 : Hid (Below w.heap.size w w8 ∧ Blk w8 w.heap.size tPo (Po.cells x) ∧ Blk w8 g6 tOw oc) := Lib.hid ⟨hHeld.1.grown hg8 hHeld.1.size (fun q hq => by rw [← Option.some.inj hq]; omega), hHeld.2.1.grown hg8 (fun e => by have h9 := Option.some.inj e; omega), hHeld.2.2.grown hg8 (fun e => HG7.out (Option.some.inj e))⟩; clear hb8 hg8
  refine hK.out _ _ HS8.out (fun hHeld1 => ?_)
  clear hHeld hK K
  have hHeld := hHeld1
  clear hHeld1
  change wpAnyH _ _ _ _ _ _ _ (Act.put _ none undef) _
  simp only [Act.put]
  refine tkq (i := 9) (d := 5) (v := (.bool bb)) rfl rfl (Or.inl ⟨by kernel_rfl, fun w hSw => ?_⟩) (by assumption) ?_
  ·(try dsimp only at hSw); go_simp <;> (try rfl)
  simp only [Act.put, sq1, sq2, sq3]
  refine wpAnyH_done (by kernel_rfl) ?_ _
  clear hHeld
  go_wp2_with fail
  (try simp only [Exit.inBlock, Exit.then])
  refine bodyPost_ret (results_cell_row_tmp1 rfl _ _ (w.heap.size + 1) tOw _ (0, 0) _ rfl HB8.out Try.underlying61 rfl (by rw [List.size_toArray, HOl.out]; kernel_rfl)) rfl ?_
  exact ⟨oc, bb, rfl, HOl.out, HO1.out, HV.out, HS8.out.1⟩

end Go.Proofs.Ytpolofehkckaoaa
