/-
  Joined: PwN.
-/
import Derived.Test.YtpolofehkckaoaaUH36
namespace Go.Proofs.Ytpolofehkckaoaa
open Go.RowKit

theorem ow_33 {oc : List Value} {o : Ow} (h : oc = o.cells) (hd : o.po.dg.length = 32) : oc[33]? = some o.pl.val := by
 rw [h]
 unfold Ow.cells
 rw [List.getElem?_append_right (by rw [Po.cells_len _ hd]; omega), Po.cells_len _ hd]
 rfl
theorem firstP_some {x : Po} : ∀ {l : List Po} {j : Nat}, (firstP x l j).isSome = conP x l
 | [], _ => rfl
 | y :: l, j => by
  have e : y.eqb x = x.eqb y := by rw [Bool.eq_iff_iff, eqb_iff, eqb_iff]; exact eq_comm
  have hc : conP x (y :: l) = (x.eqb y || conP x l) := rfl
  unfold firstP
  rw [hc, e]
  cases h : x.eqb y
  ·rw [if_neg (by simp)]
   exact firstP_some
  ·rfl
theorem bytG_ows {x : Po} : ∀ {ows : List Ow} {j : Nat} {o : Ow}, Ris (ows.map Ow.po) → o ∈ ows → o.po = x → ∃ i, firstP x (ows.map Ow.po) j = some (j + i) ∧ (ows.map Ow.b)[i]? = some o.b
 | [], _, _, _, h, _ => by cases h
 | y :: l, j, o, hr, h, e => by
  rw [List.map_cons, ris_cons] at hr
  simp only [List.map_cons]
  unfold firstP
  by_cases hy : y.po.eqb x = true
  ·rw [if_pos hy]
   have e2 := eqb_iff.1 hy
   have : o = y := by
    rcases List.mem_cons.1 h with h | h
    ·exact h
    ·have := hr.1 o.po (List.mem_map.2 ⟨o, h, rfl⟩)
     rw [e, e2] at this
     omega
   subst this
   exact ⟨0, rfl, rfl⟩
  ·rw [if_neg hy]
   have h1 : o ∈ l := by
    rcases List.mem_cons.1 h with h | h
    ·rw [← h] at hy
     exact absurd (eqb_iff.2 e) hy
    ·exact h
   obtain ⟨i, h2, h3⟩ := bytG_ows (j := j + 1) hr.2 h1 e
   exact ⟨i + 1, by rw [h2]; congr 1; omega, by simpa using h3⟩
set_option maxHeartbeats 16000000 in
set_option maxRecDepth 100000 in
theorem bytes_p {w : World} {B mo mv : Nat} {r : Ptp} {ows : List Ow} {OE VE : List (Int × Value)} {vf : Nat → Pl} (x : Po) (h : PPt w B mo mv r ows OE VE vf) (hx : x.dg.length = 32) :
  Calls Try.prog 12 #[(.pointer (some ⟨B, 0, none⟩)), .agg (Po.cells x).toArray] w fun e w' => (∃ A k c, e = .returned (.tuple #[.slice A k c, .bool (firstP x (ownL r) 0).isSome]) ∧ By w' (fun _ => True) A k (bytR r x)) ∧ Below w.heap.size w w' := by
 have hbx := fun W => Try.box_po x hx W
 have hz : ∀ W, (zeroValue tOw).run Try.prog W = .ok (.agg zOw.toArray) W := fun W => Try.zero_ow W
 have HXl : Hid ((Po.cells x).length = 33) := Lib.hid (Po.cells_len x hx)
 have HXd := Lib.hid hx
 have X1 : Below w.heap.size w (w.alloc (.cells (Po.cells x).toArray tPo)) := below1_ w _
 have HBX : Hid (Blk (w.alloc (.cells (Po.cells x).toArray tPo)) w.heap.size tPo (Po.cells x)) := Lib.hid (Blk.fresh rfl rfl)
 have HX1 := Lib.hid X1
 have HH4 := Lib.hid (h.through X1)
 have HN1 := Lib.hid h.n1
 obtain ⟨b0, hb0⟩ : ∃ b0, conP x (ows.map Ow.po) = b0 := ⟨_, rfl⟩
 have HC0 := Lib.hid hb0
 have hsm : (firstP x (ownL r) 0).isSome = b0 := by rw [firstP_some, h.ol, hb0]
 rw [hsm]
 have HRi : Hid (Ris (ows.map Ow.po)) := Lib.hid (by have := h.ris; rw [h.ol] at this; exact this)
 obtain ⟨bt, hbt⟩ : ∃ bt, bytR r x = bt := ⟨_, rfl⟩
 have HBt : Hid (bytG (ows.map Ow.b) (firstP x (ows.map Ow.po) 0) = bt) := Lib.hid (by rw [← hbt]; unfold bytR; rw [h.ol, h.rl])
 have HSm : Hid ((firstP x (ows.map Ow.po) 0).isSome = b0) := Lib.hid (by rw [← h.ol]; exact hsm)
 rw [hbt]
 clear h hx X1 hb0 hsm hbt
 cases b0 with
 | false =>
  have HE : Hid (bt = []) := Lib.hid (by
   have h1 := HSm.out
   have h2 := HBt.out
   cases hf : firstP x (ows.map Ow.po) 0 with
   | none => rw [hf] at h2; exact h2.symm
   | some i => rw [hf] at h1; cases h1)
  go_enter Try.func12, Try.ntmps12
  go_upto_region 3 with (go_at_call 27; (with_reducible refine (isnone_p _ HH4.out.box HN1.out).mono ?_); rintro e w9 ⟨rfl, hw9⟩; have hw8 := hw9.symm; clear hw9; subst hw8)
  generalize (w.alloc (.cells (Po.cells x).toArray tPo)) = w4 at *
  go_wp2_with (first
   | (refine wpList_load_blk rfl tPo (.tmp 3) rfl w.heap.size rfl tPo (Po.cells x) _ HBX.out Try.underlying31 rfl (by rw [HXl.out]; kernel_rfl) ?_)
   | (go_at_call 36; (with_reducible refine (owned_p x HH4.out HXd.out).mono ?_); rintro e w5 ⟨oc, bb, rfl, hol, ho1, hov, hb5⟩; have e9 := hov.1.trans HC0.out; subst e9; have HOl := Lib.hid hol; have HO1 := Lib.hid ho1; have HOv := Lib.hid hov; have HX5 := Lib.hid hb5; clear hol ho1 hov hb5)
   | (refine wpList_store_blk rfl tOw (.tmp 6) (.tmp 14) rfl w5.heap.size oc rfl rfl tOw zOw (Blk.fresh rfl rfl) (by rw [HOl.out]; kernel_rfl) (by rw [HOl.out]; rfl) HO1.out ?_; simp only [Act.put]; intro w6 hb6 hg6; have HB6 := Lib.hid hb6; have HX46 := Lib.hid (below_step HX5.out (below_new hg6)); have HH6 := Lib.hid (HH4.out.through HX46.out); have HXw6 := Lib.hid (below_step HX1.out HX46.out); clear hb6 hg6))
  go_ret2
  exact ⟨⟨none, 0, 0, rfl, by rw [HE.out]; exact (Br.none_ _).by_⟩, HXw6.out⟩
 | true =>
  go_enter Try.func12, Try.ntmps12
  go_upto_region 3 with (go_at_call 27; (with_reducible refine (isnone_p _ HH4.out.box HN1.out).mono ?_); rintro e w9 ⟨rfl, hw9⟩; have hw8 := hw9.symm; clear hw9; subst hw8)
  generalize (w.alloc (.cells (Po.cells x).toArray tPo)) = w4 at *
  go_upto_region 4 with (first
   | (refine wpList_load_blk rfl tPo (.tmp 3) rfl w.heap.size rfl tPo (Po.cells x) _ HBX.out Try.underlying31 rfl (by rw [HXl.out]; kernel_rfl) ?_)
   | (go_at_call 36; (with_reducible refine (owned_p x HH4.out HXd.out).mono ?_); rintro e w5 ⟨oc, bb, rfl, hol, ho1, hov, hb5⟩; have e9 := hov.1.trans HC0.out; subst e9; have HOl := Lib.hid hol; have HO1 := Lib.hid ho1; have HOv := Lib.hid hov; have HX5 := Lib.hid hb5; clear hol ho1 hov hb5)
   | (refine wpList_store_blk rfl tOw (.tmp 6) (.tmp 14) rfl w5.heap.size oc rfl rfl tOw zOw (Blk.fresh rfl rfl) (by rw [HOl.out]; kernel_rfl) (by rw [HOl.out]; rfl) HO1.out ?_; simp only [Act.put]; intro w6 hb6 hg6; have HB6 := Lib.hid hb6; have HX46 := Lib.hid (below_step HX5.out (below_new hg6)); have HH6 := Lib.hid (HH4.out.through HX46.out); have HXw6 := Lib.hid (below_step HX1.out HX46.out); clear hb6 hg6))
  obtain ⟨⟨po, ⟨A9, k9, c9⟩, b9⟩, ho9, hop, hoc⟩ := HOv.out.2 rfl
  have hob9 := HH6.out.ob _ ho9
  have HMe := Lib.hid ho9
  have HPo := Lib.hid hop
  have k33 : w6.cell? ⟨w5.heap.size, 33, none⟩ = some (.slice A9 k9 c9) := HB6.out.cellAt (ow_33 hoc hob9.2.1)
  have HBy := Lib.hid hob9.1.by_
  have HK9 : Hid (k9 ≤ 1000000) := Lib.hid (by have h1 := hob9.1.2; have h2 := hob9.2.2; simp only at h1 h2; omega)
  clear ho9 hop hoc hob9
  go_wp2_with (go_at_call 28; (with_reducible refine (cloneb_p b9 A9 k9 c9 _ HBy.out HK9.out).mono ?_); rintro e w7 ⟨A8, c8, rfl, hs8, _, hb8⟩; have HS8 := Lib.hid hs8; have HX8 := Lib.hid hb8; clear hs8 hb8)
  go_ret2
  refine ⟨⟨A8, k9, c8, rfl, ?_⟩, below_step HXw6.out HX8.out⟩
  have h1 := HS8.out.by_
  obtain ⟨i, h2, h3⟩ := bytG_ows (j := 0) HRi.out HMe.out HPo.out
  have h4 := HBt.out
  rw [h2] at h4
  simp only [bytG, Nat.zero_add] at h4
  rw [List.getD_eq_getElem?_getD, h3] at h4
  rw [← h4]
  exact h1

end Go.Proofs.Ytpolofehkckaoaa
