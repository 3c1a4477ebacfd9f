/-
  Joined: PwF.
-/
import Derived.Lib.MinMax
import Derived.Test.YtpolofehkckaoaaUT34
import Derived.Test.YtpolofehkckaoaaUT17
import Derived.Test.YtpolofehkckaoaaUTT
namespace Go.Proofs.Ytpolofehkckaoaa
open Go.RowKit

theorem ownL_other {r : Ptp} {a : Nat} {l : List Po} (hs : a ≠ r.self) : ownL { r with of := r.of.set a l } = ownL r := by
 unfold ownL
 simp only
 rw [List.getD_eq_getElem?_getD, List.getElem?_set_ne hs, ← List.getD_eq_getElem?_getD]
theorem getD_set_ {r : Ptp} {a b : Nat} {l : List Po} (ha : a < r.of.length) : (r.of.set a l).getD b [] = if b = a then l else r.of.getD b [] := by
 by_cases h : b = a
 ·subst h
  rw [if_pos rfl, List.getD_eq_getElem?_getD, List.getElem?_set_self ha]
  rfl
 ·rw [if_neg h, List.getD_eq_getElem?_getD, List.getElem?_set_ne (fun e => h e.symm), ← List.getD_eq_getElem?_getD]
/-- the blocks that a call may leave to an object -/
def VotedP (w w' : World) (B mo mv : Nat) (r : Ptp) (ows : List Ow) (OE : List (Int × Value)) (vf : Nat → Pl) (r' : Ptp) : Prop :=
 ∃ VE' vf', PPt w' B mo mv r' ows OE VE' vf' ∧ Ft (DW B mo mv r ows vf) w w' ∧ ∀ q, DW B mo mv r' ows vf' q → DW B mo mv r ows vf q ∨ w.heap.size ≤ q
theorem PPt.same {w w' : World} {B mo mv : Nat} {r : Ptp} {ows : List Ow} {OE VE : List (Int × Value)} {vf : Nat → Pl} (h : PPt w B mo mv r ows OE VE vf) (hb : Below w.heap.size w w') : VotedP w w' B mo mv r ows OE vf r :=
 ⟨VE, vf, h.through hb, Ft.of_below hb, fun q hq => .inl hq⟩
theorem Ft.moreP {D D' : Nat → Prop} {w w' : World} (h : Ft D w w') (hd : ∀ q, D q → D' q) : Ft D' w w' := ⟨h.os, h.tape, h.output, h.size, fun b hb hn => h.block b hb (fun h9 => hn (hd b h9))⟩
theorem PPt.voted {w w5 w6 : World} {B mo mv : Nat} {r : Ptp} {ows : List Ow} {OE VE : List (Int × Value)} {vf : Nat → Pl} (h : PPt w B mo mv r ows OE VE vf) {a : Nat} (ha : a < r.n) (hs : a ≠ r.self) {s : Pl} {l : List Po} (hf : Ft (vrB (vf a)) w w5) (hv : Vr w5 s l) (hb : ∀ q, vrB s q → vrB (vf a) q ∨ w.heap.size ≤ q)
  (hm : MpIs w6 mv (encK encI (putK (a : Int) s.val VE))) (hg : w5.grownBy w6 (some mv)) (hr : Ris l) (h3 : l.length ≤ 3) : VotedP w w6 B mo mv r ows OE vf { r with of := r.of.set a l } := by
 have hal : a < r.of.length := by rw [h.nl]; exact ha
 have hft : Ft (fun q => vrB (vf a) q ∨ q = mv) w w6 := (hf.moreP (fun _ h => .inl h)).trans (Ft.of_grown (D := fun q => q = mv) hg (fun _ hb => .inl (Option.some.inj hb).symm)) (fun _ h => .inl (.inr h))
 have hmv := h.vm.lt
 have hsm : ∀ q, vrB s q → ¬ q = mv := fun q hq e => by
  rcases hb q hq with h9 | h9
  ·exact (h.nv ha hs h9).2.2.1 e
  ·omega
 refine ⟨putK (a : Int) s.val VE, fun b => if b = a then s else vf b, ⟨?_, ?_, h.op, by rw [ownL_other hs]; exact h.ol, h.rl, by rw [ownL_other hs]; exact h.ris, h.o64, fun o ho => ⟨(h.ob o ho).1.ft hft (fun q hq => ?_), (h.ob o ho).2⟩, hm, fun b hbn hbs => ?_, h.n1, h.n7, by simp [h.nl], h.sf, ?_, h.ne, ?_⟩, ?_, ?_⟩
 ·exact hft.blk h.box (fun h9 => h9.elim (fun h9 => (h.nv ha hs h9).1 rfl) (fun e => h.nB.2 e))
 ·exact h.om.keep (hft.block mo h.om.lt (fun h9 => h9.elim (fun h9 => (h.nv ha hs h9).2.1 rfl) (fun e => h.ne e)))
 ·exact fun h9 => h9.elim (fun h9 => (h.nv ha hs h9).2.2.2 o ho hq) (fun e => (h.nb ho hq).2.2 e)
 ·by_cases e : b = a
  ·subst e
   simp only [if_true]
   rw [get_put, if_pos rfl, getD_set_ hal, if_pos rfl]
   exact ⟨rfl, hv.ft (Ft.of_grown (D := fun q => q = mv) hg (fun _ hb => .inl (Option.some.inj hb).symm)) hsm, hr, h3⟩
  ·have hne : ¬ (b : Int) = (a : Int) := by omega
   simp only [if_neg e]
   rw [get_put, if_neg hne, getD_set_ hal, if_neg e]
   obtain ⟨h1, h2, h4⟩ := h.vat b hbn hbs
   exact ⟨h1, h2.ft hft (fun q hq h9 => h9.elim (fun h9 => h.va b a hbn ha hbs hs e q hq h9) (fun e9 => (h.nv hbn hbs hq).2.2.1 e9)), h4⟩
 ·rw [get_put, if_neg (by show ¬ (r.self : Int) = (a : Int); omega)]
  exact h.vself
 ·intro b c hbn hcn hbs hcs hbc q hq hq2
  (try simp only at hq hq2)
  by_cases e : b = a
  ·rw [if_pos e] at hq
   rw [if_neg (fun e2 => hbc (e.trans e2.symm))] at hq2
   rcases hb q hq with h9 | h9
   ·exact h.va a c ha hcn hs hcs (fun e2 => hbc (e.trans e2)) q h9 hq2
   ·have := (h.vat c hcn hcs).2.1.lt q hq2
    omega
  ·rw [if_neg e] at hq
   by_cases e2 : c = a
   ·rw [if_pos e2] at hq2
    rcases hb q hq2 with h9 | h9
    ·exact h.va b a hbn ha hbs hs e q hq h9
    ·have := (h.vat b hbn hbs).2.1.lt q hq
     omega
   ·rw [if_neg e2] at hq2
    exact h.va b c hbn hcn hbs hcs hbc q hq hq2
 ·exact hft.moreP (fun q hq => hq.elim (fun hq => .inr (.inr (.inr (.inr ⟨a, ha, hs, hq⟩)))) (fun e => .inr (.inr (.inl e))))
 ·rintro q (hq | hq | hq | hq | ⟨b, hbn, hbs, hq⟩)
  ·exact .inl (.inl hq)
  ·exact .inl (.inr (.inl hq))
  ·exact .inl (.inr (.inr (.inl hq)))
  ·exact .inl (.inr (.inr (.inr (.inl hq))))
  ·(try simp only at hq)
   by_cases e : b = a
   ·rw [if_pos e] at hq
    rcases hb q hq with h9 | h9
    ·exact .inl (.inr (.inr (.inr (.inr ⟨a, ha, hs, h9⟩))))
    ·exact .inr h9
   ·rw [if_neg e] at hq
    exact .inl (.inr (.inr (.inr (.inr ⟨b, hbn, hbs, hq⟩))))
theorem voteL_no {l : List Po} {x : Po} (h : thP x.sq l = true ∨ befP x.sq l = 0 ∧ l.length = 3) : voteL l x = none := by unfold voteL; rw [if_pos h]
theorem voteL_yes {l : List Po} {x : Po} (h : ¬ (thP x.sq l = true ∨ befP x.sq l = 0 ∧ l.length = 3)) : voteL l x = some (if 3 < (insP l (befP x.sq l) x).length then (insP l (befP x.sq l) x).drop 1 else insP l (befP x.sq l) x) := by unfold voteL; rw [if_neg h]
theorem voteR_out {r : Ptp} {who : Int} {x : Po} (h : who = r.self ∨ who < 0 ∨ (r.n : Int) ≤ who) : voteR r who x = (r, false) := by unfold voteR; rw [if_pos h]
theorem voteR_in {r : Ptp} {a : Nat} {x : Po} (h1 : a ≠ r.self) (h2 : a < r.n) : voteR r (a : Int) x = match voteL (r.of.getD a []) x with | none => (r, false) | some l => ({ r with of := r.of.set a l }, true) := by
 unfold voteR
 rw [if_neg (by omega), Int.toNat_natCast]
 generalize voteL (r.of.getD a []) x = o
 cases o <;> rfl
set_option maxHeartbeats 16000000 in
set_option maxRecDepth 100000 in
theorem vote_p {w : World} {B mo mv : Nat} {r : Ptp} {ows : List Ow} {OE VE : List (Int × Value)} {vf : Nat → Pl} (who : Int) (x : Po) (h : PPt w B mo mv r ows OE VE vf) (hx : x.dg.length = 32) :
  Calls Try.prog 13 #[(.pointer (some ⟨B, 0, none⟩)), .int .i64 who, .agg (Po.cells x).toArray] w fun e w' => e = .returned (.bool (voteR r who x).2) ∧ VotedP w w' B mo mv r ows OE vf (voteR r who x).1 := by
 have hbx := fun W => Try.box_po x hx W
 have HXl : Hid ((Po.cells x).length = 33) := Lib.hid (Po.cells_len x hx)
 have HXd := Lib.hid hx
 have X1 : Below w.heap.size w (w.alloc (.cells (Po.cells x).toArray tPo)) := below1_ w _
 have HBX : Hid (Blk (w.alloc (.cells (Po.cells x).toArray tPo)) w.heap.size tPo (Po.cells x)) := Lib.hid (Blk.fresh rfl rfl)
 have HX1 := Lib.hid X1
 have HH := Lib.hid h
 have HHa := Lib.hid (h.through X1)
 have HN1 := Lib.hid h.n1
 have k0 := (h.through X1).box.cellAt (i := 0) rfl
 have k1 := (h.through X1).box.cellAt (i := 1) rfl
 by_cases hout : who = r.self ∨ who < 0 ∨ (r.n : Int) ≤ who
 ·rw [voteR_out hout]
  have HF : Hid (VotedP w (w.alloc (.cells (Po.cells x).toArray tPo)) B mo mv r ows OE vf r) := Lib.hid (h.same X1)
  clear h X1 hx
  by_cases h1 : who < 0
  ·clear hout
   go_enter Try.func13, Try.ntmps13
   go_wp2_with (go_at_call 27; (with_reducible refine (isnone_p _ HHa.out.box HN1.out).mono ?_); rintro e w9 ⟨rfl, hw9⟩; have hw8 := hw9.symm; clear hw9; subst hw8)
   go_ret
   exact ⟨rfl, HF.out⟩
  ·by_cases h2 : (r.n : Int) ≤ who
   ·clear hout
    go_enter Try.func13, Try.ntmps13
    go_wp2_with (go_at_call 27; (with_reducible refine (isnone_p _ HHa.out.box HN1.out).mono ?_); rintro e w9 ⟨rfl, hw9⟩; have hw8 := hw9.symm; clear hw9; subst hw8)
    go_ret
    exact ⟨rfl, HF.out⟩
   ·have h3 : who = r.self := by omega
    subst h3
    have h4 : ¬ r.n ≤ r.self := by omega
    clear hout
    go_enter Try.func13, Try.ntmps13
    go_wp2_with (go_at_call 27; (with_reducible refine (isnone_p _ HHa.out.box HN1.out).mono ?_); rintro e w9 ⟨rfl, hw9⟩; have hw8 := hw9.symm; clear hw9; subst hw8)
    go_ret
    exact ⟨rfl, HF.out⟩
 obtain ⟨a, rfl⟩ : ∃ a : Nat, who = a := ⟨who.toNat, by omega⟩
 have has : a ≠ r.self := by omega
 have han : a < r.n := by omega
 rw [voteR_in has han]
 obtain ⟨hg0, hv0, hri0, hl30⟩ := h.vat a han has
 obtain ⟨l, hl⟩ : ∃ l, r.of.getD a [] = l := ⟨_, rfl⟩
 rw [hl] at hv0 hri0 hl30 ⊢
 obtain ⟨⟨A, k, c⟩, hvf⟩ : ∃ s, vf a = s := ⟨_, rfl⟩
 rw [hvf] at hg0 hv0
 have HVf := Lib.hid hvf
 have HV := Lib.hid (hv0.through X1)
 have HPos := Lib.hid (hv0.through X1).pos
 have HRi := Lib.hid hri0
 have hlk : Hid (l.length = k) := Lib.hid hv0.2.1
 have hk3 : k ≤ 3 := by have := hlk.out; omega
 have HG := Lib.hid hg0
 obtain ⟨i, hi⟩ : ∃ i, befP x.sq l = i := ⟨_, rfl⟩
 obtain ⟨th, hth⟩ : ∃ th, thP x.sq l = th := ⟨_, rfl⟩
 have HBef := Lib.hid hi
 have HTh := Lib.hid hth
 have hik : i ≤ k := by rw [← hi, ← hlk.out]; exact befP_le _ _
 have e1 : ¬ (a : Int) = (r.self : Int) := by omega
 have e2 : ¬ r.n ≤ a := by omega
 have e3 : ¬ a = r.self := has
 have e4 : decide ((a : Int) < 0) = false := by simp
 have hlook : (Instr.lookup tMv (.map (some mv)) (.int .i64 (a : Int)) false).run Try.prog (w.alloc (.cells (Po.cells x).toArray tPo)) = .ok (.slice A k c) (w.alloc (.cells (Po.cells x).toArray tPo)) := by
  show _ = Result.ok (Pl.val (A, k, c)) _
  rw [← hg0]
  exact (h.through X1).vm.look Try.keyp_int Try.underlying56 (fun _ _ => trivial) trivial (Try.zero_pos _)
 have k3 : (w.alloc (.cells (Po.cells x).toArray tPo)).cell? ⟨B, 3, none⟩ = some (.map (some mv)) := (h.through X1).box.cellAt (i := 3) rfl
 clear hout hl30 hri0 hv0 hg0 hvf X1 hx
 by_cases hno : th = true ∨ i = 0 ∧ k = 3
 ·have HNo : Hid (voteL l x = none) := Lib.hid (voteL_no (by rw [hth, hi, hlk.out]; exact hno))
  rw [HNo.out]
  clear h hi hth hl
  rcases hno with rfl | ⟨rfl, rfl⟩
  ·go_enter Try.func13, Try.ntmps13
   go_wp2_with (first
    | (go_at_call 27; (with_reducible refine (isnone_p _ HHa.out.box HN1.out).mono ?_); rintro e w9 ⟨rfl, hw9⟩; have hw8 := hw9.symm; clear hw9; subst hw8)
    | (refine wpList_look_to rfl tMv (.tmp 35) (.tmp 36) false rfl (.map (some mv)) (.int .i64 (a : Int)) (.slice A k c) rfl rfl hlook ?_)
    | (refine wpList_load_blk rfl tPo (.tmp 5) rfl w.heap.size rfl tPo (Po.cells x) _ HBX.out Try.underlying31 rfl (by rw [HXl.out]; kernel_rfl) ?_)
    | (go_at_call 37; (with_reducible refine (bsearch_any x l A k c _ HPos.out HXd.out HRi.out (by omega)).mono ?_); rintro e w2 ⟨rfl, hb2⟩; rw [HBef.out, HTh.out]; have HX2 := Lib.hid (below_step HX1.out hb2); have HBXc := Lib.hid (HBX.out.through hb2); have HHb := Lib.hid (HHa.out.through hb2); have HVb := Lib.hid (HV.out.through hb2); have hbs2 := Try.el_po.run_build w2 (Po.cells x) HXl.out; clear hb2))
   go_ret
   exact ⟨rfl, HH.out.same HX2.out⟩
  ·cases th with
   | true =>
    go_enter Try.func13, Try.ntmps13
    go_wp2_with (first
     | (go_at_call 27; (with_reducible refine (isnone_p _ HHa.out.box HN1.out).mono ?_); rintro e w9 ⟨rfl, hw9⟩; have hw8 := hw9.symm; clear hw9; subst hw8)
     | (refine wpList_look_to rfl tMv (.tmp 35) (.tmp 36) false rfl (.map (some mv)) (.int .i64 (a : Int)) (.slice A 3 c) rfl rfl hlook ?_)
     | (refine wpList_load_blk rfl tPo (.tmp 5) rfl w.heap.size rfl tPo (Po.cells x) _ HBX.out Try.underlying31 rfl (by rw [HXl.out]; kernel_rfl) ?_)
     | (go_at_call 37; (with_reducible refine (bsearch_any x l A 3 c _ HPos.out HXd.out HRi.out (by omega)).mono ?_); rintro e w2 ⟨rfl, hb2⟩; rw [HBef.out, HTh.out]; have HX2 := Lib.hid (below_step HX1.out hb2); have HBXc := Lib.hid (HBX.out.through hb2); have HHb := Lib.hid (HHa.out.through hb2); have HVb := Lib.hid (HV.out.through hb2); have hbs2 := Try.el_po.run_build w2 (Po.cells x) HXl.out; clear hb2))
    go_ret
    exact ⟨rfl, HH.out.same HX2.out⟩
   | false =>
    go_enter Try.func13, Try.ntmps13
    go_wp2_with (first
     | (go_at_call 27; (with_reducible refine (isnone_p _ HHa.out.box HN1.out).mono ?_); rintro e w9 ⟨rfl, hw9⟩; have hw8 := hw9.symm; clear hw9; subst hw8)
     | (refine wpList_look_to rfl tMv (.tmp 35) (.tmp 36) false rfl (.map (some mv)) (.int .i64 (a : Int)) (.slice A 3 c) rfl rfl hlook ?_)
     | (refine wpList_load_blk rfl tPo (.tmp 5) rfl w.heap.size rfl tPo (Po.cells x) _ HBX.out Try.underlying31 rfl (by rw [HXl.out]; kernel_rfl) ?_)
     | (go_at_call 37; (with_reducible refine (bsearch_any x l A 3 c _ HPos.out HXd.out HRi.out (by omega)).mono ?_); rintro e w2 ⟨rfl, hb2⟩; rw [HBef.out, HTh.out]; have HX2 := Lib.hid (below_step HX1.out hb2); have HBXc := Lib.hid (HBX.out.through hb2); have HHb := Lib.hid (HHa.out.through hb2); have HVb := Lib.hid (HV.out.through hb2); have hbs2 := Try.el_po.run_build w2 (Po.cells x) HXl.out; clear hb2))
    go_ret
    exact ⟨rfl, HH.out.same HX2.out⟩
 obtain rfl : th = false := by cases th; rfl; exact absurd (.inl rfl) hno
 have hno2 : ¬ (i = 0 ∧ k = 3) := fun h9 => hno (.inr h9)
 have HY : Hid (voteL l x = some (if 3 < (insP l i x).length then (insP l i x).drop 1 else insP l i x)) := Lib.hid (by rw [voteL_yes (by rw [hth, hi, hlk.out]; simpa using hno2), hi])
 have HRn : Hid (Ris (insP l i x)) := Lib.hid (by rw [← hi]; exact ris_ins rfl HRi.out hth)
 have HLn : Hid ((insP l i x).length = k + 1) := Lib.hid (by rw [insP_len (by rw [hlk.out]; exact hik), hlk.out])
 rw [HY.out]
 have hw3 : IntKind.i64.wrap ((k : Int) + 1 - 3) = (k : Int) + 1 - 3 := IntWalk.i64_in _ (by omega)
 have HA : Hid (a < r.n ∧ a ≠ r.self) := Lib.hid ⟨han, has⟩
 have hcond : i = 0 → ¬ k = 3 := fun h9 h8 => hno2 ⟨h9, h8⟩
 clear h hi hth hl hno hno2
 by_cases hk : k = 3
 ·subst hk
  have hi0 : ¬ i = 0 := fun h9 => hcond h9 rfl
  obtain ⟨y, lf, hyl⟩ : ∃ y lf, insP l i x = y :: lf := by
   cases hq : insP l i x with
   | nil => have := HLn.out; rw [hq] at this; cases this
   | cons y lf => exact ⟨y, lf, rfl⟩
  have HLF : Hid (Ris lf ∧ lf.length ≤ 3) := Lib.hid (by have h1 := HRn.out; have h2 := HLn.out; rw [hyl] at h1 h2; exact ⟨(ris_cons.1 h1).2, by simp at h2; omega⟩)
  have HRes : Hid ((match (some (if 3 < (insP l i x).length then (insP l i x).drop 1 else insP l i x) : Option (List Po)) with | none => (r, false) | some l => ({ r with of := r.of.set a l }, true)) = ({ r with of := r.of.set a lf }, true)) := Lib.hid (by rw [HLn.out, if_pos (by omega), hyl]; rfl)
  rw [HRes.out]
  have hmx : max (0 : Int) ((3 : Nat) + 1 - 3) = 1 := by omega
  clear HRes HY hcond
  go_enter Try.func13, Try.ntmps13
  go_wp2_with (first
   | (go_at_call 27; (with_reducible refine (isnone_p _ HHa.out.box HN1.out).mono ?_); rintro e w9 ⟨rfl, hw9⟩; have hw8 := hw9.symm; clear hw9; subst hw8)
   | (refine wpList_look_to rfl tMv (.tmp 35) (.tmp 36) false rfl (.map (some mv)) (.int .i64 (a : Int)) (.slice A 3 c) rfl rfl hlook ?_)
   | (refine wpList_load_blk rfl tPo (.tmp 5) rfl w.heap.size rfl tPo (Po.cells x) _ HBX.out Try.underlying31 rfl (by rw [HXl.out]; kernel_rfl) ?_)
   | (go_at_call 37; (with_reducible refine (bsearch_any x l A 3 c _ HPos.out HXd.out HRi.out (by omega)).mono ?_); rintro e w2 ⟨rfl, hb2⟩; rw [HBef.out, HTh.out]; have HX2 := Lib.hid (below_step HX1.out hb2); have HBXc := Lib.hid (HBX.out.through hb2); have HHb := Lib.hid (HHa.out.through hb2); have HVb := Lib.hid (HV.out.through hb2); have hbs2 := Try.el_po.run_build w2 (Po.cells x) HXl.out; clear hb2)
   | (refine wpList_load_blk rfl tPo (.tmp 5) rfl w.heap.size rfl tPo (Po.cells x) _ HBXc.out Try.underlying31 rfl (by rw [HXl.out]; kernel_rfl) ?_)
   | (refine wpList_build_el rfl Try.el_po (.tmp 56) rfl (Po.cells x) rfl HXl.out ?_)
   | (go_at_call 39; (with_reducible refine (insertp_c A 3 c l x i w2.heap.size (w2.alloc (.cells (Po.cells x).toArray tPo)) (HVb.out.through (below1_ w2 _)) (Blk.fresh rfl rfl) HXd.out (fun h9 => by have := HVb.out.lt _ h9; omega) (by omega) (by omega)).mono ?_); rintro e w4 ⟨⟨A9, n9, c9⟩, rfl, hn9, hv9, hf9, hb9⟩; simp only at hn9; subst hn9; have HV9 := Lib.hid hv9; have HF9 : Hid (Ft (vrB (A, 3, c)) w w4) := Lib.hid ((Ft.of_below (below_step HX2.out (below1_ w2 _))).trans hf9 (fun _ h9 => .inl h9)); have HB9 := Lib.hid hb9; have HS2 := Lib.hid (Nat.le_trans HX2.out.size (below1_ w2 (.cells (Po.cells x).toArray tPo)).size); have HH4 := Lib.hid ((HHb.out.through (below1_ w2 (.cells (Po.cells x).toArray tPo))).box.cellAt (i := 3) rfl); have HO4 : Hid (Blk w4 B tPs (psC r.n r.self mo mv) ∧ MpIs w4 mv (encK encI VE)) := Lib.hid ⟨hf9.blk (HHb.out.through (below1_ w2 _)).box (fun h9 => (HH.out.nv HA.out.1 HA.out.2 (q := B) (by rw [HVf.out]; exact h9)).1 rfl), (HHb.out.through (below1_ w2 _)).vm.keep (hf9.block mv (HHb.out.through (below1_ w2 _)).vm.lt (fun h9 => (HH.out.nv HA.out.1 HA.out.2 (q := mv) (by rw [HVf.out]; exact h9)).2.2.1 rfl))⟩; clear hv9 hf9 hb9))
  refine wp_region_tail (S := fun W => Blk W B tPs (psC r.n r.self mo mv) ∧ MpIs W mv (encK encI VE)) 11 (by kernel_rfl) (by kernel_rfl) (by kernel_rfl) (by kernel_rfl) rfl ⟨HO4.out.1.drew, HO4.out.2.keep rfl⟩ (fun hHeld => ?_)
  change wpAnyH _ _ _ _ _ _ #[false, false, false, false, false, false, false, false, false, false, false, true] _ _
  refine tkq (i := 0) (d := 59) (v := (.pointer (some ⟨B, 0, none⟩))) rfl rfl (Or.inl ⟨by kernel_rfl, fun w hSw => ?_⟩) (by assumption) ?_
  ·(try dsimp only at hSw); go_simp <;> (try rfl)
  simp only [Act.put, sq1, sq2, sq3]
  refine tkq (i := 1) (d := 60) (v := (.pointer (some ⟨B, 0, none⟩))) rfl rfl (Or.inl ⟨by kernel_rfl, fun w hSw => ?_⟩) (by assumption) ?_
  ·(try dsimp only at hSw); go_simp <;> (try rfl)
  simp only [Act.put, sq1, sq2, sq3]
  refine tkq (i := 2) (d := 61) (v := (.pointer (some ⟨B, 3, none⟩))) rfl rfl (Or.inl ⟨by kernel_rfl, fun w hSw => ?_⟩) (by assumption) ?_
  ·(try dsimp only at hSw); go_simp <;> (try rfl)
  simp only [Act.put, sq1, sq2, sq3]
  refine tkq (i := 3) (d := 62) (v := (.map (some mv))) rfl rfl (yields_load_at (by kernel_rfl) 56 (.tmp 61) rfl (.pointer (some ⟨B, 3, none⟩)) (by simp [Act.eval]) (.map (some mv)) (fun W hW => load_one' (Try.agg_mv W) (hW.1.cellAt (i := 3) rfl))) (by assumption) ?_
  simp only [Act.put, sq1, sq2, sq3]
  refine tkq (i := 4) (d := 63) (v := (.int .i64 (a : Int))) rfl rfl (Or.inl ⟨by kernel_rfl, fun w hSw => ?_⟩) (by assumption) ?_
  ·(try dsimp only at hSw); go_simp <;> (try rfl)
  simp only [Act.put, sq1, sq2, sq3]
  refine tkq (i := 5) (d := 64) (v := (.slice A9 (3 + 1) c9)) rfl rfl (Or.inl ⟨by kernel_rfl, fun w hSw => ?_⟩) (by assumption) ?_
  ·(try dsimp only at hSw); go_simp <;> (try rfl)
  simp only [Act.put, sq1, sq2, sq3]
  refine tkq (i := 6) (d := 65) (v := (.slice A9 (3 + 1) c9)) rfl rfl (Or.inl ⟨by kernel_rfl, fun w hSw => ?_⟩) (by assumption) ?_
  ·(try dsimp only at hSw); go_simp <;> (try rfl)
  simp only [Act.put, sq1, sq2, sq3]
  refine tkq (i := 7) (d := 66) (v := (.int .i64 4)) rfl rfl (Or.inl ⟨by kernel_rfl, fun w hSw => ?_⟩) (by assumption) ?_
  ·(try dsimp only at hSw); go_simp <;> (try rfl)
  simp only [Act.put, sq1, sq2, sq3]
  refine tkq (i := 8) (d := 67) (v := (.int .i64 1)) rfl rfl (Or.inl ⟨by kernel_rfl, fun w hSw => ?_⟩) (by assumption) ?_
  ·(try dsimp only at hSw); go_simp <;> (try rfl)
  simp only [Act.put, sq1, sq2, sq3]
  refine tkq (i := 9) (d := 68) (v := (.int .i64 1)) rfl rfl (Or.inl ⟨by kernel_rfl, fun w hSw => ?_⟩) (by assumption) ?_
  ·(try dsimp only at hSw); go_simp <;> (try rfl)
  simp only [Act.put, sq1, sq2, sq3]
  refine wpAnyH_ready (rs := [10]) (by kernel_rfl) (by simp) ?_
  refine AllReadyH.cons rfl (fun K hK => ?_) AllReadyH.nil
  go_simp
  refine (delete_one_c A9 (3 + 1) c9 y lf _ (by rw [← hyl]; exact HV9.out) (by omega) (by omega)).mono ?_
  rintro e w5 ⟨⟨A5, n5, c5⟩, rfl, hn5, hv5, hf5, hb5⟩; simp only at hn5; subst hn5; have HV5 := Lib.hid hv5; have HF5 := Lib.hid hf5; have HB5 := Lib.hid hb5; have HK5 : Hid (Blk w5 B tPs (psC r.n r.self mo mv) ∧ MpIs w5 mv (encK encI VE)) := Lib.hid ⟨hf5.blk hHeld.1 (fun h9 => (HB9.out B h9).elim (fun h8 => (HH.out.nv HA.out.1 HA.out.2 (q := B) (by rw [HVf.out]; exact h8)).1 rfl) (fun h8 => by have h7 := HH.out.box.lt; have h6 := HS2.out; omega)), hHeld.2.keep (hf5.block mv hHeld.2.lt (fun h9 => (HB9.out mv h9).elim (fun h8 => (HH.out.nv HA.out.1 HA.out.2 (q := mv) (by rw [HVf.out]; exact h8)).2.2.1 rfl) (fun h8 => by have h7 := HH.out.vm.lt; have h6 := HS2.out; omega)))⟩; clear hv5 hf5 hb5
  go_wp2_with fail
  refine hK.out _ _ HK5.out (fun hHeld1 => ?_)
  clear hHeld hK K
  have hHeld := hHeld1
  clear hHeld1
  refine wpAnyH_done (by kernel_rfl) ?_ _
  refine tail_go (o := ⟨none, .mapUpdate tMv (.tmp 62) (.tmp 63) (.tmp 69), _, _, _, none⟩) rfl ?_
  obtain ⟨w6, hu6, hm6, hg6⟩ := HK5.out.2.upd Try.keyp_int Try.underlying56 (fun _ _ => trivial) (x := (a : Int)) trivial (Pl.val (A5, 3, c5))
  refine step_upd (by simp [Region.wanted]) tMv (.tmp 62) (.tmp 63) (.tmp 69) rfl (.map (some mv)) (.int .i64 (a : Int)) (.slice A5 3 c5) rfl rfl rfl w6 hu6 ?_
  clear hHeld
  go_wp2
  go_ret
  refine ⟨rfl, HH.out.voted HA.out.1 HA.out.2 (s := (A5, 3, c5)) (w5 := w5) ?_ HV5.out ?_ hm6 hg6 HLF.out.1 HLF.out.2⟩
  ·rw [HVf.out]
   exact (show Ft _ w w4.drew from ⟨HF9.out.os, HF9.out.tape, HF9.out.output, HF9.out.size, HF9.out.block⟩).trans (HF5.out) (fun q hq => (HB9.out q hq).elim (fun h9 => .inl h9) (fun h9 => .inr (Nat.le_trans HS2.out h9)))
  ·intro q hq
   rw [HVf.out]
   rcases HB5.out q hq with h9 | h9
   ·exact (HB9.out q h9).elim (fun h8 => .inl h8) (fun h8 => .inr (Nat.le_trans HS2.out h8))
   ·exact .inr (Nat.le_trans HF9.out.size h9)
 ·have hk2 : k ≤ 2 := by omega
  have HLF : Hid (Ris (insP l i x) ∧ (insP l i x).length ≤ 3) := Lib.hid ⟨HRn.out, by rw [HLn.out]; omega⟩
  have HRes : Hid ((match (some (if 3 < (insP l i x).length then (insP l i x).drop 1 else insP l i x) : Option (List Po)) with | none => (r, false) | some l => ({ r with of := r.of.set a l }, true)) = ({ r with of := r.of.set a (insP l i x) }, true)) := Lib.hid (by rw [HLn.out, if_neg (by omega)])
  rw [HRes.out]
  have hmx : max (0 : Int) ((k : Int) + 1 - 3) = 0 := by omega
  clear HRes HY hcond
  have hk3n : ¬ k = 3 := hk
  by_cases hi0 : i = 0
  ·have hb0 : ((i : Int) == 0) = true := by rw [hi0]; rfl
   clear hi0
   go_enter Try.func13, Try.ntmps13
   go_wp2_with (first
    | (go_at_call 27; (with_reducible refine (isnone_p _ HHa.out.box HN1.out).mono ?_); rintro e w9 ⟨rfl, hw9⟩; have hw8 := hw9.symm; clear hw9; subst hw8)
    | (refine wpList_look_to rfl tMv (.tmp 35) (.tmp 36) false rfl (.map (some mv)) (.int .i64 (a : Int)) (.slice A k c) rfl rfl hlook ?_)
    | (refine wpList_load_blk rfl tPo (.tmp 5) rfl w.heap.size rfl tPo (Po.cells x) _ HBX.out Try.underlying31 rfl (by rw [HXl.out]; kernel_rfl) ?_)
    | (go_at_call 37; (with_reducible refine (bsearch_any x l A k c _ HPos.out HXd.out HRi.out (by omega)).mono ?_); rintro e w2 ⟨rfl, hb2⟩; rw [HBef.out, HTh.out]; have HX2 := Lib.hid (below_step HX1.out hb2); have HBXc := Lib.hid (HBX.out.through hb2); have HHb := Lib.hid (HHa.out.through hb2); have HVb := Lib.hid (HV.out.through hb2); have hbs2 := Try.el_po.run_build w2 (Po.cells x) HXl.out; clear hb2)
    | (refine wpList_load_blk rfl tPo (.tmp 5) rfl w.heap.size rfl tPo (Po.cells x) _ HBXc.out Try.underlying31 rfl (by rw [HXl.out]; kernel_rfl) ?_)
    | (refine wpList_build_el rfl Try.el_po (.tmp 56) rfl (Po.cells x) rfl HXl.out ?_)
    | (go_at_call 39; (with_reducible refine (insertp_c A k c l x i w2.heap.size (w2.alloc (.cells (Po.cells x).toArray tPo)) (HVb.out.through (below1_ w2 _)) (Blk.fresh rfl rfl) HXd.out (fun h9 => by have := HVb.out.lt _ h9; omega) (by omega) (by omega)).mono ?_); rintro e w4 ⟨⟨A9, n9, c9⟩, rfl, hn9, hv9, hf9, hb9⟩; simp only at hn9; subst hn9; have HV9 := Lib.hid hv9; have HF9 : Hid (Ft (vrB (A, k, c)) w w4) := Lib.hid ((Ft.of_below (below_step HX2.out (below1_ w2 _))).trans hf9 (fun _ h9 => .inl h9)); have HB9 := Lib.hid hb9; have HS2 := Lib.hid (Nat.le_trans HX2.out.size (below1_ w2 (.cells (Po.cells x).toArray tPo)).size); have HH4 := Lib.hid ((HHb.out.through (below1_ w2 (.cells (Po.cells x).toArray tPo))).box.cellAt (i := 3) rfl); have HO4 : Hid (Blk w4 B tPs (psC r.n r.self mo mv) ∧ MpIs w4 mv (encK encI VE)) := Lib.hid ⟨hf9.blk (HHb.out.through (below1_ w2 _)).box (fun h9 => (HH.out.nv HA.out.1 HA.out.2 (q := B) (by rw [HVf.out]; exact h9)).1 rfl), (HHb.out.through (below1_ w2 _)).vm.keep (hf9.block mv (HHb.out.through (below1_ w2 _)).vm.lt (fun h9 => (HH.out.nv HA.out.1 HA.out.2 (q := mv) (by rw [HVf.out]; exact h9)).2.2.1 rfl))⟩; clear hv9 hf9 hb9))
   refine wp_region_tail (S := fun W => Blk W B tPs (psC r.n r.self mo mv) ∧ MpIs W mv (encK encI VE)) 11 (by kernel_rfl) (by kernel_rfl) (by kernel_rfl) (by kernel_rfl) rfl ⟨HO4.out.1.drew, HO4.out.2.keep rfl⟩ (fun hHeld => ?_)
   change wpAnyH _ _ _ _ _ _ #[false, false, false, false, false, false, false, false, false, false, false, true] _ _
   refine tkq (i := 0) (d := 59) (v := (.pointer (some ⟨B, 0, none⟩))) rfl rfl (Or.inl ⟨by kernel_rfl, fun w hSw => ?_⟩) (by assumption) ?_
   ·(try dsimp only at hSw); go_simp <;> (try rfl)
   simp only [Act.put, sq1, sq2, sq3]
   refine tkq (i := 1) (d := 60) (v := (.pointer (some ⟨B, 0, none⟩))) rfl rfl (Or.inl ⟨by kernel_rfl, fun w hSw => ?_⟩) (by assumption) ?_
   ·(try dsimp only at hSw); go_simp <;> (try rfl)
   simp only [Act.put, sq1, sq2, sq3]
   refine tkq (i := 2) (d := 61) (v := (.pointer (some ⟨B, 3, none⟩))) rfl rfl (Or.inl ⟨by kernel_rfl, fun w hSw => ?_⟩) (by assumption) ?_
   ·(try dsimp only at hSw); go_simp <;> (try rfl)
   simp only [Act.put, sq1, sq2, sq3]
   refine tkq (i := 3) (d := 62) (v := (.map (some mv))) rfl rfl (yields_load_at (by kernel_rfl) 56 (.tmp 61) rfl (.pointer (some ⟨B, 3, none⟩)) (by simp [Act.eval]) (.map (some mv)) (fun W hW => load_one' (Try.agg_mv W) (hW.1.cellAt (i := 3) rfl))) (by assumption) ?_
   simp only [Act.put, sq1, sq2, sq3]
   refine tkq (i := 4) (d := 63) (v := (.int .i64 (a : Int))) rfl rfl (Or.inl ⟨by kernel_rfl, fun w hSw => ?_⟩) (by assumption) ?_
   ·(try dsimp only at hSw); go_simp <;> (try rfl)
   simp only [Act.put, sq1, sq2, sq3]
   refine tkq (i := 5) (d := 64) (v := (.slice A9 (k + 1) c9)) rfl rfl (Or.inl ⟨by kernel_rfl, fun w hSw => ?_⟩) (by assumption) ?_
   ·(try dsimp only at hSw); go_simp <;> (try rfl)
   simp only [Act.put, sq1, sq2, sq3]
   refine tkq (i := 6) (d := 65) (v := (.slice A9 (k + 1) c9)) rfl rfl (Or.inl ⟨by kernel_rfl, fun w hSw => ?_⟩) (by assumption) ?_
   ·(try dsimp only at hSw); go_simp <;> (try rfl)
   simp only [Act.put, sq1, sq2, sq3]
   refine tkq (i := 7) (d := 66) (v := (.int .i64 (((k : Nat) : Int) + 1))) rfl rfl (Or.inl ⟨by kernel_rfl, fun w hSw => ?_⟩) (by assumption) ?_
   ·(try dsimp only at hSw); go_simp <;> (try rfl)
   simp only [Act.put, sq1, sq2, sq3]
   refine tkq (i := 8) (d := 67) (v := (.int .i64 ((k : Int) + 1 - 3))) rfl rfl (Or.inl ⟨by kernel_rfl, fun w hSw => ?_⟩) (by assumption) ?_
   ·(try dsimp only at hSw); go_simp <;> (try rfl)
   simp only [Act.put, sq1, sq2, sq3]
   refine tkq (i := 9) (d := 68) (v := (.int .i64 0)) rfl rfl (Or.inl ⟨by kernel_rfl, fun w hSw => ?_⟩) (by assumption) ?_
   ·(try dsimp only at hSw); go_simp <;> (try rfl)
   simp only [Act.put, sq1, sq2, sq3]
   refine wpAnyH_ready (rs := [10]) (by kernel_rfl) (by simp) ?_
   refine AllReadyH.cons rfl (fun K hK => ?_) AllReadyH.nil
   go_simp
   refine (delete_none_c A9 (k + 1) c9 (insP l i x) w4.drew (show Vr w4.drew _ _ from HV9.out) (by omega)).mono ?_
   rintro e w5 ⟨⟨A5, n5, c5⟩, rfl, hn5, hv5, hf5, hb5⟩; simp only at hn5; subst hn5; have HV5 := Lib.hid hv5; have HF5 := Lib.hid hf5; have HB5 := Lib.hid hb5; have HK5 : Hid (Blk w5 B tPs (psC r.n r.self mo mv) ∧ MpIs w5 mv (encK encI VE)) := Lib.hid ⟨hf5.blk hHeld.1 (fun h9 => (HB9.out B h9).elim (fun h8 => (HH.out.nv HA.out.1 HA.out.2 (q := B) (by rw [HVf.out]; exact h8)).1 rfl) (fun h8 => by have h7 := HH.out.box.lt; have h6 := HS2.out; omega)), hHeld.2.keep (hf5.block mv hHeld.2.lt (fun h9 => (HB9.out mv h9).elim (fun h8 => (HH.out.nv HA.out.1 HA.out.2 (q := mv) (by rw [HVf.out]; exact h8)).2.2.1 rfl) (fun h8 => by have h7 := HH.out.vm.lt; have h6 := HS2.out; omega)))⟩; clear hv5 hf5 hb5
   go_wp2_with fail
   refine hK.out _ _ HK5.out (fun hHeld1 => ?_)
   clear hHeld hK K
   have hHeld := hHeld1
   clear hHeld1
   refine wpAnyH_done (by kernel_rfl) ?_ _
   refine tail_go (o := ⟨none, .mapUpdate tMv (.tmp 62) (.tmp 63) (.tmp 69), _, _, _, none⟩) rfl ?_
   obtain ⟨w6, hu6, hm6, hg6⟩ := HK5.out.2.upd Try.keyp_int Try.underlying56 (fun _ _ => trivial) (x := (a : Int)) trivial (Pl.val (A5, (k + 1), c5))
   refine step_upd (by simp [Region.wanted]) tMv (.tmp 62) (.tmp 63) (.tmp 69) rfl (.map (some mv)) (.int .i64 (a : Int)) (.slice A5 (k + 1) c5) rfl rfl rfl w6 hu6 ?_
   clear hHeld
   go_wp2
   go_ret
   refine ⟨rfl, HH.out.voted HA.out.1 HA.out.2 (s := (A5, (k + 1), c5)) (w5 := w5) ?_ HV5.out ?_ hm6 hg6 HLF.out.1 HLF.out.2⟩
   ·rw [HVf.out]
    exact (show Ft _ w w4.drew from ⟨HF9.out.os, HF9.out.tape, HF9.out.output, HF9.out.size, HF9.out.block⟩).trans (HF5.out) (fun q hq => (HB9.out q hq).elim (fun h9 => .inl h9) (fun h9 => .inr (Nat.le_trans HS2.out h9)))
   ·intro q hq
    rw [HVf.out]
    rcases HB5.out q hq with h9 | h9
    ·exact (HB9.out q h9).elim (fun h8 => .inl h8) (fun h8 => .inr (Nat.le_trans HS2.out h8))
    ·exact .inr (Nat.le_trans HF9.out.size h9)
  ·go_enter Try.func13, Try.ntmps13
   go_wp2_with (first
    | (go_at_call 27; (with_reducible refine (isnone_p _ HHa.out.box HN1.out).mono ?_); rintro e w9 ⟨rfl, hw9⟩; have hw8 := hw9.symm; clear hw9; subst hw8)
    | (refine wpList_look_to rfl tMv (.tmp 35) (.tmp 36) false rfl (.map (some mv)) (.int .i64 (a : Int)) (.slice A k c) rfl rfl hlook ?_)
    | (refine wpList_load_blk rfl tPo (.tmp 5) rfl w.heap.size rfl tPo (Po.cells x) _ HBX.out Try.underlying31 rfl (by rw [HXl.out]; kernel_rfl) ?_)
    | (go_at_call 37; (with_reducible refine (bsearch_any x l A k c _ HPos.out HXd.out HRi.out (by omega)).mono ?_); rintro e w2 ⟨rfl, hb2⟩; rw [HBef.out, HTh.out]; have HX2 := Lib.hid (below_step HX1.out hb2); have HBXc := Lib.hid (HBX.out.through hb2); have HHb := Lib.hid (HHa.out.through hb2); have HVb := Lib.hid (HV.out.through hb2); have hbs2 := Try.el_po.run_build w2 (Po.cells x) HXl.out; clear hb2)
    | (refine wpList_load_blk rfl tPo (.tmp 5) rfl w.heap.size rfl tPo (Po.cells x) _ HBXc.out Try.underlying31 rfl (by rw [HXl.out]; kernel_rfl) ?_)
    | (refine wpList_build_el rfl Try.el_po (.tmp 56) rfl (Po.cells x) rfl HXl.out ?_)
    | (go_at_call 39; (with_reducible refine (insertp_c A k c l x i w2.heap.size (w2.alloc (.cells (Po.cells x).toArray tPo)) (HVb.out.through (below1_ w2 _)) (Blk.fresh rfl rfl) HXd.out (fun h9 => by have := HVb.out.lt _ h9; omega) (by omega) (by omega)).mono ?_); rintro e w4 ⟨⟨A9, n9, c9⟩, rfl, hn9, hv9, hf9, hb9⟩; simp only at hn9; subst hn9; have HV9 := Lib.hid hv9; have HF9 : Hid (Ft (vrB (A, k, c)) w w4) := Lib.hid ((Ft.of_below (below_step HX2.out (below1_ w2 _))).trans hf9 (fun _ h9 => .inl h9)); have HB9 := Lib.hid hb9; have HS2 := Lib.hid (Nat.le_trans HX2.out.size (below1_ w2 (.cells (Po.cells x).toArray tPo)).size); have HH4 := Lib.hid ((HHb.out.through (below1_ w2 (.cells (Po.cells x).toArray tPo))).box.cellAt (i := 3) rfl); have HO4 : Hid (Blk w4 B tPs (psC r.n r.self mo mv) ∧ MpIs w4 mv (encK encI VE)) := Lib.hid ⟨hf9.blk (HHb.out.through (below1_ w2 _)).box (fun h9 => (HH.out.nv HA.out.1 HA.out.2 (q := B) (by rw [HVf.out]; exact h9)).1 rfl), (HHb.out.through (below1_ w2 _)).vm.keep (hf9.block mv (HHb.out.through (below1_ w2 _)).vm.lt (fun h9 => (HH.out.nv HA.out.1 HA.out.2 (q := mv) (by rw [HVf.out]; exact h9)).2.2.1 rfl))⟩; clear hv9 hf9 hb9))
   refine wp_region_tail (S := fun W => Blk W B tPs (psC r.n r.self mo mv) ∧ MpIs W mv (encK encI VE)) 11 (by kernel_rfl) (by kernel_rfl) (by kernel_rfl) (by kernel_rfl) rfl ⟨HO4.out.1.drew, HO4.out.2.keep rfl⟩ (fun hHeld => ?_)
   change wpAnyH _ _ _ _ _ _ #[false, false, false, false, false, false, false, false, false, false, false, true] _ _
   refine tkq (i := 0) (d := 59) (v := (.pointer (some ⟨B, 0, none⟩))) rfl rfl (Or.inl ⟨by kernel_rfl, fun w hSw => ?_⟩) (by assumption) ?_
   ·(try dsimp only at hSw); go_simp <;> (try rfl)
   simp only [Act.put, sq1, sq2, sq3]
   refine tkq (i := 1) (d := 60) (v := (.pointer (some ⟨B, 0, none⟩))) rfl rfl (Or.inl ⟨by kernel_rfl, fun w hSw => ?_⟩) (by assumption) ?_
   ·(try dsimp only at hSw); go_simp <;> (try rfl)
   simp only [Act.put, sq1, sq2, sq3]
   refine tkq (i := 2) (d := 61) (v := (.pointer (some ⟨B, 3, none⟩))) rfl rfl (Or.inl ⟨by kernel_rfl, fun w hSw => ?_⟩) (by assumption) ?_
   ·(try dsimp only at hSw); go_simp <;> (try rfl)
   simp only [Act.put, sq1, sq2, sq3]
   refine tkq (i := 3) (d := 62) (v := (.map (some mv))) rfl rfl (yields_load_at (by kernel_rfl) 56 (.tmp 61) rfl (.pointer (some ⟨B, 3, none⟩)) (by simp [Act.eval]) (.map (some mv)) (fun W hW => load_one' (Try.agg_mv W) (hW.1.cellAt (i := 3) rfl))) (by assumption) ?_
   simp only [Act.put, sq1, sq2, sq3]
   refine tkq (i := 4) (d := 63) (v := (.int .i64 (a : Int))) rfl rfl (Or.inl ⟨by kernel_rfl, fun w hSw => ?_⟩) (by assumption) ?_
   ·(try dsimp only at hSw); go_simp <;> (try rfl)
   simp only [Act.put, sq1, sq2, sq3]
   refine tkq (i := 5) (d := 64) (v := (.slice A9 (k + 1) c9)) rfl rfl (Or.inl ⟨by kernel_rfl, fun w hSw => ?_⟩) (by assumption) ?_
   ·(try dsimp only at hSw); go_simp <;> (try rfl)
   simp only [Act.put, sq1, sq2, sq3]
   refine tkq (i := 6) (d := 65) (v := (.slice A9 (k + 1) c9)) rfl rfl (Or.inl ⟨by kernel_rfl, fun w hSw => ?_⟩) (by assumption) ?_
   ·(try dsimp only at hSw); go_simp <;> (try rfl)
   simp only [Act.put, sq1, sq2, sq3]
   refine tkq (i := 7) (d := 66) (v := (.int .i64 (((k : Nat) : Int) + 1))) rfl rfl (Or.inl ⟨by kernel_rfl, fun w hSw => ?_⟩) (by assumption) ?_
   ·(try dsimp only at hSw); go_simp <;> (try rfl)
   simp only [Act.put, sq1, sq2, sq3]
   refine tkq (i := 8) (d := 67) (v := (.int .i64 ((k : Int) + 1 - 3))) rfl rfl (Or.inl ⟨by kernel_rfl, fun w hSw => ?_⟩) (by assumption) ?_
   ·(try dsimp only at hSw); go_simp <;> (try rfl)
   simp only [Act.put, sq1, sq2, sq3]
   refine tkq (i := 9) (d := 68) (v := (.int .i64 0)) rfl rfl (Or.inl ⟨by kernel_rfl, fun w hSw => ?_⟩) (by assumption) ?_
   ·(try dsimp only at hSw); go_simp <;> (try rfl)
   simp only [Act.put, sq1, sq2, sq3]
   refine wpAnyH_ready (rs := [10]) (by kernel_rfl) (by simp) ?_
   refine AllReadyH.cons rfl (fun K hK => ?_) AllReadyH.nil
   go_simp
   refine (delete_none_c A9 (k + 1) c9 (insP l i x) w4.drew (show Vr w4.drew _ _ from HV9.out) (by omega)).mono ?_
   rintro e w5 ⟨⟨A5, n5, c5⟩, rfl, hn5, hv5, hf5, hb5⟩; simp only at hn5; subst hn5; have HV5 := Lib.hid hv5; have HF5 := Lib.hid hf5; have HB5 := Lib.hid hb5; have HK5 : Hid (Blk w5 B tPs (psC r.n r.self mo mv) ∧ MpIs w5 mv (encK encI VE)) := Lib.hid ⟨hf5.blk hHeld.1 (fun h9 => (HB9.out B h9).elim (fun h8 => (HH.out.nv HA.out.1 HA.out.2 (q := B) (by rw [HVf.out]; exact h8)).1 rfl) (fun h8 => by have h7 := HH.out.box.lt; have h6 := HS2.out; omega)), hHeld.2.keep (hf5.block mv hHeld.2.lt (fun h9 => (HB9.out mv h9).elim (fun h8 => (HH.out.nv HA.out.1 HA.out.2 (q := mv) (by rw [HVf.out]; exact h8)).2.2.1 rfl) (fun h8 => by have h7 := HH.out.vm.lt; have h6 := HS2.out; omega)))⟩; clear hv5 hf5 hb5
   go_wp2_with fail
   refine hK.out _ _ HK5.out (fun hHeld1 => ?_)
   clear hHeld hK K
   have hHeld := hHeld1
   clear hHeld1
   refine wpAnyH_done (by kernel_rfl) ?_ _
   refine tail_go (o := ⟨none, .mapUpdate tMv (.tmp 62) (.tmp 63) (.tmp 69), _, _, _, none⟩) rfl ?_
   obtain ⟨w6, hu6, hm6, hg6⟩ := HK5.out.2.upd Try.keyp_int Try.underlying56 (fun _ _ => trivial) (x := (a : Int)) trivial (Pl.val (A5, (k + 1), c5))
   refine step_upd (by simp [Region.wanted]) tMv (.tmp 62) (.tmp 63) (.tmp 69) rfl (.map (some mv)) (.int .i64 (a : Int)) (.slice A5 (k + 1) c5) rfl rfl rfl w6 hu6 ?_
   clear hHeld
   go_wp2
   go_ret
   refine ⟨rfl, HH.out.voted HA.out.1 HA.out.2 (s := (A5, (k + 1), c5)) (w5 := w5) ?_ HV5.out ?_ hm6 hg6 HLF.out.1 HLF.out.2⟩
   ·rw [HVf.out]
    exact (show Ft _ w w4.drew from ⟨HF9.out.os, HF9.out.tape, HF9.out.output, HF9.out.size, HF9.out.block⟩).trans (HF5.out) (fun q hq => (HB9.out q hq).elim (fun h9 => .inl h9) (fun h9 => .inr (Nat.le_trans HS2.out h9)))
   ·intro q hq
    rw [HVf.out]
    rcases HB5.out q hq with h9 | h9
    ·exact (HB9.out q h9).elim (fun h8 => .inl h8) (fun h8 => .inr (Nat.le_trans HS2.out h8))
    ·exact .inr (Nat.le_trans HF9.out.size h9)

end Go.Proofs.Ytpolofehkckaoaa
