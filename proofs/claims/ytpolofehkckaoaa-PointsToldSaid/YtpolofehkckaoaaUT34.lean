/-
  Joined: PwE.
-/
import Derived.Test.YtpolofehkckaoaaUT33
import Derived.Test.YtpolofehkckaoaaUT19
import Derived.Test.YtpolofehkckaoaaUTT
namespace Go.Proofs.Ytpolofehkckaoaa
open Go.RowKit

def supN (x : Po) (self : Nat) : Nat → List (List Po) → Nat
 | _, [] => 0
 | j, l :: r => (if j ≠ self ∧ conP x l = true then 1 else 0) + supN x self (j + 1) r
theorem supL_con {x : Po} : ∀ {l : List Po}, Ris l → supL x l = if conP x l = true then 1 else 0
 | [], _ => rfl
 | y :: l, h => by
  have h1 := sup_one (x := x) h
  unfold supL at h1 ⊢
  have h2 := supL_con (x := x) (ris_cons.1 h).2
  have e : y.eqb x = x.eqb y := by rw [Bool.eq_iff_iff, eqb_iff, eqb_iff]; exact eq_comm
  rw [h2] at h1 ⊢
  rw [e] at h1 ⊢
  have hc : conP x (y :: l) = (x.eqb y || conP x l) := rfl
  rw [hc]
  cases h3 : x.eqb y <;> cases h4 : conP x l <;> simp_all
theorem ite_cong_ {p q : Prop} [Decidable p] [Decidable q] (h : p ↔ q) (a b : Nat) : (if p then a else b) = if q then a else b := by by_cases hp : p <;> simp_all
theorem supO_N {x : Po} {self : Nat} : ∀ (o : List (List Po)) (j : Nat), (∀ l ∈ o, Ris l) → supO x o = supN x self j o + (if j ≤ self ∧ conP x (o.getD (self - j) []) = true then 1 else 0)
 | [], j, _ => by simp [supO, supN, conP]
 | l :: r, j, h => by
  unfold supO supN
  have h1 := supL_con (x := x) (h l (List.mem_cons_self ..))
  have h2 := supO_N (x := x) (self := self) r (j + 1) (fun l hl => h l (List.mem_cons_of_mem _ hl))
  rw [h1, h2]
  by_cases hj : j = self
  ·subst hj
   rw [if_neg (show ¬ (j ≠ j ∧ conP x l = true) by simp), if_neg (show ¬ (j + 1 ≤ j ∧ conP x (r.getD (j - (j + 1)) []) = true) by omega)]
   simp [Nat.add_comm]
  ·rw [show (if j ≠ self ∧ conP x l = true then 1 else 0) = (if conP x l = true then 1 else 0 : Nat) by simp [hj]]
   rcases Nat.lt_or_ge j self with hlt | hge
   ·have e1 : (l :: r).getD (self - j) [] = r.getD (self - (j + 1)) [] := by
     obtain ⟨m, hm⟩ : ∃ m, self - j = m + 1 := ⟨self - j - 1, by omega⟩
     rw [hm, show self - (j + 1) = m by omega]
     rfl
    rw [e1]
    rw [ite_cong_ (show (j + 1 ≤ self ∧ conP x (r.getD (self - (j + 1)) []) = true) ↔ (j ≤ self ∧ conP x (r.getD (self - (j + 1)) []) = true) from and_congr_left' ⟨fun _ => by omega, fun _ => by omega⟩)]
    rw [Nat.add_assoc]
   ·rw [if_neg (show ¬ (j + 1 ≤ self ∧ _) by omega), if_neg (show ¬ (j ≤ self ∧ _) by omega)]
    rfl
theorem supN_le {x : Po} {self : Nat} : ∀ (o : List (List Po)) (j : Nat), supN x self j o ≤ o.length
 | [], _ => Nat.le_refl _
 | l :: r, j => by
  unfold supN
  have := supN_le (x := x) (self := self) r (j + 1)
  rw [List.length_cons]
  split <;> omega
theorem PPt.allris {w : World} {B mo mv : Nat} {r : Ptp} {ows : List Ow} {OE VE : List (Int × Value)} {vf : Nat → Pl} (h : PPt w B mo mv r ows OE VE vf) : ∀ l ∈ r.of, Ris l := fun l hl => by
 obtain ⟨i, hi⟩ := List.getElem?_of_mem hl
 have hlt : i < r.of.length := (List.getElem?_eq_some_iff.1 hi).1
 have e : r.of.getD i [] = l := by rw [List.getD_eq_getElem?_getD, hi]; rfl
 by_cases hs : i = r.self
 ·have := h.ris
  unfold ownL at this
  rw [← hs, e] at this
  exact this
 ·rw [← e]
  exact (h.vat i (by rw [← h.nl]; exact hlt) hs).2.2.1
theorem PPt.tot {w : World} {B mo mv : Nat} {r : Ptp} {ows : List Ow} {OE VE : List (Int × Value)} {vf : Nat → Pl} (h : PPt w B mo mv r ows OE VE vf) (x : Po) : supO x r.of = (if conP x (ows.map Ow.po) = true then 1 else 0) + supN x r.self 0 r.of := by
 rw [supO_N r.of 0 h.allris (self := r.self), ← h.ol]
 unfold ownL
 simp only [Nat.zero_le, true_and, Nat.sub_zero]
 omega
/-- the votes of one, as the map tells them -/
theorem PPt.votes_at {w : World} {B mo mv : Nat} {r : Ptp} {ows : List Ow} {OE VE : List (Int × Value)} {vf : Nat → Pl} (h : PPt w B mo mv r ows OE VE vf) {a : Nat} (ha : a < r.n) :
  ∃ (s : Pl) (l : List Po), (getK (a : Int) VE).getD (.slice none 0 0) = s.val ∧ Vr w s l ∧ l.length ≤ 3 ∧ (a ≠ r.self → l = r.of.getD a []) ∧ (a = r.self → l = []) := by
 by_cases hs : a = r.self
 ·refine ⟨(none, 0, 0), [], by rw [hs, h.vself]; rfl, Vr.nil w, Nat.zero_le _, fun h9 => absurd hs h9, fun _ => rfl⟩
 ·obtain ⟨h1, h2, h3, h4⟩ := h.vat a ha hs
  exact ⟨vf a, _, h1, h2, h4, fun _ => rfl, fun h9 => absurd h9 hs⟩
theorem Try.zero_pos (w : World) : (zeroValue tPos).run Try.prog w = .ok (.slice none 0 0) w := by kernel_rfl
set_option maxHeartbeats 16000000 in
set_option maxRecDepth 100000 in
theorem support_p {w : World} {B mo mv : Nat} {r : Ptp} {ows : List Ow} {OE VE : List (Int × Value)} {vf : Nat → Pl} (x : Po) (h : PPt w B mo mv r ows OE VE vf) (hx : x.dg.length = 32) :
  Calls Try.prog 14 #[(.pointer (some ⟨B, 0, none⟩)), .agg (Po.cells x).toArray] w fun e w' => e = .returned (.int .i64 (supO x r.of : Int)) ∧ Below w.heap.size w w' := by
 have hbx := fun W => Try.box_po x hx W
 have hz : ∀ W, (zeroValue tOw).run Try.prog W = .ok (.agg zOw.toArray) W := fun W => Try.zero_ow W
 have HXl : Hid ((Po.cells x).length = 33) := Lib.hid (Po.cells_len x hx)
 have HXd := Lib.hid hx
 have X1 : Below w.heap.size w (w.alloc (.cells (Po.cells x).toArray tPo)) := below1_ w _
 have HBX : Hid (Blk (w.alloc (.cells (Po.cells x).toArray tPo)) w.heap.size tPo (Po.cells x)) := Lib.hid (Blk.fresh rfl rfl)
 have HX1 := Lib.hid X1
 have HH4 := Lib.hid (h.through X1)
 have HN1 := Lib.hid h.n1
 obtain ⟨b0, hb0⟩ : ∃ b0, conP x (ows.map Ow.po) = b0 := ⟨_, rfl⟩
 have hTo := h.tot x
 rw [hb0] at hTo
 have HC0 := Lib.hid hb0
 obtain ⟨tot, htot⟩ : ∃ tot, supO x r.of = tot := ⟨_, rfl⟩
 rw [htot] at hTo ⊢
 have HTot := Lib.hid hTo
 have htl : tot ≤ 8 := by have := supN_le (x := x) (self := r.self) r.of 0; have := h.nl; have := h.n7; split at hTo <;> omega
 have hof : r.of.length ≤ 7 := by rw [h.nl]; exact h.n7
 have HN7 : Hid (r.n ≤ 7) := Lib.hid h.n7
 have HNl : Hid (r.of.length = r.n) := Lib.hid h.nl
 clear h hx X1 hb0 hTo htot
 cases b0 with
 | true =>
  go_enter Try.func14, Try.ntmps14
  go_upto_region 4 with (go_at_call 27; (with_reducible refine (isnone_p _ HH4.out.box HN1.out).mono ?_); rintro e w9 ⟨rfl, hw9⟩; have hw8 := hw9.symm; clear hw9; subst hw8)
  generalize (w.alloc (.cells (Po.cells x).toArray tPo)) = w4 at *
  go_wp2_with (first
   | (refine wpList_load_blk rfl tPo (.tmp 3) rfl w.heap.size rfl tPo (Po.cells x) _ HBX.out Try.underlying31 rfl (by rw [HXl.out]; kernel_rfl) ?_)
   | (go_at_call 36; (with_reducible refine (owned_p x HH4.out HXd.out).mono ?_); rintro e w5 ⟨oc, bb, rfl, hol, ho1, hov, hb5⟩; have e9 := hov.1.trans HC0.out; subst e9; have HOl := Lib.hid hol; have HO1 := Lib.hid ho1; have HX5 := Lib.hid hb5; have HBX5 := Lib.hid (HBX.out.through hb5); clear hol ho1 hov hb5)
   | (refine wpList_store_blk rfl tOw (.tmp 6) (.tmp 15) rfl w5.heap.size oc rfl rfl tOw zOw (Blk.fresh rfl rfl) (by rw [HOl.out]; kernel_rfl) (by rw [HOl.out]; rfl) HO1.out ?_; simp only [Act.put]; intro w6 hb6 hg6; have HX6 := Lib.hid (below_new hg6); have HX46 := Lib.hid (below_step HX5.out HX6.out); have HH6 := Lib.hid (HH4.out.through HX46.out); have k0 := HH6.out.box.cellAt (i := 0) rfl; have HB6 := Lib.hid (HBX.out.through HX46.out); have HXw6 := Lib.hid (below_step HX1.out HX46.out); clear hb6 hg6))
  go_loopw [5, 24] (fun cv iv wr => ∃ i c : Nat, i ≤ r.n ∧ iv = .int .i64 (i : Int) ∧ cv = .int .i64 (c : Int) ∧ c + supN x r.self i (r.of.drop i) = tot ∧ Below w6.heap.size w6 wr) (fun _ iv _ => r.n - (intOf iv).toNat)
  case atStart => exact ⟨0, 1, Nat.zero_le _, rfl, rfl, by have := HTot.out; rw [List.drop_zero]; simp at this; omega, Below.refl _ _⟩
  case round =>
   obtain ⟨i, c, hi, rfl, rfl, hc, hw⟩ := hrel
   have HW := Lib.hid hw
   have HC := Lib.hid hc
   have hc8 : c ≤ 8 := by omega
   have hi7 : i ≤ 7 := by have := HN7.out; omega
   clear hw hc
   by_cases hlt : i < r.n
   ·have HHr := Lib.hid (HH6.out.through HW.out)
    obtain ⟨⟨s1, s2, s3⟩, l, he, hv, hl3, hne, heq0⟩ := HHr.out.votes_at hlt
    have HE := Lib.hid he
    have HVr := Lib.hid hv
    have HL3 := Lib.hid hl3
    have HBr : Hid (wr.rangeAt w.heap.size 0 (Po.cells x)) := Lib.hid (HB6.out.through HW.out).rng0
    obtain ⟨cb, hcb⟩ : ∃ cb, conP x l = cb := ⟨_, rfl⟩
    have HCc := Lib.hid hcb
    have HSt : Hid (c + (if cb = true then 1 else 0) + supN x r.self (i + 1) (r.of.drop (i + 1)) = tot) := Lib.hid (by
     have h1 := HC.out
     have hil : i < r.of.length := by rw [HNl.out]; exact hlt
     rw [List.drop_eq_getElem_cons hil] at h1
     unfold supN at h1
     have e1 : (if i ≠ r.self ∧ conP x r.of[i] = true then 1 else 0) = (if cb = true then 1 else 0 : Nat) := by
      by_cases hs : i = r.self
      ·rw [if_neg (fun h9 => h9.1 hs)]
       rw [heq0 hs] at hcb
       rw [← hcb]
       rfl
      ·have e2 := hne hs
       rw [List.getD_eq_getElem?_getD, List.getElem?_eq_getElem hil] at e2
       simp only [Option.getD_some] at e2
       rw [← e2, hcb]
       simp [hs]
     rw [e1] at h1
     omega)
    clear he hv hl3 hne heq0 hcb
    cases cb with
    | true =>
     go_upto_region 10 with fail
     refine wp_region_held_drew (S := fun W => Below wr.heap.size wr W) (by kernel_rfl) (Below.refl _ wr).drew (fun hHeld => ?_)
     change wpAnyH _ _ _ _ _ _ #[false, false, false, false, false, false, false, false] _ _
     refine tkq (i := 0) (d := 27) (v := (.pointer (some ⟨B, 0, none⟩))) rfl rfl (Or.inl ⟨by kernel_rfl, fun w hSw => ?_⟩) (by assumption) ?_
     ·(try dsimp only at hSw); go_simp <;> (try rfl)
     simp only [Act.put, sq1, sq2, sq3]
     refine tkq (i := 1) (d := 28) (v := (.pointer (some ⟨B, 0, none⟩))) rfl rfl (Or.inl ⟨by kernel_rfl, fun w hSw => ?_⟩) (by assumption) ?_
     ·(try dsimp only at hSw); go_simp <;> (try rfl)
     simp only [Act.put, sq1, sq2, sq3]
     refine tkq (i := 2) (d := 29) (v := (.pointer (some ⟨B, 3, none⟩))) rfl rfl (Or.inl ⟨by kernel_rfl, fun w hSw => ?_⟩) (by assumption) ?_
     ·(try dsimp only at hSw); go_simp <;> (try rfl)
     simp only [Act.put, sq1, sq2, sq3]
     refine tkq (i := 3) (d := 30) (v := (.map (some mv))) rfl rfl (yields_load_at (by kernel_rfl) 56 (.tmp 29) rfl (.pointer (some ⟨B, 3, none⟩)) (by simp [Act.eval]) (.map (some mv)) (fun W hW => load_one' (Try.agg_mv W) ((HHr.out.through hW).box.cellAt (i := 3) rfl))) (by assumption) ?_
     simp only [Act.put, sq1, sq2, sq3]
     refine tkq (i := 4) (d := 31) (v := (.int .i64 (i : Int))) rfl rfl (Or.inl ⟨by kernel_rfl, fun w hSw => ?_⟩) (by assumption) ?_
     ·(try dsimp only at hSw); go_simp <;> (try rfl)
     simp only [Act.put, sq1, sq2, sq3]
     refine tkq (i := 5) (d := 32) (v := (.slice s1 s2 s3)) rfl rfl (yields_look_to (by kernel_rfl) tMv (.tmp 30) (.tmp 31) false rfl (.map (some mv)) (.int .i64 (i : Int)) (by simp [Act.eval]) (by simp [Act.eval]) (.slice s1 s2 s3) (fun W hW => by show _ = Result.ok (Pl.val (s1, s2, s3)) W; rw [← HE.out]; exact (HHr.out.through hW).vm.look Try.keyp_int Try.underlying56 (fun _ _ => trivial) trivial (Try.zero_pos W))) (by assumption) ?_
     simp only [Act.put, sq1, sq2, sq3]
     refine tkq (i := 6) (d := 33) (v := (.agg (Po.cells x).toArray)) rfl rfl (yieldsIf_load_mid (by kernel_rfl) tPo (.tmp 3) rfl w.heap.size 0 (by simp [Act.eval]) (Po.cells x) _ (fun W hW => rangeAt.through HBr.out hW) Try.underlying31 rfl (by rw [HXl.out]; kernel_rfl)) (by assumption) ?_
     simp only [Act.put, sq1, sq2, sq3]
     refine wpAnyH_ready (rs := [7]) (by kernel_rfl) (by simp) ?_
     refine AllReadyH.cons rfl (fun K hK => ?_) AllReadyH.nil
     go_simp
     refine (containsp_any x l s1 s2 s3 _ (HVr.out.pos.through hHeld) HXd.out (by have := HL3.out; have := HVr.out.2.1; simp only at this; omega)).mono ?_
     rintro e w7 ⟨rfl, hb7⟩; rw [HCc.out]; have HK7 := Lib.hid (below_step hHeld hb7); clear hb7
     go_wp2_with fail
     refine hK.out _ _ HK7.out (fun hHeld1 => ?_)
     clear hHeld hK K
     have hHeld := hHeld1
     clear hHeld1
     refine wpAnyH_done (by kernel_rfl) ?_ _
     have HXe := Lib.hid (below_step HW.out hHeld)
     clear hHeld
     go_wp2
     go_roundw
     case rel => exact ⟨i + 1, c + 1, by omega, by go_num, by go_num, by have := HSt.out; simp at this; omega, HXe.out⟩
     case measure => simp [intOf]; omega
    | false =>
     go_upto_region 10 with fail
     refine wp_region_held_drew (S := fun W => Below wr.heap.size wr W) (by kernel_rfl) (Below.refl _ wr).drew (fun hHeld => ?_)
     change wpAnyH _ _ _ _ _ _ #[false, false, false, false, false, false, false, false] _ _
     refine tkq (i := 0) (d := 27) (v := (.pointer (some ⟨B, 0, none⟩))) rfl rfl (Or.inl ⟨by kernel_rfl, fun w hSw => ?_⟩) (by assumption) ?_
     ·(try dsimp only at hSw); go_simp <;> (try rfl)
     simp only [Act.put, sq1, sq2, sq3]
     refine tkq (i := 1) (d := 28) (v := (.pointer (some ⟨B, 0, none⟩))) rfl rfl (Or.inl ⟨by kernel_rfl, fun w hSw => ?_⟩) (by assumption) ?_
     ·(try dsimp only at hSw); go_simp <;> (try rfl)
     simp only [Act.put, sq1, sq2, sq3]
     refine tkq (i := 2) (d := 29) (v := (.pointer (some ⟨B, 3, none⟩))) rfl rfl (Or.inl ⟨by kernel_rfl, fun w hSw => ?_⟩) (by assumption) ?_
     ·(try dsimp only at hSw); go_simp <;> (try rfl)
     simp only [Act.put, sq1, sq2, sq3]
     refine tkq (i := 3) (d := 30) (v := (.map (some mv))) rfl rfl (yields_load_at (by kernel_rfl) 56 (.tmp 29) rfl (.pointer (some ⟨B, 3, none⟩)) (by simp [Act.eval]) (.map (some mv)) (fun W hW => load_one' (Try.agg_mv W) ((HHr.out.through hW).box.cellAt (i := 3) rfl))) (by assumption) ?_
     simp only [Act.put, sq1, sq2, sq3]
     refine tkq (i := 4) (d := 31) (v := (.int .i64 (i : Int))) rfl rfl (Or.inl ⟨by kernel_rfl, fun w hSw => ?_⟩) (by assumption) ?_
     ·(try dsimp only at hSw); go_simp <;> (try rfl)
     simp only [Act.put, sq1, sq2, sq3]
     refine tkq (i := 5) (d := 32) (v := (.slice s1 s2 s3)) rfl rfl (yields_look_to (by kernel_rfl) tMv (.tmp 30) (.tmp 31) false rfl (.map (some mv)) (.int .i64 (i : Int)) (by simp [Act.eval]) (by simp [Act.eval]) (.slice s1 s2 s3) (fun W hW => by show _ = Result.ok (Pl.val (s1, s2, s3)) W; rw [← HE.out]; exact (HHr.out.through hW).vm.look Try.keyp_int Try.underlying56 (fun _ _ => trivial) trivial (Try.zero_pos W))) (by assumption) ?_
     simp only [Act.put, sq1, sq2, sq3]
     refine tkq (i := 6) (d := 33) (v := (.agg (Po.cells x).toArray)) rfl rfl (yieldsIf_load_mid (by kernel_rfl) tPo (.tmp 3) rfl w.heap.size 0 (by simp [Act.eval]) (Po.cells x) _ (fun W hW => rangeAt.through HBr.out hW) Try.underlying31 rfl (by rw [HXl.out]; kernel_rfl)) (by assumption) ?_
     simp only [Act.put, sq1, sq2, sq3]
     refine wpAnyH_ready (rs := [7]) (by kernel_rfl) (by simp) ?_
     refine AllReadyH.cons rfl (fun K hK => ?_) AllReadyH.nil
     go_simp
     refine (containsp_any x l s1 s2 s3 _ (HVr.out.pos.through hHeld) HXd.out (by have := HL3.out; have := HVr.out.2.1; simp only at this; omega)).mono ?_
     rintro e w7 ⟨rfl, hb7⟩; rw [HCc.out]; have HK7 := Lib.hid (below_step hHeld hb7); clear hb7
     go_wp2_with fail
     refine hK.out _ _ HK7.out (fun hHeld1 => ?_)
     clear hHeld hK K
     have hHeld := hHeld1
     clear hHeld1
     refine wpAnyH_done (by kernel_rfl) ?_ _
     have HXe := Lib.hid (below_step HW.out hHeld)
     clear hHeld
     go_wp2
     go_roundw
     case rel => exact ⟨i + 1, c, by omega, by go_num, rfl, by have := HSt.out; simp at this; omega, HXe.out⟩
     case measure => simp [intOf]; omega
   ·obtain rfl : i = r.n := by omega
    have HV : Hid (c = tot) := Lib.hid (by have := HC.out; rw [List.drop_of_length_le (by rw [HNl.out]; exact Nat.le_refl _)] at this; simpa [supN] using this)
    go_wp2
    go_ret
    exact ⟨by rw [HV.out]; rfl, below_step HXw6.out HW.out⟩
 | false =>
  go_enter Try.func14, Try.ntmps14
  go_upto_region 4 with (go_at_call 27; (with_reducible refine (isnone_p _ HH4.out.box HN1.out).mono ?_); rintro e w9 ⟨rfl, hw9⟩; have hw8 := hw9.symm; clear hw9; subst hw8)
  generalize (w.alloc (.cells (Po.cells x).toArray tPo)) = w4 at *
  go_wp2_with (first
   | (refine wpList_load_blk rfl tPo (.tmp 3) rfl w.heap.size rfl tPo (Po.cells x) _ HBX.out Try.underlying31 rfl (by rw [HXl.out]; kernel_rfl) ?_)
   | (go_at_call 36; (with_reducible refine (owned_p x HH4.out HXd.out).mono ?_); rintro e w5 ⟨oc, bb, rfl, hol, ho1, hov, hb5⟩; have e9 := hov.1.trans HC0.out; subst e9; have HOl := Lib.hid hol; have HO1 := Lib.hid ho1; have HX5 := Lib.hid hb5; have HBX5 := Lib.hid (HBX.out.through hb5); clear hol ho1 hov hb5)
   | (refine wpList_store_blk rfl tOw (.tmp 6) (.tmp 15) rfl w5.heap.size oc rfl rfl tOw zOw (Blk.fresh rfl rfl) (by rw [HOl.out]; kernel_rfl) (by rw [HOl.out]; rfl) HO1.out ?_; simp only [Act.put]; intro w6 hb6 hg6; have HX6 := Lib.hid (below_new hg6); have HX46 := Lib.hid (below_step HX5.out HX6.out); have HH6 := Lib.hid (HH4.out.through HX46.out); have k0 := HH6.out.box.cellAt (i := 0) rfl; have HB6 := Lib.hid (HBX.out.through HX46.out); have HXw6 := Lib.hid (below_step HX1.out HX46.out); clear hb6 hg6))
  go_loopw [5, 24] (fun cv iv wr => ∃ i c : Nat, i ≤ r.n ∧ iv = .int .i64 (i : Int) ∧ cv = .int .i64 (c : Int) ∧ c + supN x r.self i (r.of.drop i) = tot ∧ Below w6.heap.size w6 wr) (fun _ iv _ => r.n - (intOf iv).toNat)
  case atStart => exact ⟨0, 0, Nat.zero_le _, rfl, rfl, by have := HTot.out; rw [List.drop_zero]; simp at this; omega, Below.refl _ _⟩
  case round =>
   obtain ⟨i, c, hi, rfl, rfl, hc, hw⟩ := hrel
   have HW := Lib.hid hw
   have HC := Lib.hid hc
   have hc8 : c ≤ 8 := by omega
   have hi7 : i ≤ 7 := by have := HN7.out; omega
   clear hw hc
   by_cases hlt : i < r.n
   ·have HHr := Lib.hid (HH6.out.through HW.out)
    obtain ⟨⟨s1, s2, s3⟩, l, he, hv, hl3, hne, heq0⟩ := HHr.out.votes_at hlt
    have HE := Lib.hid he
    have HVr := Lib.hid hv
    have HL3 := Lib.hid hl3
    have HBr : Hid (wr.rangeAt w.heap.size 0 (Po.cells x)) := Lib.hid (HB6.out.through HW.out).rng0
    obtain ⟨cb, hcb⟩ : ∃ cb, conP x l = cb := ⟨_, rfl⟩
    have HCc := Lib.hid hcb
    have HSt : Hid (c + (if cb = true then 1 else 0) + supN x r.self (i + 1) (r.of.drop (i + 1)) = tot) := Lib.hid (by
     have h1 := HC.out
     have hil : i < r.of.length := by rw [HNl.out]; exact hlt
     rw [List.drop_eq_getElem_cons hil] at h1
     unfold supN at h1
     have e1 : (if i ≠ r.self ∧ conP x r.of[i] = true then 1 else 0) = (if cb = true then 1 else 0 : Nat) := by
      by_cases hs : i = r.self
      ·rw [if_neg (fun h9 => h9.1 hs)]
       rw [heq0 hs] at hcb
       rw [← hcb]
       rfl
      ·have e2 := hne hs
       rw [List.getD_eq_getElem?_getD, List.getElem?_eq_getElem hil] at e2
       simp only [Option.getD_some] at e2
       rw [← e2, hcb]
       simp [hs]
     rw [e1] at h1
     omega)
    clear he hv hl3 hne heq0 hcb
    cases cb with
    | true =>
     go_upto_region 10 with fail
     refine wp_region_held_drew (S := fun W => Below wr.heap.size wr W) (by kernel_rfl) (Below.refl _ wr).drew (fun hHeld => ?_)
     change wpAnyH _ _ _ _ _ _ #[false, false, false, false, false, false, false, false] _ _
     refine tkq (i := 0) (d := 27) (v := (.pointer (some ⟨B, 0, none⟩))) rfl rfl (Or.inl ⟨by kernel_rfl, fun w hSw => ?_⟩) (by assumption) ?_
     ·(try dsimp only at hSw); go_simp <;> (try rfl)
     simp only [Act.put, sq1, sq2, sq3]
     refine tkq (i := 1) (d := 28) (v := (.pointer (some ⟨B, 0, none⟩))) rfl rfl (Or.inl ⟨by kernel_rfl, fun w hSw => ?_⟩) (by assumption) ?_
     ·(try dsimp only at hSw); go_simp <;> (try rfl)
     simp only [Act.put, sq1, sq2, sq3]
     refine tkq (i := 2) (d := 29) (v := (.pointer (some ⟨B, 3, none⟩))) rfl rfl (Or.inl ⟨by kernel_rfl, fun w hSw => ?_⟩) (by assumption) ?_
     ·(try dsimp only at hSw); go_simp <;> (try rfl)
     simp only [Act.put, sq1, sq2, sq3]
     refine tkq (i := 3) (d := 30) (v := (.map (some mv))) rfl rfl (yields_load_at (by kernel_rfl) 56 (.tmp 29) rfl (.pointer (some ⟨B, 3, none⟩)) (by simp [Act.eval]) (.map (some mv)) (fun W hW => load_one' (Try.agg_mv W) ((HHr.out.through hW).box.cellAt (i := 3) rfl))) (by assumption) ?_
     simp only [Act.put, sq1, sq2, sq3]
     refine tkq (i := 4) (d := 31) (v := (.int .i64 (i : Int))) rfl rfl (Or.inl ⟨by kernel_rfl, fun w hSw => ?_⟩) (by assumption) ?_
     ·(try dsimp only at hSw); go_simp <;> (try rfl)
     simp only [Act.put, sq1, sq2, sq3]
     refine tkq (i := 5) (d := 32) (v := (.slice s1 s2 s3)) rfl rfl (yields_look_to (by kernel_rfl) tMv (.tmp 30) (.tmp 31) false rfl (.map (some mv)) (.int .i64 (i : Int)) (by simp [Act.eval]) (by simp [Act.eval]) (.slice s1 s2 s3) (fun W hW => by show _ = Result.ok (Pl.val (s1, s2, s3)) W; rw [← HE.out]; exact (HHr.out.through hW).vm.look Try.keyp_int Try.underlying56 (fun _ _ => trivial) trivial (Try.zero_pos W))) (by assumption) ?_
     simp only [Act.put, sq1, sq2, sq3]
     refine tkq (i := 6) (d := 33) (v := (.agg (Po.cells x).toArray)) rfl rfl (yieldsIf_load_mid (by kernel_rfl) tPo (.tmp 3) rfl w.heap.size 0 (by simp [Act.eval]) (Po.cells x) _ (fun W hW => rangeAt.through HBr.out hW) Try.underlying31 rfl (by rw [HXl.out]; kernel_rfl)) (by assumption) ?_
     simp only [Act.put, sq1, sq2, sq3]
     refine wpAnyH_ready (rs := [7]) (by kernel_rfl) (by simp) ?_
     refine AllReadyH.cons rfl (fun K hK => ?_) AllReadyH.nil
     go_simp
     refine (containsp_any x l s1 s2 s3 _ (HVr.out.pos.through hHeld) HXd.out (by have := HL3.out; have := HVr.out.2.1; simp only at this; omega)).mono ?_
     rintro e w7 ⟨rfl, hb7⟩; rw [HCc.out]; have HK7 := Lib.hid (below_step hHeld hb7); clear hb7
     go_wp2_with fail
     refine hK.out _ _ HK7.out (fun hHeld1 => ?_)
     clear hHeld hK K
     have hHeld := hHeld1
     clear hHeld1
     refine wpAnyH_done (by kernel_rfl) ?_ _
     have HXe := Lib.hid (below_step HW.out hHeld)
     clear hHeld
     go_wp2
     go_roundw
     case rel => exact ⟨i + 1, c + 1, by omega, by go_num, by go_num, by have := HSt.out; simp at this; omega, HXe.out⟩
     case measure => simp [intOf]; omega
    | false =>
     go_upto_region 10 with fail
     refine wp_region_held_drew (S := fun W => Below wr.heap.size wr W) (by kernel_rfl) (Below.refl _ wr).drew (fun hHeld => ?_)
     change wpAnyH _ _ _ _ _ _ #[false, false, false, false, false, false, false, false] _ _
     refine tkq (i := 0) (d := 27) (v := (.pointer (some ⟨B, 0, none⟩))) rfl rfl (Or.inl ⟨by kernel_rfl, fun w hSw => ?_⟩) (by assumption) ?_
     ·(try dsimp only at hSw); go_simp <;> (try rfl)
     simp only [Act.put, sq1, sq2, sq3]
     refine tkq (i := 1) (d := 28) (v := (.pointer (some ⟨B, 0, none⟩))) rfl rfl (Or.inl ⟨by kernel_rfl, fun w hSw => ?_⟩) (by assumption) ?_
     ·(try dsimp only at hSw); go_simp <;> (try rfl)
     simp only [Act.put, sq1, sq2, sq3]
     refine tkq (i := 2) (d := 29) (v := (.pointer (some ⟨B, 3, none⟩))) rfl rfl (Or.inl ⟨by kernel_rfl, fun w hSw => ?_⟩) (by assumption) ?_
     ·(try dsimp only at hSw); go_simp <;> (try rfl)
     simp only [Act.put, sq1, sq2, sq3]
     refine tkq (i := 3) (d := 30) (v := (.map (some mv))) rfl rfl (yields_load_at (by kernel_rfl) 56 (.tmp 29) rfl (.pointer (some ⟨B, 3, none⟩)) (by simp [Act.eval]) (.map (some mv)) (fun W hW => load_one' (Try.agg_mv W) ((HHr.out.through hW).box.cellAt (i := 3) rfl))) (by assumption) ?_
     simp only [Act.put, sq1, sq2, sq3]
     refine tkq (i := 4) (d := 31) (v := (.int .i64 (i : Int))) rfl rfl (Or.inl ⟨by kernel_rfl, fun w hSw => ?_⟩) (by assumption) ?_
     ·(try dsimp only at hSw); go_simp <;> (try rfl)
     simp only [Act.put, sq1, sq2, sq3]
     refine tkq (i := 5) (d := 32) (v := (.slice s1 s2 s3)) rfl rfl (yields_look_to (by kernel_rfl) tMv (.tmp 30) (.tmp 31) false rfl (.map (some mv)) (.int .i64 (i : Int)) (by simp [Act.eval]) (by simp [Act.eval]) (.slice s1 s2 s3) (fun W hW => by show _ = Result.ok (Pl.val (s1, s2, s3)) W; rw [← HE.out]; exact (HHr.out.through hW).vm.look Try.keyp_int Try.underlying56 (fun _ _ => trivial) trivial (Try.zero_pos W))) (by assumption) ?_
     simp only [Act.put, sq1, sq2, sq3]
     refine tkq (i := 6) (d := 33) (v := (.agg (Po.cells x).toArray)) rfl rfl (yieldsIf_load_mid (by kernel_rfl) tPo (.tmp 3) rfl w.heap.size 0 (by simp [Act.eval]) (Po.cells x) _ (fun W hW => rangeAt.through HBr.out hW) Try.underlying31 rfl (by rw [HXl.out]; kernel_rfl)) (by assumption) ?_
     simp only [Act.put, sq1, sq2, sq3]
     refine wpAnyH_ready (rs := [7]) (by kernel_rfl) (by simp) ?_
     refine AllReadyH.cons rfl (fun K hK => ?_) AllReadyH.nil
     go_simp
     refine (containsp_any x l s1 s2 s3 _ (HVr.out.pos.through hHeld) HXd.out (by have := HL3.out; have := HVr.out.2.1; simp only at this; omega)).mono ?_
     rintro e w7 ⟨rfl, hb7⟩; rw [HCc.out]; have HK7 := Lib.hid (below_step hHeld hb7); clear hb7
     go_wp2_with fail
     refine hK.out _ _ HK7.out (fun hHeld1 => ?_)
     clear hHeld hK K
     have hHeld := hHeld1
     clear hHeld1
     refine wpAnyH_done (by kernel_rfl) ?_ _
     have HXe := Lib.hid (below_step HW.out hHeld)
     clear hHeld
     go_wp2
     go_roundw
     case rel => exact ⟨i + 1, c, by omega, by go_num, rfl, by have := HSt.out; simp at this; omega, HXe.out⟩
     case measure => simp [intOf]; omega
   ·obtain rfl : i = r.n := by omega
    have HV : Hid (c = tot) := Lib.hid (by have := HC.out; rw [List.drop_of_length_le (by rw [HNl.out]; exact Nat.le_refl _)] at this; simpa [supN] using this)
    go_wp2
    go_ret
    exact ⟨by rw [HV.out]; rfl, below_step HXw6.out HW.out⟩

end Go.Proofs.Ytpolofehkckaoaa
