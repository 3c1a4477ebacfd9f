/-
  Joined: PwG.
-/
import Derived.Test.YtpolofehkckaoaaUH35
import Derived.Test.YtpolofehkckaoaaUH18
import Derived.Test.YtpolofehkckaoaaUHT
namespace Go.Proofs.Ytpolofehkckaoaa
open Go.RowKit

theorem u1_rows (b : List UInt8) : (∀ y ∈ b.map u1C, y.length = 1) ∧ ∀ y ∈ b.map u1C, ∀ u ∈ y, u.oneCell' = true :=
 ⟨fun y hy => by obtain ⟨x, _, rfl⟩ := List.mem_map.1 hy; rfl, fun y hy u hu => by obtain ⟨x, _, rfl⟩ := List.mem_map.1 hy; rw [List.mem_singleton.1 hu]; rfl⟩
theorem Br.none_ (w : World) : Br w (none, 0, 0) [] := ⟨Os.nil w 0 tU8 1, rfl⟩
set_option maxHeartbeats 16000000 in
set_option maxRecDepth 100000 in
theorem cloneb_p (b : List UInt8) (A : Option Addr) (k c : Nat) (w : World) (h : By w (fun _ => True) A k b) (hk : k ≤ 1000000) :
  Calls Try.prog 28 #[.slice A k c] w fun e w' => ∃ A' c', e = .returned (.slice A' k c') ∧ Br w' (A', k, c') b ∧ (∀ q, vrB (A', k, c') q → w.heap.size ≤ q) ∧ Below w.heap.size w w' := by
 have q22 : ∀ (w : World) (a : Option Addr) (n c n' c' : Nat), (binOp .eql tU8s (.slice a n c) (.slice none n' c')).run Try.prog w = .ok (.bool a.isNone) w := fun w a n c n' c' => Lib.run_eql_slice_nil w _ _ a n c n' c' Try.underlying34
 have hln : b.length = k := h.1
 rcases A with _ | ad
 ·obtain rfl : k = 0 := by
   rcases Nat.eq_zero_or_pos k with h0 | h0
   ·exact h0
   ·obtain ⟨_, _, h, _⟩ := h.2 h0
    cases h
  obtain rfl : b = [] := List.eq_nil_of_length_eq_zero hln
  clear h hln
  go_enter Try.func28, Try.ntmps28
  go_wp2
  go_ret
  exact ⟨none, 0, rfl, Br.none_ w, (fun q hq => by obtain ⟨x, e, _⟩ := hq; cases e), Below.refl _ _⟩
 ·have HI := Lib.hid (sl_of_by h)
  have HL : Hid ((b.map u1C).length = k) := Lib.hid (by rw [List.length_map]; exact hln)
  have HLb := Lib.hid hln
  have HR := Lib.hid (u1_rows b)
  clear h hln
  go_enter Try.func28, Try.ntmps28
  go_wp2_with (at_builtin; (refine wpList_append_sl rfl Try.el_u1 (.tmp 5) (.tmp 6) rfl w.heap.size (.slice (some ⟨w.heap.size, 0, none⟩) 0 0) [] rfl (Os.made w tU8 1) (some ad) k c (b.map u1C) rfl (HI.out.alloc _) HR.out.1 HR.out.2 (by have := HL.out; simp; omega) (by simp) ?_); intro v' w1 ho hg; have HO := Lib.hid ho; have HX : Hid (Below w.heap.size w w1) := Lib.hid ((below1_ w _).grown hg (by simp) (fun q hq => by simp [Value.ownBlock] at hq; omega)); clear ho hg)
  obtain ⟨A7, c7, e7, _, _, _⟩ := HO.out.out
  rw [List.nil_append, HL.out] at e7
  subst e7
  go_ret
  exact ⟨A7, c7, rfl, ⟨HO.out.weak (Nat.zero_le _), HLb.out⟩, fun q hq => (HO.out.lt q ((pl_own (A7, k, c7) q).2 hq)).1, HX.out⟩
theorem put_filter {q : Int} {v : Value} : ∀ {L : List (Int × Value)}, (L.map Prod.fst).Nodup → (putK q v L).Perm ((q, v) :: L.filter (fun p => decide (p.1 ≠ q)))
 | [], _ => List.Perm.refl _
 | p :: l, hn => by
  rw [List.map_cons, List.nodup_cons] at hn
  unfold putK
  by_cases hq : q = p.1
  ·rw [if_pos hq, List.filter_cons_of_neg (by simp [hq])]
   have e : l.filter (fun p => decide (p.1 ≠ q)) = l := List.filter_eq_self.2 (fun x hx => by
    simp only [decide_eq_true_eq]
    intro e
    exact hn.1 (List.mem_map.2 ⟨x, hx, by rw [e, hq]⟩))
   rw [e]
  ·rw [if_neg hq, List.filter_cons_of_pos (by simp; exact fun e => hq e.symm)]
   exact ((put_filter hn.2).cons p).trans (List.Perm.swap _ _ _)
/-- the own points with one more, or instead of one -/
def putW (q : Int) (o : Ow) (ows : List Ow) : List Ow :=
 if thP q (ows.map Ow.po) = true then ows.set (befP q (ows.map Ow.po)) o else ows.take (befP q (ows.map Ow.po)) ++ o :: ows.drop (befP q (ows.map Ow.po))
theorem ent_all {q : Int} {l : List Ow} (h : ∀ o ∈ l, o.po.sq ≠ q) : (l.map Ow.ent).filter (fun p => decide (p.1 ≠ q)) = l.map Ow.ent := List.filter_eq_self.2 (fun x hx => by
 obtain ⟨o, ho, rfl⟩ := List.mem_map.1 hx
 simp only [decide_eq_true_eq]
 exact h o ho)
theorem putW_perm {q : Int} {o : Ow} (ho : o.po.sq = q) : ∀ {ows : List Ow}, Ris (ows.map Ow.po) → ((putW q o ows).map Ow.ent).Perm ((q, o.val) :: (ows.map Ow.ent).filter (fun p => decide (p.1 ≠ q)))
 | [], _ => by
  have e : Ow.ent o = (q, o.val) := by unfold Ow.ent; rw [ho]
  simp [putW, thP, befP, e]
 | y :: l, h => by
  have e : Ow.ent o = (q, o.val) := by unfold Ow.ent; rw [ho]
  rw [List.map_cons, ris_cons] at h
  have ih := putW_perm (q := q) ho h.2
  unfold putW at ih ⊢
  by_cases hy : y.po.sq < q
  ·simp only [List.map_cons, th_lt hy, bef_lt hy, List.set_cons_succ, List.take_succ_cons, List.drop_succ_cons, List.cons_append]
   rw [List.filter_cons_of_pos (by show decide (y.po.sq ≠ q) = true; simp; omega)]
   refine List.Perm.trans ?_ (List.Perm.swap _ _ _)
   split
   ·rename_i ht
    rw [if_pos ht] at ih
    exact ih.cons _
   ·rename_i ht
    rw [if_neg ht] at ih
    exact ih.cons _
  ·simp only [List.map_cons, th_ge hy, bef_ge hy, List.set_cons_zero, List.take_zero, List.drop_zero, List.nil_append]
   have hrest : ∀ z ∈ l, z.po.sq ≠ q := fun z hz => by
    have := h.1 z.po (List.mem_map.2 ⟨z, hz, rfl⟩)
    omega
   by_cases hq : y.po.sq = q
   ·rw [if_pos (by simpa using hq), List.filter_cons_of_neg (by show ¬ decide (y.po.sq ≠ q) = true; simp [hq]), ent_all hrest, List.map_cons, e]
   ·rw [if_neg (by simpa using hq), List.filter_cons_of_pos (by show decide (y.po.sq ≠ q) = true; simp [hq]), ent_all hrest, List.map_cons, List.map_cons, e]
theorem mem_putW {q : Int} {o x : Ow} {ows : List Ow} (h : x ∈ putW q o ows) : x = o ∨ x ∈ ows := by
 unfold putW at h
 split at h
 ·exact (List.mem_or_eq_of_mem_set h).symm
 ·rcases List.mem_append.1 h with h | h
  ·exact .inr (List.mem_of_mem_take h)
  ·rcases List.mem_cons.1 h with h | h
   ·exact .inl h
   ·exact .inr (List.mem_of_mem_drop h)
/-- what Own, and Move, leave -/
def OwnedP (w w' : World) (B mo mv : Nat) (r : Ptp) (ows : List Ow) (VE : List (Int × Value)) (vf : Nat → Pl) (r' : Ptp) : Prop :=
 ∃ ows' OE', PPt w' B mo mv r' ows' OE' VE vf ∧ Ft (DW B mo mv r ows vf) w w' ∧ ∀ q, DW B mo mv r' ows' vf q → DW B mo mv r ows vf q ∨ w.heap.size ≤ q
theorem ownR_eq (r : Ptp) (ows : List Ow) (q : Int) (d b : List UInt8) (s : Pl) (hol : ownL r = ows.map Ow.po) (hrl : r.rows = ows.map Ow.b) :
  ownR r q d b = { r with of := r.of.set r.self ((putW q ⟨⟨q, d⟩, s, b⟩ ows).map Ow.po), rows := (putW q ⟨⟨q, d⟩, s, b⟩ ows).map Ow.b } := by
 unfold ownR putW insP
 rw [hol, hrl]
 by_cases ht : thP q (ows.map Ow.po) = true
 ·rw [if_pos ht, if_pos ht, List.map_set, List.map_set]
 ·rw [if_neg ht, if_neg ht]
  simp [List.map_take, List.map_drop]
theorem PPt.owned_ {w w5 w6 : World} {B mo mv : Nat} {r : Ptp} {ows : List Ow} {OE VE : List (Int × Value)} {vf : Nat → Pl} (h : PPt w B mo mv r ows OE VE vf) (q : Int) (d b : List UInt8) (s : Pl) (hq : In64 q) (hd : d.length = 32) (hbl : b.length ≤ 1000000) (hb : Below w.heap.size w w5) (hs : Br w5 s b) (hsn : ∀ z, vrB s z → w.heap.size ≤ z)
  (hm : MpIs w6 mo (encK encI (putK q (Ow.val ⟨⟨q, d⟩, s, b⟩) OE))) (hg : w5.grownBy w6 (some mo)) : OwnedP w w6 B mo mv r ows VE vf (ownR r q d b) := by
 have hol := h.ol
 have hr := h.ris
 rw [hol] at hr
 have hsf : r.self < r.of.length := by rw [h.nl]; exact h.sf
 have hft : Ft (fun z => z = mo) w w6 := ((Ft.of_below hb).moreP (D := fun _ => False) (fun _ h => h.elim)).trans (Ft.of_grown (D := fun z => z = mo) hg (fun _ hb => .inl (Option.some.inj hb).symm)) (fun _ h => .inl h)
 have hmo := h.om.lt
 rw [ownR_eq r ows q d b s hol h.rl]
 have hOL : ownL { r with of := r.of.set r.self ((putW q ⟨⟨q, d⟩, s, b⟩ ows).map Ow.po), rows := (putW q ⟨⟨q, d⟩, s, b⟩ ows).map Ow.b } = (putW q ⟨⟨q, d⟩, s, b⟩ ows).map Ow.po := ownL_set hsf
 have hris : Ris ((putW q ⟨⟨q, d⟩, s, b⟩ ows).map Ow.po) := by
  unfold putW
  by_cases ht : thP q (ows.map Ow.po) = true
  ·rw [if_pos ht, List.map_set]
   exact ris_set (q := q) (x := ⟨q, d⟩) rfl hr ht
  ·rw [if_neg ht]
   have := ris_ins (q := q) (x := ⟨q, d⟩) rfl hr (by simpa using ht)
   unfold insP at this
   simpa [List.map_take, List.map_drop] using this
 have hget : ∀ a : Nat, a ≠ r.self → (r.of.set r.self ((putW q ⟨⟨q, d⟩, s, b⟩ ows).map Ow.po)).getD a [] = r.of.getD a [] := fun a ha => by
  rw [getD_set_ hsf, if_neg ha]
 refine ⟨putW q ⟨⟨q, d⟩, s, b⟩ ows, putK q (Ow.val ⟨⟨q, d⟩, s, b⟩) OE, ⟨?_, hm, ?_, hOL, rfl, by rw [hOL]; exact hris, fun o ho => ?_, fun o ho => ?_, ?_, fun a ha hsa => ?_, h.n1, h.n7, by simp [h.nl], h.sf, h.vself, h.ne, h.va⟩, hft.moreP (fun z hz => .inr (.inl hz)), fun z hz => ?_⟩
 ·exact hft.blk h.box (fun e => h.nB.1 e)
 ·have hn : ((ows.map Ow.ent).map Prod.fst).Nodup := by rw [ents_fst]; exact ris_nodup hr
  have hn2 : (OE.map Prod.fst).Nodup := ((h.op.map Prod.fst).nodup_iff).2 hn
  exact (put_filter hn2).trans (((h.op.filter _).cons _).trans (putW_perm (o := ⟨⟨q, d⟩, s, b⟩) rfl hr).symm)
 ·rcases mem_putW ho with rfl | ho
  ·exact hq
  ·exact h.o64 o ho
 ·rcases mem_putW ho with rfl | ho
  ·exact ⟨hs.ft (Ft.of_grown (D := fun z => z = mo) hg (fun _ hb => .inl (Option.some.inj hb).symm)) (fun z hz e => by have := hsn z hz; omega), hd, hbl⟩
  ·exact ⟨(h.ob o ho).1.ft hft (fun z hz e => (h.nb ho hz).2.1 e), (h.ob o ho).2⟩
 ·exact h.vm.keep (hft.block mv h.vm.lt (fun e => h.ne e.symm))
 ·obtain ⟨h1, h2, h3⟩ := h.vat a ha hsa
  show _ ∧ Vr w6 _ ((r.of.set r.self _).getD a []) ∧ Ris ((r.of.set r.self _).getD a []) ∧ ((r.of.set r.self _).getD a []).length ≤ 3
  rw [hget a hsa]
  exact ⟨h1, h2.ft hft (fun z hz e => (h.nv ha hsa hz).2.1 e), h3⟩
 ·rcases hz with hz | hz | hz | ⟨o, ho, hz⟩ | hz
  ·exact .inl (.inl hz)
  ·exact .inl (.inr (.inl hz))
  ·exact .inl (.inr (.inr (.inl hz)))
  ·rcases mem_putW ho with rfl | ho
   ·exact .inr (hsn z hz)
   ·exact .inl (.inr (.inr (.inr (.inl ⟨o, ho, hz⟩))))
  ·exact .inl (.inr (.inr (.inr (.inr hz))))
theorem Try.bld_ow (p : Po) (A : Option Addr) (k c : Nat) (hd : p.dg.length = 32) (w : World) : (Instr.build tOw #[(0, .agg (Po.cells p).toArray), (1, .slice A k c)]).run Try.prog w = .ok (.agg (Po.cells p ++ [Value.slice A k c]).toArray) w := by
 obtain ⟨a, d⟩ := p
 obtain ⟨x0, x1, x2, x3, x4, x5, x6, x7, x8, x9, x10, x11, x12, x13, x14, x15, x16, x17, x18, x19, x20, x21, x22, x23, x24, x25, x26, x27, x28, x29, x30, x31, rfl⟩ := vs_lit d hd
 kernel_rfl
set_option maxHeartbeats 16000000 in
set_option maxRecDepth 100000 in
theorem own_p {w : World} {B mo mv : Nat} {r : Ptp} {ows : List Ow} {OE VE : List (Int × Value)} {vf : Nat → Pl} (q : Int) (d b : List UInt8) (A : Option Addr) (k c : Nat) (h : PPt w B mo mv r ows OE VE vf) (hq : In64 q) (hd : d.length = 32) (hb : By w (fun _ => True) A k b) (hk : k ≤ 1000000) :
  Calls Try.prog 8 #[(.pointer (some ⟨B, 0, none⟩)), .int .i64 q, .agg (vs d).toArray, .slice A k c] w fun e w' => e = .returned (.tuple #[]) ∧ OwnedP w w' B mo mv r ows VE vf (ownR r q d b) := by
 have hbx := fun W => Try.box_dg d hd W
 have HDl : Hid ((vs d).length = 32) := Lib.hid (by rw [vs_length, hd])
 have HDd := Lib.hid hd
 have HQ := Lib.hid hq
 have HBy := Lib.hid hb
 have HK := Lib.hid hk
 have X1 : Below w.heap.size w (w.alloc (.cells (vs d).toArray 28)) := below1_ w _
 have HX1 := Lib.hid X1
 have HBD : Hid (Blk (w.alloc (.cells (vs d).toArray 28)) w.heap.size 28 (vs d)) := Lib.hid (Blk.fresh rfl rfl)
 have HH := Lib.hid h
 have HHa := Lib.hid (h.through X1)
 have HN1 := Lib.hid h.n1
 clear h hd hb hk X1 hq
 go_enter Try.func8, Try.ntmps8
 go_upto_region 2 with (go_at_call 27; (with_reducible refine (isnone_p _ HHa.out.box HN1.out).mono ?_); rintro e w9 ⟨rfl, hw9⟩; have hw8 := hw9.symm; clear hw9; subst hw8)
 refine wp_region_tail (S := fun W => Below w.heap.size w W ∧ Blk W w.heap.size 28 (vs d)) 11 (by kernel_rfl) (by kernel_rfl) (by kernel_rfl) (by kernel_rfl) rfl ⟨HX1.out.drew, HBD.out.drew⟩ (fun hHeld => ?_)
 change wpAnyH _ _ _ _ _ _ #[false, false, false, false, false, false, false, false, false, false, false, true] _ _
 refine tkq (i := 0) (d := 11) (v := (.pointer (some ⟨B, 0, none⟩))) rfl rfl (Or.inl ⟨by kernel_rfl, fun w hSw => ?_⟩) (by assumption) ?_
 ·(try dsimp only at hSw); go_simp <;> (try rfl)
 simp only [Act.put, sq1, sq2, sq3]
 refine tkq (i := 1) (d := 12) (v := (.pointer (some ⟨B, 0, none⟩))) rfl rfl (Or.inl ⟨by kernel_rfl, fun w hSw => ?_⟩) (by assumption) ?_
 ·(try dsimp only at hSw); go_simp <;> (try rfl)
 simp only [Act.put, sq1, sq2, sq3]
 refine tkq (i := 2) (d := 13) (v := (.pointer (some ⟨B, 2, none⟩))) rfl rfl (Or.inl ⟨by kernel_rfl, fun w hSw => ?_⟩) (by assumption) ?_
 ·(try dsimp only at hSw); go_simp <;> (try rfl)
 simp only [Act.put, sq1, sq2, sq3]
 refine tkq (i := 3) (d := 14) (v := (.map (some mo))) rfl rfl (yields_load_at (by kernel_rfl) 55 (.tmp 13) rfl (.pointer (some ⟨B, 2, none⟩)) (by simp [Act.eval]) (.map (some mo)) (fun W hW => load_one' (Try.agg_mo W) ((HH.out.through hW.1).box.cellAt (i := 2) rfl))) (by assumption) ?_
 simp only [Act.put, sq1, sq2, sq3]
 refine tkq (i := 4) (d := 15) (v := (.int .i64 q)) rfl rfl (Or.inl ⟨by kernel_rfl, fun w hSw => ?_⟩) (by assumption) ?_
 ·(try dsimp only at hSw); go_simp <;> (try rfl)
 simp only [Act.put, sq1, sq2, sq3]
 refine tkq (i := 5) (d := 16) (v := (.int .i64 q)) rfl rfl (Or.inl ⟨by kernel_rfl, fun w hSw => ?_⟩) (by assumption) ?_
 ·(try dsimp only at hSw); go_simp <;> (try rfl)
 simp only [Act.put, sq1, sq2, sq3]
 refine tkq (i := 6) (d := 17) (v := (.agg (vs d).toArray)) rfl rfl (yields_load_at (by kernel_rfl) 28 (.tmp 6) rfl (.pointer (some ⟨w.heap.size, 0, none⟩)) (by simp [Act.eval]) (.agg (vs d).toArray) (fun W hW => hW.2.loadAt 28 _ Try.underlying28 rfl (by rw [HDl.out]; kernel_rfl))) (by assumption) ?_
 simp only [Act.put, sq1, sq2, sq3]
 refine tkq (i := 7) (d := 18) (v := (.agg (Po.cells ⟨q, d⟩).toArray)) rfl rfl (yields_build (by kernel_rfl) tPo #[(0, .tmp 16), (1, .tmp 17)] rfl #[(0, .int .i64 q), (1, .agg (vs d).toArray)] (by simp [Act.eval]) (.agg (Po.cells ⟨q, d⟩).toArray) (fun W _ => Try.bld_po23 q d HDd.out W)) (by assumption) ?_
 simp only [Act.put, sq1, sq2, sq3]
 refine tkq (i := 8) (d := 19) (v := (.slice A k c)) rfl rfl (Or.inl ⟨by kernel_rfl, fun w hSw => ?_⟩) (by assumption) ?_
 ·(try dsimp only at hSw); go_simp <;> (try rfl)
 simp only [Act.put, sq1, sq2, sq3]
 refine wpAnyH_ready (rs := [9]) (by kernel_rfl) (by simp) ?_
 refine AllReadyH.cons rfl (fun K hK => ?_) AllReadyH.nil
 go_simp
 refine (cloneb_p b A k c _ (HBy.out.through hHeld.1) (by have := HK.out; omega)).mono ?_
 rintro e w5 ⟨A9, c9, rfl, hs9, hn9, hb9⟩; have HS9 := Lib.hid hs9; have HN9 := Lib.hid hn9; have HK9 : Hid (Below w.heap.size w w5 ∧ Blk w5 w.heap.size 28 (vs d)) := Lib.hid ⟨below_step hHeld.1 hb9, hHeld.2.through hb9⟩; have HZ9 := Lib.hid hHeld.1.size; clear hs9 hn9 hb9
 go_wp2_with fail
 refine hK.out _ _ HK9.out (fun hHeld1 => ?_)
 clear hHeld hK K
 have hHeld := hHeld1
 clear hHeld1
 refine tkq (i := 10) (d := 21) (v := (.agg (Po.cells ⟨q, d⟩ ++ [Value.slice A9 k c9]).toArray)) rfl rfl (yields_build (by kernel_rfl) tOw #[(0, .tmp 18), (1, .tmp 20)] rfl #[(0, .agg (Po.cells ⟨q, d⟩).toArray), (1, .slice A9 k c9)] (by simp [Act.eval]) (.agg (Po.cells ⟨q, d⟩ ++ [Value.slice A9 k c9]).toArray) (fun W _ => Try.bld_ow ⟨q, d⟩ A9 k c9 HDd.out W)) (by assumption) ?_
 simp only [Act.put, sq1, sq2, sq3]
 refine wpAnyH_done (by kernel_rfl) ?_ _
 refine tail_go (o := ⟨none, .mapUpdate tMo (.tmp 14) (.tmp 15) (.tmp 21), _, _, _, none⟩) rfl ?_
 obtain ⟨w6, hu6, hm6, hg6⟩ := (HH.out.through HK9.out.1).om.upd Try.keyp_i64 Try.underlying55 (fun _ _ => trivial) (x := q) trivial (Ow.val ⟨⟨q, d⟩, (A9, k, c9), b⟩)
 refine step_upd (by simp [Region.wanted]) tMo (.tmp 14) (.tmp 15) (.tmp 21) rfl (.map (some mo)) (.int .i64 q) (.agg (Po.cells ⟨q, d⟩ ++ [Value.slice A9 k c9]).toArray) rfl rfl rfl w6 hu6 ?_
 clear hHeld
 go_wp2
 go_end0
 exact ⟨rfl, HH.out.owned_ q d b (A9, k, c9) HQ.out HDd.out (by have := HBy.out.1; have := HK.out; omega) HK9.out.1 HS9.out (fun z hz => Nat.le_trans HZ9.out (HN9.out z hz)) hm6 hg6⟩

end Go.Proofs.Ytpolofehkckaoaa
