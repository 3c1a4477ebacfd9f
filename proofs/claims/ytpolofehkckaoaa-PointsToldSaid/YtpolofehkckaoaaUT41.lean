/-
  Joined: PwT.
-/
import Derived.Test.YtpolofehkckaoaaUT40
import Derived.Test.YtpolofehkckaoaaUTT
namespace Go.Proofs.Ytpolofehkckaoaa
open Go.RowKit

def s2P (a b : Nat) : Nat → Nat
 | 0 => 0
 | 1 => a
 | _ => a + b
def p2P {α : Type} (a b : List α) : Nat → List α
 | 0 => []
 | 1 => a
 | _ => a ++ b
theorem step_build_two_w {P : Program} {ops : Array Oper} {o : Oper} {a : Act} {w : World} {K : Act → World → Prop} {Q : Exit → Act → World → Prop} {F : Prop} (hgd : o.guard = none) (s e : TypeId) (x y : Operand) (ho : o.op = .buildSlice s 2 #[(0, x), (1, y)])
  (p q : Value) (hx : a.eval x = p) (hy : a.eval y = q) (hrun : ∀ w, (Instr.buildSlice s 2 #[(0, p), (1, q)]).run P w = .ok (.slice (some ⟨w.heap.size, 0, none⟩) 2 2) (w.alloc (.cells #[p, q] e)))
  (h : ∀ g w', Blk w' g e [p, q] → Below w.heap.size w w' → K (a.put o.dst (.slice (some ⟨g, 0, none⟩) 2 2)) w') : if Region.wanted o (yielded ops a.tmps) = true then Oper.wp P o a w K Q else F := by
 have hw : Region.wanted o (yielded ops a.tmps) = true := by simp [Region.wanted, hgd]
 rw [if_pos hw]
 unfold Oper.wp execOp
 simp only [ho, Sem.run_bind, List.map_toArray, List.map_cons, List.map_nil, hx, hy, hrun, Result.andThen_ok]
 exact h _ _ (Blk.fresh rfl rfl) ((Below.refl _ w).alloc (Nat.le_refl _) _)
set_option maxHeartbeats 4000000 in
theorem growp_any (m : Nat) (h0 : 0 < m) (hm : m ≤ 1000000) (w : World) :
  Calls Try.prog 56 #[.slice none 0 0, .int .i64 (m : Int)] w fun e w' => ∃ v, e = .returned v ∧ Os w' w.heap.size tPo 33 v [] ∧ Below w.heap.size w w' := by
 have hw1 : IntKind.i64.wrap ((m : Int) - 0) = (m : Int) := by rw [IntWalk.i64_in _ (by omega)]; omega
 have hd0 : decide ((m : Int) < 0) = false := by simp
 have hd1 : decide ((0 : Int) < (m : Int)) = true := by simp; omega
 go_enter Try.func56, Try.ntmps56
 go_wp2_with (at_builtin; refine wpList_append_zeros rfl Try.el_po 3 Try.underlying3 (.tmp 20) (.tmp 21) rfl rfl m rfl h0 hm ?_; intro cap w1 ho hcap hb; have HO := Lib.hid ho; have HX := Lib.hid hb; clear ho hb)
 go_ret
 exact ⟨_, rfl, HO.out, HX.out⟩
set_option maxHeartbeats 16000000 in
set_option maxRecDepth 100000 in
theorem concat2_p (gb : Nat) (A1 A2 : Option Addr) (n1 n2 c1 c2 : Nat) (x1 x2 : List (List Value)) (w : World) (hb : Blk w gb tPos [.slice A1 n1 c1, .slice A2 n2 c2]) (h1 : Sl w 33 A1 n1 x1) (h2 : Sl w 33 A2 n2 x2) (hr1 : ∀ y ∈ x1, y.length = 33 ∧ ∀ u ∈ y, u.oneCell' = true) (hr2 : ∀ y ∈ x2, y.length = 33 ∧ ∀ u ∈ y, u.oneCell' = true) (h0 : 0 < n2) (hn : n1 + n2 ≤ 100000) :
  Calls Try.prog 42 #[.slice (some ⟨gb, 0, none⟩) 2 2] w fun e w' => ∃ v, e = .returned v ∧ Os w' w.heap.size tPo 33 v (x1 ++ x2) ∧ Below w.heap.size w w' := by
 have hix : ∀ (W : World) (i : Nat), i < 2 → (Instr.indexAt tOf (.slice (some ⟨gb, 0, none⟩) 2 2) (.int .i64 (i : Int))).run Try.prog W = .ok (.pointer (some ⟨gb, i, none⟩)) W := fun W i hi => by
  have := Try.ix_of W gb 0 2 2 i hi
  simpa using this
 have HIX := Lib.hid hix
 have HB := Lib.hid hb
 have H1 := Lib.hid h1
 have H2 := Lib.hid h2
 have HR1 := Lib.hid hr1
 have HR2 := Lib.hid hr2
 clear hix hb h1 h2 hr1 hr2
 go_enter Try.func42, Try.ntmps42
 go_wp2
 go_loopw [3, 11] (fun sv iv wr => ∃ i : Nat, i ≤ 2 ∧ iv = .int .i64 i ∧ sv = .int .i64 (s2P n1 n2 i : Nat) ∧ w = wr) (fun _ iv _ => 2 - (intOf iv).toNat)
 case atStart => exact ⟨0, by omega, rfl, rfl, rfl⟩
 case round =>
  obtain ⟨i, hi, rfl, rfl, rfl⟩ := hrel
  have c0 := HB.out.cellAt (i := 0) rfl
  have c1' := HB.out.cellAt (i := 1) rfl
  rcases i with _ | _ | i
  ·have hx := HIX.out w 0 (by omega)
   simp only [s2P]
   go_wp2
   go_roundw
   case rel => exact ⟨1, by omega, by go_num, rfl, trivial⟩
   case measure => simp [intOf]
  ·have hx := HIX.out w 1 (by omega)
   simp only [s2P]
   go_wp2
   go_roundw
   case rel => exact ⟨2, by omega, by go_num, rfl, trivial⟩
   case measure => simp [intOf]
  ·obtain rfl : i = 0 := by omega
   have hs : s2P n1 n2 (0 + 1 + 1) = n1 + n2 := rfl
   rw [hs]
   have hl : n1 + n2 ≤ 1000000 := by omega
   have hp : 0 < n1 + n2 := by omega
   have hb1 : n1 ≤ 100000 := by omega
   have hb3 : n2 ≤ 100000 := by omega
   generalize n1 + n2 = m at *
   clear c0 c1' hs
   go_wp2_with (go_at_call 56; (with_reducible refine (growp_any m hp hl _).mono ?_); rintro e w1 ⟨v1, rfl, ho1, hb1⟩; have HO1 := Lib.hid ho1; have HX1 := Lib.hid hb1; have HB1 := Lib.hid (HB.out.through hb1); clear ho1 hb1)
   go_loopw [6, 27] (fun sv iv wr => ∃ i : Nat, i ≤ 2 ∧ iv = .int .i64 i ∧ Os wr w.heap.size tPo 33 sv (p2P x1 x2 i) ∧ Below w.heap.size w wr) (fun _ iv _ => 2 - (intOf iv).toNat)
   case atStart => exact ⟨0, by omega, rfl, HO1.out, HX1.out⟩
   case round =>
    obtain ⟨i, hi, rfl, ho, hx⟩ := hrel
    obtain ⟨An, nn, cn, rfl, hnn⟩ := ho.out'
    have HNN := Lib.hid hnn
    have HO := Lib.hid ho
    have HX := Lib.hid hx
    have HBw := Lib.hid (HB.out.through hx)
    have c0 := HBw.out.cellAt (i := 0) rfl
    have c1' := HBw.out.cellAt (i := 1) rfl
    clear ho hx hnn
    rcases i with _ | _ | i
    ·have hx := HIX.out wr 0 (by omega)
     simp only [p2P] at HO ⊢
     go_wp2_with (at_builtin; (refine wpList_append_sl rfl Try.el_po (.tmp 31) (.tmp 32) rfl w.heap.size (.slice An nn cn) [] rfl HO.out A1 n1 c1 x1 rfl (H1.out.through HX.out) (fun y hy => (HR1.out y hy).1) (fun y hy => (HR1.out y hy).2) (by have h7 := H1.out.len; have h8 := H2.out.len; (try rw [List.length_nil]); omega) HX.out.size ?_); intro v3 w3 ho3 hg3; have HO2 := Lib.hid ho3; have HX2 : Hid (Below w.heap.size w w3) := Lib.hid (HX.out.grown hg3 HX.out.size (fun q hq => (HO.out.lt q hq).1)); clear ho3 hg3)
     go_roundw
     case rel => exact ⟨1, by omega, by go_num, by simpa [p2P] using HO2.out, HX2.out⟩
     case measure => simp [intOf]
    ·have hx := HIX.out wr 1 (by omega)
     simp only [p2P] at HO ⊢
     go_wp2_with (at_builtin; (refine wpList_append_sl rfl Try.el_po (.tmp 31) (.tmp 32) rfl w.heap.size (.slice An nn cn) x1 rfl HO.out A2 n2 c2 x2 rfl (H2.out.through HX.out) (fun y hy => (HR2.out y hy).1) (fun y hy => (HR2.out y hy).2) (by have h7 := H1.out.len; have h8 := H2.out.len; (try rw [List.length_nil]); omega) HX.out.size ?_); intro v3 w3 ho3 hg3; have HO2 := Lib.hid ho3; have HX2 : Hid (Below w.heap.size w w3) := Lib.hid (HX.out.grown hg3 HX.out.size (fun q hq => (HO.out.lt q hq).1)); clear ho3 hg3)
     go_roundw
     case rel => exact ⟨2, by omega, by go_num, by simpa [p2P] using HO2.out, HX2.out⟩
     case measure => simp [intOf]
    ·obtain rfl : i = 0 := by omega
     go_wp2
     go_ret
     exact ⟨_, rfl, HO.out, HX.out⟩
theorem Try.bld_of2 (A1 A2 : Option Addr) (n1 n2 c1 c2 : Nat) (w : World) : (Instr.buildSlice tOf 2 #[(0, .slice A1 n1 c1), (1, .slice A2 n2 c2)]).run Try.prog w = .ok (.slice (some ⟨w.heap.size, 0, none⟩) 2 2) (w.alloc (.cells #[.slice A1 n1 c1, .slice A2 n2 c2] tPos)) := by kernel_rfl
theorem tolP_drop {k : Nat} : ∀ (l : List Po) (i : Nat), 0 < i → i + l.length = k → tolP k i l = l.drop (l.length - 3)
 | [], _, _, _ => rfl
 | x :: l, i, hi, hk => by
  unfold tolP
  rw [List.length_cons] at hk
  rw [tolP_drop l (i + 1) (by omega) (by omega)]
  by_cases h3 : l.length < 3
  ·rw [if_pos (.inr (by omega)), show l.length - 3 = 0 by omega, show (x :: l).length - 3 = 0 by rw [List.length_cons]; omega]
   rfl
  ·rw [if_neg (by omega), show (x :: l).length - 3 = l.length - 3 + 1 by rw [List.length_cons]; omega]
   rfl
theorem tolP_many {l : List Po} (h : 4 < l.length) : tolP l.length 0 l = l.take 1 ++ l.drop (l.length - 3) := by
 cases l with
 | nil => simp at h
 | cons x l =>
  rw [List.length_cons] at h
  have h1 := tolP_drop (k := (x :: l).length) l 1 (by omega) (by rw [List.length_cons]; omega)
  unfold tolP
  rw [if_pos (.inl rfl), h1, show (x :: l).length - 3 = l.length - 3 + 1 by rw [List.length_cons]; omega]
  rfl
theorem tolP_few {l : List Po} (h : l.length ≤ 4) : tolP l.length 0 l = l := by
 cases l with
 | nil => rfl
 | cons x l =>
  rw [List.length_cons] at h ⊢
  unfold tolP
  rw [if_pos (.inl rfl), tol_all (by omega)]
  rfl
set_option maxHeartbeats 16000000 in
set_option maxRecDepth 100000 in
theorem told_p {w : World} {B mo mv : Nat} {r : Ptp} {ows : List Ow} {OE VE : List (Int × Value)} {vf : Nat → Pl} (h : PPt w B mo mv r ows OE VE vf) (hlen : ows.length ≤ 100000) :
  Calls Try.prog 15 #[(.pointer (some ⟨B, 0, none⟩))] w fun e w' => (∃ A k c, e = .returned (.slice A k c) ∧ PosIn w' A k (toldR r)) ∧ Below w.heap.size w w' := by
 have HB := Lib.hid h.box
 have HN1 := Lib.hid h.n1
 have k1 := h.box.cellAt (i := 1) rfl
 have HVo := Lib.hid (votes_self h (by omega))
 obtain ⟨m, hm⟩ : ∃ m, (ownL r).length = m := ⟨_, rfl⟩
 have HM := Lib.hid hm
 have hml : m ≤ 100000 := by rw [← hm, h.ol, List.length_map]; exact hlen
 by_cases h4 : 4 < m
 ·have htol : toldR r = (ownL r).take 1 ++ (ownL r).drop (m - 3) := by unfold toldR; rw [tolP_many (l := ownL r) (by rw [hm]; exact h4), hm]
  clear h hm
  go_enter Try.func15, Try.ntmps15
  have hw1 : IntKind.i64.wrap ((m : Int) - 4) = (m : Int) - 4 := IntWalk.i64_in _ (by omega)
  have hw2 : IntKind.i64.wrap ((m : Int) - 4 + 1) = (m : Int) - 4 + 1 := IntWalk.i64_in _ (by omega)
  have htn : ((m : Int) - 4 + 1).toNat = m - 3 := by omega
  have hp1 : (0 : Int) ≤ (m : Int) - 4 + 1 := by omega
  have hp2 : (m : Int) - 4 + 1 ≤ (m : Int) := by omega
  have hm3 : m - (m - 3) = 3 := by omega
  have htl : Hid (toldR r = (ownL r).take 1 ++ (ownL r).drop (m - 3)) := Lib.hid htol
  clear htol
  go_upto_region 5 with (first
   | (go_at_call 27; (with_reducible refine (isnone_p _ HB.out HN1.out).mono ?_); rintro e w9 ⟨rfl, hw9⟩; have hw8 := hw9.symm; clear hw9; subst hw8)
   | (go_at_call 16; (with_reducible refine HVo.out.mono ?_); rintro e w5 ⟨⟨A, k, c, rfl, ho5, hp5, hk5, hc5⟩, hb5⟩; have hkm := HM.out.symm.trans hp5.len; subst hkm; have HO5 := Lib.hid ho5; have HP5 := Lib.hid hp5; have HX5 := Lib.hid hb5; have HK5 := Lib.hid hk5; have HC5 := Lib.hid hc5; clear ho5 hp5 hk5 hc5 hb5))
  obtain ⟨g, rfl⟩ : ∃ g, A = some ⟨g, 0, none⟩ := by
   rcases HO5.out.1.2 with ⟨e, _⟩ | ⟨g, cap, cur, e, _⟩
   ·injection e with e1 e2 e3
    omega
   ·injection e with e1 e2 e3
    exact ⟨g, e1⟩
  have hmc := HK5.out
  have hcm63 : c ≤ 9223372036854775807 := by have := HC5.out; unfold maxLen at this; omega
  have hc0 : ¬ c = 0 := by omega
  have hc3 : ¬ c = m - 3 := by omega
  have hc1 : (1 : Int) ≤ (c : Int) := by omega
  have HS1 : Hid (Sl w5 33 (some ⟨g, 0, none⟩) 1 (((ownL r).map Po.cells).take 1)) := Lib.hid (HP5.out.1.to_ (by omega))
  have HS2 : Hid (Sl w5 33 (some ⟨g, (m - 3) * 33, none⟩) 3 (((ownL r).map Po.cells).drop (m - 3))) := Lib.hid (by
   obtain ⟨A7, e7, h7⟩ := HP5.out.1.from_ (i := m - 3) (by omega) hmc
   rw [if_neg hc3] at e7
   simp only [Option.map_some, addr_lit, Nat.zero_add] at e7
   rw [hm3, ← e7] at h7
   exact h7)
  have HQ := po_rows HP5.out.2
  have HQ1 : Hid (∀ y ∈ ((ownL r).map Po.cells).take 1, y.length = 33 ∧ ∀ u ∈ y, u.oneCell' = true) := Lib.hid (fun y hy => ⟨HQ.1 y (List.mem_of_mem_take hy), HQ.2 y (List.mem_of_mem_take hy)⟩)
  have HQ2 : Hid (∀ y ∈ ((ownL r).map Po.cells).drop (m - 3), y.length = 33 ∧ ∀ u ∈ y, u.oneCell' = true) := Lib.hid (fun y hy => ⟨HQ.1 y (List.mem_of_mem_drop hy), HQ.2 y (List.mem_of_mem_drop hy)⟩)
  have HTl : Hid (toldR r = (ownL r).take 1 ++ (ownL r).drop (m - 3)) := htl
  have HTm : Hid (((ownL r).map Po.cells).take 1 ++ ((ownL r).map Po.cells).drop (m - 3) = ((ownL r).take 1 ++ (ownL r).drop (m - 3)).map Po.cells) := Lib.hid (by simp [List.map_take, List.map_drop])
  have HTd : Hid (∀ p ∈ (ownL r).take 1 ++ (ownL r).drop (m - 3), p.dg.length = 32) := Lib.hid (fun p hp => (List.mem_append.1 hp).elim (fun h9 => HP5.out.2 p (List.mem_of_mem_take h9)) (fun h9 => HP5.out.2 p (List.mem_of_mem_drop h9)))
  clear HQ
  refine wp_region_held_drew (S := fun W => Below w5.heap.size w5 W) (by kernel_rfl) (Below.refl _ w5).drew (fun hHeld => ?_)
  change wpAnyH _ _ _ _ _ _ #[false, false, false, false, false, false, false, false, false, false, false] _ _
  refine tkq (i := 0) (d := 15) (v := (.slice (some ⟨g, 0, none⟩) m c)) rfl rfl (Or.inl ⟨by kernel_rfl, fun w hSw => ?_⟩) (by assumption) ?_
  ·(try dsimp only at hSw); go_simp <;> (try rfl)
  simp only [Act.put, sq1, sq2, sq3]
  refine tkq (i := 1) (d := 16) (v := (.slice (some ⟨g, 0, none⟩) 1 c)) rfl rfl (Or.inl ⟨by kernel_rfl, fun w hSw => ?_⟩) (by assumption) ?_
  ·(try dsimp only at hSw); go_simp <;> (try rfl)
  simp only [Act.put, sq1, sq2, sq3]
  refine tkq (i := 2) (d := 17) (v := (.slice (some ⟨g, 0, none⟩) m c)) rfl rfl (Or.inl ⟨by kernel_rfl, fun w hSw => ?_⟩) (by assumption) ?_
  ·(try dsimp only at hSw); go_simp <;> (try rfl)
  simp only [Act.put, sq1, sq2, sq3]
  refine tkq (i := 3) (d := 18) (v := (.slice (some ⟨g, 0, none⟩) m c)) rfl rfl (Or.inl ⟨by kernel_rfl, fun w hSw => ?_⟩) (by assumption) ?_
  ·(try dsimp only at hSw); go_simp <;> (try rfl)
  simp only [Act.put, sq1, sq2, sq3]
  refine tkq (i := 4) (d := 19) (v := (.int .i64 (m : Int))) rfl rfl (Or.inl ⟨by kernel_rfl, fun w hSw => ?_⟩) (by assumption) ?_
  ·(try dsimp only at hSw); go_simp <;> (try rfl)
  simp only [Act.put, sq1, sq2, sq3]
  refine tkq (i := 5) (d := 20) (v := (.int .i64 ((m : Int) - 4))) rfl rfl (Or.inl ⟨by kernel_rfl, fun w hSw => ?_⟩) (by assumption) ?_
  ·(try dsimp only at hSw); go_simp <;> (try rfl)
  simp only [Act.put, sq1, sq2, sq3]
  refine tkq (i := 6) (d := 21) (v := (.int .i64 ((m : Int) - 4 + 1))) rfl rfl (Or.inl ⟨by kernel_rfl, fun w hSw => ?_⟩) (by assumption) ?_
  ·(try dsimp only at hSw); go_simp <;> (try rfl)
  simp only [Act.put, sq1, sq2, sq3]
  refine tkq (i := 7) (d := 22) (v := (.slice (some ⟨g, (m - 3) * 33, none⟩) 3 (c - (m - 3)))) rfl rfl (Or.inl ⟨by kernel_rfl, fun w hSw => ?_⟩) (by assumption) ?_
  ·(try dsimp only at hSw); go_simp <;> (try rfl)
  simp only [Act.put, sq1, sq2, sq3]
  refine wpAnyH_ready (rs := [8]) (by kernel_rfl) (by simp) ?_
  refine AllReadyH.cons (o := ⟨some 23, .buildSlice tOf 2 #[(0, .tmp 16), (1, .tmp 22)], _, _, _, none⟩) rfl (fun K hK => ?_) AllReadyH.nil
  refine step_build_two_w rfl tOf tPos (.tmp 16) (.tmp 22) rfl (.slice (some ⟨g, 0, none⟩) 1 c) (.slice (some ⟨g, (m - 3) * 33, none⟩) 3 (c - (m - 3))) rfl rfl (fun W => Try.bld_of2 _ _ _ _ _ _ W) ?_; intro g8 w8 hb8 hx8; have HB8 := Lib.hid hb8; have HX8 := Lib.hid (below_step hHeld hx8); clear hb8 hx8
  refine hK.out _ _ HX8.out (fun hHeld1 => ?_)
  clear hHeld hK K
  have hHeld := hHeld1
  clear hHeld1
  change wpAnyH _ _ _ _ _ _ _ (Act.put _ (some (23 : Nat)) (.slice (some ⟨g8, 0, none⟩) 2 2)) _
  simp only [Act.put, sq1, sq2, sq3]
  refine wpAnyH_ready (rs := [9]) (by kernel_rfl) (by simp) ?_
  refine AllReadyH.cons rfl (fun K hK => ?_) AllReadyH.nil
  go_simp
  refine (concat2_p g8 (some ⟨g, 0, none⟩) (some ⟨g, (m - 3) * 33, none⟩) 1 3 c (c - (m - 3)) _ _ _ HB8.out (HS1.out.through HX8.out) (HS2.out.through HX8.out) HQ1.out HQ2.out (by omega) (by omega)).mono ?_
  rintro e w9 ⟨v9, rfl, ho9, hb9⟩; have HO9 := Lib.hid ho9; have HX9 := Lib.hid (below_step HX8.out hb9); clear ho9 hb9
  go_wp2_with fail
  refine hK.out _ _ HX9.out (fun hHeld1 => ?_)
  clear hHeld hK K
  have hHeld := hHeld1
  clear hHeld1
  refine tkq (i := 10) (d := 3) (v := (v9)) rfl rfl (Or.inl ⟨by kernel_rfl, fun w hSw => ?_⟩) (by assumption) ?_
  ·(try dsimp only at hSw); go_simp <;> (try rfl)
  simp only [Act.put, sq1, sq2, sq3]
  refine wpAnyH_done (by kernel_rfl) ?_ _
  clear hHeld
  go_wp2
  go_ret
  obtain ⟨A6, c6, e6, h6, h7, h8⟩ := HO9.out.out
  subst e6
  rw [HTl.out]
  exact ⟨⟨_, _, _, rfl, by rw [HTm.out] at h8 ⊢; rw [List.length_map] at h8 ⊢; exact ⟨h8, HTd.out⟩⟩, below_step HX5.out HX9.out⟩
 ·have htol : toldR r = ownL r := tolP_few (by rw [hm]; omega)
  rw [htol]
  clear h hm
  go_enter Try.func15, Try.ntmps15
  go_wp2_with (first
   | (go_at_call 27; (with_reducible refine (isnone_p _ HB.out HN1.out).mono ?_); rintro e w9 ⟨rfl, hw9⟩; have hw8 := hw9.symm; clear hw9; subst hw8)
   | (go_at_call 16; (with_reducible refine HVo.out.mono ?_); rintro e w5 ⟨⟨A, k, c, rfl, ho5, hp5, hk5, hc5⟩, hb5⟩; have hkm := HM.out.symm.trans hp5.len; subst hkm; have HO5 := Lib.hid ho5; have HP5 := Lib.hid hp5; have HX5 := Lib.hid hb5; have HK5 := Lib.hid hk5; have HC5 := Lib.hid hc5; clear ho5 hp5 hk5 hc5 hb5))
  go_ret
  exact ⟨⟨_, _, _, rfl, HP5.out⟩, HX5.out⟩

end Go.Proofs.Ytpolofehkckaoaa
