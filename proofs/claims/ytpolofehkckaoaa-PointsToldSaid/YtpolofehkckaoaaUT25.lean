/-
  Joined: PwA.
-/
import Derived.Test.YtpolofehkckaoaaUT24
import Derived.Test.YtpolofehkckaoaaUT16
import Derived.Test.YtpolofehkckaoaaUTT
namespace Go.Proofs.Ytpolofehkckaoaa
open Go.RowKit

theorem Blk.rng0 {w : World} {g : Nat} {t : TypeId} {cs : List Value} (h : Blk w g t cs) : w.rangeAt g 0 cs := fun j v hv => by
 rw [Nat.zero_add]
 exact h.cellAt hv
def conP (x : Po) (l : List Po) : Bool := l.any (fun y => x.eqb y)
set_option maxHeartbeats 16000000 in
set_option maxRecDepth 100000 in
theorem indexp_any (x : Po) (l : List Po) (A : Option Addr) (k c : Nat) (w : World) (h : PosIn w A k l) (hx : x.dg.length = 32) (hk : k ≤ 1000000) :
  Calls Try.prog 55 #[.slice A k c, .agg (Po.cells x).toArray] w fun e w' => ∃ y : Int, e = .returned (.int .i64 y) ∧ decide (0 ≤ y) = conP x l ∧ Below w.heap.size w w' := by
 have hbx := fun W => Try.box_po x hx W
 have HXl : Hid ((Po.cells x).length = 33) := Lib.hid (Po.cells_len x hx)
 have HXd := Lib.hid hx
 have X1 : Below w.heap.size w (w.alloc (.cells (Po.cells x).toArray tPo)) := below1_ w _
 have HBX : Hid (Blk (w.alloc (.cells (Po.cells x).toArray tPo)) w.heap.size tPo (Po.cells x)) := Lib.hid (Blk.fresh rfl rfl)
 have HX1 := Lib.hid X1
 have HI := Lib.hid (h.through X1)
 have HLn := Lib.hid h.len
 have HK := Lib.hid hk
 obtain ⟨bb, hbb⟩ : ∃ bb, conP x l = bb := ⟨_, rfl⟩
 rw [hbb]
 have HBB := Lib.hid hbb
 clear h hx X1 hk hbb
 go_enter Try.func55, Try.ntmps55
 go_wp2
 generalize (w.alloc (.cells (Po.cells x).toArray tPo)) = w4 at *
 go_loopw [8] (fun iv wr => ∃ i : Nat, i ≤ k ∧ iv = .int .i64 (i : Int) ∧ bb = conP x (l.drop i) ∧ Below w4.heap.size w4 wr) (fun iv _ => k - (intOf iv).toNat)
 case atStart => exact ⟨0, Nat.zero_le _, rfl, by rw [List.drop_zero]; exact HBB.out.symm, Below.refl _ _⟩
 case round =>
  obtain ⟨i, hi, rfl, hp, hw⟩ := hrel
  have HW := Lib.hid hw
  have hib : i ≤ 1000000 := by have := HK.out; omega
  clear hw
  by_cases hlt : i < k
  ·obtain ⟨g0, o0, y, rfl, _, _, hd, hyd, hry⟩ := (HI.out.through HW.out).at hlt
   rw [hd] at hp
   have HRy := Lib.hid hry
   have HYl : Hid ((Po.cells y).length = 33) := Lib.hid (Po.cells_len y hyd)
   have HBr : Hid (wr.rangeAt w.heap.size 0 (Po.cells x)) := Lib.hid (HBX.out.through HW.out).rng0
   have hix := fun (W : World) => Try.ix_po W g0 o0 k c i hlt
   have heq := fun (W : World) => eq_po x y HXd.out hyd W
   clear hd hry hyd
   cases s0 : x.eqb y with
   | true =>
    rw [s0] at heq
    have HV : Hid (bb = true) := Lib.hid (by rw [hp]; simp [conP, s0])
    clear hp s0
    go_upto_region 4 with fail
    refine wp_region_held_drew (S := fun W => Below wr.heap.size wr W) (by kernel_rfl) (Below.refl _ wr).drew (fun hHeld => ?_)
    change wpAnyH _ _ _ _ _ _ #[false, false, false, false, false, false] _ _
    refine tkq (i := 0) (d := 11) (v := (.agg (Po.cells x).toArray)) rfl rfl (yieldsIf_load_mid (by kernel_rfl) tPo (.tmp 3) rfl w.heap.size 0 (by simp [Act.eval]) (Po.cells x) _ (fun W hW => rangeAt.through HBr.out hW) Try.underlying31 rfl (by rw [HXl.out]; kernel_rfl)) (by assumption) ?_
    simp only [Act.put, sq1, sq2, sq3]
    refine tkq (i := 1) (d := 12) (v := (.slice (some ⟨g0, o0, none⟩) k c)) rfl rfl (Or.inl ⟨by kernel_rfl, fun w hSw => ?_⟩) (by assumption) ?_
    ·(try dsimp only at hSw); go_simp <;> (try rfl)
    simp only [Act.put, sq1, sq2, sq3]
    refine tkq (i := 2) (d := 13) (v := (.int .i64 (i : Int))) rfl rfl (Or.inl ⟨by kernel_rfl, fun w hSw => ?_⟩) (by assumption) ?_
    ·(try dsimp only at hSw); go_simp <;> (try rfl)
    simp only [Act.put, sq1, sq2, sq3]
    refine tkq (i := 3) (d := 14) (v := (.pointer (some ⟨g0, o0 + i * 33, none⟩))) rfl rfl (Or.inl ⟨by kernel_rfl, fun w hSw => ?_⟩) (by assumption) ?_
    ·(try dsimp only at hSw); go_simp <;> (try rfl)
    simp only [Act.put, sq1, sq2, sq3]
    refine tkq (i := 4) (d := 15) (v := (.agg (Po.cells y).toArray)) rfl rfl (yieldsIf_load_mid (by kernel_rfl) tPo (.tmp 14) rfl g0 (o0 + i * 33) (by simp [Act.eval]) (Po.cells y) _ (fun W hW => rangeAt.through HRy.out hW) Try.underlying31 rfl (by rw [HYl.out]; kernel_rfl)) (by assumption) ?_
    simp only [Act.put, sq1, sq2, sq3]
    refine tkq (i := 5) (d := 16) (v := (.bool true)) rfl rfl (Or.inl ⟨by kernel_rfl, fun w hSw => ?_⟩) (by assumption) ?_
    ·(try dsimp only at hSw); go_simp <;> (try rfl)
    simp only [Act.put, sq1, sq2, sq3]
    refine wpAnyH_done (by kernel_rfl) ?_ _
    have HXe := Lib.hid (below_step (below_step HX1.out HW.out) hHeld)
    clear hHeld
    go_wp2
    go_ret
    exact ⟨_, rfl, by rw [HV.out]; simp, HXe.out⟩
   | false =>
    rw [s0] at heq
    have HV : Hid (bb = conP x (l.drop (i + 1))) := Lib.hid (by rw [hp]; simp [conP, s0])
    clear hp s0
    go_upto_region 4 with fail
    refine wp_region_held_drew (S := fun W => Below wr.heap.size wr W) (by kernel_rfl) (Below.refl _ wr).drew (fun hHeld => ?_)
    change wpAnyH _ _ _ _ _ _ #[false, false, false, false, false, false] _ _
    refine tkq (i := 0) (d := 11) (v := (.agg (Po.cells x).toArray)) rfl rfl (yieldsIf_load_mid (by kernel_rfl) tPo (.tmp 3) rfl w.heap.size 0 (by simp [Act.eval]) (Po.cells x) _ (fun W hW => rangeAt.through HBr.out hW) Try.underlying31 rfl (by rw [HXl.out]; kernel_rfl)) (by assumption) ?_
    simp only [Act.put, sq1, sq2, sq3]
    refine tkq (i := 1) (d := 12) (v := (.slice (some ⟨g0, o0, none⟩) k c)) rfl rfl (Or.inl ⟨by kernel_rfl, fun w hSw => ?_⟩) (by assumption) ?_
    ·(try dsimp only at hSw); go_simp <;> (try rfl)
    simp only [Act.put, sq1, sq2, sq3]
    refine tkq (i := 2) (d := 13) (v := (.int .i64 (i : Int))) rfl rfl (Or.inl ⟨by kernel_rfl, fun w hSw => ?_⟩) (by assumption) ?_
    ·(try dsimp only at hSw); go_simp <;> (try rfl)
    simp only [Act.put, sq1, sq2, sq3]
    refine tkq (i := 3) (d := 14) (v := (.pointer (some ⟨g0, o0 + i * 33, none⟩))) rfl rfl (Or.inl ⟨by kernel_rfl, fun w hSw => ?_⟩) (by assumption) ?_
    ·(try dsimp only at hSw); go_simp <;> (try rfl)
    simp only [Act.put, sq1, sq2, sq3]
    refine tkq (i := 4) (d := 15) (v := (.agg (Po.cells y).toArray)) rfl rfl (yieldsIf_load_mid (by kernel_rfl) tPo (.tmp 14) rfl g0 (o0 + i * 33) (by simp [Act.eval]) (Po.cells y) _ (fun W hW => rangeAt.through HRy.out hW) Try.underlying31 rfl (by rw [HYl.out]; kernel_rfl)) (by assumption) ?_
    simp only [Act.put, sq1, sq2, sq3]
    refine tkq (i := 5) (d := 16) (v := (.bool false)) rfl rfl (Or.inl ⟨by kernel_rfl, fun w hSw => ?_⟩) (by assumption) ?_
    ·(try dsimp only at hSw); go_simp <;> (try rfl)
    simp only [Act.put, sq1, sq2, sq3]
    refine wpAnyH_done (by kernel_rfl) ?_ _
    have HXe := Lib.hid (below_step HW.out hHeld)
    clear hHeld
    go_wp2
    go_roundw
    case rel => exact ⟨i + 1, by omega, by go_num, HV.out, HXe.out⟩
    case measure => simp [intOf]; omega
  ·have hik : i = k := by omega
   subst hik
   have HV : Hid (bb = false) := Lib.hid (by rw [hp, List.drop_of_length_le (by rw [HLn.out]; exact Nat.le_refl _)]; rfl)
   clear hp
   go_wp2
   go_ret
   exact ⟨_, rfl, by rw [HV.out]; rfl, below_step HX1.out HW.out⟩
set_option maxHeartbeats 16000000 in
set_option maxRecDepth 100000 in
theorem containsp_any (x : Po) (l : List Po) (A : Option Addr) (k c : Nat) (w : World) (h : PosIn w A k l) (hx : x.dg.length = 32) (hk : k ≤ 1000000) :
  Calls Try.prog 41 #[.slice A k c, .agg (Po.cells x).toArray] w fun e w' => e = .returned (.bool (conP x l)) ∧ Below w.heap.size w w' := by
 have hbx := fun W => Try.box_po x hx W
 have HXl : Hid ((Po.cells x).length = 33) := Lib.hid (Po.cells_len x hx)
 have X1 : Below w.heap.size w (w.alloc (.cells (Po.cells x).toArray tPo)) := below1_ w _
 have HBX : Hid (Blk (w.alloc (.cells (Po.cells x).toArray tPo)) w.heap.size tPo (Po.cells x)) := Lib.hid (Blk.fresh rfl rfl)
 have HX1 := Lib.hid X1
 have HC := Lib.hid (indexp_any x l A k c _ (h.through X1) hx hk)
 obtain ⟨bb, hbb⟩ : ∃ bb, conP x l = bb := ⟨_, rfl⟩
 rw [hbb] at HC ⊢
 clear h hx X1 hk hbb
 go_enter Try.func41, Try.ntmps41
 go_wp2_with (first
  | (refine wpList_load_blk rfl tPo (.tmp 3) rfl w.heap.size rfl tPo (Po.cells x) _ HBX.out Try.underlying31 rfl (by rw [HXl.out]; kernel_rfl) ?_)
  | (go_at_call 55; (with_reducible refine HC.out.mono ?_); rintro e w1 ⟨y, rfl, hy, hb⟩; have HXe := Lib.hid (below_step HX1.out hb); clear hb))
 go_ret
 exact ⟨by rw [← hy]; rfl, HXe.out⟩
theorem po_rows {l : List Po} (h : ∀ p ∈ l, p.dg.length = 32) : (∀ y ∈ l.map Po.cells, y.length = 33) ∧ ∀ y ∈ l.map Po.cells, ∀ u ∈ y, u.oneCell' = true :=
 ⟨fun y hy => by obtain ⟨p, hp, rfl⟩ := List.mem_map.1 hy; exact Po.cells_len p (h p hp), fun y hy u hu => by obtain ⟨p, hp, rfl⟩ := List.mem_map.1 hy; exact Array.all_eq_true_iff_forall_mem.1 (Po.one p) u (by simpa using hu)⟩
set_option maxHeartbeats 4000000 in
theorem clonep_any (l : List Po) (A : Option Addr) (k c : Nat) (w : World) (h : PosIn w A k l) (hk : k ≤ 1000000) :
  Calls Try.prog 43 #[.slice A k c] w fun e w' => ∃ A' c', e = .returned (.slice A' k c') ∧ Os w' w.heap.size tPo 33 (.slice A' k c') (l.map Po.cells) ∧ Below w.heap.size w w' := by
 have q22 : ∀ (w : World) (a : Option Addr) (n c n' c' : Nat), (binOp .eql tPos (.slice a n c) (.slice none n' c')).run Try.prog w = .ok (.bool a.isNone) w := fun w a n c n' c' => Lib.run_eql_slice_nil w _ _ a n c n' c' Try.underlying39
 have hln := h.len
 rcases A with _ | ad
 ·obtain rfl : k = 0 := by
   rcases Nat.eq_zero_or_pos k with h0 | h0
   ·exact h0
   ·obtain ⟨_, _, h, _⟩ := h.1.2 h0
    cases h
  obtain rfl : l = [] := List.eq_nil_of_length_eq_zero hln
  clear h hln
  go_enter Try.func43, Try.ntmps43
  go_wp2
  go_ret
  exact ⟨none, 0, rfl, Os.nil _ _ _ _, Below.refl _ _⟩
 ·have HI := Lib.hid h.1
  have HL : Hid ((l.map Po.cells).length = k) := Lib.hid (by rw [List.length_map]; exact hln)
  have HR := Lib.hid (po_rows h.2)
  clear h hln
  go_enter Try.func43, Try.ntmps43
  go_wp2_with (at_builtin; (refine wpList_append_sl rfl Try.el_po (.tmp 5) (.tmp 6) rfl w.heap.size (.slice (some ⟨w.heap.size, 0, none⟩) 0 0) [] rfl (Os.made w tPo 33) (some ad) k c (l.map Po.cells) rfl (HI.out.alloc _) HR.out.1 HR.out.2 (by have := HL.out; simp; omega) (by simp) ?_); intro v' w1 ho hg; have HO := Lib.hid ho; have HX : Hid (Below w.heap.size w w1) := Lib.hid ((below1_ w _).grown hg (by simp) (fun q hq => by simp [Value.ownBlock] at hq; omega)); clear ho hg)
  obtain ⟨A7, c7, e7, _, _, _⟩ := HO.out.out
  rw [List.nil_append, HL.out] at e7
  subst e7
  go_ret
  exact ⟨A7, c7, rfl, HO.out, HX.out⟩

end Go.Proofs.Ytpolofehkckaoaa
