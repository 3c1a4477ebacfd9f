/-
  CwD CwE
-/
import Derived.Test.YtheecifgbkdecaaSM35
import Derived.Test.YtheecifgbkdecaaSM26
import Derived.Test.YtheecifgbkdecaaSM7
import Derived.Test.YtheecifgbkdecaaSMT
namespace Go.Proofs.Ytheecifgbkdecaa
open Go.RowKit

theorem Try.el_u8s : El Try.prog 28 5 1 1 (.int .u8 0) := ⟨Try.underlying28, by kernel_rfl, rfl, by omega, by omega, by omega⟩
theorem Try.el_bb : El Try.prog 109 28 1 24 (.slice none 0 0) := ⟨Try.underlying109, by kernel_rfl, rfl, by omega, by omega, by omega⟩
theorem Try.ix_bb (W : World) (g n c j : Nat) (hj : j < n) : (Instr.indexAt 109 (.slice (some ⟨g, 0, none⟩) n c) (.int .i64 (j : Int))).run Try.prog W = .ok (.pointer (some ⟨g, j, none⟩)) W := by
 have h9 := El.index Try.el_bb (by kernel_rfl) W g 0 n c j hj
 simpa using h9
set_option maxHeartbeats 16000000 in
set_option maxRecDepth 100000 in
theorem growb_any (m : Nat) (h0 : 0 < m) (hm : m ≤ 1000000) (w : World) :
  Calls Try.prog 75 #[.slice none 0 0, .int .i64 (m : Int)] w fun e w' => ∃ v, e = .returned v ∧ w'.ownsRow w.heap.size 5 1 v 0 [] ∧ Below w.heap.size w w' := by
 have hw1 : IntKind.i64.wrap ((m : Int) - 0) = (m : Int) := by rw [IntWalk.i64_in _ (by omega)]; omega
 have hd0 : decide ((m : Int) < 0) = false := by simp
 have hd1 : decide ((0 : Int) < (m : Int)) = true := by simp; omega
 go_enter Try.func75, Try.ntmps75
 go_wp2_with (at_builtin; refine wpList_append_zeros rfl Try.el_u8s 3 Try.underlying3 (.tmp 20) (.tmp 21) rfl rfl m rfl h0 hm ?_; intro cap w1 ho hcap hb; have HO := Lib.hid ho.1; have HX := Lib.hid hb; clear ho hb)
 go_ret
 exact ⟨_, rfl, HO.out, HX.out⟩
def flatB (q : List (Pl × List UInt8)) : List UInt8 := encAll (fun x => x.2) q

set_option maxHeartbeats 16000000 in
set_option maxRecDepth 100000 in
theorem concatb_any (q : List (Pl × List UInt8)) (gb n : Nat) (w : World) (hn : q.length = n) (hs : n ≤ 1000) (hb : Blk w gb 28 (q.map (fun x => .slice x.1.1 x.1.2.1 x.1.2.2))) (hy : ∀ x ∈ q, By w (fun _ => True) x.1.1 x.1.2.1 x.2) (h0 : 0 < (flatB q).length) (hm : (flatB q).length ≤ 1000000) :
  Calls Try.prog 33 #[.slice (some ⟨gb, 0, none⟩) n n] w (Byt w (flatB q)) := by
 obtain ⟨i0, hi, hz0, hz1, hz2⟩ := info_parts Try.info_u8
 have HB := Lib.hid hb
 have HN := Lib.hid hn
 have HY := Lib.hid hy
 obtain ⟨OUT, hO⟩ : ∃ OUT, flatB q = OUT := ⟨_, rfl⟩
 have HT : Hid (0 < OUT.length ∧ OUT.length ≤ 1000000) := Lib.hid (hO ▸ ⟨h0, hm⟩)
 have HO0 : Hid (flatB (q.drop 0) = OUT) := Lib.hid (by rw [← hO, List.drop_zero])
 rw [hO]
 have HGr : Hid (∀ W : World, Calls Try.prog 75 #[.slice none 0 0, .int .i64 (OUT.length : Int)] W fun e w' => ∃ v, e = .returned v ∧ w'.ownsRow W.heap.size 5 1 v 0 [] ∧ Below W.heap.size W w') := Lib.hid (fun W => growb_any OUT.length HT.out.1 HT.out.2 W)
 clear hb hn hy h0 hm hO
 go_enter Try.func33, Try.ntmps33
 go_wp2
 go_loopw [3, 11] (fun sv iv wr => ∃ i s : Nat, i ≤ n ∧ iv = .int .i64 (i : Int) ∧ sv = .int .i64 (s : Int) ∧ s + (flatB (q.drop i)).length = OUT.length ∧ w = wr) (fun _ iv _ => n - (intOf iv).toNat)
 case atStart => exact ⟨0, 0, Nat.zero_le _, rfl, rfl, by rw [HO0.out]; omega, rfl⟩
 case round =>
  obtain ⟨i, s, hi', rfl, rfl, hsum, rfl⟩ := hrel
  have HSm := Lib.hid hsum
  clear hsum
  by_cases hlt : i < n
  ·have hil : i < q.length := by rw [HN.out]; exact hlt
   obtain ⟨⟨⟨B, m, c⟩, z⟩, hget⟩ : ∃ x, q[i]? = some x := ⟨_, List.getElem?_eq_getElem hil⟩
   have hix := fun W => Try.ix_bb W gb n n i hlt
   have hcl := HB.out.cellAt (i := i) (v := .slice B m c) (by rw [List.getElem?_map, hget]; rfl)
   have hmem := List.mem_of_getElem? hget
   have hyz := HY.out _ hmem
   have hd : q.drop i = ⟨⟨B, m, c⟩, z⟩ :: q.drop (i + 1) := by
    rw [List.drop_eq_getElem_cons hil]
    congr 1
    have h9 := List.getElem?_eq_getElem hil
    rw [hget] at h9
    exact (Option.some.inj h9).symm
   have HS2 : Hid ((s + m) + (flatB (q.drop (i + 1))).length = OUT.length) := Lib.hid (by
    have h9 := HSm.out
    rw [hd] at h9
    have h8 := hyz.len
    simp only [flatB, encAll, List.length_append] at h9 ⊢
    simp only at h8
    omega)
   have hw : IntKind.i64.wrap ((s : Int) + (m : Int)) = ((s + m : Nat) : Int) := by rw [IntWalk.i64_in _ (by have := HS2.out; have := HT.out.2; omega)]; omega
   have hd0 : decide (((s + m : Nat) : Int) < 0) = false := by simp; omega
   have hd1 : decide ((s : Int) + (m : Int) < 0) = false := by simp; omega
   clear hil hget hd hmem hyz
   go_wp2
   go_roundw
   case rel => exact ⟨i + 1, s + m, by omega, by go_num, by first | rfl | (rw [hw]) | go_num, HS2.out, by first | trivial | rfl⟩
   case measure => simp [intOf]; omega
  ·have e9 : q.drop i = [] := List.drop_of_length_le (by have := HN.out; omega)
   have hse : s = OUT.length := by have h9 := HSm.out; rw [e9] at h9; simpa [flatB, encAll] using h9
   subst hse
   clear e9
   go_wp2_with (first
    | (go_at_call 75; (with_reducible refine (HGr.out _).mono ?_); rintro e w1 ⟨v1, rfl, ho1, hb1⟩; have HO1 := Lib.hid ho1; have HX1 := Lib.hid hb1; clear ho1 hb1))
   go_loopw [6, 27] (fun bv iv wr => ∃ (i : Nat) (ys : List UInt8) (v' : Value), i ≤ n ∧ iv = .int .i64 (i : Int) ∧ v' = bv ∧ ys ++ flatB (q.drop i) = OUT ∧ wr.ownsRow w.heap.size 5 1 v' ys.length (vs ys) ∧ Below w.heap.size w wr) (fun _ iv _ => n - (intOf iv).toNat)
   case atStart => exact ⟨0, [], v1, Nat.zero_le _, rfl, rfl, by rw [HO0.out]; rfl, HO1.out, HX1.out⟩
   case round =>
    obtain ⟨i, ys, v', hi', rfl, rfl, hpq, hown, hx⟩ := hrel
    have HO := Lib.hid hown
    have HX := Lib.hid hx
    have HPQ := Lib.hid hpq
    clear hown hx hpq
    by_cases hlt : i < n
    ·have hil : i < q.length := by rw [HN.out]; exact hlt
     obtain ⟨⟨⟨B, m, c⟩, z⟩, hget⟩ : ∃ x, q[i]? = some x := ⟨_, List.getElem?_eq_getElem hil⟩
     have hix := fun W => Try.ix_bb W gb n n i hlt
     have hcl := (HB.out.through HX.out).cellAt (i := i) (v := .slice B m c) (by rw [List.getElem?_map, hget]; rfl)
     have hmem := List.mem_of_getElem? hget
     have HYz : Hid (By wr (fun _ => True) B m z) := Lib.hid ((HY.out _ hmem).through HX.out)
     have hd : q.drop i = ⟨⟨B, m, c⟩, z⟩ :: q.drop (i + 1) := by
      rw [List.drop_eq_getElem_cons hil]
      congr 1
      have h9 := List.getElem?_eq_getElem hil
      rw [hget] at h9
      exact (Option.some.inj h9).symm
     have HPQ2 : Hid ((ys ++ z) ++ flatB (q.drop (i + 1)) = OUT) := Lib.hid (by rw [← HPQ.out, hd]; simp [flatB, encAll])
     have HBD : Hid (ys.length + m ≤ 140737488355328) := Lib.hid (by have h9 := congrArg List.length HPQ2.out; simp only [List.length_append] at h9; have h8 := HYz.out.len; have := HT.out.2; omega)
     clear hil hget hd hmem
     go_wp2_with (first
      | (at_builtin; refine wpList_append_by _ rfl (.tmp 31) (.tmp 32) 28 rfl w.heap.size i0 Try.underlying28 hi hz0 hz1 hz2 v' ys.length (vs ys) rfl HO.out (fun _ => True) B m c z rfl HYz.out HBD.out HX.out.size ?_; intro v6 w6 hown6 hgrow6 _; have HN6 : Hid (w6.ownsRow w.heap.size 5 1 v6 (ys ++ z).length (vs (ys ++ z))) := Lib.hid (by rw [List.length_append, ← vs_append, HYz.out.len]; exact hown6); have HX6 : Hid (Below w.heap.size w w6) := Lib.hid (HX.out.grown hgrow6 HX.out.size (fun g hg => (HO.out.lt g hg).1)); clear hown6 hgrow6))
     go_roundw
     case rel => exact ⟨i + 1, ys ++ z, v6, by omega, by go_num, rfl, HPQ2.out, HN6.out, HX6.out⟩
     case measure => simp [intOf]; omega
    ·have e9 : q.drop i = [] := List.drop_of_length_le (by have := HN.out; omega)
     have HE : Hid (ys = OUT) := Lib.hid (by rw [← HPQ.out, e9]; simp [flatB, encAll])
     clear e9
     obtain ⟨A7, c7, rfl, hn7, hm7, _⟩ := own_form HO.out
     go_wp2
     go_ret
     rw [← HE.out]
     exact ⟨A7, _, c7, rfl, (By.of_own HO.out).weak fun _ _ => trivial, hn7, hm7, HX.out⟩

end Go.Proofs.Ytheecifgbkdecaa

namespace Go.Proofs.Ytheecifgbkdecaa
open Go.RowKit

theorem Try.cagg_pos (w : World) : (isAgg 22).run Try.prog w = .ok false w := by kernel_rfl
theorem Try.cagg_pfs (w : World) : (isAgg 23).run Try.prog w = .ok false w := by kernel_rfl
theorem Try.run_b4s (A B C D : Option Addr) (a b c d a' b' c' d' : Nat) (w : World) : (Instr.buildSlice 109 4 #[(0, .slice A a a'), (1, .slice B b b'), (2, .slice C c c'), (3, .slice D d d')]).run Try.prog w = .ok (.slice (some ⟨w.heap.size, 0, none⟩) 4 4) (w.alloc (.cells #[.slice A a a', .slice B b b', .slice C c c', .slice D d d'] 28)) := by kernel_rfl
set_option maxHeartbeats 16000000 in
set_option maxRecDepth 100000 in
theorem bytes18_any (c : Ch) (P Q R : Pl) (w : World) (h : ChIn w P Q R c) (hf : fewCh c = true) :
  Calls Try.prog 10 #[.agg (Ch.cells c P Q R).toArray] w (Byt w (encCh c)) := by
 have HB : Hid (Blk (w.alloc (.cells (Ch.cells c P Q R).toArray 25)) w.heap.size 25 (Ch.cells c P Q R)) := Lib.hid (Blk.fresh rfl rfl)
 have HX : Hid (Below w.heap.size w (w.alloc (.cells (Ch.cells c P Q R).toArray 25))) := Lib.hid (below1_ w _)
 have hlen := encCh_len hf h.1.1.2
 obtain ⟨f1, f2, f3⟩ := fewCh_low hf
 have hL : (encPos c.po).length ≤ 1000000 ∧ (encPfs c.pp).length ≤ 1000000 ∧ (encPfs c.pd).length ≤ 1000000 := by
  unfold encCh at hlen
  simp only [List.length_append, beB_length] at hlen
  omega
 have hl1 : P.2.1 ≤ 60000 := by rw [← h.1.1.len]; omega
 have hl2 : Q.2.1 ≤ 60000 := by rw [← h.2.1.1.len]; omega
 have hl3 : R.2.1 ≤ 60000 := by rw [← h.2.2.1.len]; omega
 have HNu : Hid (∀ (W : World) (g : Nat), Blk W g 2 [.int .i64 c.vw, .int .i64 c.lw] → Calls Try.prog 34 #[.slice (some ⟨g, 0, none⟩) 2 2] W (MadeS W 16 (beB (u64N c.vw) 8 ++ beB (u64N c.lw) 8))) := Lib.hid (fun W g h => numbers_two c.vw c.lw g W h)
 have HR1 : Hid (∀ W : World, Below (w.alloc (.cells (Ch.cells c P Q R).toArray 25)).heap.size (w.alloc (.cells (Ch.cells c P Q R).toArray 25)) W → Calls Try.prog 35 #[.slice P.1 P.2.1 P.2.2, .func (.func 36) #[] #[]] W (Byt W (encPos c.po))) := Lib.hid (fun W hW => rowpo_any c.po P.1 P.2.1 P.2.2 W (h.1.1.through (below_step HX.out hW)) hl1 (by omega))
 have HR2 : Hid (∀ W : World, Below (w.alloc (.cells (Ch.cells c P Q R).toArray 25)).heap.size (w.alloc (.cells (Ch.cells c P Q R).toArray 25)) W → Calls Try.prog 37 #[.slice Q.1 Q.2.1 Q.2.2, .func (.func 38) #[] #[]] W (Byt W (encPfs c.pp))) := Lib.hid (fun W hW => rowpf_any c.pp Q.1 Q.2.1 Q.2.2 W (h.2.1.1.through (below_step HX.out hW)) hl2 (fun p hp => Low.of_few (f1.2 p hp)) (by omega))
 have HR3 : Hid (∀ W : World, Below (w.alloc (.cells (Ch.cells c P Q R).toArray 25)).heap.size (w.alloc (.cells (Ch.cells c P Q R).toArray 25)) W → Calls Try.prog 37 #[.slice R.1 R.2.1 R.2.2, .func (.func 38) #[] #[]] W (Byt W (encPfs c.pd))) := Lib.hid (fun W hW => rowpf_any c.pd R.1 R.2.1 R.2.2 W (h.2.2.1.through (below_step HX.out hW)) hl3 (fun p hp => Low.of_few (f2.2 p hp)) (by omega))
 obtain ⟨OUT, hO⟩ : ∃ OUT, encCh c = OUT := ⟨_, rfl⟩
 have HCo : Hid (∀ (W : World) (g : Nat) (A B C D : Option Addr) (a b e d a' b' e' d' : Nat), Blk W g 28 [.slice A a a', .slice B b b', .slice C e e', .slice D d d'] → By W (fun _ => True) A a (beB (u64N c.vw) 8 ++ beB (u64N c.lw) 8) → By W (fun _ => True) B b (encPos c.po) → By W (fun _ => True) C e (encPfs c.pp) → By W (fun _ => True) D d (encPfs c.pd) → Calls Try.prog 33 #[.slice (some ⟨g, 0, none⟩) 4 4] W (Byt W OUT)) := Lib.hid (fun W g A B C D a b e d a' b' e' d' h1 h2 h3 h4 h5 => by
  have hfl : flatB [((A, a, a'), (beB (u64N c.vw) 8 ++ beB (u64N c.lw) 8)), ((B, b, b'), encPos c.po), ((C, e, e'), encPfs c.pp), ((D, d, d'), encPfs c.pd)] = OUT := by rw [← hO]; simp [flatB, encAll, encCh]
  have h9 := concatb_any [((A, a, a'), (beB (u64N c.vw) 8 ++ beB (u64N c.lw) 8)), ((B, b, b'), encPos c.po), ((C, e, e'), encPfs c.pp), ((D, d, d'), encPfs c.pd)] g 4 W rfl (by omega) h1 (fun x hx => by
   simp only [List.mem_cons, List.not_mem_nil, or_false] at hx
   rcases hx with rfl | rfl | rfl | rfl
   ·exact h2
   ·exact h3
   ·exact h4
   ·exact h5) (by rw [hfl, ← hO]; simp only [encCh, List.length_append, beB_length]; omega) (by rw [hfl, ← hO]; omega)
  rw [hfl] at h9
  exact h9)
 rw [hO]
 clear h hf hlen f1 f2 f3 hL hl1 hl2 hl3 hO
 go_enter Try.func10, Try.ntmps10
 go_wp2
 try dsimp only [Act.put]
 refine wp_region_held_drew (S := fun W => Below (w.alloc (.cells (Ch.cells c P Q R).toArray 25)).heap.size (w.alloc (.cells (Ch.cells c P Q R).toArray 25)) W) (by kernel_rfl) (Below.refl _ _).drew (fun hHeld => ?_)
 change wpAnyH _ _ _ _ _ _ #[false, false, false, false, false, false, false, false, false, false, false, false, false, false, false, false, false, false] _ _
 refine tkq (i := 0) (d := 3) (v := (.pointer (some ⟨w.heap.size, 0, none⟩))) rfl rfl (Or.inl ⟨by kernel_rfl, fun w hSw => ?_⟩) (by assumption) ?_
 ·(try dsimp only at hSw); go_simp <;> (try rfl)
 simp only [Act.put, sq1, sq2, sq3]
 refine tkq (i := 1) (d := 4) (v := (.int .i64 c.vw)) rfl rfl (yields_load_at (by kernel_rfl) 2 (.tmp 3) rfl (.pointer (some ⟨w.heap.size, 0, none⟩)) (by simp [Act.eval]) (.int .i64 c.vw) (fun W hW => load_one' (Try.agg_i64 W) ((HB.out.through hW).cellAt (i := 0) rfl))) (by assumption) ?_
 simp only [Act.put, sq1, sq2, sq3]
 refine tkq (i := 2) (d := 5) (v := (.pointer (some ⟨w.heap.size, 1, none⟩))) rfl rfl (Or.inl ⟨by kernel_rfl, fun w hSw => ?_⟩) (by assumption) ?_
 ·(try dsimp only at hSw); go_simp <;> (try rfl)
 simp only [Act.put, sq1, sq2, sq3]
 refine tkq (i := 3) (d := 6) (v := (.int .i64 c.lw)) rfl rfl (yields_load_at (by kernel_rfl) 2 (.tmp 5) rfl (.pointer (some ⟨w.heap.size, 1, none⟩)) (by simp [Act.eval]) (.int .i64 c.lw) (fun W hW => load_one' (Try.agg_i64 W) ((HB.out.through hW).cellAt (i := 1) rfl))) (by assumption) ?_
 simp only [Act.put, sq1, sq2, sq3]
 refine tkq (i := 6) (d := 9) (v := (.pointer (some ⟨w.heap.size, 2, none⟩))) rfl rfl (Or.inl ⟨by kernel_rfl, fun w hSw => ?_⟩) (by assumption) ?_
 ·(try dsimp only at hSw); go_simp <;> (try rfl)
 simp only [Act.put, sq1, sq2, sq3]
 refine tkq (i := 7) (d := 10) (v := (.slice P.1 P.2.1 P.2.2)) rfl rfl (yields_load_at (by kernel_rfl) 22 (.tmp 9) rfl (.pointer (some ⟨w.heap.size, 2, none⟩)) (by simp [Act.eval]) (.slice P.1 P.2.1 P.2.2) (fun W hW => load_one' (Try.cagg_pos W) ((HB.out.through hW).cellAt (i := 2) rfl))) (by assumption) ?_
 simp only [Act.put, sq1, sq2, sq3]
 refine tkq (i := 9) (d := 12) (v := (.pointer (some ⟨w.heap.size, 3, none⟩))) rfl rfl (Or.inl ⟨by kernel_rfl, fun w hSw => ?_⟩) (by assumption) ?_
 ·(try dsimp only at hSw); go_simp <;> (try rfl)
 simp only [Act.put, sq1, sq2, sq3]
 refine tkq (i := 10) (d := 13) (v := (.slice Q.1 Q.2.1 Q.2.2)) rfl rfl (yields_load_at (by kernel_rfl) 23 (.tmp 12) rfl (.pointer (some ⟨w.heap.size, 3, none⟩)) (by simp [Act.eval]) (.slice Q.1 Q.2.1 Q.2.2) (fun W hW => load_one' (Try.cagg_pfs W) ((HB.out.through hW).cellAt (i := 3) rfl))) (by assumption) ?_
 simp only [Act.put, sq1, sq2, sq3]
 refine tkq (i := 12) (d := 15) (v := (.pointer (some ⟨w.heap.size, 4, none⟩))) rfl rfl (Or.inl ⟨by kernel_rfl, fun w hSw => ?_⟩) (by assumption) ?_
 ·(try dsimp only at hSw); go_simp <;> (try rfl)
 simp only [Act.put, sq1, sq2, sq3]
 refine tkq (i := 13) (d := 16) (v := (.slice R.1 R.2.1 R.2.2)) rfl rfl (yields_load_at (by kernel_rfl) 23 (.tmp 15) rfl (.pointer (some ⟨w.heap.size, 4, none⟩)) (by simp [Act.eval]) (.slice R.1 R.2.1 R.2.2) (fun W hW => load_one' (Try.cagg_pfs W) ((HB.out.through hW).cellAt (i := 4) rfl))) (by assumption) ?_
 simp only [Act.put, sq1, sq2, sq3]
 refine wpAnyH_ready (rs := [4]) (by kernel_rfl) (by simp) ?_
 refine AllReadyH.cons (o := ⟨some 7, .buildSlice 111 2 #[(0, .tmp 4), (1, .tmp 6)], _, _, _, none⟩) rfl (fun K hK => ?_) AllReadyH.nil
 refine step_build2_w rfl 111 2 (.tmp 4) (.tmp 6) rfl (.int .i64 c.vw) (.int .i64 c.lw) (by simp [Act.eval]) (by simp [Act.eval]) (Try.run_b2i c.vw c.lw _) ?_; intro gx wx hbx hxx; have HBx := Lib.hid hbx; have HKx := Lib.hid (below_step hHeld hxx); clear hbx hxx
 refine hK.out _ _ HKx.out (fun hHeld1 => ?_)
 clear hHeld hK K
 have hHeld := hHeld1
 clear hHeld1
 change wpAnyH _ _ _ _ _ _ _ (Act.put _ (some (7 : Nat)) (.slice (some ⟨gx, 0, none⟩) 2 2)) _
 simp only [Act.put, sq1, sq2, sq3]
 refine wpAnyH_ready (rs := [5]) (by kernel_rfl) (by simp) ?_
 refine AllReadyH.cons rfl (fun K hK => ?_) AllReadyH.nil
 go_simp
 refine (HNu.out _ _ HBx.out).mono ?_
 rintro e wp ⟨Ap, cp, rfl, _, hyp, _, _, hbp⟩; have HYpp := Lib.hid hyp; have HKp := Lib.hid (below_step hHeld hbp); clear hyp hbp
 go_wp2_with fail
 refine hK.out _ _ HKp.out (fun hHeld1 => ?_)
 clear hHeld hK K
 have hHeld := hHeld1
 clear hHeld1
 refine wpAnyH_ready (rs := [8]) (by kernel_rfl) (by simp) ?_
 refine AllReadyH.cons rfl (fun K hK => ?_) AllReadyH.nil
 go_simp
 refine (HR1.out _ hHeld).mono ?_
 rintro e wq ⟨Aq, nq, cq, rfl, hyq, _, _, hbq⟩; have HYqq := Lib.hid hyq; have HYpq := Lib.hid (HYpp.out.through hbq); have HKq := Lib.hid (below_step hHeld hbq); clear hyq hbq
 go_wp2_with fail
 refine hK.out _ _ HKq.out (fun hHeld1 => ?_)
 clear hHeld hK K
 have hHeld := hHeld1
 clear hHeld1
 refine wpAnyH_ready (rs := [11]) (by kernel_rfl) (by simp) ?_
 refine AllReadyH.cons rfl (fun K hK => ?_) AllReadyH.nil
 go_simp
 refine (HR2.out _ hHeld).mono ?_
 rintro e wr ⟨Ar, nr, cr, rfl, hyr, _, _, hbr⟩; have HYrr := Lib.hid hyr; have HYpr := Lib.hid (HYpq.out.through hbr); have HYqr := Lib.hid (HYqq.out.through hbr); have HKr := Lib.hid (below_step hHeld hbr); clear hyr hbr
 go_wp2_with fail
 refine hK.out _ _ HKr.out (fun hHeld1 => ?_)
 clear hHeld hK K
 have hHeld := hHeld1
 clear hHeld1
 refine wpAnyH_ready (rs := [14]) (by kernel_rfl) (by simp) ?_
 refine AllReadyH.cons rfl (fun K hK => ?_) AllReadyH.nil
 go_simp
 refine (HR3.out _ hHeld).mono ?_
 rintro e ws ⟨As, ns, cs, rfl, hys, _, _, hbs⟩; have HYss := Lib.hid hys; have HYps := Lib.hid (HYpr.out.through hbs); have HYqs := Lib.hid (HYqr.out.through hbs); have HYrs := Lib.hid (HYrr.out.through hbs); have HKs := Lib.hid (below_step hHeld hbs); clear hys hbs
 go_wp2_with fail
 refine hK.out _ _ HKs.out (fun hHeld1 => ?_)
 clear hHeld hK K
 have hHeld := hHeld1
 clear hHeld1
 refine wpAnyH_ready (rs := [15]) (by kernel_rfl) (by simp) ?_
 refine AllReadyH.cons (o := ⟨some 18, .buildSlice 109 4 #[(0, .tmp 8), (1, .tmp 11), (2, .tmp 14), (3, .tmp 17)], _, _, _, none⟩) rfl (fun K hK => ?_) AllReadyH.nil
 refine step_build4_w rfl 109 28 (.tmp 8) (.tmp 11) (.tmp 14) (.tmp 17) rfl (.slice Ap 16 cp) (.slice Aq nq cq) (.slice Ar nr cr) (.slice As ns cs) (by simp [Act.eval]) (by simp [Act.eval]) (by simp [Act.eval]) (by simp [Act.eval]) (Try.run_b4s _ _ _ _ _ _ _ _ _ _ _ _ _) ?_; intro gy wy hby hxy; have HBy := Lib.hid hby; have HYpy := Lib.hid (HYps.out.through hxy); have HYqy := Lib.hid (HYqs.out.through hxy); have HYry := Lib.hid (HYrs.out.through hxy); have HYsy := Lib.hid (HYss.out.through hxy); have HKy := Lib.hid (below_step hHeld hxy); clear hby hxy
 refine hK.out _ _ HKy.out (fun hHeld1 => ?_)
 clear hHeld hK K
 have hHeld := hHeld1
 clear hHeld1
 change wpAnyH _ _ _ _ _ _ _ (Act.put _ (some (18 : Nat)) (.slice (some ⟨gy, 0, none⟩) 4 4)) _
 simp only [Act.put, sq1, sq2, sq3]
 refine wpAnyH_ready (rs := [16]) (by kernel_rfl) (by simp) ?_
 refine AllReadyH.cons rfl (fun K hK => ?_) AllReadyH.nil
 go_simp
 refine (HCo.out _ _ _ _ _ _ _ _ _ _ _ _ _ _ HBy.out HYpy.out HYqy.out HYry.out HYsy.out).mono ?_
 rintro e wz ⟨Az, nz, cz, rfl, hyz, hcz, hmz, hbz⟩; have HYz := Lib.hid hyz; have HCz := Lib.hid (And.intro hcz hmz); have HKz := Lib.hid (below_step hHeld hbz); clear hyz hcz hmz hbz
 go_wp2_with fail
 refine hK.out _ _ HKz.out (fun hHeld1 => ?_)
 clear hHeld hK K
 have hHeld := hHeld1
 clear hHeld1
 refine tkq (i := 17) (d := 2) (v := (.slice Az nz cz)) rfl rfl (Or.inl ⟨by kernel_rfl, fun w hSw => ?_⟩) (by assumption) ?_
 ·(try dsimp only at hSw); go_simp <;> (try rfl)
 simp only [Act.put, sq1, sq2, sq3]
 refine wpAnyH_done (by kernel_rfl) ?_ _
 have HXc := Lib.hid (below_step HX.out hHeld)
 clear hHeld
 go_wp2
 go_ret
 exact ⟨Az, nz, cz, rfl, HYz.out, HCz.out.1, HCz.out.2, HXc.out⟩

end Go.Proofs.Ytheecifgbkdecaa
