/-
  CwN
-/
import Derived.RegionTactic
import Derived.ChangeAlike
import Derived.StillTailTactics
import Derived.Deep.QuietTactic
import Derived.Outline
import Derived.Recover
import Derived.Test.YtheecifgbkdecaaSD39
import Derived.Test.YtheecifgbkdecaaSD29
namespace Go.Proofs.Ytheecifgbkdecaa
open Go.RowKit

theorem leaves_congr {P : Program} {fn : Func} {tmps tmps' : Array Value} {R : Ending → World → Prop} (he : ∀ w, (results fn tmps).run P w = (results fn tmps').run P w) : ∀ (ds : List Deferred) (u : FrameMode) (w : World), Leaves P fn tmps R ds u w → Leaves P fn tmps' R ds u w
  | [], .returning, w, ⟨v, h1, h2⟩ => ⟨v, (he w).symm.trans h1, h2⟩
  | [], .panicking _, _, h => h
  | [], .run, _, h => h
  | _ :: ds, _, _, ⟨hu, fv, cap, f, args, h1, h2, h3⟩ => ⟨hu, fv, cap, f, args, h1, h2, h3.mono (fun e u' w' h => by
      cases e with
      | returned v => exact leaves_congr he ds _ _ h
      | panicked c => exact leaves_congr he ds _ _ h
      | outgrown => exact h)⟩
/-- A panic of Digest: which slot was written last is all one. -/
theorem dig_panic {R : Ending → World → Prop} {c : List PanicEntry} {d : Tmp} (hd : d ≠ 4) {v : Value} {a : Act} {w : World} (h : bodyPostD Try.prog Try.f19 R (.panic c) (a.put (some d) v) w) : bodyPostD Try.prog Try.f19 R (.panic c) a w :=
  leaves_congr (fun w => by
    have e : (a.put (some d) v).tmps[4]? = a.tmps[4]? := by
      simp only [Act.put]
      rw [Array.getElem?_setIfInBounds_ne hd]
    simp [results, Try.results19, e]) _ _ _ h
theorem dig1_idle (p : Value) (w : World) :
    CallsD Try.prog 63 #[p] .returning w fun e u' w' => e = .returned (.tuple #[]) ∧ u' = .returning ∧ w' = w := by
  refine callsD_of_wpS Try.func63 rfl fun c₀ cs hu => ?_
  apply wpS_seq
  apply wpS_region
  simp [wpOpsS, go_sem, recoverD, hu, Try.ntmps63, Exit.thenS]
  refine wpS_cond (t := false) (by simp [Act.eval, Array.replicate]) ?_
  simp only [Bool.false_eq_true, if_false]
  refine wpS_of_wp (wp_skip ?_)
  cases c₀
  simp_all [bodyPostS, results, Try.results63]
theorem Try.zero_dig (w : World) : (zeroValue 40).run Try.prog w = .ok (.agg (vs zero32).toArray) w := by kernel_rfl

set_option maxHeartbeats 16000000 in
set_option maxRecDepth 100000 in
theorem digestcw : DigestCW := by
  intro g ds c P Q R w h hd hI hf
  have hmf : ∀ (fn : Fn) (first cap : Array Value) (w : World), (Instr.makeFunc fn first cap).run Try.prog w = .ok (.func fn first cap) w := fun _ _ _ _ => rfl
  have HGL := Lib.hid h.lt
  obtain ⟨r1, hr1⟩ : ∃ r1, r1 = vs zero32 := ⟨_, rfl⟩
  have hz : ∀ W, (zeroValue 40).run Try.prog W = .ok (.agg r1.toArray) W := fun W => by rw [hr1]; exact Try.zero_dig W
  have HR1l : Hid (r1.length = 32) := Lib.hid (by rw [hr1]; rfl)
  obtain ⟨r2, hr2⟩ : ∃ r2, r2 = vs (digX (encCh c) ds) := ⟨_, rfl⟩
  have HR2l : Hid (r2.length = 32) := Lib.hid (by rw [hr2, vs_length]; exact numB_length _ _)
  have HR2o : Hid (r2.toArray.all (·.oneCell') = true) := Lib.hid (by rw [hr2]; exact one_u8)
  rw [← hr2]
  have HX0 : Hid (Below w.heap.size w ((w.alloc (.cells (Ch.cells c P Q R).toArray 25)).alloc (.cells r1.toArray 40))) := Lib.hid ((below1_ w _).alloc (below1_ w _).size _)
  have HBy : Hid (∀ W : World, Below ((w.alloc (.cells (Ch.cells c P Q R).toArray 25)).alloc (.cells r1.toArray 40)).heap.size ((w.alloc (.cells (Ch.cells c P Q R).toArray 25)).alloc (.cells r1.toArray 40)) W → Calls Try.prog 10 #[.agg (Ch.cells c P Q R).toArray] W (Byt W (encCh c))) := Lib.hid (fun W hW => bytes18_any c P Q R W (hI.through (below_step HX0.out hW)) hf)
  have HDg : Hid (∀ (W : World) (B : Option Addr) (n d : Nat), BS W g ds [] → By W (fun _ => True) B n (encCh c) → Calls Try.prog 133 #[.pointer (some ⟨g, 0, none⟩), .int .i64 102, .slice B n d] W fun e w' => e = .returned (.agg r2.toArray) ∧ BS w' g (also (kb 102, encCh c) ds) [] ∧ KF g W w') := Lib.hid (fun W B n d hS hY => by
    rw [hr2]
    exact bdig_any (fun _ => True) g ds [] 102 (encCh c) B n d W hS hY (by omega))
  have HC0 : Hid (Blk ((w.alloc (.cells (Ch.cells c P Q R).toArray 25)).alloc (.cells r1.toArray 40)) w.heap.size 25 (Ch.cells c P Q R)) := Lib.hid ((Blk.fresh rfl rfl : Blk (w.alloc (.cells (Ch.cells c P Q R).toArray 25)) w.heap.size 25 (Ch.cells c P Q R)).alloc _)
  have HA0 : Hid (Blk ((w.alloc (.cells (Ch.cells c P Q R).toArray 25)).alloc (.cells r1.toArray 40)) (w.heap.size + 1) 40 r1) := Lib.hid (Blk.fresh (by simp) rfl)
  have HS0 : Hid (BS ((w.alloc (.cells (Ch.cells c P Q R).toArray 25)).alloc (.cells r1.toArray 40)) g ds []) := Lib.hid (h.through HX0.out)
  clear h hI hf hd hr1 hr2
  go_enter_defers Try.func19, Try.ntmps19
  go_upto_region 4 with fail
  have HBy1 := Lib.hid (HBy.out _ (Below.refl _ _).drew)
  generalize hw1 : ((w.alloc (.cells (Ch.cells c P Q R).toArray 25)).alloc (.cells r1.toArray 40)) = w1 at *
  clear hw1
  have HA1 := Lib.hid HA0.out.drew
  have HC1 := Lib.hid HC0.out.drew
  have HX1 := Lib.hid HX0.out.drew
  have HS1 := Lib.hid HS0.out.drew
  refine wp_region_held_drew (S := fun W => W.rangeAt w.heap.size 0 (Ch.cells c P Q R)) (by kernel_rfl) HC1.out.whole_ (fun hHeld => ?_)
  change wpAnyH _ _ _ _ _ _ #[false, false, false, false, false, false, false] _ _
  refine wpAnyH_take (i := 0) (v := (.iface 37 (.pointer (some ⟨g, 0, none⟩)))) rfl (by kernel_rfl) (by kernel_rfl) (by kernel_rfl) (fun _ _ _ h => dig_panic (d := 9) (by decide) h) (Or.inl ⟨by kernel_rfl, fun w hSw => ?_⟩) (by assumption) ?_
  · (try dsimp only at hSw); go_simp <;> (try rfl)
  change wpAnyH _ _ _ _ _ _ _ (Act.put _ (some (9 : Nat)) (.iface 37 (.pointer (some ⟨g, 0, none⟩)))) _
  simp only [Act.put, List.setIfInBounds_toArray, List.set_cons_zero, List.set_cons_succ]
  refine wpAnyH_take (i := 1) (v := (.agg (Ch.cells c P Q R).toArray)) rfl (by kernel_rfl) (by kernel_rfl) (by kernel_rfl) (fun _ _ _ h => dig_panic (d := 10) (by decide) h) (yieldsIf_load_mid (by kernel_rfl) 25 (.tmp 3) rfl w.heap.size 0 (by simp [Act.eval]) (Ch.cells c P Q R) _ (fun W hW => hW) Try.underlying25 rfl (by kernel_rfl)) (by assumption) ?_
  change wpAnyH _ _ _ _ _ _ _ (Act.put _ (some (10 : Nat)) (.agg (Ch.cells c P Q R).toArray)) _
  simp only [Act.put, List.setIfInBounds_toArray, List.set_cons_zero, List.set_cons_succ]
  refine wpAnyH_take (i := 3) (v := (.iface 37 (.pointer (some ⟨g, 0, none⟩)))) rfl (by kernel_rfl) (by kernel_rfl) (by kernel_rfl) (fun _ _ _ h => dig_panic (d := 12) (by decide) h) (Or.inl ⟨by kernel_rfl, fun w hSw => ?_⟩) (by assumption) ?_
  · (try dsimp only at hSw); go_simp <;> (try rfl)
  change wpAnyH _ _ _ _ _ _ _ (Act.put _ (some (12 : Nat)) (.iface 37 (.pointer (some ⟨g, 0, none⟩)))) _
  simp only [Act.put, List.setIfInBounds_toArray, List.set_cons_zero, List.set_cons_succ]
  refine wpAnyH_take (i := 4) (v := (.iface 37 (.pointer (some ⟨g, 0, none⟩)))) rfl (by kernel_rfl) (by kernel_rfl) (by kernel_rfl) (fun _ _ _ h => dig_panic (d := 13) (by decide) h) (Or.inl ⟨by kernel_rfl, fun w hSw => ?_⟩) (by assumption) ?_
  · (try dsimp only at hSw); go_simp <;> (try rfl)
  change wpAnyH _ _ _ _ _ _ _ (Act.put _ (some (13 : Nat)) (.iface 37 (.pointer (some ⟨g, 0, none⟩)))) _
  simp only [Act.put, List.setIfInBounds_toArray, List.set_cons_zero, List.set_cons_succ]
  refine wpAnyH_ready (rs := [2]) (by kernel_rfl) (by simp) ?_
  refine AllReadyH.cons rfl (fun K hK => ?_) AllReadyH.nil
  go_simp
  refine (HBy1.out).mono ?_
  rintro e w2 ⟨A2, n2, d2, rfl, hy2, _, _, hb2⟩; have HY2 := Lib.hid hy2; have HK2 := Lib.hid hb2; have HC2 := Lib.hid (HC1.out.through hb2); clear hy2 hb2
  go_wp2_with fail
  refine hK.out _ _ HC2.out.whole_ (fun hHeld1 => ?_)
  clear hHeld hK K
  have hHeld := hHeld1
  clear hHeld1
  refine wpAnyH_ready (rs := [5]) (by kernel_rfl) (by simp) ?_
  refine AllReadyH.cons rfl (fun K hK => ?_) AllReadyH.nil
  go_simp
  refine (HDg.out _ A2 n2 d2 (HS1.out.through HK2.out) HY2.out).mono ?_
  rintro e w3 ⟨rfl, hs3, hk3⟩; have HS3 := Lib.hid hs3; have HC3 := Lib.hid (hk3.blk HC2.out (Nat.ne_of_gt HGL.out)); have HA3 := Lib.hid (hk3.blk (HA1.out.through HK2.out) (by have := HGL.out; omega)); have HX3 := Lib.hid (((KF.of_below HGL.out (HX1.out.trans (HK2.out.mono HX1.out.size)))).trans hk3); clear hs3 hk3
  go_wp2_with fail
  refine hK.out _ _ HC3.out.whole_ (fun hHeld1 => ?_)
  clear hHeld hK K
  have hHeld := hHeld1
  clear hHeld1
  refine wpAnyH_ready (rs := [6]) (by kernel_rfl) (by simp) ?_
  refine AllReadyH.cons (o := ⟨none, .store 40 (.tmp 4) (.tmp 14), _, _, _, none⟩) rfl (fun K hK => ?_) AllReadyH.nil
  refine step_store_blk rfl 40 (.tmp 4) (.tmp 14) rfl (w.heap.size + 1) r2 (by simp [Act.eval]) (by simp [Act.eval]) 40 r1 HA3.out (by rw [HR2l.out]; kernel_rfl) (by rw [HR1l.out, HR2l.out]) HR2o.out ?_; intro w4 hb4 hg4; have HA4 := Lib.hid hb4; have HC4 := Lib.hid (HC3.out.grown hg4 (by simp)); have HS4 := Lib.hid (HS3.out.grown HA3.out hg4 (by have := HGL.out; omega)); have HX4 := Lib.hid (HX3.out.grownB hg4 (by omega) HGL.out); clear hb4 hg4
  refine hK.out _ _ HC4.out.whole_ (fun hHeld1 => ?_)
  clear hHeld hK K
  have hHeld := hHeld1
  clear hHeld1
  change wpAnyH _ _ _ _ _ _ _ (Act.put _ none undef) _
  simp only [Act.put]
  refine wpAnyH_done (by kernel_rfl) ?_ _
  go_wp2
  refine leaves_cons (f := 63) (args := #[.pointer (some ⟨w.heap.size + 1, 0, none⟩)]) (by simp) (by simp [go_sem]) ?_
  refine (dig1_idle _ _).mono ?_
  rintro e u' w'' ⟨rfl, rfl, rfl⟩
  refine ⟨_, results_cell_row rfl _ _ (w.heap.size + 1) 40 _ (0, 0) _ rfl HA4.out Try.underlying40 rfl ?r1, rfl, HS4.out, HX4.out⟩
  rw [List.size_toArray, HR2l.out]; kernel_rfl

end Go.Proofs.Ytheecifgbkdecaa
