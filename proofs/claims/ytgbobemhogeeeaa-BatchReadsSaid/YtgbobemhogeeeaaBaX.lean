/-
  Digests of batches by a book.
-/
import Derived.Test.YtgbobemhogeeeaaBaB
import Derived.Test.YtgbobemhogeeeaaBDig
import Derived.RegionTactic
import Derived.ChangeAlike
import Derived.StillTailTactics
import Derived.Deep.QuietTactic
import Derived.Outline
import Derived.Recover
namespace Go.Proofs.Ytgbobemhogeeeaa
open Go.RowKit

theorem leaves_congr {P : Program} {fn : Func} {tmps tmps' : Array Value} {R : Ending → World → Prop} (he : ∀ w, (results fn tmps).run P w = (results fn tmps').run P w) : ∀ (ds : List Deferred) (u : FrameMode) (w : World), Leaves P fn tmps R ds u w → Leaves P fn tmps' R ds u w
  | [], .returning, w, ⟨v, h1, h2⟩ => ⟨v, (he w).symm.trans h1, h2⟩
  | [], .panicking _, _, h => h
  | [], .run, _, h => h
  | _ :: ds, _, _, ⟨hu, fv, cap, f, args, h1, h2, h3⟩ => ⟨hu, fv, cap, f, args, h1, h2, h3.mono (fun e u' w' h => by
      cases e with
      | returned v => exact leaves_congr he ds _ _ h
      | panicked c => exact leaves_congr he ds _ _ h
      | outgrown => exact h)⟩
/-- A panic of Digest: which slot was written last is all one. -/
theorem dig_panic {R : Ending → World → Prop} {c : List PanicEntry} {d : Tmp} (hd : d ≠ 4) {v : Value} {a : Act} {w : World} (h : bodyPostD Try.prog Try.f40 R (.panic c) (a.put (some d) v) w) : bodyPostD Try.prog Try.f40 R (.panic c) a w :=
  leaves_congr (fun w => by
    have e : (a.put (some d) v).tmps[4]? = a.tmps[4]? := by
      simp only [Act.put]
      rw [Array.getElem?_setIfInBounds_ne hd]
    simp [results, Try.results40, e]) _ _ _ h
theorem dig1_idle (p : Value) (w : World) :
    CallsD Try.prog 69 #[p] .returning w fun e u' w' => e = .returned (.tuple #[]) ∧ u' = .returning ∧ w' = w := by
  refine callsD_of_wpS Try.func69 rfl fun c₀ cs hu => ?_
  apply wpS_seq
  apply wpS_region
  simp [wpOpsS, go_sem, recoverD, hu, Try.ntmps69, Exit.thenS]
  refine wpS_cond (t := false) (by simp [Act.eval, Array.replicate]) ?_
  simp only [Bool.false_eq_true, if_false]
  refine wpS_of_wp (wp_skip ?_)
  cases c₀
  simp_all [bodyPostS, results, Try.results69]
theorem Try.zero_dig (w : World) : (zeroValue 83).run Try.prog w = .ok (.agg (vs zero32).toArray) w := by kernel_rfl
/-- what a book tells of a batch -/
def digB (es : List Ey) (ds : List DK) : List UInt8 := numB (kb 101) (ord (kb 101, encB es) (also (kb 101, encB es) ds))

set_option maxHeartbeats 8000000 in
set_option maxRecDepth 100000 in
theorem digest_book (g : Nat) (ds : List DK) (ts : List TK) (es : List Ey) (A : Option Addr) (k c : Nat) (w : World) (h : BS w g ds ts) (hI : EysIn w A k es) (hk : k ≤ 1000000) (hl : ∀ y ∈ es, y.co.lt.length ≤ 1000000 ∧ y.co.tx.length ≤ 1000000) (hL : (encB es).length ≤ 100000000000) (hd : ds.length < 1000000000) :
    Calls Try.prog 40 #[(.iface 53 (.pointer (some ⟨g, 0, none⟩))), .slice A k c] w fun e w' => e = .returned (.agg (vs (digB es ds)).toArray) ∧ BS w' g (also (kb 101, encB es) ds) ts ∧ KF g w w' := by
  have hmf : ∀ (fn : Fn) (first cap : Array Value) (w : World), (Instr.makeFunc fn first cap).run Try.prog w = .ok (.func fn first cap) w := fun _ _ _ _ => rfl
  have HGL := Lib.hid h.lt
  obtain ⟨r1, hr1⟩ : ∃ r1, r1 = vs zero32 := ⟨_, rfl⟩
  have hz : ∀ W, (zeroValue 83).run Try.prog W = .ok (.agg r1.toArray) W := fun W => by rw [hr1]; exact Try.zero_dig W
  have HR1l : Hid (r1.length = 32) := Lib.hid (by rw [hr1]; rfl)
  obtain ⟨r2, hr2⟩ : ∃ r2, r2 = vs (digB es ds) := ⟨_, rfl⟩
  have HR2l : Hid (r2.length = 32) := Lib.hid (by rw [hr2, vs_length]; exact numB_length _ _)
  have HR2o : Hid (r2.toArray.all (·.oneCell') = true) := Lib.hid (by rw [hr2]; exact one_u8)
  rw [← hr2]
  have HBy : Hid (∀ W : World, Below (w.alloc (.cells r1.toArray 83)).heap.size (w.alloc (.cells r1.toArray 83)) W → Calls Try.prog 17 #[.slice A k c] W (Byt W (encB es))) := Lib.hid (fun W hW => bytesB_any es A k c W ((hI.alloc _).through hW) hk hl hL)
  have HDg : Hid (∀ (W : World) (B : Option Addr) (n d : Nat), BS W g ds ts → By W (fun _ => True) B n (encB es) → Calls Try.prog 116 #[.pointer (some ⟨g, 0, none⟩), .int .i64 101, .slice B n d] W fun e w' => e = .returned (.agg r2.toArray) ∧ BS w' g (also (kb 101, encB es) ds) ts ∧ KF g W w') := Lib.hid (fun W B n d hS hY => by
    rw [hr2]
    exact bdig_any (fun _ => True) g ds ts 101 (encB es) B n d W hS hY hd)
  have HA0 : Hid (Blk (w.alloc (.cells r1.toArray 83)) w.heap.size 83 r1) := Lib.hid (Blk.fresh rfl rfl)
  have HX0 : Hid (Below w.heap.size w (w.alloc (.cells r1.toArray 83))) := Lib.hid ((Below.refl _ w).alloc (Nat.le_refl _) _)
  have HS0 : Hid (BS (w.alloc (.cells r1.toArray 83)) g ds ts) := Lib.hid (h.through HX0.out)
  clear h hI hl hL hr1 hr2
  go_enter_defers Try.func40, Try.ntmps40
  go_upto_region 4 with fail
  have HBy1 := Lib.hid (HBy.out _ (Below.refl _ _).drew)
  generalize hw1 : w.alloc (.cells r1.toArray 83) = w1 at *
  clear hw1
  have HA1 := Lib.hid HA0.out.drew
  have HX1 := Lib.hid HX0.out.drew
  have HS1 := Lib.hid HS0.out.drew
  refine wp_region_held_drew (S := fun _ => True) (by kernel_rfl) trivial (fun hHeld => ?_)
  change wpAnyH _ _ _ _ _ _ #[false, false, false, false, false, false, false] _ _
  refine wpAnyH_take (i := 0) (v := (.iface 53 (.pointer (some ⟨g, 0, none⟩)))) rfl (by kernel_rfl) (by kernel_rfl) (by kernel_rfl) (fun _ _ _ h => dig_panic (d := 9) (by decide) h) (Or.inl ⟨by kernel_rfl, fun w hSw => ?_⟩) (by assumption) ?_
  · (try dsimp only at hSw); go_simp <;> (try rfl)
  change wpAnyH _ _ _ _ _ _ _ (Act.put _ (some (9 : Nat)) (.iface 53 (.pointer (some ⟨g, 0, none⟩)))) _
  simp only [Act.put, List.setIfInBounds_toArray, List.set_cons_zero, List.set_cons_succ]
  refine wpAnyH_take (i := 1) (v := (.slice A k c)) rfl (by kernel_rfl) (by kernel_rfl) (by kernel_rfl) (fun _ _ _ h => dig_panic (d := 10) (by decide) h) (Or.inl ⟨by kernel_rfl, fun w hSw => ?_⟩) (by assumption) ?_
  · (try dsimp only at hSw); go_simp <;> (try rfl)
  change wpAnyH _ _ _ _ _ _ _ (Act.put _ (some (10 : Nat)) (.slice A k c)) _
  simp only [Act.put, List.setIfInBounds_toArray, List.set_cons_zero, List.set_cons_succ]
  refine wpAnyH_take (i := 3) (v := (.iface 53 (.pointer (some ⟨g, 0, none⟩)))) rfl (by kernel_rfl) (by kernel_rfl) (by kernel_rfl) (fun _ _ _ h => dig_panic (d := 12) (by decide) h) (Or.inl ⟨by kernel_rfl, fun w hSw => ?_⟩) (by assumption) ?_
  · (try dsimp only at hSw); go_simp <;> (try rfl)
  change wpAnyH _ _ _ _ _ _ _ (Act.put _ (some (12 : Nat)) (.iface 53 (.pointer (some ⟨g, 0, none⟩)))) _
  simp only [Act.put, List.setIfInBounds_toArray, List.set_cons_zero, List.set_cons_succ]
  refine wpAnyH_take (i := 4) (v := (.iface 53 (.pointer (some ⟨g, 0, none⟩)))) rfl (by kernel_rfl) (by kernel_rfl) (by kernel_rfl) (fun _ _ _ h => dig_panic (d := 13) (by decide) h) (Or.inl ⟨by kernel_rfl, fun w hSw => ?_⟩) (by assumption) ?_
  · (try dsimp only at hSw); go_simp <;> (try rfl)
  change wpAnyH _ _ _ _ _ _ _ (Act.put _ (some (13 : Nat)) (.iface 53 (.pointer (some ⟨g, 0, none⟩)))) _
  simp only [Act.put, List.setIfInBounds_toArray, List.set_cons_zero, List.set_cons_succ]
  refine wpAnyH_ready (rs := [2]) (by kernel_rfl) (by simp) ?_
  refine AllReadyH.cons rfl (fun K hK => ?_) AllReadyH.nil
  go_simp
  refine (HBy1.out).mono ?_
  rintro e w2 ⟨A2, n2, d2, rfl, hy2, _, _, hb2⟩; have HY2 := Lib.hid hy2; have HK2 := Lib.hid hb2; clear hy2 hb2
  go_wp2_with fail
  refine hK.out _ _ trivial (fun hHeld1 => ?_)
  clear hHeld hK K
  have hHeld := hHeld1
  clear hHeld1
  refine wpAnyH_ready (rs := [5]) (by kernel_rfl) (by simp) ?_
  refine AllReadyH.cons rfl (fun K hK => ?_) AllReadyH.nil
  go_simp
  refine (HDg.out _ A2 n2 d2 (HS1.out.through HK2.out) HY2.out).mono ?_
  rintro e w3 ⟨rfl, hs3, hk3⟩; have HS3 := Lib.hid hs3; have HA3 := Lib.hid (hk3.blk (HA1.out.through HK2.out) (Nat.ne_of_gt HGL.out)); have HX3 := Lib.hid (((KF.of_below HGL.out (HX1.out.trans (HK2.out.mono HX1.out.size)))).trans hk3); clear hs3 hk3
  go_wp2_with fail
  refine hK.out _ _ trivial (fun hHeld1 => ?_)
  clear hHeld hK K
  have hHeld := hHeld1
  clear hHeld1
  refine wpAnyH_ready (rs := [6]) (by kernel_rfl) (by simp) ?_
  refine AllReadyH.cons (o := ⟨none, .store 83 (.tmp 4) (.tmp 14), _, _, _, none⟩) rfl (fun K hK => ?_) AllReadyH.nil
  refine step_store_blk rfl 83 (.tmp 4) (.tmp 14) rfl w.heap.size r2 (by simp [Act.eval]) (by simp [Act.eval]) 83 r1 HA3.out (by rw [HR2l.out]; kernel_rfl) (by rw [HR1l.out, HR2l.out]) HR2o.out ?_; intro w4 hb4 hg4; have HA4 := Lib.hid hb4; have HS4 := Lib.hid (HS3.out.grown HA3.out hg4 (Nat.ne_of_lt HGL.out)); have HX4 := Lib.hid (HX3.out.grownB hg4 (Nat.le_refl _) HGL.out); clear hb4 hg4
  refine hK.out _ _ trivial (fun hHeld1 => ?_)
  clear hHeld hK K
  have hHeld := hHeld1
  clear hHeld1
  change wpAnyH _ _ _ _ _ _ _ (Act.put _ none undef) _
  simp only [Act.put]
  refine wpAnyH_done (by kernel_rfl) ?_ _
  go_wp2
  refine leaves_cons (f := 69) (args := #[.pointer (some ⟨w.heap.size, 0, none⟩)]) (by simp) (by simp [go_sem]) ?_
  refine (dig1_idle _ _).mono ?_
  rintro e u' w'' ⟨rfl, rfl, rfl⟩
  refine ⟨_, results_cell_row rfl _ _ w.heap.size 83 _ (0, 0) _ rfl HA4.out Try.underlying83 rfl ?r1, rfl, HS4.out, HX4.out⟩
  rw [List.size_toArray, HR2l.out]; kernel_rfl

end Go.Proofs.Ytgbobemhogeeeaa
