/-
  Joined: SlX.
-/
import Derived.Deep.RegionHeld
import Derived.Deep.CutBlock
import Derived.Test.YtkpgjcahmpekbaaSS24
import Derived.Test.YtkpgjcahmpekbaaSST
namespace Go.Proofs.Ytkpgjcahmpekbaa
open Go.RowKit

/-- a slot of one's own, made behind w0, and a digest beside it -/
def FX (T : World → Value → (Nat → Prop) → Slt → Prop) (w0 w : World) (v : Value) (s : Slt) (g : Nat) (d : List UInt8) : Prop :=
 ∃ D, T w v D s ∧ Below w0.heap.size w0 w ∧ (∀ q, D q → w0.heap.size ≤ q) ∧ Blk w g 27 (vs d) ∧ ¬ D g
section
variable {T : World → Value → (Nat → Prop) → Slt → Prop} {w0 w w' : World} {v : Value} {s : Slt} {g : Nat} {d : List UInt8}
theorem FX.below (h : FX T w0 w v s g d) : Below w0.heap.size w0 w := by obtain ⟨_, _, h2, _⟩ := h; exact h2
theorem FX.blk (h : FX T w0 w v s g d) : Blk w g 27 (vs d) := by obtain ⟨_, _, _, _, h4, _⟩ := h; exact h4
theorem FX.through (V : SlotV T) (h : FX T w0 w v s g d) (hb : Below w.heap.size w w') : FX T w0 w' v s g d := by
 obtain ⟨D, h1, h2, h3, h4, h5⟩ := h
 exact ⟨D, V.through h1 hb, below_step h2 hb, h3, h4.through hb, h5⟩
theorem FX.step {D D' : Nat → Prop} {s' : Slt} (h2 : Below w0.heap.size w0 w) (h3 : ∀ q, D q → w0.heap.size ≤ q) (h4 : Blk w g 27 (vs d)) (h5 : ¬ D g) (h6 : T w' v D' s') (h7 : Ft D w w') (h8 : ∀ q, D' q → D q ∨ w.heap.size ≤ q) : FX T w0 w' v s' g d :=
 ⟨D', h6, h7.below h2 h2.size h3, fun q hq => (h8 q hq).elim (h3 q) (fun h9 => Nat.le_trans h2.size h9), h7.blk h4 h5, fun hq => (h8 g hq).elim h5 (fun h9 => by have := h4.lt; omega)⟩
theorem FX.prepare (V : SlotV T) (h : FX T w0 w v s g d) (l : SlLow s) {who r : Int} {d' : List UInt8} {s' : Slt} (e1 : prepS s who d' = (s', r)) (hd : d'.length = 32) : Calls Try.prog 41 #[v, .int .i64 who, .agg (vs d').toArray] w fun e w' => e = .returned (.int .i64 r) ∧ FX T w0 w' v s' g d := by
 obtain ⟨D, h1, h2, h3, h4, h5⟩ := h
 refine (V.prepare who d' h1 l hd).mono ?_
 rintro e w' ⟨rfl, D', h6, h7, h8⟩
 rw [e1] at h6 ⊢
 exact ⟨rfl, FX.step h2 h3 h4 h5 h6 h7 h8⟩
theorem FX.proposeNil (V : SlotV T) (h : FX T w0 w v s g d) (l : SlLow s) {r : Int} {d' : List UInt8} {s' : Slt} (e1 : propS s d' [] = (s', r)) (hd : d'.length = 32) : Calls Try.prog 40 #[v, .agg (vs d').toArray, .slice none 0 0] w fun e w' => e = .returned (.int .i64 r) ∧ FX T w0 w' v s' g d := by
 obtain ⟨D, h1, h2, h3, h4, h5⟩ := h
 refine (V.propose d' [] none 0 0 h1 l hd EysIn.none_ (by omega)).mono ?_
 rintro e w' ⟨rfl, D', h6, h7, h8⟩
 rw [e1] at h6 ⊢
 exact ⟨rfl, FX.step h2 h3 h4 h5 h6 h7 h8⟩
theorem FX.prepared (V : SlotV T) (h : FX T w0 w v s g d) (l : SlLow s) {p : Int} {b : Bool} (e1 : prepB s p = b) : Calls Try.prog 43 #[v, .int .i64 p] w fun e w' => e = .returned (.bool b) ∧ FX T w0 w' v s g d := by
 have h0 := h
 obtain ⟨D, h1, h2, h3, h4, h5⟩ := h
 refine (V.prepared p h1 l).mono ?_
 rintro e w' ⟨rfl, hb⟩
 exact ⟨by rw [e1], h0.through V hb⟩
theorem FX.committed (V : SlotV T) (h : FX T w0 w v s g d) (l : SlLow s) {b : Bool} (e1 : commB s = b) : Calls Try.prog 44 #[v] w fun e w' => e = .returned (.bool b) ∧ FX T w0 w' v s g d := by
 have h0 := h
 obtain ⟨D, h1, h2, h3, h4, h5⟩ := h
 refine (V.committed h1 l).mono ?_
 rintro e w' ⟨rfl, hb⟩
 exact ⟨by rw [e1], h0.through V hb⟩
theorem FX.votes (V : SlotV T) (h : FX T w0 w v s g d) (l : SlLow s) {a b : Nat} (ha : s.pr.length = a) (hb : s.cm.length = b) : Calls Try.prog 39 #[v] w fun e w' => e = .returned (.tuple #[.int .i64 (a : Int), .int .i64 (b : Int)]) ∧ FX T w0 w' v s g d := by
 have h0 := h
 obtain ⟨D, h1, h2, h3, h4, h5⟩ := h
 refine (V.votes h1 l).mono ?_
 rintro e w' ⟨rfl, hb2⟩
 exact ⟨by rw [ha, hb], h0.through V hb2⟩
end
def fs1 : Slt := ⟨4, false, dgZ, [], [(1, dg1 1)], []⟩
def fs2 : Slt := ⟨4, true, dg1 1, [], [(1, dg1 1)], []⟩
def fs3 : Slt := ⟨4, true, dg1 1, [], [(1, dg1 1), (0, dg1 1)], []⟩
def fs4 : Slt := ⟨4, true, dg1 1, [], [(1, dg1 1), (0, dg1 1), (2, dg1 1)], []⟩
theorem fe1 : prepS (Slt.no 4) 1 (dg1 1) = (fs1, 0) := by rfl
theorem fe2 : propS fs1 (dg1 1) [] = (fs2, 0) := by rfl
theorem fe3 : prepS fs2 0 (dg1 1) = (fs3, 0) := by rfl
theorem fe4 : prepB fs3 0 = false := by decide
theorem fe5 : prepS fs3 2 (dg1 1) = (fs4, 0) := by rfl
theorem fe6 : prepB fs4 0 = true := by decide
theorem fe7 : commB fs4 = false := by decide
theorem fe8 : prepS fs4 2 dgZ = (fs4, 2) := by rfl
theorem fl1 : SlLow fs1 := ⟨by decide, by decide, by decide, by decide, by decide⟩
theorem fl2 : SlLow fs2 := ⟨by decide, by decide, by decide, by decide, by decide⟩
theorem fl3 : SlLow fs3 := ⟨by decide, by decide, by decide, by decide, by decide⟩
theorem fl4 : SlLow fs4 := ⟨by decide, by decide, by decide, by decide, by decide⟩
theorem vs_one9 (d : List UInt8) : (vs d).toArray.all (·.oneCell') = true := Array.all_eq_true_iff_forall_mem.2 (fun u hu => vs_one u (by simpa using hu))
set_option maxHeartbeats 16000000 in
set_option maxRecDepth 100000 in
theorem fixed21_of {T : World → Value → (Nat → Prop) → Slt → Prop} (V : SlotV T) (w : World) : Calls Try.prog 36 #[] w fun e w' => e = .returned (.bool true) ∧ Below w.heap.size w w' := by
 go_enter Try.func36, Try.ntmps36
 go_upto_region 3 with (first | (go_at_call 37; (with_reducible refine (V.new 4 _ (by decide) (by decide)).mono ?_); rintro e w1 ⟨v, D1, rfl, h1, hb1, hd1⟩; have H1 := Lib.hid h1; have HB1 := Lib.hid hb1; have HD1 := Lib.hid hd1; clear h1 hb1 hd1) | (refine wpList_build_to rfl 27 _ rfl [(0, .int .u8 1)] rfl (.agg (vs (dg1 1)).toArray) (Try.bld_dg 1 _) ?_) | (refine wpList_store_blk rfl 27 (.tmp 2) (.tmp 11) rfl w1.heap.size (vs (dg1 1)) rfl rfl 27 (vs dgZ) (Blk.fresh rfl rfl) (by kernel_rfl) rfl (vs_one9 _) ?_; simp only [Act.put]; intro w2 hb2 hg2; have HF2 : Hid (FX T w w2 v (Slt.no 4) w1.heap.size (dg1 1)) := Lib.hid ⟨D1, V.through H1.out (below_new hg2), below_step HB1.out (below_new hg2), HD1.out, hb2, fun h9 => Nat.lt_irrefl _ (V.lt H1.out _ h9)⟩; clear hb2 hg2))
 have HFd := Lib.hid (HF2.out.through V (Below.refl _ w2).drew)
 refine wp_region_held_drew (S := fun W => Blk W w1.heap.size 27 (vs (dg1 1))) (by kernel_rfl) HFd.out.blk (fun hHeld => ?_)
 change wpAnyH _ _ _ _ _ _ #[false, false, false, false, false, false, false, false] _ _
 refine tkq (i := 0) (d := 12) (v := (v)) rfl rfl (Or.inl ⟨by kernel_rfl, fun w hSw => ?_⟩) (by assumption) ?_
 ·(try dsimp only at hSw); go_simp <;> (try rfl)
 simp only [Act.put, sq1, sq2, sq3]
 refine tkq (i := 1) (d := 13) (v := (.agg (vs (dg1 1)).toArray)) rfl rfl (yieldsIf_load_mid (by kernel_rfl) 27 (.tmp 2) rfl w1.heap.size 0 (by simp [Act.eval]) (vs (dg1 1)) _ (fun W hW => Blk.range (pre := []) (post := []) (by simpa using hW)) Try.underlying27 rfl (by kernel_rfl)) (by assumption) ?_
 simp only [Act.put, sq1, sq2, sq3]
 refine tkq (i := 3) (d := 15) (v := (v)) rfl rfl (Or.inl ⟨by kernel_rfl, fun w hSw => ?_⟩) (by assumption) ?_
 ·(try dsimp only at hSw); go_simp <;> (try rfl)
 simp only [Act.put, sq1, sq2, sq3]
 refine tkq (i := 4) (d := 16) (v := (.agg (vs (dg1 1)).toArray)) rfl rfl (yieldsIf_load_mid (by kernel_rfl) 27 (.tmp 2) rfl w1.heap.size 0 (by simp [Act.eval]) (vs (dg1 1)) _ (fun W hW => Blk.range (pre := []) (post := []) (by simpa using hW)) Try.underlying27 rfl (by kernel_rfl)) (by assumption) ?_
 simp only [Act.put, sq1, sq2, sq3]
 refine wpAnyH_ready (rs := [2]) (by kernel_rfl) (by simp) ?_
 refine AllReadyH.cons rfl (fun K hK => ?_) AllReadyH.nil
 go_simp
 refine ((HFd.out.prepare V (SlLow.no (by decide) (by decide)) fe1 rfl)).mono ?_
 rintro e w3 ⟨rfl, hf⟩; have HFw3 := Lib.hid hf; clear hf
 go_wp2_with fail
 refine hK.out _ _ HFw3.out.blk (fun hHeld1 => ?_)
 clear hHeld hK K
 have hHeld := hHeld1
 clear hHeld1
 refine wpAnyH_ready (rs := [5]) (by kernel_rfl) (by simp) ?_
 refine AllReadyH.cons rfl (fun K hK => ?_) AllReadyH.nil
 go_simp
 refine ((HFw3.out.proposeNil V fl1 fe2 rfl)).mono ?_
 rintro e w4 ⟨rfl, hf⟩; have HFw4 := Lib.hid hf; clear hf
 go_wp2_with fail
 refine hK.out _ _ HFw4.out.blk (fun hHeld1 => ?_)
 clear hHeld hK K
 have hHeld := hHeld1
 clear hHeld1
 refine tkq (i := 6) (d := 3) (v := (.int .i64 0)) rfl rfl (Or.inl ⟨by kernel_rfl, fun w hSw => ?_⟩) (by assumption) ?_
 ·(try dsimp only at hSw); go_simp <;> (try rfl)
 simp only [Act.put, sq1, sq2, sq3]
 refine tkq (i := 7) (d := 4) (v := (.int .i64 0)) rfl rfl (Or.inl ⟨by kernel_rfl, fun w hSw => ?_⟩) (by assumption) ?_
 ·(try dsimp only at hSw); go_simp <;> (try rfl)
 simp only [Act.put, sq1, sq2, sq3]
 refine wpAnyH_done (by kernel_rfl) ?_ _
 go_wp2_with (first
  | (refine wpList_load_blk rfl 27 (.tmp 2) rfl w1.heap.size rfl 27 (vs (dg1 1)) _ HFw4.out.blk Try.underlying27 rfl (by kernel_rfl) ?_)
  | (go_at_call 41; (with_reducible refine (HFw4.out.prepare V fl2 fe3 rfl).mono ?_); rintro e w5 ⟨rfl, hf⟩; have HFw5 := Lib.hid hf; clear hf)
  | (go_at_call 43; (with_reducible refine (HFw5.out.prepared V fl3 fe4).mono ?_); rintro e w6 ⟨rfl, hf⟩; have HFw6 := Lib.hid hf; clear hf)
  | (refine wpList_load_blk rfl 27 (.tmp 2) rfl w1.heap.size rfl 27 (vs (dg1 1)) _ HFw6.out.blk Try.underlying27 rfl (by kernel_rfl) ?_)
  | (go_at_call 41; (with_reducible refine (HFw6.out.prepare V fl3 fe5 rfl).mono ?_); rintro e w7 ⟨rfl, hf⟩; have HFw7 := Lib.hid hf; clear hf)
  | (go_at_call 39; (with_reducible refine (HFw7.out.votes V fl4 (a := 3) (b := 0) rfl rfl).mono ?_); rintro e w8 ⟨rfl, hf⟩; have HFw8 := Lib.hid hf; clear hf)
  | (go_at_call 43; (with_reducible refine (HFw8.out.prepared V fl4 fe6).mono ?_); rintro e w9 ⟨rfl, hf⟩; have HFw9 := Lib.hid hf; clear hf)
  | (go_at_call 44; (with_reducible refine (HFw9.out.committed V fl4 fe7).mono ?_); rintro e w10 ⟨rfl, hf⟩; have HFw10 := Lib.hid hf; clear hf)
  | (go_at_call 41; (refine (HFw10.out.prepare V fl4 fe8 rfl).mono ?_); rintro e w11 ⟨rfl, hf⟩; have HFw11 := Lib.hid hf; clear hf))
 go_ret
 exact ⟨rfl, HFw11.out.below⟩

end Go.Proofs.Ytkpgjcahmpekbaa
