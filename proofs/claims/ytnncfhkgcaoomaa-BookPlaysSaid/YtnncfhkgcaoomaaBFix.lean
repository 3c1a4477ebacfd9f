/-
  The facts that stand ahead of each statement of book.
-/
import Derived.Test.YtnncfhkgcaoomaaBDig
import Derived.Test.YtnncfhkgcaoomaaBAsk
import Derived.Test.YtnncfhkgcaoomaaBSize
namespace Go.Proofs.Ytnncfhkgcaoomaa
open Go.RowKit

theorem dig_eql (xs ys : List UInt8) (hx : xs.length = 32) (hy : ys.length = 32) (w : World) : (binOp .eql 38 (.agg (vs xs).toArray) (.agg (vs ys).toArray)).run Try.prog w = .ok (.bool (xs == ys)) w :=
  run_eql_bytes w 38 5 32 Try.underlying38 Try.underlying5 (by kernel_rfl) (by kernel_rfl) xs ys hx hy
/-- A value laid out, guarded or not. -/
theorem wpList_build_g {P : Program} {ops : Array Oper} {rest : List Oper} {o : Oper} {a : Act} {w : World} {Q : Exit → Act → World → Prop} (hw : Region.wanted o (yielded ops a.tmps) = true) (t : TypeId) (parts : List (Nat × Operand)) (ho : o.op = .build t parts.toArray)
    (vals : List (Nat × Value)) (hv : (parts.map fun p => (p.1, a.eval p.2)) = vals) (v : Value) (hrun : (Instr.build t vals.toArray).run P w = .ok v w)
    (h : wpList P ops Q rest (a.put o.dst v) w) : wpList P ops Q (o :: rest) a w := by
  rw [wpList, if_pos hw]
  refine .inl ?_
  unfold Oper.wp execOp
  subst hv
  simp only [ho, Sem.run_bind, List.map_toArray, hrun, Result.andThen_ok]
  exact h

theorem By.lit97 {w : World} {e : TypeId} {fr : Nat × Nat} : By (w.alloc (.cells #[.int .u8 97] e fr)) (fun _ => True) (some ⟨w.heap.size, 0, none⟩) 1 [97] := By.fresh [97] rfl
def dsF : List DK := also (kb 3, [97]) []
def tsF : List TK := also (1, 2, [97]) []

set_option maxHeartbeats 8000000 in
set_option maxRecDepth 100000 in
theorem bfixed_any (w : World) :
    Calls Try.prog 6 #[] w fun e w' => e = .returned (.bool true) ∧ Below w.heap.size w w' := by
  have kc := fun (w : World) (C : Array Value) (n c : Nat) => Lib.run_convert_bytes_const (P := Try.prog) w 33 5 C n c Try.underlying33 Try.underlying5
  obtain ⟨q1, hq1⟩ : ∃ q1, q1 = vs (numB 3 1) := ⟨_, rfl⟩
  have hq1l : q1.length = 32 := by rw [hq1, vs_length, numB_length]
  have hq1o : q1.toArray.all (·.oneCell') = true := by rw [hq1]; exact one_u8
  obtain ⟨q2, hq2⟩ : ∃ q2, q2 = vs (numB 255 1) := ⟨_, rfl⟩
  have hq2l : q2.length = 32 := by rw [hq2, vs_length, numB_length]
  have hq2o : q2.toArray.all (·.oneCell') = true := by rw [hq2]; exact one_u8
  have he1 : ∀ W, (binOp .eql 38 (.agg q1.toArray) (.agg q1.toArray)).run Try.prog W = .ok (.bool true) W := fun W => by rw [hq1, dig_eql _ _ (numB_length _ _) (numB_length _ _), beq_self_eq_true]
  have he2 : ∀ W, (binOp .eql 35 (.agg q2.toArray) (.agg q2.toArray)).run Try.prog W = .ok (.bool true) W := fun W => by rw [hq2, tag_eql _ _ (numB_length _ _) (numB_length _ _), beq_self_eq_true]
  have hb1 : ∀ W, (Instr.build 38 #[(0, .int .u8 3), (31, .int .u8 1)]).run Try.prog W = .ok (.agg q1.toArray) W := fun W => by rw [hq1]; kernel_rfl
  have hb2 : ∀ W, (Instr.build 35 #[(0, .int .u8 255), (31, .int .u8 1)]).run Try.prog W = .ok (.agg q2.toArray) W := fun W => by rw [hq2]; kernel_rfl
  have hdig : ∀ W g A, By W (fun _ => True) A 1 [97] → BS W g [] [] → Calls Try.prog 12 #[.pointer (some ⟨g, 0, none⟩), .int .i64 3, .slice A 1 1] W fun e w' => e = .returned (.agg q1.toArray) ∧ BS w' g dsF [] ∧ KF g W w' := fun W g A h1 h2 => by
    have h := bdig_any (fun _ => True) g [] [] 3 [97] A 1 1 W h2 h1 (by decide)
    rw [hq1]
    exact h
  have htag : ∀ W g A, By W (fun _ => True) A 1 [97] → BS W g dsF [] → Calls Try.prog 13 #[.pointer (some ⟨g, 0, none⟩), .int .i64 1, .int .i64 2, .slice A 1 1] W fun e w' => e = .returned (.agg q2.toArray) ∧ BS w' g dsF tsF ∧ KF g W w' := fun W g A h1 h2 => by
    have h := btag_any (fun _ => True) g dsF [] 1 2 [97] A 1 1 W h2 h1 (by decide)
    rw [hq2]
    exact h
  have hsz : ∀ W g, BS W g dsF tsF → Calls Try.prog 11 #[.pointer (some ⟨g, 0, none⟩)] W fun e w' => e = .returned (.tuple #[.int .i64 1, .int .i64 1]) ∧ Below W.heap.size W w' := fun W g h => bsizes_any g dsF tsF W h
  have hck1 : ∀ W g A, By W (fun _ => True) A 1 [97] → BS W g dsF tsF → Calls Try.prog 14 #[.pointer (some ⟨g, 0, none⟩), .int .i64 1, .int .i64 2, .slice A 1 1, .agg q2.toArray] W fun e w' => e = .returned (.bool true) ∧ Below W.heap.size W w' := fun W g A h1 h2 => by
    have h := bcheck_any (fun _ => True) g dsF tsF 1 2 [97] (numB 255 1) A 1 1 W h2 h1 (by decide) (numB_length _ _)
    rw [show bookHolds tsF (1, 2, [97]) (numB 255 1) = true from by decide] at h
    rw [hq2]
    exact h
  have hck2 : ∀ W g A, By W (fun _ => True) A 1 [97] → BS W g dsF tsF → Calls Try.prog 14 #[.pointer (some ⟨g, 0, none⟩), .int .i64 2, .int .i64 1, .slice A 1 1, .agg q2.toArray] W fun e w' => e = .returned (.bool false) ∧ Below W.heap.size W w' := fun W g A h1 h2 => by
    have h := bcheck_any (fun _ => True) g dsF tsF 2 1 [97] (numB 255 1) A 1 1 W h2 h1 (by decide) (numB_length _ _)
    rw [show bookHolds tsF (2, 1, [97]) (numB 255 1) = false from by decide] at h
    rw [hq2]
    exact h
  have hsd : ∀ W g, BS W g dsF tsF → Calls Try.prog 15 #[.pointer (some ⟨g, 0, none⟩), .int .i64 1, .int .i64 2, .slice none 0 0] W fun e w' => e = .returned (.bool false) ∧ Below W.heap.size W w' := fun W g h => bsaid_miss 1 2 none 0 0 W (fun _ => True) g dsF tsF [] h By.none_ (by decide)
  have HDig := Lib.hid hdig
  have HTag := Lib.hid htag
  have HSz := Lib.hid hsz
  have HCk1 := Lib.hid hck1
  have HCk2 := Lib.hid hck2
  have HSd := Lib.hid hsd
  have HQ1l := Lib.hid hq1l
  have HQ1o := Lib.hid hq1o
  have HQ2l := Lib.hid hq2l
  have HQ2o := Lib.hid hq2o
  clear hq1 hq1l hq1o hq2 hq2l hq2o hdig htag hsz hck1 hck2 hsd
  go_enter Try.func6, Try.ntmps6
  go_wp2_with (first
    | (go_at_call 7; (with_reducible refine (bnew_any _).mono ?_); rintro e w1 ⟨rfl, hs1, hb1⟩; have HS1 := Lib.hid hs1; have HX1 := Lib.hid hb1; clear hs1 hb1)
    | (go_at_call 12; (with_reducible refine (HDig.out _ w.heap.size (some ⟨w1.heap.size, 0, none⟩) By.lit97 (by exact HS1.out.through ((Below.refl _ w1).alloc (Nat.le_refl _) _))).mono ?_); rintro e w2 ⟨rfl, hs2, hf2⟩; have HX2 : Hid (Below w.heap.size w w2) := Lib.hid ((HX1.out.alloc HX1.out.size _).trans hf2.low); have hg2 := hs2.lt; have HS2 := Lib.hid hs2; clear hs2 hf2)
    | (refine wpList_store_blk rfl 38 (.tmp 2) (.tmp 10) rfl w2.heap.size q1 rfl rfl 38 (vs zero32) (Blk.fresh rfl (by kernel_rfl)) (by rw [HQ1l.out]; kernel_rfl) (by rw [HQ1l.out]; rfl) HQ1o.out ?_; intro w3 hb3 ho3; have hx3 := below_new ho3; have HB3 := Lib.hid hb3; have HX3 := Lib.hid (HX2.out.trans (hx3.mono HX2.out.size)); have HS3 := Lib.hid (HS2.out.through hx3); clear hb3 ho3 hx3)
    | (go_at_call 13; (with_reducible refine (HTag.out _ w.heap.size (some ⟨w3.heap.size, 0, none⟩) By.lit97 (by exact HS3.out.through ((Below.refl _ w3).alloc (Nat.le_refl _) _))).mono ?_); rintro e w4 ⟨rfl, hs4, hf4⟩; have HX4 : Hid (Below w.heap.size w w4) := Lib.hid ((HX3.out.alloc HX3.out.size _).trans hf4.low); have HB4 : Hid (Blk w4 w2.heap.size 38 q1) := Lib.hid (hf4.blk (HB3.out.alloc _) (Nat.ne_of_gt hg2)); have HS4 := Lib.hid hs4; clear hs4 hf4)
    | (refine wpList_store_blk rfl 35 (.tmp 3) (.tmp 14) rfl w4.heap.size q2 rfl rfl 35 (vs zero32) (Blk.fresh rfl (by kernel_rfl)) (by rw [HQ2l.out]; kernel_rfl) (by rw [HQ2l.out]; rfl) HQ2o.out ?_; intro w5 hb5 ho5; have hx5 := below_new ho5; have HC5 := Lib.hid hb5; have HB5 := Lib.hid (HB4.out.through hx5); have HX5 := Lib.hid (HX4.out.trans (hx5.mono HX4.out.size)); have HS5 := Lib.hid (HS4.out.through hx5); clear hb5 ho5 hx5)
    | (go_at_call 11; (with_reducible refine (HSz.out _ w.heap.size HS5.out).mono ?_); rintro e w6 ⟨rfl, hb⟩; have HX6 := Lib.hid (HX5.out.trans (hb.mono HX5.out.size)); have HB6 := Lib.hid (HB5.out.through hb); have HC6 := Lib.hid (HC5.out.through hb); have HS6 := Lib.hid (HS5.out.through hb); clear hb)
    | (refine wpList_load_blk rfl 38 (.tmp 2) rfl w2.heap.size rfl 38 q1 _ HB6.out Try.underlying38 rfl (by rw [HQ1l.out]; kernel_rfl) ?_)
    | (refine wpList_build_g (by kernel_rfl) 38 [(0, .const (.int .u8 3)), (31, .const (.int .u8 1))] rfl [(0, .int .u8 3), (31, .int .u8 1)] rfl (.agg q1.toArray) (hb1 _) ?_)
    | (refine wpList_load_blk_g 35 (.tmp 3) rfl (by kernel_rfl) w4.heap.size rfl 35 q2 _ HC6.out Try.underlying35 rfl (by rw [HQ2l.out]; kernel_rfl) ?_)
    | (refine wpList_build_g (by kernel_rfl) 35 [(0, .const (.int .u8 255)), (31, .const (.int .u8 1))] rfl [(0, .int .u8 255), (31, .int .u8 1)] rfl (.agg q2.toArray) (hb2 _) ?_)
    | (go_at_call 14; (with_reducible refine (HCk1.out _ w.heap.size (some ⟨w6.heap.size, 0, none⟩) By.lit97 (by exact HS6.out.through ((Below.refl _ w6).alloc (Nat.le_refl _) _))).mono ?_); rintro e w7 ⟨rfl, hb⟩; have HX7 : Hid (Below w.heap.size w w7) := Lib.hid ((HX6.out.alloc HX6.out.size _).trans (hb.mono (Nat.le_trans HX6.out.size (by simp)))); have HC7 : Hid (Blk w7 w4.heap.size 35 q2) := Lib.hid ((HC6.out.alloc _).through hb); have HS7 : Hid (BS w7 w.heap.size dsF tsF) := Lib.hid ((HS6.out.through ((Below.refl _ w6).alloc (Nat.le_refl _) _)).through hb); clear hb)
    | (refine wpList_load_blk_g 35 (.tmp 3) rfl (by kernel_rfl) w4.heap.size rfl 35 q2 _ HC7.out Try.underlying35 rfl (by rw [HQ2l.out]; kernel_rfl) ?_)
    | (refine wpList_load_blk_g 35 (.tmp 3) rfl (by kernel_rfl) w4.heap.size rfl 35 q2 _ (HC6.out.alloc _) Try.underlying35 rfl (by rw [HQ2l.out]; kernel_rfl) ?_)
    | (refine wpList_load_blk_g 35 (.tmp 3) rfl (by kernel_rfl) w4.heap.size rfl 35 q2 _ (HC7.out.alloc _) Try.underlying35 rfl (by rw [HQ2l.out]; kernel_rfl) ?_)
    | (go_at_call 14; (with_reducible refine (HCk2.out _ w.heap.size (some ⟨w7.heap.size, 0, none⟩) By.lit97 (by exact HS7.out.through ((Below.refl _ w7).alloc (Nat.le_refl _) _))).mono ?_); rintro e w8 ⟨rfl, hb⟩; have HX8 : Hid (Below w.heap.size w w8) := Lib.hid ((HX7.out.alloc HX7.out.size _).trans (hb.mono (Nat.le_trans HX7.out.size (by simp)))); have HS8 : Hid (BS w8 w.heap.size dsF tsF) := Lib.hid ((HS7.out.through ((Below.refl _ w7).alloc (Nat.le_refl _) _)).through hb); clear hb)
    | (go_at_call 15; (with_reducible refine (HSd.out _ w.heap.size HS8.out).mono ?_); rintro e w9 ⟨rfl, hb⟩; have HX9 := Lib.hid (HX8.out.trans (hb.mono HX8.out.size)); clear hb))
  go_ret
  exact ⟨rfl, HX9.out⟩

end Go.Proofs.Ytnncfhkgcaoomaa
