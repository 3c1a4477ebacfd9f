/-
  Joined: PtF.
-/
import Derived.Test.YtpolofehkckaoaaUH20
namespace Go.Proofs.Ytpolofehkckaoaa
open Go.RowKit

def xF : Po := ⟨4, 1 :: List.replicate 31 0⟩
def rF : Ptp := ⟨4, 0, List.replicate 4 [], []⟩
def rF1 : Ptp := ⟨4, 0, [[], [xF], [], []], []⟩
def rF2 : Ptp := ⟨4, 0, [[], [xF], [xF], []], []⟩
def rF3 : Ptp := ⟨4, 0, [[xF], [xF], [xF], []], [[98]]⟩
theorem xF_dg : xF.dg.length = 32 := by decide
theorem rF_low : PtLow rF ∧ PtLow rF1 ∧ PtLow rF2 ∧ PtLow rF3 := by
 refine ⟨⟨?_⟩, ⟨?_⟩, ⟨?_⟩, ⟨?_⟩⟩ <;> (intro l hl; simp [rF, rF1, rF2, rF3] at hl; rcases hl with rfl | rfl | rfl <;> simp)
theorem byts_F3 : (firstP xF (ownL rF3) 0).isSome = true ∧ bytR rF3 xF = [98] := by decide
theorem told_F3 : (toldR rF3).length = 1 := by rfl
theorem xF_len : (Po.cells xF).length = 33 := Po.cells_len xF xF_dg
theorem Try.bld_dgF (w : World) : (Instr.build 28 #[(0, .int .u8 1)]).run Try.prog w = .ok (.agg (vs xF.dg).toArray) w := by kernel_rfl
theorem Try.bld_poF (w : World) : (Instr.build tPo #[(0, .int .i64 4), (1, .agg (vs xF.dg).toArray)]).run Try.prog w = .ok (.agg (Po.cells xF).toArray) w := by kernel_rfl
theorem Try.one_byF (w : World) : (Instr.buildSlice 34 1 #[(0, .int .u8 98)]).run Try.prog w = .ok (.slice (some ⟨w.heap.size, 0, none⟩) 1 1) (w.alloc (.cells #[.int .u8 98] 5)) := by kernel_rfl
section
variable {P : World → Nat → Ptp → (Nat → Prop) → Prop} {w0 w : World} {B : Nat} {Z : Nat → Prop}
theorem fxF_new (C : PtsP P) (w : World) : Calls Try.prog 7 #[.int .i64 4, .int .i64 0] w fun e w' => ∃ B, e = .returned (.pointer (some ⟨B, 0, none⟩)) ∧ Fx P w w' B rF (fun _ => False) :=
 (C.new_ 4 0 w (by decide) (by decide) (by decide)).mono fun e w' ⟨B, D, e1, hp, hb, hd⟩ => ⟨B, e1, Fx.begin hp hb hd⟩
theorem fxF_v1 (C : PtsP P) (h : Fx P w0 w B rF Z) : Calls Try.prog 13 #[(.pointer (some ⟨B, 0, none⟩)), .int .i64 1, .agg (Po.cells xF).toArray] w fun e w' => e = .returned (.bool true) ∧ Fx P w0 w' B rF1 Z ∧ Ft (fun q => w0.heap.size ≤ q ∧ ¬ Z q) w w' := h.vote C rF_low.1 1 xF xF_dg
theorem fxF_v2 (C : PtsP P) (h : Fx P w0 w B rF1 Z) : Calls Try.prog 13 #[(.pointer (some ⟨B, 0, none⟩)), .int .i64 2, .agg (Po.cells xF).toArray] w fun e w' => e = .returned (.bool true) ∧ Fx P w0 w' B rF2 Z ∧ Ft (fun q => w0.heap.size ≤ q ∧ ¬ Z q) w w' := h.vote C rF_low.2.1 2 xF xF_dg
theorem fxF_w1 (C : PtsP P) (h : Fx P w0 w B rF1 Z) : Calls Try.prog 11 #[(.pointer (some ⟨B, 0, none⟩)), .int .i64 0] w fun e w' => e = .returned (.tuple #[.agg (Po.cells poZ).toArray, .bool false]) ∧ Fx P w0 w' B rF1 Z ∧ Below w.heap.size w w' := h.weak C rF_low.2.1 0
theorem fxF_w2 (C : PtsP P) (h : Fx P w0 w B rF2 Z) : Calls Try.prog 11 #[(.pointer (some ⟨B, 0, none⟩)), .int .i64 0] w fun e w' => e = .returned (.tuple #[.agg (Po.cells xF).toArray, .bool true]) ∧ Fx P w0 w' B rF2 Z ∧ Below w.heap.size w w' := h.weak C rF_low.2.2.1 0
theorem fxF_s2 (C : PtsP P) (h : Fx P w0 w B rF2 Z) : Calls Try.prog 10 #[(.pointer (some ⟨B, 0, none⟩)), .int .i64 0] w fun e w' => e = .returned (.tuple #[.agg (Po.cells poZ).toArray, .bool false]) ∧ Fx P w0 w' B rF2 Z ∧ Below w.heap.size w w' := h.stable C rF_low.2.2.1 0
theorem fxF_s3 (C : PtsP P) (h : Fx P w0 w B rF3 Z) : Calls Try.prog 10 #[(.pointer (some ⟨B, 0, none⟩)), .int .i64 0] w fun e w' => e = .returned (.tuple #[.agg (Po.cells xF).toArray, .bool true]) ∧ Fx P w0 w' B rF3 Z ∧ Below w.heap.size w w' := h.stable C rF_low.2.2.2 0
theorem fxF_own (C : PtsP P) (h : Fx P w0 w B rF2 Z) (g : Nat) (hg : Z g) (hb : By w (fun _ => True) (some ⟨g, 0, none⟩) 1 [98]) : Calls Try.prog 8 #[(.pointer (some ⟨B, 0, none⟩)), .int .i64 4, .agg (vs xF.dg).toArray, .slice (some ⟨g, 0, none⟩) 1 1] w fun e w' => e = .returned (.tuple #[]) ∧ Fx P w0 w' B rF3 Z ∧ Ft (fun q => w0.heap.size ≤ q ∧ ¬ Z q) w w' :=
 h.own C rF_low.2.2.1 4 xF.dg [98] (some ⟨g, 0, none⟩) 1 1 (by decide) xF_dg hb (by omega) (fun q hq => .inr (by
  obtain ⟨_, a, ha, hb⟩ := hq
  injection ha with ha
  subst ha
  simp only at hb
  exact hb ▸ hg))
theorem fx_obj (C : PtsP P) {r : Ptp} (h : Fx P w0 w B r Z) (o : Obj) : Fx P w0 (w.alloc o) B r (fun q => Z q ∨ q = w.heap.size) := h.alloc C (below1_ w o) (Nat.le_refl _) (by show w.heap.size < (w.heap.push _).size; simp)
theorem by_obj (w : World) (fz : Nat × Nat) : By (w.alloc (.cells #[.int .u8 98] 5 fz)) (fun _ => True) (some ⟨w.heap.size, 0, none⟩) 1 [98] := ⟨rfl, fun _ => ⟨w.heap.size, 0, rfl, trivial, fun j v hv => by
 have hj : j = 0 := by
  have := (List.getElem?_eq_some_iff.1 hv).1
  simp at this
  omega
 subst hj
 simp only [List.getElem?_cons_zero, Option.some.injEq] at hv
 subst hv
 have hb : (w.alloc (.cells #[.int .u8 98] 5 fz)).heap[w.heap.size]? = some (.cells #[.int .u8 98] 5 fz) := Array.getElem?_push_size
 unfold World.cell?
 simp only [hb]
 rfl⟩⟩
theorem fxF_su (C : PtsP P) (h : Fx P w0 w B rF3 Z) : Calls Try.prog 14 #[(.pointer (some ⟨B, 0, none⟩)), .agg (Po.cells xF).toArray] w fun e w' => e = .returned (.int .i64 3) ∧ Fx P w0 w' B rF3 Z ∧ Below w.heap.size w w' := h.supp C rF_low.2.2.2 xF xF_dg
theorem fxF_by (C : PtsP P) (h : Fx P w0 w B rF3 Z) : Calls Try.prog 12 #[(.pointer (some ⟨B, 0, none⟩)), .agg (Po.cells xF).toArray] w fun e w' => (∃ A k c, e = .returned (.tuple #[.slice A k c, .bool true]) ∧ By w' (fun _ => True) A k [98]) ∧ Fx P w0 w' B rF3 Z ∧ Below w.heap.size w w' := by
 have h1 := h.bytes C rF_low.2.2.2 xF xF_dg
 rw [byts_F3.1, byts_F3.2] at h1
 exact h1
theorem fxF_to (C : PtsP P) (h : Fx P w0 w B rF3 Z) : Calls Try.prog 15 #[(.pointer (some ⟨B, 0, none⟩))] w fun e w' => (∃ A c, e = .returned (.slice A 1 c)) ∧ Fx P w0 w' B rF3 Z ∧ Below w.heap.size w w' :=
 (h.told C rF_low.2.2.2).mono fun e w' ⟨⟨A, k, c, e1, hp⟩, h2⟩ => ⟨⟨A, c, by have h9 := hp.len; rw [told_F3] at h9; rw [e1, ← h9]⟩, h2⟩
theorem fx_sto (C : PtsP P) {r : Ptp} {w' : World} {o : Obj} (h : Fx P w0 w B r Z) (hg : (w.alloc o).grownBy w' (some w.heap.size)) (hl : w.heap.size < w'.heap.size) : Fx P w0 w' B r (fun q => Z q ∨ q = w.heap.size) := h.alloc C (below_new hg) (Nat.le_refl _) hl
end
theorem dg_range {w : World} {g : Nat} {x : Po} (h : Blk w g tPo (Po.cells x)) : w.rangeAt g 1 (vs x.dg) := fun j v hv => h.cellAt (i := 1 + j) (by rw [Nat.add_comm]; exact hv)
theorem poZ_len : (Po.cells poZ).length = 33 := Po.cells_len poZ (by decide)
set_option maxHeartbeats 16000000 in
set_option maxRecDepth 100000 in
theorem fixed23_of {P : World → Nat → Ptp → (Nat → Prop) → Prop} (C : PtsP P) (w : World) : Calls Try.prog 6 #[] w fun e w' => e = .returned (.bool true) ∧ Below w.heap.size w w' := by
 have hz : ∀ W, (zeroValue tPo).run Try.prog W = .ok (.agg (Po.cells poZ).toArray) W := fun W => Try.zero_po W
 have heq : ∀ W, (binOp .eql tPo (.agg (Po.cells xF).toArray) (.agg (Po.cells xF).toArray)).run Try.prog W = .ok (.bool true) W := fun W => by have h9 := eq_po xF xF xF_dg xF_dg W; rw [Po.eqb_iff.2 rfl] at h9; exact h9
 have hcv := fun (w : World) (C : Array Value) (n c : Nat) => Lib.run_convert_bytes_const (P := Try.prog) w 34 5 C n c Try.underlying34 Try.underlying5
 have hob := fun W => Try.one_byF W
 go_enter Try.func6, Try.ntmps6
 go_wp2_with (first
   | (go_at_call 7; (with_reducible refine (fxF_new C w).mono ?_); rintro e w1 ⟨B, rfl, hx9⟩; have Hw1 := Lib.hid hx9; clear hx9)
   | (refine wpList_build_to rfl 28 _ rfl [(0, .int .u8 1)] rfl (.agg (vs xF.dg).toArray) (Try.bld_dgF _) ?_)
   | (refine wpList_build_to rfl tPo _ rfl [(0, .int .i64 4), (1, .agg (vs xF.dg).toArray)] rfl (.agg (Po.cells xF).toArray) (Try.bld_poF _) ?_)
   | (refine wpList_store_blk rfl tPo (.tmp 2) (.tmp 17) rfl w1.heap.size (Po.cells xF) rfl rfl tPo (Po.cells poZ) (Blk.fresh rfl rfl) (by rw [xF_len]; kernel_rfl) (poZ_len.trans xF_len.symm) (Po.one _) ?_; simp only [Act.put]; intro w2 hbv hgv; have Hw2 := Lib.hid (fx_sto C Hw1.out hgv hbv.lt); have Bw2 := Lib.hid hbv; have Xw2 := Bw2; clear hbv hgv)
   | (refine wpList_load_blk rfl tPo (.tmp 2) rfl w1.heap.size rfl tPo (Po.cells xF) _ Xw2.out Try.underlying31 rfl (by rw [xF_len]; kernel_rfl) ?_)
   | (go_at_call 13; (with_reducible refine (fxF_v1 C Hw2.out).mono ?_); rintro e w3 ⟨rfl, hx9, hf9⟩; have Hw3 := Lib.hid hx9; have Xw3 := Lib.hid (hf9.blk Xw2.out (fun h => h.2 (by first | exact .inr rfl | exact .inl (.inr rfl) | exact .inl (.inl (.inr rfl)) | exact .inl (.inl (.inl (.inr rfl))) | exact .inl (.inl (.inl (.inl (.inr rfl)))) | exact .inl (.inl (.inl (.inl (.inl (.inr rfl)))))))); clear hx9 hf9)
   | (go_at_call 11; (with_reducible refine (fxF_w1 C Hw3.out).mono ?_); rintro e w4 ⟨rfl, hx9, hb9⟩; have Hw4 := Lib.hid hx9; have Xw4 := Lib.hid (Xw3.out.through hb9); clear hx9 hb9)
   | (refine wpList_store_blk rfl tPo (.tmp 4) (.tmp 24) rfl w4.heap.size (Po.cells poZ) rfl rfl tPo (Po.cells poZ) (Blk.fresh rfl rfl) (by rw [poZ_len]; kernel_rfl) (poZ_len.trans poZ_len.symm) (Po.one _) ?_; simp only [Act.put]; intro w5 hbv hgv; have Hw5 := Lib.hid (fx_sto C Hw4.out hgv hbv.lt); have Bw5 := Lib.hid hbv; have Xw5 := Lib.hid (Xw4.out.through (below_new hgv)); clear hbv hgv)
   | (refine wpList_load_blk rfl tPo (.tmp 2) rfl w1.heap.size rfl tPo (Po.cells xF) _ Xw5.out Try.underlying31 rfl (by rw [xF_len]; kernel_rfl) ?_)
   | (go_at_call 13; (with_reducible refine (fxF_v2 C Hw5.out).mono ?_); rintro e w6 ⟨rfl, hx9, hf9⟩; have Hw6 := Lib.hid hx9; have Xw6 := Lib.hid (hf9.blk Xw5.out (fun h => h.2 (by first | exact .inr rfl | exact .inl (.inr rfl) | exact .inl (.inl (.inr rfl)) | exact .inl (.inl (.inl (.inr rfl))) | exact .inl (.inl (.inl (.inl (.inr rfl)))) | exact .inl (.inl (.inl (.inl (.inl (.inr rfl)))))))); clear hx9 hf9)
   | (go_at_call 11; (with_reducible refine (fxF_w2 C Hw6.out).mono ?_); rintro e w7 ⟨rfl, hx9, hb9⟩; have Hw7 := Lib.hid hx9; have Xw7 := Lib.hid (Xw6.out.through hb9); clear hx9 hb9)
   | (refine wpList_store_blk rfl tPo (.tmp 7) (.tmp 32) rfl w7.heap.size (Po.cells xF) rfl rfl tPo (Po.cells poZ) (Blk.fresh rfl rfl) (by rw [xF_len]; kernel_rfl) (poZ_len.trans xF_len.symm) (Po.one _) ?_; simp only [Act.put]; intro w8 hbv hgv; have Hw8 := Lib.hid (fx_sto C Hw7.out hgv hbv.lt); have Bw8 := Lib.hid hbv; have Xw8 := Lib.hid (Xw7.out.through (below_new hgv)); have Yw8 := Bw8; clear hbv hgv)
   | (go_at_call 10; (with_reducible refine (fxF_s2 C Hw8.out).mono ?_); rintro e w9 ⟨rfl, hx9, hb9⟩; have Hw9 := Lib.hid hx9; have Xw9 := Lib.hid (Xw8.out.through hb9); have Yw9 := Lib.hid (Yw8.out.through hb9); clear hx9 hb9)
   | (refine wpList_store_blk rfl tPo (.tmp 9) (.tmp 37) rfl w9.heap.size (Po.cells poZ) rfl rfl tPo (Po.cells poZ) (Blk.fresh rfl rfl) (by rw [poZ_len]; kernel_rfl) (poZ_len.trans poZ_len.symm) (Po.one _) ?_; simp only [Act.put]; intro w10 hbv hgv; have Hw10 := Lib.hid (fx_sto C Hw9.out hgv hbv.lt); have Bw10 := Lib.hid hbv; have Xw10 := Lib.hid (Xw9.out.through (below_new hgv)); have Yw10 := Lib.hid (Yw9.out.through (below_new hgv)); clear hbv hgv)
   | (refine wpList_load_mid rfl 28 (.tmp 40) rfl w1.heap.size 1 rfl (vs xF.dg) _ (by have h9 := Xw10.out; exact dg_range h9) Try.underlying28 rfl (by rw [vs_length, xF_dg]; kernel_rfl) ?_)
   | (go_at_call 8; (with_reducible refine (fxF_own C (fx_obj C Hw10.out _) _ (.inr rfl) (by_obj _ _)).mono ?_); rintro e w11 ⟨rfl, hx9, hf9⟩; have Hw11 := Lib.hid hx9; have Xw11 := Lib.hid (hf9.blk (Xw10.out.through (below1_ w10 _)) (fun h => h.2 (.inl (.inl (.inl (.inl (.inr rfl))))))); have Yw11 := Lib.hid (hf9.blk (Yw10.out.through (below1_ w10 _)) (fun h => h.2 (.inl (.inl (.inr rfl))))); clear hx9 hf9)
   | (go_at_call 10; (with_reducible refine (fxF_s3 C Hw11.out).mono ?_); rintro e w12 ⟨rfl, hx9, hb9⟩; have Hw12 := Lib.hid hx9; have Xw12 := Lib.hid (Xw11.out.through hb9); have Yw12 := Lib.hid (Yw11.out.through hb9); clear hx9 hb9)
   | (refine wpList_store_blk rfl tPo (.tmp 11) (.tmp 48) rfl w12.heap.size (Po.cells xF) rfl rfl tPo (Po.cells poZ) (Blk.fresh rfl rfl) (by rw [xF_len]; kernel_rfl) (poZ_len.trans xF_len.symm) (Po.one _) ?_; simp only [Act.put]; intro w13 hbv hgv; have Hw13 := Lib.hid (fx_sto C Hw12.out hgv hbv.lt); have Bw13 := Lib.hid hbv; have Xw13 := Lib.hid (Xw12.out.through (below_new hgv)); have Yw13 := Lib.hid (Yw12.out.through (below_new hgv)); have Vw13 := Bw13; clear hbv hgv)
   | (refine wpList_load_blk rfl tPo (.tmp 2) rfl w1.heap.size rfl tPo (Po.cells xF) _ Xw13.out Try.underlying31 rfl (by rw [xF_len]; kernel_rfl) ?_)
   | (go_at_call 12; (with_reducible refine (fxF_by C Hw13.out).mono ?_); rintro e w14 ⟨⟨A14, k14, c14, rfl, hy9⟩, hx9, hb9⟩; have Hw14 := Lib.hid hx9; have Xw14 := Lib.hid (Xw13.out.through hb9); have Yw14 := Lib.hid (Yw13.out.through hb9); have Vw14 := Lib.hid (Vw13.out.through hb9); have HY14 := Lib.hid hy9; clear hx9 hb9 hy9)
   | (refine wpList_load_blk_g tPo (.tmp 7) rfl (by kernel_rfl) w7.heap.size rfl tPo (Po.cells xF) _ Yw14.out Try.underlying31 rfl (by rw [xF_len]; kernel_rfl) ?_)
   | (refine wpList_load_blk_g tPo (.tmp 2) rfl (by kernel_rfl) w1.heap.size rfl tPo (Po.cells xF) _ Xw14.out Try.underlying31 rfl (by rw [xF_len]; kernel_rfl) ?_)
   | (refine wpList_load_blk_g tPo (.tmp 11) rfl (by kernel_rfl) w12.heap.size rfl tPo (Po.cells xF) _ Vw14.out Try.underlying31 rfl (by rw [xF_len]; kernel_rfl) ?_)
   | (go_at_call 14; (with_reducible refine (fxF_su C Hw14.out).mono ?_); rintro e w15 ⟨rfl, hx9, hb9⟩; have Hw15 := Lib.hid hx9; have hcs : (convert 34 9 (.slice A14 k14 c14)).run Try.prog w15 = .ok (.string ⟨#[98]⟩) w15 := run_string_by w15 34 9 5 Try.underlying34 Try.underlying5 Try.underlying9 (fun _ => True) A14 k14 c14 [98] (HY14.out.through hb9); clear hx9 hb9)
   | (go_at_call 15; (with_reducible refine (fxF_to C Hw15.out).mono ?_); rintro e w16 ⟨⟨A16, c16, rfl⟩, hx9, hb9⟩; have Hw16 := Lib.hid hx9; clear hx9 hb9))
 go_ret
 exact ⟨rfl, Hw16.out.since⟩

end Go.Proofs.Ytpolofehkckaoaa
