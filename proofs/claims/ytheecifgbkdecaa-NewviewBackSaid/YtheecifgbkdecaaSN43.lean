/-
  NwA
-/
import Derived.Test.YtheecifgbkdecaaSN36
import Derived.Test.YtheecifgbkdecaaSN29
import Derived.Test.YtheecifgbkdecaaSNT
namespace Go.Proofs.Ytheecifgbkdecaa
open Go.RowKit

theorem one6s (a b c : Int) (A : Option Addr) (n d : Nat) (B : Option Addr) (m e : Nat) (C : Option Addr) (k f : Nat) : ([.int .i64 a, .int .i64 b, .int .i64 c, .slice A n d, .slice B m e, .slice C k f] : List Value).toArray.all (·.oneCell') = true := by simp [Value.oneCell']
set_option maxHeartbeats 16000000 in
set_option maxRecDepth 100000 in
theorem signedbytes_any (s : Sg) (P Q R : Pl) (w : World) (h : ChIn w P Q R s.ch) (hf : fewCh s.ch = true) :
  Calls Try.prog 68 #[.agg #[.int .i64 s.fr, .int .i64 s.ch.vw, .int .i64 s.ch.lw, .slice P.1 P.2.1 P.2.2, .slice Q.1 Q.2.1 Q.2.2, .slice R.1 R.2.1 R.2.2]] w (Byt w (encSg s)) := by
 have HB : Hid (Blk (w.alloc (.cells #[.int .i64 s.fr, .int .i64 s.ch.vw, .int .i64 s.ch.lw, .slice P.1 P.2.1 P.2.2, .slice Q.1 Q.2.1 Q.2.2, .slice R.1 R.2.1 R.2.2] 106)) w.heap.size 106 [.int .i64 s.fr, .int .i64 s.ch.vw, .int .i64 s.ch.lw, .slice P.1 P.2.1 P.2.2, .slice Q.1 Q.2.1 Q.2.2, .slice R.1 R.2.1 R.2.2]) := Lib.hid (Blk.fresh rfl rfl)
 have HX : Hid (Below w.heap.size w (w.alloc (.cells #[.int .i64 s.fr, .int .i64 s.ch.vw, .int .i64 s.ch.lw, .slice P.1 P.2.1 P.2.2, .slice Q.1 Q.2.1 Q.2.2, .slice R.1 R.2.1 R.2.2] 106))) := Lib.hid (below1_ w _)
 have HR : Hid ((w.alloc (.cells #[.int .i64 s.fr, .int .i64 s.ch.vw, .int .i64 s.ch.lw, .slice P.1 P.2.1 P.2.2, .slice Q.1 Q.2.1 Q.2.2, .slice R.1 R.2.1 R.2.2] 106)).rangeAt w.heap.size 1 (Ch.cells s.ch P Q R)) := Lib.hid (Blk.range (pre := [.int .i64 s.fr]) (post := []) (by simpa [Ch.cells] using HB.out))
 have hlen := encCh_len hf h.1.1.2
 have hcv := fun (W : World) => conv_u64 3 70 Try.underlying3 Try.underlying70 s.fr W
 have HPu : Hid (∀ (W : World) (B : Option Addr) (k d : Nat), By W (fun _ => True) B k [] → k ≤ d → Calls Try.prog 67 #[.slice B k d, .int .u64 ((u64N s.fr : Nat) : Int), .int .i64 1] W (Byt W (beB (u64N s.fr) 1))) := Lib.hid (fun W B k d hY hd => by have h9 := put_by 1 rfl (u64N s.fr) (by unfold u64N; omega) (c := d) hY (by simp) hd; rw [List.nil_append] at h9; exact h9)
 have HBt : Hid (∀ W : World, Below (w.alloc (.cells #[.int .i64 s.fr, .int .i64 s.ch.vw, .int .i64 s.ch.lw, .slice P.1 P.2.1 P.2.2, .slice Q.1 Q.2.1 Q.2.2, .slice R.1 R.2.1 R.2.2] 106)).heap.size (w.alloc (.cells #[.int .i64 s.fr, .int .i64 s.ch.vw, .int .i64 s.ch.lw, .slice P.1 P.2.1 P.2.2, .slice Q.1 Q.2.1 Q.2.2, .slice R.1 R.2.1 R.2.2] 106)) W → Calls Try.prog 10 #[.agg (Ch.cells s.ch P Q R).toArray] W (Byt W (encCh s.ch))) := Lib.hid (fun W hW => bytes18_any s.ch P Q R W (h.through (below_step HX.out hW)) hf)
 have HRw : Hid (∀ (W : World) (C : Option Addr) (m d : Nat) (C' : Option Addr) (m' d' : Nat), By W (fun _ => True) C m (beB (u64N s.fr) 1) → By W (fun _ => True) C' m' (encCh s.ch) → m ≤ d → Calls Try.prog 76 #[.slice C m d, .slice C' m' d'] W (Byt W (beB (u64N s.fr) 1 ++ rowB (encCh s.ch)))) := Lib.hid (fun W C m d C' m' d' h1 h2 h3 => row_by h1 h2 (by simp only [beB_length]; omega) (by omega) h3)
 clear h hf hlen
 go_enter Try.func68, Try.ntmps68
 go_wp2
 try dsimp only [Act.put]
 refine wp_region_held_drew (S := fun W => Below (w.alloc (.cells #[.int .i64 s.fr, .int .i64 s.ch.vw, .int .i64 s.ch.lw, .slice P.1 P.2.1 P.2.2, .slice Q.1 Q.2.1 Q.2.2, .slice R.1 R.2.1 R.2.2] 106)).heap.size (w.alloc (.cells #[.int .i64 s.fr, .int .i64 s.ch.vw, .int .i64 s.ch.lw, .slice P.1 P.2.1 P.2.2, .slice Q.1 Q.2.1 Q.2.2, .slice R.1 R.2.1 R.2.2] 106)) W) (by kernel_rfl) (Below.refl _ _).drew (fun hHeld => ?_)
 change wpAnyH _ _ _ _ _ _ #[false, false, false, false, false, false, false, false, false] _ _
 refine tkq (i := 0) (d := 3) (v := (.pointer (some ⟨w.heap.size, 0, none⟩))) rfl rfl (Or.inl ⟨by kernel_rfl, fun w hSw => ?_⟩) (by assumption) ?_
 ·(try dsimp only at hSw); go_simp <;> (try rfl)
 simp only [Act.put, sq1, sq2, sq3]
 refine tkq (i := 1) (d := 4) (v := (.int .i64 s.fr)) rfl rfl (yields_load_at (by kernel_rfl) 3 (.tmp 3) rfl (.pointer (some ⟨w.heap.size, 0, none⟩)) (by simp [Act.eval]) (.int .i64 s.fr) (fun W hW => load_one' (Try.agg_int W) ((HB.out.through hW).cellAt (i := 0) rfl))) (by assumption) ?_
 simp only [Act.put, sq1, sq2, sq3]
 refine tkq (i := 2) (d := 5) (v := (.int .u64 ((u64N s.fr : Nat) : Int))) rfl rfl (yields_conv (by kernel_rfl) 3 70 (.tmp 4) rfl (.int .i64 s.fr) (by simp [Act.eval]) (.int .u64 ((u64N s.fr : Nat) : Int)) (fun W _ => hcv W)) (by assumption) ?_
 simp only [Act.put, sq1, sq2, sq3]
 refine tkq (i := 4) (d := 7) (v := (.pointer (some ⟨w.heap.size, 1, none⟩))) rfl rfl (Or.inl ⟨by kernel_rfl, fun w hSw => ?_⟩) (by assumption) ?_
 ·(try dsimp only at hSw); go_simp <;> (try rfl)
 simp only [Act.put, sq1, sq2, sq3]
 refine tkq (i := 5) (d := 8) (v := (.agg (Ch.cells s.ch P Q R).toArray)) rfl rfl (yieldsIf_load_mid (by kernel_rfl) 25 (.tmp 7) rfl w.heap.size 1 (by simp [Act.eval]) (Ch.cells s.ch P Q R) _ (fun W hW => rangeAt.through HR.out hW) Try.underlying25 rfl (by kernel_rfl)) (by assumption) ?_
 simp only [Act.put, sq1, sq2, sq3]
 refine wpAnyH_ready (rs := [3]) (by kernel_rfl) (by simp) ?_
 refine AllReadyH.cons rfl (fun K hK => ?_) AllReadyH.nil
 go_simp
 refine (HPu.out _ none 0 0 By.none_ (Nat.le_refl _)).mono ?_
 rintro e wp ⟨Ap, np, cp, rfl, hyp, hcp, _, hbp⟩; have HYp := Lib.hid hyp; have HCp := Lib.hid hcp; have HKp := Lib.hid (below_step hHeld hbp); clear hyp hcp hbp
 go_wp2_with fail
 refine hK.out _ _ HKp.out (fun hHeld1 => ?_)
 clear hHeld hK K
 have hHeld := hHeld1
 clear hHeld1
 refine wpAnyH_ready (rs := [6]) (by kernel_rfl) (by simp) ?_
 refine AllReadyH.cons rfl (fun K hK => ?_) AllReadyH.nil
 go_simp
 refine (HBt.out _ hHeld).mono ?_
 rintro e wq ⟨Aq, nq, cq, rfl, hyq, _, _, hbq⟩; have HYq := Lib.hid hyq; have HYp2 := Lib.hid (HYp.out.through hbq); have HKq := Lib.hid (below_step hHeld hbq); clear hyq hbq
 go_wp2_with fail
 refine hK.out _ _ HKq.out (fun hHeld1 => ?_)
 clear hHeld hK K
 have hHeld := hHeld1
 clear hHeld1
 refine wpAnyH_ready (rs := [7]) (by kernel_rfl) (by simp) ?_
 refine AllReadyH.cons rfl (fun K hK => ?_) AllReadyH.nil
 go_simp
 refine (HRw.out _ _ _ _ _ _ _ HYp2.out HYq.out HCp.out).mono ?_
 rintro e wr ⟨Ar, nr, dr, rfl, hyr, hcr, hmr, hbr⟩; have HYr := Lib.hid hyr; have HCr := Lib.hid (And.intro hcr hmr); have HKr := Lib.hid (below_step hHeld hbr); clear hyr hcr hmr hbr
 go_wp2_with fail
 refine hK.out _ _ HKr.out (fun hHeld1 => ?_)
 clear hHeld hK K
 have hHeld := hHeld1
 clear hHeld1
 refine tkq (i := 8) (d := 2) (v := (.slice Ar nr dr)) rfl rfl (Or.inl ⟨by kernel_rfl, fun w hSw => ?_⟩) (by assumption) ?_
 ·(try dsimp only at hSw); go_simp <;> (try rfl)
 simp only [Act.put, sq1, sq2, sq3]
 refine wpAnyH_done (by kernel_rfl) ?_ _
 have HXc := Lib.hid (below_step HX.out hHeld)
 clear hHeld
 go_wp2
 go_ret
 exact ⟨Ar, nr, dr, rfl, by have h9 := HYr.out; simpa only [encSg] using h9, HCr.out.1, HCr.out.2, HXc.out⟩

set_option maxHeartbeats 16000000 in
set_option maxRecDepth 100000 in
theorem bytes19_any (view : Int) (l : List Sg) (A : Option Addr) (k c0 : Nat) (w : World) (h : SgsIn w A k l) (hf : fewNv l = true) :
  Calls Try.prog 23 #[.int .i64 view, .slice A k c0] w (Byt w (encNv view l)) := by
 obtain ⟨i0, hi, hz0, hz1, hz2⟩ := info_parts Try.info_u8
 have HI := Lib.hid h
 have HLn := Lib.hid h.len
 obtain ⟨f1, f2⟩ := fewNv_low hf
 have HF1 := Lib.hid f1
 have hk : k ≤ 10 := by rw [← h.len]; exact f2
 have hL := encNv_len (view := view) hf h.dg
 obtain ⟨OUT, hO⟩ : ∃ OUT, encNv view l = OUT := ⟨_, rfl⟩
 rw [hO] at hL ⊢
 have HLL := Lib.hid hL
 have HOUT : Hid ((beB (u64N view) 8 ++ beB k 2) ++ encAll encSg l = OUT) := Lib.hid (by rw [← hO, ← h.len, List.append_assoc]; rfl)
 have hwu : ∀ W : World, (convert 3 70 (.int .i64 (k : Int))).run Try.prog W = .ok (.int .u64 (k : Int)) W := fun W => by
  have h9 := conv_u64 3 70 Try.underlying3 Try.underlying70 (k : Int) W
  rw [show u64N (k : Int) = k by unfold u64N; omega] at h9
  exact h9
 have hcv := fun (W : World) => conv_u64 2 70 Try.underlying2 Try.underlying70 view W
 have HP1 : Hid (∀ (W : World) (B : Option Addr) (k d : Nat), By W (fun _ => True) B k [] → k ≤ d → Calls Try.prog 67 #[.slice B k d, .int .u64 ((u64N view : Nat) : Int), .int .i64 8] W (MadeS W (k + 8) (beB (u64N view) 8))) := Lib.hid (fun W B k d hY hd => by have h9 := put_made 8 rfl (u64N view) (by unfold u64N; omega) (c := d) hY (by simp) hd; rw [List.nil_append] at h9; exact h9)
 have HP2 : Hid (∀ (W : World) (B : Option Addr) (m d : Nat), By W (fun _ => True) B m (beB (u64N view) 8) → m ≤ d → Calls Try.prog 67 #[.slice B m d, .int .u64 (k : Int), .int .i64 2] W (MadeS W (m + 2) (beB (u64N view) 8 ++ beB k 2))) := Lib.hid (fun W B m d hY hd => put_made 2 rfl k (by omega) hY (by rw [beB_length]; omega) hd)
 clear h hL hO hf f1 f2
 go_enter Try.func23, Try.ntmps23
 go_wp2_with (first
  | (go_at_call 67; (with_reducible refine (HP1.out _ none 0 0 By.none_ (Nat.le_refl _)).mono ?_); rintro e w1 ⟨A1, c1, rfl, _, hy1, hn1, _, hb1⟩; have HY1 := Lib.hid hy1; have HC1 := Lib.hid hn1; have HX1 := Lib.hid hb1; clear hy1 hn1 hb1)
  | (go_at_call 67; (with_reducible refine (HP2.out _ _ _ _ HY1.out HC1.out).mono ?_); rintro e w2 ⟨A2, c2, rfl, ho2, hy2, hn2, hm2, hb2⟩; have HO2 := Lib.hid (own_weak ho2 HX1.out.size); have HL2 := Lib.hid hy2.len; have HX2 := Lib.hid (below_step HX1.out hb2); clear ho2 hy2 hn2 hm2 hb2))
 go_loopw [5, 17] (fun bv iv wr => ∃ (i : Nat) (ys : List UInt8) (v' : Value), i ≤ k ∧ iv = .int .i64 (i : Int) ∧ v' = bv ∧ ys ++ encAll encSg (l.drop i) = OUT ∧ wr.ownsRow w.heap.size 5 1 v' ys.length (vs ys) ∧ Below w.heap.size w wr) (fun _ iv _ => k - (intOf iv).toNat)
 case atStart => exact ⟨0, _, _, Nat.zero_le _, rfl, rfl, HOUT.out, by rw [HL2.out]; exact HO2.out, HX2.out⟩
 case round =>
  obtain ⟨i, ys, v', hi', rfl, rfl, hpq, hown, hx⟩ := hrel
  have HO := Lib.hid hown
  have HX := Lib.hid hx
  have HPQ := Lib.hid hpq
  clear hown hx hpq
  by_cases hlt : i < k
  ·obtain ⟨g, o, s, P, Q, R, rfl, _, hmem, hd, hrx, hch⟩ := (HI.out.through HX.out).at hlt
   have HRx := Lib.hid hrx
   have HCh := Lib.hid hch
   have hix := Try.ix_sg wr g o k c0 i hlt
   have HEn : Hid (∀ W, Below wr.heap.size wr W → Calls Try.prog 68 #[.agg #[.int .i64 s.fr, .int .i64 s.ch.vw, .int .i64 s.ch.lw, .slice P.1 P.2.1 P.2.2, .slice Q.1 Q.2.1 Q.2.2, .slice R.1 R.2.1 R.2.2]] W (Byt W (encSg s))) := Lib.hid (fun W hW => signedbytes_any s P Q R W (HCh.out.through hW) (HF1.out s hmem))
   have HPQ2 : Hid ((ys ++ encSg s) ++ encAll encSg (l.drop (i + 1)) = OUT) := Lib.hid (by rw [← HPQ.out, hd]; simp [encAll])
   clear hrx hd hmem hch
   go_wp2_with (first
    | (refine wpList_load_mid rfl 106 (.tmp 19) rfl g (o + i * 6) rfl [.int .i64 s.fr, .int .i64 s.ch.vw, .int .i64 s.ch.lw, .slice P.1 P.2.1 P.2.2, .slice Q.1 Q.2.1 Q.2.2, .slice R.1 R.2.1 R.2.2] _ HRx.out Try.underlying106 rfl (by kernel_rfl) ?_)
    | (refine wpList_store_blk rfl 106 (.tmp 7) (.tmp 20) rfl wr.heap.size [.int .i64 s.fr, .int .i64 s.ch.vw, .int .i64 s.ch.lw, .slice P.1 P.2.1 P.2.2, .slice Q.1 Q.2.1 Q.2.2, .slice R.1 R.2.1 R.2.2] rfl rfl 106 [.int .i64 0, .int .i64 0, .int .i64 0, .slice none 0 0, .slice none 0 0, .slice none 0 0] (Blk.fresh rfl rfl) (by kernel_rfl) rfl (one6s _ _ _ _ _ _ _ _ _ _ _ _) ?_; simp only [Act.put]; intro wv hbv hgv; have HB := Lib.hid hbv; have HXa : Hid (Below w.heap.size w wv) := Lib.hid (below_step HX.out (below_new hgv)); have HOa := Lib.hid (own_thr HO.out (below_new hgv)); have HNv := Lib.hid (below_new hgv); clear hbv hgv)
    | (refine wpList_load_blk rfl 106 (.tmp 7) rfl wr.heap.size rfl 106 [.int .i64 s.fr, .int .i64 s.ch.vw, .int .i64 s.ch.lw, .slice P.1 P.2.1 P.2.2, .slice Q.1 Q.2.1 Q.2.2, .slice R.1 R.2.1 R.2.2] _ HB.out Try.underlying106 rfl (by kernel_rfl) ?_)
    | (go_at_call 68; (with_reducible refine (HEn.out _ HNv.out).mono ?_); rintro e w5 ⟨A5, n5, d5, rfl, hy5, _, _, hb5⟩; have HY5 := Lib.hid hy5; have HX5 := Lib.hid (below_step HXa.out hb5); have HO5 := Lib.hid (own_thr HOa.out hb5); have HBD5 : Hid (ys.length + n5 ≤ 140737488355328) := Lib.hid (by have h9 := congrArg List.length HPQ2.out; simp only [List.length_append] at h9; have h8 := hy5.len; have := HLL.out; omega); have HBS5 : Hid (w.heap.size ≤ w5.heap.size) := Lib.hid HX5.out.size; clear hy5 hb5)
    | (at_builtin; refine wpList_append_by _ rfl (.tmp 21) (.tmp 23) 28 rfl w.heap.size i0 Try.underlying28 hi hz0 hz1 hz2 v' ys.length (vs ys) rfl HO5.out (fun _ => True) _ n5 d5 (encSg s) rfl HY5.out HBD5.out HBS5.out ?_; intro v6 w6 hown6 hgrow6 _; have HN6 : Hid (w6.ownsRow w.heap.size 5 1 v6 (ys ++ encSg s).length (vs (ys ++ encSg s))) := Lib.hid (by rw [List.length_append, ← vs_append, HY5.out.len]; exact hown6); have HX6 : Hid (Below w.heap.size w w6) := Lib.hid (HX5.out.grown hgrow6 HBS5.out (fun g hg => (HO5.out.lt g hg).1)); clear hown6 hgrow6))
   go_roundw
   case rel => exact ⟨i + 1, ys ++ encSg s, v6, by omega, by go_num, rfl, HPQ2.out, HN6.out, HX6.out⟩
   case measure => simp [intOf]; omega
  ·have e9 : l.drop i = [] := List.drop_of_length_le (by have := HLn.out; omega)
   have HPQ3 : Hid (ys = OUT) := Lib.hid (by rw [← HPQ.out, e9]; simp [encAll])
   clear e9
   obtain ⟨A7, c7, rfl, hn7, hm7, _⟩ := own_form HO.out
   go_wp2
   go_ret
   rw [← HPQ3.out]
   exact ⟨A7, _, c7, rfl, (By.of_own HO.out).weak fun _ _ => trivial, hn7, hm7, HX.out⟩
theorem bytesnw : BytesNW := fun view l A k c w h hf => bytes19_any view l A k c w h hf
theorem faultsnw : FaultsNW := fun n w hn => (nfaults_any n w (by omega)).mono fun e w' ⟨h1, h2⟩ => ⟨h1, h2 ▸ Below.refl _ _⟩
theorem quorumnw : QuorumNW := fun n w hn => (nquorum_any n w (by omega)).mono fun e w' ⟨h1, h2⟩ => ⟨h1, h2 ▸ Below.refl _ _⟩

end Go.Proofs.Ytheecifgbkdecaa
