/-
  CwC
-/
import Derived.Test.YtheecifgbkdecaaSN34
import Derived.Test.YtheecifgbkdecaaSN18
import Derived.Test.YtheecifgbkdecaaSNT
namespace Go.Proofs.Ytheecifgbkdecaa
open Go.RowKit

set_option maxHeartbeats 16000000 in
set_option maxRecDepth 100000 in
theorem proofbytes_any (p : Pf) (B : Option Addr) (m c : Nat) (w : World) (h : EysIn w B m p.es) (hlo : p.Low) :
  Calls Try.prog 38 #[.agg #[.int .i64 p.sq, .int .i64 p.vw, .slice B m c]] w (Byt w (encPf p)) := by
 have HB : Hid (Blk (w.alloc (.cells #[.int .i64 p.sq, .int .i64 p.vw, .slice B m c] 55)) w.heap.size 55 [.int .i64 p.sq, .int .i64 p.vw, .slice B m c]) := Lib.hid (Blk.fresh rfl rfl)
 have HX : Hid (Below w.heap.size w (w.alloc (.cells #[.int .i64 p.sq, .int .i64 p.vw, .slice B m c] 55))) := Lib.hid (below1_ w _)
 have hL : (encB p.es).length ≤ 10000000 := by
  have h9 : ∀ l : List Ey, (∀ y ∈ l, y.co.lt.length ≤ 1000 ∧ y.co.tx.length ≤ 1000) → (encAll encEy l).length ≤ l.length * 2039 := fun l => by
   induction l with
   | nil => intro _; simp [encAll]
   | cons y l ih =>
    intro h
    have h1 := h y (List.mem_cons_self ..)
    have h2 := ih (fun z hz => h z (List.mem_cons_of_mem _ hz))
    simp only [encAll, List.length_append, List.length_cons, encEy_len]
    rw [Nat.add_mul, Nat.one_mul]
    omega
  have h8 := h9 p.es hlo.2
  have h7 := hlo.1
  have h6 : p.es.length * 2039 ≤ 1000 * 2039 := Nat.mul_le_mul h7 (Nat.le_refl _)
  unfold encB
  rw [List.length_append, beB_length]
  omega
 have hm : m ≤ 1000000 := by rw [← h.len]; have := hlo.1; omega
 have HNu : Hid (∀ (W : World) (g : Nat), Blk W g 2 [.int .i64 p.sq, .int .i64 p.vw] → Calls Try.prog 34 #[.slice (some ⟨g, 0, none⟩) 2 2] W (MadeS W 16 (beB (u64N p.sq) 8 ++ beB (u64N p.vw) 8))) := Lib.hid (fun W g h => numbers_two p.sq p.vw g W h)
 have HBt : Hid (∀ W : World, Below (w.alloc (.cells #[.int .i64 p.sq, .int .i64 p.vw, .slice B m c] 55)).heap.size (w.alloc (.cells #[.int .i64 p.sq, .int .i64 p.vw, .slice B m c] 55)) W → Calls Try.prog 77 #[.slice B m c] W (Byt W (encB p.es))) := Lib.hid (fun W hW => bytesB_any p.es B m c W (h.through (below_step HX.out hW)) hm (fun y hy => ⟨by have := (hlo.2 y hy).1; omega, by have := (hlo.2 y hy).2; omega⟩) (by omega))
 have HRw : Hid (∀ (W : World) (C : Option Addr) (m d : Nat) (C' : Option Addr) (m' d' : Nat), By W (fun _ => True) C m (beB (u64N p.sq) 8 ++ beB (u64N p.vw) 8) → By W (fun _ => True) C' m' (encB p.es) → m ≤ d → Calls Try.prog 76 #[.slice C m d, .slice C' m' d'] W (Byt W ((beB (u64N p.sq) 8 ++ beB (u64N p.vw) 8) ++ rowB (encB p.es)))) := Lib.hid (fun W C m d C' m' d' h1 h2 h3 => row_by h1 h2 (by simp only [List.length_append, beB_length]; omega) (by omega) h3)
 clear h hlo hL hm
 go_enter Try.func38, Try.ntmps38
 go_wp2
 try dsimp only [Act.put]
 refine wp_region_held_drew (S := fun W => Below (w.alloc (.cells #[.int .i64 p.sq, .int .i64 p.vw, .slice B m c] 55)).heap.size (w.alloc (.cells #[.int .i64 p.sq, .int .i64 p.vw, .slice B m c] 55)) W) (by kernel_rfl) (Below.refl _ _).drew (fun hHeld => ?_)
 change wpAnyH _ _ _ _ _ _ #[false, false, false, false, false, false, false, false, false, false, false] _ _
 refine tkq (i := 0) (d := 3) (v := (.pointer (some ⟨w.heap.size, 0, none⟩))) rfl rfl (Or.inl ⟨by kernel_rfl, fun w hSw => ?_⟩) (by assumption) ?_
 ·(try dsimp only at hSw); go_simp <;> (try rfl)
 simp only [Act.put, sq1, sq2, sq3]
 refine tkq (i := 1) (d := 4) (v := (.int .i64 p.sq)) rfl rfl (yields_load_at (by kernel_rfl) 2 (.tmp 3) rfl (.pointer (some ⟨w.heap.size, 0, none⟩)) (by simp [Act.eval]) (.int .i64 p.sq) (fun W hW => load_one' (Try.agg_i64 W) ((HB.out.through hW).cellAt (i := 0) rfl))) (by assumption) ?_
 simp only [Act.put, sq1, sq2, sq3]
 refine tkq (i := 2) (d := 5) (v := (.pointer (some ⟨w.heap.size, 1, none⟩))) rfl rfl (Or.inl ⟨by kernel_rfl, fun w hSw => ?_⟩) (by assumption) ?_
 ·(try dsimp only at hSw); go_simp <;> (try rfl)
 simp only [Act.put, sq1, sq2, sq3]
 refine tkq (i := 3) (d := 6) (v := (.int .i64 p.vw)) rfl rfl (yields_load_at (by kernel_rfl) 2 (.tmp 5) rfl (.pointer (some ⟨w.heap.size, 1, none⟩)) (by simp [Act.eval]) (.int .i64 p.vw) (fun W hW => load_one' (Try.agg_i64 W) ((HB.out.through hW).cellAt (i := 1) rfl))) (by assumption) ?_
 simp only [Act.put, sq1, sq2, sq3]
 refine tkq (i := 6) (d := 9) (v := (.pointer (some ⟨w.heap.size, 2, none⟩))) rfl rfl (Or.inl ⟨by kernel_rfl, fun w hSw => ?_⟩) (by assumption) ?_
 ·(try dsimp only at hSw); go_simp <;> (try rfl)
 simp only [Act.put, sq1, sq2, sq3]
 refine tkq (i := 7) (d := 10) (v := (.slice B m c)) rfl rfl (yields_load_at (by kernel_rfl) 53 (.tmp 9) rfl (.pointer (some ⟨w.heap.size, 2, none⟩)) (by simp [Act.eval]) (.slice B m c) (fun W hW => load_one' (Try.agg_es W) ((HB.out.through hW).cellAt (i := 2) rfl))) (by assumption) ?_
 simp only [Act.put, sq1, sq2, sq3]
 refine wpAnyH_ready (rs := [4]) (by kernel_rfl) (by simp) ?_
 refine AllReadyH.cons (o := ⟨some 7, .buildSlice 111 2 #[(0, .tmp 4), (1, .tmp 6)], _, _, _, none⟩) rfl (fun K hK => ?_) AllReadyH.nil
 refine step_build2_w rfl 111 2 (.tmp 4) (.tmp 6) rfl (.int .i64 p.sq) (.int .i64 p.vw) (by simp [Act.eval]) (by simp [Act.eval]) (Try.run_b2i p.sq p.vw _) ?_; intro gx wx hbx hxx; have HBx := Lib.hid hbx; have HKx := Lib.hid (below_step hHeld hxx); clear hbx hxx
 refine hK.out _ _ HKx.out (fun hHeld1 => ?_)
 clear hHeld hK K
 have hHeld := hHeld1
 clear hHeld1
 change wpAnyH _ _ _ _ _ _ _ (Act.put _ (some (7 : Nat)) (.slice (some ⟨gx, 0, none⟩) 2 2)) _
 simp only [Act.put, sq1, sq2, sq3]
 refine wpAnyH_ready (rs := [5]) (by kernel_rfl) (by simp) ?_
 refine AllReadyH.cons rfl (fun K hK => ?_) AllReadyH.nil
 go_simp
 refine (HNu.out _ _ HBx.out).mono ?_
 rintro e wp ⟨Ap, cp, rfl, _, hyp, hcp, _, hbp⟩; have HYp := Lib.hid hyp; have HCp := Lib.hid hcp; have HKp := Lib.hid (below_step hHeld hbp); clear hyp hcp hbp
 go_wp2_with fail
 refine hK.out _ _ HKp.out (fun hHeld1 => ?_)
 clear hHeld hK K
 have hHeld := hHeld1
 clear hHeld1
 refine wpAnyH_ready (rs := [8]) (by kernel_rfl) (by simp) ?_
 refine AllReadyH.cons rfl (fun K hK => ?_) AllReadyH.nil
 go_simp
 refine (HBt.out _ hHeld).mono ?_
 rintro e wq ⟨Aq, nq, cq, rfl, hyq, _, _, hbq⟩; have HYq := Lib.hid hyq; have HYp2 := Lib.hid (HYp.out.through hbq); have HKq := Lib.hid (below_step hHeld hbq); clear hyq hbq
 go_wp2_with fail
 refine hK.out _ _ HKq.out (fun hHeld1 => ?_)
 clear hHeld hK K
 have hHeld := hHeld1
 clear hHeld1
 refine wpAnyH_ready (rs := [9]) (by kernel_rfl) (by simp) ?_
 refine AllReadyH.cons rfl (fun K hK => ?_) AllReadyH.nil
 go_simp
 refine (HRw.out _ _ _ _ _ _ _ HYp2.out HYq.out HCp.out).mono ?_
 rintro e wr ⟨Ar, nr, dr, rfl, hyr, hcr, hmr, hbr⟩; have HYr := Lib.hid hyr; have HCr := Lib.hid (And.intro hcr hmr); have HKr := Lib.hid (below_step hHeld hbr); clear hyr hcr hmr hbr
 go_wp2_with fail
 refine hK.out _ _ HKr.out (fun hHeld1 => ?_)
 clear hHeld hK K
 have hHeld := hHeld1
 clear hHeld1
 refine tkq (i := 10) (d := 2) (v := (.slice Ar nr dr)) rfl rfl (Or.inl ⟨by kernel_rfl, fun w hSw => ?_⟩) (by assumption) ?_
 ·(try dsimp only at hSw); go_simp <;> (try rfl)
 simp only [Act.put, sq1, sq2, sq3]
 refine wpAnyH_done (by kernel_rfl) ?_ _
 have HXc := Lib.hid (below_step HX.out hHeld)
 clear hHeld
 go_wp2
 go_ret
 exact ⟨Ar, nr, dr, rfl, by have h9 := HYr.out; simpa only [encPf, List.append_assoc] using h9, HCr.out.1, HCr.out.2, HXc.out⟩

theorem one3p_ (a b : Int) (B : Option Addr) (m c : Nat) : ([.int .i64 a, .int .i64 b, .slice B m c] : List Value).toArray.all (·.oneCell') = true := by simp [Value.oneCell']
set_option maxHeartbeats 16000000 in
set_option maxRecDepth 100000 in
theorem rowpf_any (ps : List Pf) (A : Option Addr) (k c0 : Nat) (w : World) (h : PfsIn w A k ps) (hk : k ≤ 60000) (hl : ∀ p ∈ ps, p.Low) (hL : (encPfs ps).length ≤ 1000000000) :
  Calls Try.prog 37 #[.slice A k c0, .func (.func 38) #[] #[]] w (Byt w (encPfs ps)) := by
 obtain ⟨i0, hi, hz0, hz1, hz2⟩ := info_parts Try.info_u8
 have HI := Lib.hid h
 have HLn := Lib.hid h.len
 have HLo := Lib.hid hl
 obtain ⟨OUT, hO⟩ : ∃ OUT, encPfs ps = OUT := ⟨_, rfl⟩
 rw [hO] at hL ⊢
 have HLL := Lib.hid hL
 have HOUT : Hid (beB k 2 ++ encAll encPf ps = OUT) := Lib.hid (by rw [← hO, ← h.len]; rfl)
 have hwu : ∀ W : World, (convert 3 70 (.int .i64 (k : Int))).run Try.prog W = .ok (.int .u64 (k : Int)) W := fun W => by
  have h9 := conv_u64 3 70 Try.underlying3 Try.underlying70 (k : Int) W
  rw [show u64N (k : Int) = k by unfold u64N; omega] at h9
  exact h9
 have HPut : Hid (∀ (W : World), Calls Try.prog 67 #[.slice none 0 0, .int .u64 (k : Int), .int .i64 2] W (Made W (beB k 2).length (beB k 2))) := Lib.hid (fun W => by
  have h9 := put_any (fun _ => True) none 0 0 [] (k : Int) (2 : Nat) (by omega) (by omega) W By.none_ (by omega) (Nat.le_refl _)
  rw [Int.toNat_natCast, putB_wid rfl] at h9
  have e : putN 0 (2 : Nat) = (beB k 2).length := by rw [beB_length]; rfl
  rw [e] at h9
  exact h9)
 clear h hL hO hl
 go_enter Try.func37, Try.ntmps37
 go_wp2_with (first
  | (go_at_call 67; (refine (HPut.out _).mono ?_); rintro e w4 ⟨v4, rfl, ho4, hb4⟩; have HO4 := Lib.hid ho4; have HX4 := Lib.hid hb4; clear ho4 hb4))
 go_loopw [5, 14] (fun bv iv wr => ∃ (i : Nat) (ys : List UInt8) (v' : Value), i ≤ k ∧ iv = .int .i64 (i : Int) ∧ v' = bv ∧ ys ++ encAll encPf (ps.drop i) = OUT ∧ wr.ownsRow w.heap.size 5 1 v' ys.length (vs ys) ∧ Below w.heap.size w wr) (fun _ iv _ => k - (intOf iv).toNat)
 case atStart => exact ⟨0, _, v4, Nat.zero_le _, rfl, rfl, HOUT.out, HO4.out, HX4.out⟩
 case round =>
  obtain ⟨i, ys, v', hi', rfl, rfl, hpq, hown, hx⟩ := hrel
  have HO := Lib.hid hown
  have HX := Lib.hid hx
  have HPQ := Lib.hid hpq
  clear hown hx hpq
  by_cases hlt : i < k
  ·obtain ⟨g, o, p, B, m, c, rfl, _, hmem, hd, hrx, he, hmc, hcm⟩ := (HI.out.through HX.out).at hlt
   have HRx := Lib.hid hrx
   have hix := Try.ix_pf wr g o k c0 i hlt
   have HEx := Lib.hid he
   have HEn : Hid (∀ W, Below wr.heap.size wr W → Calls Try.prog 38 #[.agg #[.int .i64 p.sq, .int .i64 p.vw, .slice B m c]] W (Byt W (encPf p))) := Lib.hid (fun W hW => proofbytes_any p B m c W (HEx.out.through hW) (HLo.out p hmem))
   have HPQ2 : Hid ((ys ++ encPf p) ++ encAll encPf (ps.drop (i + 1)) = OUT) := Lib.hid (by rw [← HPQ.out, hd]; simp [encAll])
   clear hrx he hmc hcm hd hmem
   go_wp2_with (first
    | (refine wpList_load_mid rfl 55 (.tmp 16) rfl g (o + i * 3) rfl [.int .i64 p.sq, .int .i64 p.vw, .slice B m c] _ HRx.out Try.underlying55 rfl (by kernel_rfl) ?_)
    | (refine wpList_store_blk rfl 55 (.tmp 7) (.tmp 17) rfl wr.heap.size [.int .i64 p.sq, .int .i64 p.vw, .slice B m c] rfl rfl 55 [.int .i64 0, .int .i64 0, .slice none 0 0] (Blk.fresh rfl rfl) (by kernel_rfl) rfl (one3p_ _ _ _ _ _) ?_; simp only [Act.put]; intro wv hbv hgv; have HB := Lib.hid hbv; have HXa : Hid (Below w.heap.size w wv) := Lib.hid (below_step HX.out (below_new hgv)); have HOa := Lib.hid (own_thr HO.out (below_new hgv)); have HNv := Lib.hid (below_new hgv); clear hbv hgv)
    | (refine wpList_load_blk rfl 55 (.tmp 7) rfl wr.heap.size rfl 55 [.int .i64 p.sq, .int .i64 p.vw, .slice B m c] _ HB.out Try.underlying55 rfl (by kernel_rfl) ?_)
    | (go_at_call 38; (with_reducible refine (HEn.out _ HNv.out).mono ?_); rintro e w5 ⟨A5, n5, d5, rfl, hy5, _, _, hb5⟩; have HY5 := Lib.hid hy5; have HX5 := Lib.hid (below_step HXa.out hb5); have HO5 := Lib.hid (own_thr HOa.out hb5); have HBD5 : Hid (ys.length + n5 ≤ 140737488355328) := Lib.hid (by have h9 := congrArg List.length HPQ2.out; simp only [List.length_append] at h9; have h8 := hy5.len; have := HLL.out; omega); have HBS5 : Hid (w.heap.size ≤ w5.heap.size) := Lib.hid HX5.out.size; clear hy5 hb5)
    | (at_builtin; refine wpList_append_by _ rfl (.tmp 18) (.tmp 21) 28 rfl w.heap.size i0 Try.underlying28 hi hz0 hz1 hz2 v' ys.length (vs ys) rfl HO5.out (fun _ => True) _ n5 d5 (encPf p) rfl HY5.out HBD5.out HBS5.out ?_; intro v6 w6 hown6 hgrow6 _; have HN6 : Hid (w6.ownsRow w.heap.size 5 1 v6 (ys ++ encPf p).length (vs (ys ++ encPf p))) := Lib.hid (by rw [List.length_append, ← vs_append, HY5.out.len]; exact hown6); have HX6 : Hid (Below w.heap.size w w6) := Lib.hid (HX5.out.grown hgrow6 HBS5.out (fun g hg => (HO5.out.lt g hg).1)); clear hown6 hgrow6))
   go_roundw
   case rel => exact ⟨i + 1, ys ++ encPf p, v6, by omega, by go_num, rfl, HPQ2.out, HN6.out, HX6.out⟩
   case measure => simp [intOf]; omega
  ·have e9 : ps.drop i = [] := List.drop_of_length_le (by have := HLn.out; omega)
   have HPQ3 : Hid (ys = OUT) := Lib.hid (by rw [← HPQ.out, e9]; simp [encAll])
   clear e9
   obtain ⟨A7, c7, rfl, hn7, hm7, _⟩ := own_form HO.out
   go_wp2
   go_ret
   rw [← HPQ3.out]
   exact ⟨A7, _, c7, rfl, (By.of_own HO.out).weak fun _ _ => trivial, hn7, hm7, HX.out⟩

end Go.Proofs.Ytheecifgbkdecaa
