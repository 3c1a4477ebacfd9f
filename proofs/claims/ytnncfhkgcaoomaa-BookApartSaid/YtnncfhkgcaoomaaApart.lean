/-
  BookApart, walked.
-/
import Derived.Test.YtnncfhkgcaoomaaBFix
import Derived.Test.YtnncfhkgcaoomaaPTxts
namespace Go.Proofs.Ytnncfhkgcaoomaa
open Go.RowKit

/-- A tag that was made for x holds for y just if they are the same. -/
theorem holds_iff {ts : List TK} {x y : TK} {n : Nat} (hx : x ∈ ts) (ho : ord x ts = n) (hl : ts.length < 1000000000) : bookHolds ts y (numB 255 n) = decide (y = x) := by
  unfold bookHolds bookTag
  rw [Bool.eq_iff_iff, Bool.and_eq_true, beq_iff_eq, decide_eq_true_iff, decide_eq_true_iff]
  have h1 := ord_le hx
  constructor
  · rintro ⟨hy, he⟩
    have h2 := ord_le hy
    have h3 := (numB_inj (by omega) (by omega)).1 he
    exact (ord_inj hy hx).1 (by omega)
  · rintro rfl
    exact ⟨hx, by rw [ho]⟩
theorem same_iff {ds : List DK} {x y : DK} {n : Nat} (hx : x ∈ ds) (ho : ord x ds = n) (hl : ds.length < 1000000000) : (numB y.1 (ord y (also y ds)) == numB x.1 n) = decide (y = x) := by
  rw [Bool.eq_iff_iff, beq_iff_eq, decide_eq_true_iff]
  have h1 := ord_le hx
  have h2 := ord_le (mem_also y ds)
  have h3 := also_length y ds
  constructor
  · intro he
    have h4 := (numB_inj (by omega) (by omega)).1 he
    refine (ord_inj (mem_also y ds) (mem_also_of hx)).1 ?_
    rw [ord_also hx]
    omega
  · rintro rfl
    rw [also_mem hx, ho]

theorem two_rows {w w4 w5 : World} {g : Nat} {ds : List DK} {ts : List TK} (hx : Below w.heap.size w w4) (hs : BS w4 g ds ts) (ho : ((w4.alloc (.cells (vs zero32).toArray 38)).alloc (.cells (vs zero32).toArray 35)).grownBy w5 (some w4.heap.size)) :
    Hid (Below w.heap.size w w5) ∧ Hid (BS w5 g ds ts) ∧ Hid (Blk w5 (w4.heap.size + 1) 35 (vs zero32)) := by
  have hg := hs.lt
  have h1 : Below w4.heap.size w4 ((w4.alloc (.cells (vs zero32).toArray 38)).alloc (.cells (vs zero32).toArray 35)) := ((Below.refl _ w4).alloc (Nat.le_refl _) _).alloc (by simp) _
  have hb4 : Blk ((w4.alloc (.cells (vs zero32).toArray 38)).alloc (.cells (vs zero32).toArray 35)) w4.heap.size 38 (vs zero32) := (Blk.fresh rfl rfl).alloc _
  have hb5 : Blk ((w4.alloc (.cells (vs zero32).toArray 38)).alloc (.cells (vs zero32).toArray 35)) (w4.heap.size + 1) 35 (vs zero32) := Blk.fresh (by simp) rfl
  refine ⟨Lib.hid ?_, Lib.hid ((hs.through h1).grown hb4 ho (Nat.ne_of_lt hg)), Lib.hid (hb5.grown ho (fun e => by have := Option.some.inj e; omega))⟩
  exact (hx.trans (h1.mono hx.size)).grown ho (Nat.le_trans hx.size h1.size) (fun k hk => Option.some.inj hk ▸ hx.size)

theorem By.kfAny {w w' : World} {g n : Nat} {A : Option Addr} {xs : List UInt8} {ds : List DK} {ts : List TK} (h : By w (fun _ => True) A n xs) (hf : KF g w w') (hne : BS w g ds ts) : By w' (fun _ => True) A n xs := by
  obtain ⟨m1, m2, hb, _⟩ := hne
  refine ⟨h.1, fun hn => ?_⟩
  obtain ⟨b, o, e, _, hc⟩ := h.2 hn
  have hl : 0 < xs.length := by have := h.1; omega
  have hbg : b ≠ g := by
    rintro rfl
    have h0 := hc 0 xs[0] (List.getElem?_eq_getElem hl)
    rw [hb.cell] at h0
    match o, h0 with
    | 0, h0 => simp [u8] at h0
    | 1, h0 => simp [u8] at h0
    | o + 2, h0 => simp at h0
  have h2 : By w (fun k => k ≠ g) A n xs := ⟨h.1, fun _ => ⟨b, o, e, hbg, hc⟩⟩
  exact ((h2.kf hf fun _ h => h).weak (Q' := fun _ => True) fun _ _ => trivial).2 hn

set_option maxHeartbeats 16000000 in
set_option maxRecDepth 100000 in
theorem apart_any (k m from_ to_ other : Int) (xa xb : List UInt8) (A B L : Option Addr) (na ca nb cb nl cl : Nat) (w : World) (hya : By w (fun _ => True) A na xa) (hyb : By w (fun _ => True) B nb xb) (hyl : Txts w L nl) :
    Calls Try.prog 4 #[.int .i64 k, .slice A na ca, .int .i64 m, .slice B nb cb, .int .i64 from_, .int .i64 to_, .int .i64 other, .slice L nl cl] w fun e w' => e = .returned (.bool true) ∧ Below w.heap.size w w' := by
  by_cases hna : 100 < na
  · have hdna : decide (100 < (na : Int)) = true := by simp; omega
    clear hya hyb hyl
    go_enter Try.func4, Try.ntmps4
    go_wp2_with (go_at_call 6; (with_reducible refine (bfixed_any _).mono ?_); rintro e w1 ⟨rfl, hx1⟩)
    go_ret
    exact ⟨rfl, hx1⟩
  by_cases hnb : 100 < nb
  · have hdna : decide (100 < (na : Int)) = false := by simp; omega
    have hdnb : decide (100 < (nb : Int)) = true := by simp; omega
    clear hya hyb hyl
    go_enter Try.func4, Try.ntmps4
    go_wp2_with (go_at_call 6; (with_reducible refine (bfixed_any _).mono ?_); rintro e w1 ⟨rfl, hx1⟩)
    go_ret
    exact ⟨rfl, hx1⟩
  by_cases hnl : 50 < nl
  · have hdna : decide (100 < (na : Int)) = false := by simp; omega
    have hdnb : decide (100 < (nb : Int)) = false := by simp; omega
    have hdnl : decide (50 < (nl : Int)) = true := by simp; omega
    clear hya hyb hyl
    go_enter Try.func4, Try.ntmps4
    go_wp2_with (go_at_call 6; (with_reducible refine (bfixed_any _).mono ?_); rintro e w1 ⟨rfl, hx1⟩)
    go_ret
    exact ⟨rfl, hx1⟩
  have hdna : decide (100 < (na : Int)) = false := by simp; omega
  have hdnb : decide (100 < (nb : Int)) = false := by simp; omega
  have hdnl : decide (50 < (nl : Int)) = false := by simp; omega
  obtain ⟨z, hz⟩ : ∃ z : DK, z = (kb k, xa) := ⟨_, rfl⟩
  obtain ⟨y, hy⟩ : ∃ y : TK, y = (from_, to_, xa) := ⟨_, rfl⟩
  obtain ⟨q1, hq1⟩ : ∃ q1, q1 = vs (numB (kb k) 1) := ⟨_, rfl⟩
  have hq1l : q1.length = 32 := by rw [hq1, vs_length, numB_length]
  have hq1o : q1.toArray.all (·.oneCell') = true := by rw [hq1]; exact one_u8
  obtain ⟨q2, hq2⟩ : ∃ q2, q2 = vs (numB 255 1) := ⟨_, rfl⟩
  have hq2l : q2.length = 32 := by rw [hq2, vs_length, numB_length]
  have hq2o : q2.toArray.all (·.oneCell') = true := by rw [hq2]; exact one_u8
  have hd0 : ∀ W g, BS W g [] [] → By W (fun _ => True) A na xa → Calls Try.prog 12 #[.pointer (some ⟨g, 0, none⟩), .int .i64 k, .slice A na ca] W fun e w' => e = .returned (.agg q1.toArray) ∧ BS w' g (also z []) [] ∧ KF g W w' := fun W g h1 h2 => by
    have h := bdig_any (fun _ => True) g [] [] k xa A na ca W h1 h2 (by decide)
    rw [← hz, show ord z (also z []) = 1 from ord_new (by simp), ← hq1] at h
    exact h
  have ht0 : ∀ W g, BS W g (also z []) [] → By W (fun _ => True) A na xa → Calls Try.prog 13 #[.pointer (some ⟨g, 0, none⟩), .int .i64 from_, .int .i64 to_, .slice A na ca] W fun e w' => e = .returned (.agg q2.toArray) ∧ BS w' g (also z []) (also y []) ∧ KF g W w' := fun W g h1 h2 => by
    have h := btag_any (fun _ => True) g (also z []) [] from_ to_ xa A na ca W h1 h2 (by decide)
    rw [← hy, show ord y (also y []) = 1 from ord_new (by simp), ← hq2] at h
    exact h
  have HD0 := Lib.hid hd0
  have HT0 := Lib.hid ht0
  have HQ1 := Lib.hid hq1
  have HQ2 := Lib.hid hq2
  have HQ1l := Lib.hid hq1l
  have HQ1o := Lib.hid hq1o
  have HQ2l := Lib.hid hq2l
  have HQ2o := Lib.hid hq2o
  have HZ := Lib.hid hz
  have HY := Lib.hid hy
  have HA := Lib.hid hya
  have HB := Lib.hid hyb
  have HL := Lib.hid hyl
  clear hya hyb hyl hz hy hq1 hq1l hq1o hq2 hq2l hq2o hd0 ht0
  go_enter Try.func4, Try.ntmps4
  go_wp2_with (first
    | (go_at_call 6; (with_reducible refine (bfixed_any _).mono ?_); rintro e w1 ⟨rfl, hx1⟩; have HX1 := Lib.hid hx1; clear hx1)
    | (go_at_call 7; (with_reducible refine (bnew_any _).mono ?_); rintro e w2 ⟨rfl, hs, hb⟩; have HS2 := Lib.hid hs; have HX2 := Lib.hid (HX1.out.trans (hb.mono HX1.out.size)); clear hs hb)
    | (go_at_call 12; (with_reducible refine (HD0.out _ w1.heap.size HS2.out (HA.out.through HX2.out)).mono ?_); rintro e w3 ⟨rfl, hs, hf⟩; have HS3 := Lib.hid hs; have HX3 := Lib.hid (HX2.out.trans (hf.low.mono HX1.out.size)); clear hs hf)
    | (go_at_call 13; (with_reducible refine (HT0.out _ w1.heap.size HS3.out (HA.out.through HX3.out)).mono ?_); rintro e w4 ⟨rfl, hs, hf⟩; have HS4 := Lib.hid hs; have HX4 := Lib.hid (HX3.out.trans (hf.low.mono HX1.out.size)); have hg4 := hs.lt; clear hs hf)
    | (refine wpList_store_blk rfl 38 (.tmp 18) (.tmp 45) rfl w4.heap.size q1 rfl rfl 38 (vs zero32) ((Blk.fresh rfl (by kernel_rfl)).alloc _) (by rw [HQ1l.out]; kernel_rfl) (by rw [HQ1l.out]; rfl) HQ1o.out ?_; intro w5 hb5 ho5; obtain ⟨HX5, HS5, H55⟩ := two_rows HX4.out HS4.out ho5; have H45 := Lib.hid hb5; clear hb5 ho5)
    | (refine wpList_store_blk rfl 35 (.tmp 19) (.tmp 50) rfl (w4.heap.size + 1) q2 rfl rfl 35 (vs zero32) H55.out (by rw [HQ2l.out]; kernel_rfl) (by rw [HQ2l.out]; rfl) HQ2o.out ?_; intro w6 hb6 ho6; have H46 := Lib.hid (H45.out.grown ho6 (by simp)); have H56 := Lib.hid hb6; have HX6 := Lib.hid (HX5.out.grown ho6 HX5.out.size (fun k hk => Option.some.inj hk ▸ Nat.le_succ_of_le HX4.out.size)); have HS6 := Lib.hid (HS5.out.grown H55.out ho6 (Nat.ne_of_lt (Nat.lt_succ_of_lt hg4))); clear hb6 ho6))
  obtain ⟨b5, hb5⟩ : ∃ b5, b5 = w4.heap.size + 1 := ⟨_, rfl⟩
  rw [← hb5] at H56
  rw [← hb5]
  obtain ⟨b4, hb4⟩ : ∃ b4, b4 = w4.heap.size := ⟨_, rfl⟩
  rw [← hb4] at H46
  rw [← hb4]
  obtain ⟨g, hg⟩ : ∃ g, g = w1.heap.size := ⟨_, rfl⟩
  rw [← hg] at HS6 hg4
  rw [← hg]
  have hwg : w.heap.size ≤ g := by rw [hg]; exact HX1.out.size
  have h4g : b4 ≠ g := by omega
  have h5g : b5 ≠ g := by omega
  clear hb4 hb5 hg hg4
  have H46' := Lib.hid H46.out
  have H56' := Lib.hid H56.out
  have HS6' := Lib.hid HS6.out
  have HX6' := Lib.hid HX6.out
  clear H46 H56 HS6 HX6
  clear H45 H55 HS5 HX5 HS4 HX4 HS3 HX3 HS2 HX2 HX1
  try dsimp only [Act.put]
  go_loopw [53] (fun iv wr => ∃ (j : Nat) (ds : List DK) (ts : List TK), j ≤ nl ∧ iv = .int .i64 j ∧ BS wr g ds ts ∧ z ∈ ds ∧ ord z ds = 1 ∧ y ∈ ts ∧ ord y ts = 1 ∧ ds.length ≤ j + 1 ∧ ts.length ≤ j + 1 ∧ Blk wr b4 38 q1 ∧ Blk wr b5 35 q2 ∧ Below w.heap.size w wr) (fun iv _ => nl - (intOf iv).toNat)
  case atStart => exact ⟨0, also z [], also y [], Nat.zero_le _, rfl, HS6'.out, mem_also _ _, ord_new (by simp), mem_also _ _, ord_new (by simp), also_length _ _, also_length _ _, H46'.out, H56'.out, HX6'.out⟩
  case round =>
    obtain ⟨j, ds, ts, hj, rfl, hs, hzm, hzo, hym, hyo, hdl, htl, hb4, hb5, hx⟩ := hrel
    have KS := Lib.hid hs
    have K4 := Lib.hid hb4
    have K5 := Lib.hid hb5
    have KX := Lib.hid hx
    have HZm := Lib.hid hzm
    have HZo := Lib.hid hzo
    have HYm := Lib.hid hym
    have HYo := Lib.hid hyo
    clear hs hb4 hb5 hx hzm hzo hym hyo H46' H56' HS6' HX6'
    by_cases hlt : j < nl
    · obtain ⟨bb, oo, rfl, hst⟩ := HL.out.through KX.out (by omega)
      obtain ⟨Aj, nj, cj, sj, s0, hyj⟩ := hst j hlt
      have HYj := Lib.hid hyj
      clear hst hyj
      by_cases hbig : 100 < nj
      · as_aux_lemma =>
        have hdj : decide (100 < (nj : Int)) = true := by simp; omega
        go_wp2
        go_ret
        exact ⟨rfl, KX.out⟩
      · as_aux_lemma =>
        have hdj : decide (100 < (nj : Int)) = false := by simp; omega
        go_wp2_with (first
          | (go_at_call 12; (with_reducible refine (bdig_any (fun _ => True) g ds ts m sj Aj nj cj _ KS.out HYj.out (by omega)).mono ?_); rintro e wa ⟨rfl, hs, hf⟩; have HSa := Lib.hid hs; have HFa := Lib.hid hf; have HYa := Lib.hid (HYj.out.kfAny hf KS.out); clear hs hf)
          | (go_at_call 13; (with_reducible refine (btag_any (fun _ => True) g _ ts to_ from_ sj Aj nj cj _ HSa.out HYa.out (by omega)).mono ?_); rintro e wb ⟨rfl, hs, hf⟩; have HSb := Lib.hid hs; have HFb := Lib.hid (HFa.out.trans hf); clear hs hf))
        go_roundw
        case rel => exact ⟨j + 1, also (kb m, sj) ds, also (to_, from_, sj) ts, by omega, by go_num, HSb.out, mem_also_of HZm.out, (ord_also HZm.out).trans HZo.out, mem_also_of HYm.out, (ord_also HYm.out).trans HYo.out, Nat.le_trans (also_length _ _) (by omega), Nat.le_trans (also_length _ _) (by omega), HFb.out.blk K4.out h4g, HFb.out.blk K5.out h5g, KX.out.trans (HFb.out.low.mono hwg)⟩
        case measure => simp [intOf]; omega
    · have HA2 := Lib.hid (HA.out.through KX.out)
      have HB2 := Lib.hid (HB.out.through KX.out)
      obtain ⟨sa, hsa⟩ : ∃ sa : ByteArray, sa = ⟨xa.toArray⟩ := ⟨_, rfl⟩
      obtain ⟨sb, hsb⟩ : ∃ sb : ByteArray, sb = ⟨xb.toArray⟩ := ⟨_, rfl⟩
      have hca : ∀ W, By W (fun _ => True) A na xa → (convert 33 9 (.slice A na ca)).run Try.prog W = .ok (.string sa) W := fun W h => by rw [hsa]; exact str_any (fun _ => True) ca h
      have hcb : ∀ W, By W (fun _ => True) B nb xb → (convert 33 9 (.slice B nb cb)).run Try.prog W = .ok (.string sb) W := fun W h => by rw [hsb]; exact str_any (fun _ => True) cb h
      obtain ⟨e2, he2⟩ : ∃ e2, e2 = decide (xa = xb) := ⟨_, rfl⟩
      have hse : (sa.toList == sb.toList) = e2 := by rw [hsa, hsb, he2]; exact str_beq xa xb
      obtain ⟨ds1, hds1⟩ : ∃ ds1, ds1 = also ((kb m, xb) : DK) ds := ⟨_, rfl⟩
      obtain ⟨r1, hr1⟩ : ∃ r1, r1 = vs (numB (kb m) (ord (kb m, xb) ds1)) := ⟨_, rfl⟩
      have hdm : ∀ W, BS W g ds ts → By W (fun _ => True) B nb xb → Calls Try.prog 12 #[.pointer (some ⟨g, 0, none⟩), .int .i64 m, .slice B nb cb] W fun e w' => e = .returned (.agg r1.toArray) ∧ BS w' g ds1 ts ∧ KF g W w' := fun W h1 h2 => by
        have h := bdig_any (fun _ => True) g ds ts m xb B nb cb W h1 h2 (by omega)
        rw [← hds1, ← hr1] at h
        exact h
      have hdk : ∀ W, BS W g ds1 ts → By W (fun _ => True) A na xa → Calls Try.prog 12 #[.pointer (some ⟨g, 0, none⟩), .int .i64 k, .slice A na ca] W fun e w' => e = .returned (.agg q1.toArray) ∧ BS w' g ds1 ts ∧ KF g W w' := fun W h1 h2 => by
        have hm1 : z ∈ ds1 := by rw [hds1]; exact mem_also_of HZm.out
        have h3 := also_length ((kb m, xb) : DK) ds
        have h := bdig_any (fun _ => True) g ds1 ts k xa A na ca W h1 h2 (by rw [hds1]; omega)
        have ho1 : ord z ds1 = 1 := by rw [hds1, ord_also HZm.out]; exact HZo.out
        rw [← HZ.out, also_mem hm1, ho1, ← HQ1.out] at h
        exact h
      have htf : ∀ W, BS W g ds1 ts → By W (fun _ => True) A na xa → Calls Try.prog 13 #[.pointer (some ⟨g, 0, none⟩), .int .i64 from_, .int .i64 to_, .slice A na ca] W fun e w' => e = .returned (.agg q2.toArray) ∧ BS w' g ds1 ts ∧ KF g W w' := fun W h1 h2 => by
        have h := btag_any (fun _ => True) g ds1 ts from_ to_ xa A na ca W h1 h2 (by omega)
        rw [← HY.out, also_mem HYm.out, HYo.out, ← HQ2.out] at h
        exact h
      have hn1 : ∀ W, (binOp .neq 38 (.agg q1.toArray) (.agg q1.toArray)).run Try.prog W = .ok (.bool false) W := fun W => by
        rw [HQ1.out]; exact arr_neq (b := true) (fun w => by rw [dig_eql _ _ (numB_length _ _) (numB_length _ _), beq_self_eq_true]) W
      have hn2 : ∀ W, (binOp .neq 35 (.agg q2.toArray) (.agg q2.toArray)).run Try.prog W = .ok (.bool false) W := fun W => by
        rw [HQ2.out]; exact arr_neq (b := true) (fun w => by rw [tag_eql _ _ (numB_length _ _) (numB_length _ _), beq_self_eq_true]) W
      have hsame : ∀ W, (binOp .eql 38 (.agg r1.toArray) (.agg q1.toArray)).run Try.prog W = .ok (.bool (decide ((kb m, xb) = z))) W := fun W => by
        have h := same_iff (y := (kb m, xb)) HZm.out HZo.out (by omega)
        rw [← hds1, HZ.out] at h
        rw [hr1, HQ1.out, dig_eql _ _ (numB_length _ _) (numB_length _ _), h, HZ.out]
      have hhold : bookHolds ts (from_, other, xb) (numB 255 1) = decide ((from_, other, xb) = y) := holds_iff HYm.out HYo.out (by omega)
      have hck : ∀ W, BS W g ds1 ts → By W (fun _ => True) B nb xb → Calls Try.prog 14 #[.pointer (some ⟨g, 0, none⟩), .int .i64 from_, .int .i64 other, .slice B nb cb, .agg q2.toArray] W fun e w' => e = .returned (.bool (decide ((from_, other, xb) = y))) ∧ Below W.heap.size W w' := fun W h1 h2 => by
        have h := bcheck_any (fun _ => True) g ds1 ts from_ other xb (numB 255 1) B nb cb W h1 h2 (by omega) (numB_length _ _)
        rw [hhold, ← HQ2.out] at h
        exact h
      obtain ⟨z0, hz0⟩ : ∃ z0, z0 = vs zero32 := ⟨_, rfl⟩
      have hbd : ∀ W, (Instr.build 38 #[]).run Try.prog W = .ok (.agg z0.toArray) W := fun W => by rw [hz0]; kernel_rfl
      have hbt : ∀ W, (Instr.build 35 #[]).run Try.prog W = .ok (.agg z0.toArray) W := fun W => by rw [hz0]; kernel_rfl
      have hz1 : ∀ W, (binOp .eql 38 (.agg z0.toArray) (.agg z0.toArray)).run Try.prog W = .ok (.bool true) W := fun W => by rw [hz0, dig_eql _ _ rfl rfl, beq_self_eq_true]
      have hz2 : ∀ W, (binOp .eql 35 (.agg z0.toArray) (.agg z0.toArray)).run Try.prog W = .ok (.bool true) W := fun W => by rw [hz0, tag_eql _ _ rfl rfl, beq_self_eq_true]
      have hnd : ∀ W, Calls Try.prog 12 #[.pointer none, .int .i64 k, .slice A na ca] W fun e w' => e = .returned (.agg z0.toArray) ∧ Below W.heap.size W w' := fun W => by rw [hz0]; exact bdig_nil k A na ca W
      have hnt : ∀ W, Calls Try.prog 13 #[.pointer none, .int .i64 from_, .int .i64 to_, .slice A na ca] W fun e w' => e = .returned (.agg z0.toArray) ∧ Below W.heap.size W w' := fun W => by rw [hz0]; exact btag_nil from_ to_ A na ca W
      have hns : ∀ W, Calls Try.prog 15 #[.pointer none, .int .i64 from_, .int .i64 to_, .slice A na ca] W fun e w' => e = .returned (.bool false) ∧ Below W.heap.size W w' := fun W => bsaid_nil from_ to_ A na ca W
      have hnc : ∀ W, Calls Try.prog 14 #[.pointer none, .int .i64 from_, .int .i64 to_, .slice A na ca, .agg q2.toArray] W fun e w' => e = .returned (.bool false) ∧ Below W.heap.size W w' := fun W => by
        have h := bcheck_nil from_ to_ xa (numB 255 1) A na ca W (numB_length _ _)
        rw [← HQ2.out] at h
        exact h
      rw [HZ.out] at hsame
      rw [HY.out] at hck
      have HCa := Lib.hid hca
      have HCb := Lib.hid hcb
      have HSe := Lib.hid hse
      have HDm := Lib.hid hdm
      have HDk := Lib.hid hdk
      have HTf := Lib.hid htf
      have HSm := Lib.hid hsame
      have HCk := Lib.hid hck
      have HNd := Lib.hid hnd
      have HNt := Lib.hid hnt
      have HNs := Lib.hid hns
      have HNc := Lib.hid hnc
      have HE2 := Lib.hid he2
      have hwk := kb_wrap k
      have hmk := kb_mod k
      have hwm := kb_wrap m
      have hmm := kb_mod m
      clear hca hcb hse hdm hdk htf hsame hck hnd hnt hns hnc hsa hsb hds1 hr1 hz0 hhold he2
      by_cases hk : kb k = kb m
      · by_cases ho : other = to_
        · as_aux_lemma =>
          have hkk : kb m = kb k := hk.symm
          rw [hkk] at HSm hwm hmm
          have hsm : ∀ W, (binOp .eql 38 (.agg r1.toArray) (.agg q1.toArray)).run Try.prog W = .ok (.bool e2) W := fun W => by
            rw [HSm.out W, HE2.out]; congr 2; rw [Bool.eq_iff_iff]; simp; exact eq_comm
          have hck2 : decide ((from_, other, xb) = (from_, to_, xa)) = e2 := by
            rw [ho, HE2.out, Bool.eq_iff_iff]; simp; exact eq_comm
          rw [hck2] at HCk
          clear hck2
          clear hk HSm hkk
          generalize ((kb k).toNat : Int) = x1 at *
          subst ho
          have hca := HCa.out _ HA2.out
          have hcb := HCb.out _ HB2.out
          have hse := HSe.out
          go_wp2
          try dsimp only [Act.put]
          have HSp := Lib.hid KS.out
          have H4p := Lib.hid K4.out
          have H5p := Lib.hid K5.out
          have HXp := Lib.hid KX.out
          refine wp_region_held_drew (S := fun W => Blk W b4 38 q1 ∧ Blk W b5 35 q2) (by kernel_rfl) ⟨H4p.out.drew, H5p.out.drew⟩ (fun hHeld => ?_)
          change wpAnyH _ _ _ _ _ _ #[false, false, false, false, false, false, false, false, false, false, false, false, false, false, false, false, false, false, false, false, false, false, false, false, false] _ _
          refine wpAnyH_take (i := 0) (v := (.pointer (some ⟨g, 0, none⟩))) rfl (by kernel_rfl) (by kernel_rfl) (by kernel_rfl) (fun _ _ _ h => h) (Or.inl ⟨by kernel_rfl, fun w hSw => ?_⟩) (by assumption) ?_
          · (try dsimp only at hSw); go_simp <;> (try rfl)
          change wpAnyH _ _ _ _ _ _ _ (Act.put _ (some (82 : Nat)) (.pointer (some ⟨g, 0, none⟩))) _
          simp only [Act.put, List.setIfInBounds_toArray, List.set_cons_zero, List.set_cons_succ]
          refine wpAnyH_take (i := 1) (v := (.int .i64 m)) rfl (by kernel_rfl) (by kernel_rfl) (by kernel_rfl) (fun _ _ _ h => h) (Or.inl ⟨by kernel_rfl, fun w hSw => ?_⟩) (by assumption) ?_
          · (try dsimp only at hSw); go_simp <;> (try rfl)
          change wpAnyH _ _ _ _ _ _ _ (Act.put _ (some (83 : Nat)) (.int .i64 m)) _
          simp only [Act.put, List.setIfInBounds_toArray, List.set_cons_zero, List.set_cons_succ]
          refine wpAnyH_take (i := 2) (v := (.slice B nb cb)) rfl (by kernel_rfl) (by kernel_rfl) (by kernel_rfl) (fun _ _ _ h => h) (Or.inl ⟨by kernel_rfl, fun w hSw => ?_⟩) (by assumption) ?_
          · (try dsimp only at hSw); go_simp <;> (try rfl)
          change wpAnyH _ _ _ _ _ _ _ (Act.put _ (some (84 : Nat)) (.slice B nb cb)) _
          simp only [Act.put, List.setIfInBounds_toArray, List.set_cons_zero, List.set_cons_succ]
          refine wpAnyH_take (i := 4) (v := (.agg q1.toArray)) rfl (by kernel_rfl) (by kernel_rfl) (by kernel_rfl) (fun _ _ _ h => h) (yields_load_at (by kernel_rfl) 38 (.tmp 18) rfl (.pointer (some ⟨b4, 0, none⟩)) (by simp [Act.eval]) (.agg q1.toArray) (fun W hW => hW.1.loadAt 38 _ Try.underlying38 rfl (by rw [HQ1l.out]; kernel_rfl))) (by assumption) ?_
          change wpAnyH _ _ _ _ _ _ _ (Act.put _ (some (86 : Nat)) (.agg q1.toArray)) _
          simp only [Act.put, List.setIfInBounds_toArray, List.set_cons_zero, List.set_cons_succ]
          refine wpAnyH_take (i := 6) (v := (.bool e2)) rfl (by kernel_rfl) (by kernel_rfl) (by kernel_rfl) (fun _ _ _ h => h) (Or.inl ⟨by kernel_rfl, fun w hSw => ?_⟩) (by assumption) ?_
          · (try dsimp only at hSw); go_simp <;> (try rfl)
          change wpAnyH _ _ _ _ _ _ _ (Act.put _ (some (88 : Nat)) (.bool e2)) _
          simp only [Act.put, List.setIfInBounds_toArray, List.set_cons_zero, List.set_cons_succ]
          refine wpAnyH_ready (rs := [3]) (by kernel_rfl) (by simp) ?_
          refine AllReadyH.cons rfl (fun K hK => ?_) AllReadyH.nil
          go_simp
          refine (HDm.out _ HSp.out.drew (HB2.out.drew)).mono ?_
          rintro e wa ⟨rfl, hs, hf⟩; have HSwa := Lib.hid hs; have H4wa := Lib.hid (hf.blk H4p.out.drew h4g); have H5wa := Lib.hid (hf.blk H5p.out.drew h5g); have HXwa := Lib.hid (HXp.out.drew.trans (hf.low.mono hwg)); clear hs hf
          go_wp2_with fail
          refine hK.out _ _ ⟨H4wa.out, H5wa.out⟩ (fun hHeld1 => ?_)
          clear hHeld hK K
          have hHeld := hHeld1
          clear hHeld1
          refine wpAnyH_take (i := 5) (v := (.bool e2)) rfl (by kernel_rfl) (by kernel_rfl) (by kernel_rfl) (fun _ _ _ h => h) (Or.inl ⟨by kernel_rfl, fun w hSw => ?_⟩) (by assumption) ?_
          · (try dsimp only at hSw); go_simp <;> (try rfl)
          change wpAnyH _ _ _ _ _ _ _ (Act.put _ (some (87 : Nat)) (.bool e2)) _
          simp only [Act.put, List.setIfInBounds_toArray, List.set_cons_zero, List.set_cons_succ]
          refine wpAnyH_take (i := 7) (v := (.bool false)) rfl (by kernel_rfl) (by kernel_rfl) (by kernel_rfl) (fun _ _ _ h => h) (Or.inl ⟨by kernel_rfl, fun w hSw => ?_⟩) (by assumption) ?_
          · (try dsimp only at hSw); go_simp <;> (try rfl)
          change wpAnyH _ _ _ _ _ _ _ (Act.put _ (some (89 : Nat)) (.bool false)) _
          simp only [Act.put, List.setIfInBounds_toArray, List.set_cons_zero, List.set_cons_succ]
          refine wpAnyH_take (i := 8) (v := (.bool false)) rfl (by kernel_rfl) (by kernel_rfl) (by kernel_rfl) (fun _ _ _ h => h) (Or.inl ⟨by kernel_rfl, fun w hSw => ?_⟩) (by assumption) ?_
          · (try dsimp only at hSw); go_simp <;> (try rfl)
          change wpAnyH _ _ _ _ _ _ _ (Act.put _ (some (90 : Nat)) (.bool false)) _
          simp only [Act.put, List.setIfInBounds_toArray, List.set_cons_zero, List.set_cons_succ]
          refine wpAnyH_take (i := 9) (v := (.pointer (some ⟨g, 0, none⟩))) rfl (by kernel_rfl) (by kernel_rfl) (by kernel_rfl) (fun _ _ _ h => h) (Or.inl ⟨by kernel_rfl, fun w hSw => ?_⟩) (by assumption) ?_
          · (try dsimp only at hSw); go_simp <;> (try rfl)
          change wpAnyH _ _ _ _ _ _ _ (Act.put _ (some (91 : Nat)) (.pointer (some ⟨g, 0, none⟩))) _
          simp only [Act.put, List.setIfInBounds_toArray, List.set_cons_zero, List.set_cons_succ]
          refine wpAnyH_take (i := 10) (v := (.int .i64 k)) rfl (by kernel_rfl) (by kernel_rfl) (by kernel_rfl) (fun _ _ _ h => h) (Or.inl ⟨by kernel_rfl, fun w hSw => ?_⟩) (by assumption) ?_
          · (try dsimp only at hSw); go_simp <;> (try rfl)
          change wpAnyH _ _ _ _ _ _ _ (Act.put _ (some (92 : Nat)) (.int .i64 k)) _
          simp only [Act.put, List.setIfInBounds_toArray, List.set_cons_zero, List.set_cons_succ]
          refine wpAnyH_take (i := 11) (v := (.slice A na ca)) rfl (by kernel_rfl) (by kernel_rfl) (by kernel_rfl) (fun _ _ _ h => h) (Or.inl ⟨by kernel_rfl, fun w hSw => ?_⟩) (by assumption) ?_
          · (try dsimp only at hSw); go_simp <;> (try rfl)
          change wpAnyH _ _ _ _ _ _ _ (Act.put _ (some (93 : Nat)) (.slice A na ca)) _
          simp only [Act.put, List.setIfInBounds_toArray, List.set_cons_zero, List.set_cons_succ]
          refine wpAnyH_take (i := 13) (v := (.agg q1.toArray)) rfl (by kernel_rfl) (by kernel_rfl) (by kernel_rfl) (fun _ _ _ h => h) (yields_load_at (by kernel_rfl) 38 (.tmp 18) rfl (.pointer (some ⟨b4, 0, none⟩)) (by simp [Act.eval]) (.agg q1.toArray) (fun W hW => hW.1.loadAt 38 _ Try.underlying38 rfl (by rw [HQ1l.out]; kernel_rfl))) (by assumption) ?_
          change wpAnyH _ _ _ _ _ _ _ (Act.put _ (some (95 : Nat)) (.agg q1.toArray)) _
          simp only [Act.put, List.setIfInBounds_toArray, List.set_cons_zero, List.set_cons_succ]
          refine wpAnyH_ready (rs := [12]) (by kernel_rfl) (by simp) ?_
          refine AllReadyH.cons rfl (fun K hK => ?_) AllReadyH.nil
          go_simp
          refine (HDk.out _ HSwa.out (HA.out.through HXwa.out)).mono ?_
          rintro e wb ⟨rfl, hs, hf⟩; have HSwb := Lib.hid hs; have H4wb := Lib.hid (hf.blk H4wa.out h4g); have H5wb := Lib.hid (hf.blk H5wa.out h5g); have HXwb := Lib.hid (HXwa.out.trans (hf.low.mono hwg)); clear hs hf
          go_wp2_with fail
          refine hK.out _ _ ⟨H4wb.out, H5wb.out⟩ (fun hHeld1 => ?_)
          clear hHeld hK K
          have hHeld := hHeld1
          clear hHeld1
          refine wpAnyH_take (i := 14) (v := (.bool false)) rfl (by kernel_rfl) (by kernel_rfl) (by kernel_rfl) (fun _ _ _ h => h) (Or.inl ⟨by kernel_rfl, fun w hSw => ?_⟩) (by assumption) ?_
          · (try dsimp only at hSw); go_simp <;> (try rfl)
          change wpAnyH _ _ _ _ _ _ _ (Act.put _ (some (96 : Nat)) (.bool false)) _
          simp only [Act.put, List.setIfInBounds_toArray, List.set_cons_zero, List.set_cons_succ]
          refine wpAnyH_take (i := 15) (v := (.bool false)) rfl (by kernel_rfl) (by kernel_rfl) (by kernel_rfl) (fun _ _ _ h => h) (Or.inl ⟨by kernel_rfl, fun w hSw => ?_⟩) (by assumption) ?_
          · (try dsimp only at hSw); go_simp <;> (try rfl)
          change wpAnyH _ _ _ _ _ _ _ (Act.put _ (some (97 : Nat)) (.bool false)) _
          simp only [Act.put, List.setIfInBounds_toArray, List.set_cons_zero, List.set_cons_succ]
          refine wpAnyH_take (i := 16) (v := (.bool false)) rfl (by kernel_rfl) (by kernel_rfl) (by kernel_rfl) (fun _ _ _ h => h) (Or.inl ⟨by kernel_rfl, fun w hSw => ?_⟩) (by assumption) ?_
          · (try dsimp only at hSw); go_simp <;> (try rfl)
          change wpAnyH _ _ _ _ _ _ _ (Act.put _ (some (98 : Nat)) (.bool false)) _
          simp only [Act.put, List.setIfInBounds_toArray, List.set_cons_zero, List.set_cons_succ]
          refine wpAnyH_take (i := 17) (v := (.pointer (some ⟨g, 0, none⟩))) rfl (by kernel_rfl) (by kernel_rfl) (by kernel_rfl) (fun _ _ _ h => h) (Or.inl ⟨by kernel_rfl, fun w hSw => ?_⟩) (by assumption) ?_
          · (try dsimp only at hSw); go_simp <;> (try rfl)
          change wpAnyH _ _ _ _ _ _ _ (Act.put _ (some (99 : Nat)) (.pointer (some ⟨g, 0, none⟩))) _
          simp only [Act.put, List.setIfInBounds_toArray, List.set_cons_zero, List.set_cons_succ]
          refine wpAnyH_take (i := 18) (v := (.int .i64 from_)) rfl (by kernel_rfl) (by kernel_rfl) (by kernel_rfl) (fun _ _ _ h => h) (Or.inl ⟨by kernel_rfl, fun w hSw => ?_⟩) (by assumption) ?_
          · (try dsimp only at hSw); go_simp <;> (try rfl)
          change wpAnyH _ _ _ _ _ _ _ (Act.put _ (some (100 : Nat)) (.int .i64 from_)) _
          simp only [Act.put, List.setIfInBounds_toArray, List.set_cons_zero, List.set_cons_succ]
          refine wpAnyH_take (i := 19) (v := (.int .i64 other)) rfl (by kernel_rfl) (by kernel_rfl) (by kernel_rfl) (fun _ _ _ h => h) (Or.inl ⟨by kernel_rfl, fun w hSw => ?_⟩) (by assumption) ?_
          · (try dsimp only at hSw); go_simp <;> (try rfl)
          change wpAnyH _ _ _ _ _ _ _ (Act.put _ (some (101 : Nat)) (.int .i64 other)) _
          simp only [Act.put, List.setIfInBounds_toArray, List.set_cons_zero, List.set_cons_succ]
          refine wpAnyH_take (i := 20) (v := (.slice A na ca)) rfl (by kernel_rfl) (by kernel_rfl) (by kernel_rfl) (fun _ _ _ h => h) (Or.inl ⟨by kernel_rfl, fun w hSw => ?_⟩) (by assumption) ?_
          · (try dsimp only at hSw); go_simp <;> (try rfl)
          change wpAnyH _ _ _ _ _ _ _ (Act.put _ (some (102 : Nat)) (.slice A na ca)) _
          simp only [Act.put, List.setIfInBounds_toArray, List.set_cons_zero, List.set_cons_succ]
          refine wpAnyH_take (i := 22) (v := (.agg q2.toArray)) rfl (by kernel_rfl) (by kernel_rfl) (by kernel_rfl) (fun _ _ _ h => h) (yields_load_at (by kernel_rfl) 35 (.tmp 19) rfl (.pointer (some ⟨b5, 0, none⟩)) (by simp [Act.eval]) (.agg q2.toArray) (fun W hW => hW.2.loadAt 35 _ Try.underlying35 rfl (by rw [HQ2l.out]; kernel_rfl))) (by assumption) ?_
          change wpAnyH _ _ _ _ _ _ _ (Act.put _ (some (104 : Nat)) (.agg q2.toArray)) _
          simp only [Act.put, List.setIfInBounds_toArray, List.set_cons_zero, List.set_cons_succ]
          refine wpAnyH_ready (rs := [21]) (by kernel_rfl) (by simp) ?_
          refine AllReadyH.cons rfl (fun K hK => ?_) AllReadyH.nil
          go_simp
          refine (HTf.out _ HSwb.out (HA.out.through HXwb.out)).mono ?_
          rintro e wc ⟨rfl, hs, hf⟩; have HSwc := Lib.hid hs; have H4wc := Lib.hid (hf.blk H4wb.out h4g); have H5wc := Lib.hid (hf.blk H5wb.out h5g); have HXwc := Lib.hid (HXwb.out.trans (hf.low.mono hwg)); clear hs hf
          go_wp2_with fail
          refine hK.out _ _ ⟨H4wc.out, H5wc.out⟩ (fun hHeld1 => ?_)
          clear hHeld hK K
          have hHeld := hHeld1
          clear hHeld1
          refine wpAnyH_take (i := 23) (v := (.bool false)) rfl (by kernel_rfl) (by kernel_rfl) (by kernel_rfl) (fun _ _ _ h => h) (Or.inl ⟨by kernel_rfl, fun w hSw => ?_⟩) (by assumption) ?_
          · (try dsimp only at hSw); go_simp <;> (try rfl)
          change wpAnyH _ _ _ _ _ _ _ (Act.put _ (some (105 : Nat)) (.bool false)) _
          simp only [Act.put, List.setIfInBounds_toArray, List.set_cons_zero, List.set_cons_succ]
          refine wpAnyH_take (i := 24) (v := (.bool false)) rfl (by kernel_rfl) (by kernel_rfl) (by kernel_rfl) (fun _ _ _ h => h) (Or.inl ⟨by kernel_rfl, fun w hSw => ?_⟩) (by assumption) ?_
          · (try dsimp only at hSw); go_simp <;> (try rfl)
          change wpAnyH _ _ _ _ _ _ _ (Act.put _ (some (106 : Nat)) (.bool false)) _
          simp only [Act.put, List.setIfInBounds_toArray, List.set_cons_zero, List.set_cons_succ]
          refine wpAnyH_done (by kernel_rfl) ?_ _
          go_wp2_with (first
            | (refine wpList_load_blk_g 35 (.tmp 19) rfl (by kernel_rfl) b5 rfl 35 q2 _ H5wc.out Try.underlying35 rfl (by rw [HQ2l.out]; kernel_rfl) ?_)
            | (go_at_call 14; (with_reducible refine (HCk.out _ HSwc.out (HB.out.through HXwc.out)).mono ?_); rintro e wd ⟨rfl, hb⟩; have HXwd := Lib.hid (HXwc.out.trans (hb.mono HXwc.out.size)); have H5wd := Lib.hid (H5wc.out.through hb); clear hb; have hca2 := HCa.out _ (HA.out.through HXwd.out); have hcb2 := HCb.out _ (HB.out.through HXwd.out))
            | (go_at_call 11; (with_reducible refine (bsizes_nil _).mono ?_); rintro e we ⟨rfl, rfl⟩)
            | (go_at_call 12; (with_reducible refine (HNd.out _).mono ?_); rintro e wf ⟨rfl, hb⟩; have HXwf := Lib.hid (HXwd.out.trans (hb.mono HXwd.out.size)); have H5wf := Lib.hid (H5wd.out.through hb); clear hb)
            | (refine wpList_build_g (by kernel_rfl) 38 [] rfl [] rfl (.agg z0.toArray) (hbd _) ?_)
            | (go_at_call 13; (with_reducible refine (HNt.out _).mono ?_); rintro e wg ⟨rfl, hb⟩; have HXwg := Lib.hid (HXwf.out.trans (hb.mono HXwf.out.size)); have H5wg := Lib.hid (H5wf.out.through hb); clear hb)
            | (refine wpList_build_g (by kernel_rfl) 35 [] rfl [] rfl (.agg z0.toArray) (hbt _) ?_)
            | (go_at_call 15; (with_reducible refine (HNs.out _).mono ?_); rintro e wh ⟨rfl, hb⟩; have HXwh := Lib.hid (HXwg.out.trans (hb.mono HXwg.out.size)); have H5wh := Lib.hid (H5wg.out.through hb); clear hb)
            | (refine wpList_load_blk_g 35 (.tmp 19) rfl (by kernel_rfl) b5 rfl 35 q2 _ H5wh.out Try.underlying35 rfl (by rw [HQ2l.out]; kernel_rfl) ?_)
            | (go_at_call 14; (with_reducible refine (HNc.out _).mono ?_); rintro e wi ⟨rfl, hb⟩; have HXwi := Lib.hid (HXwh.out.trans (hb.mono HXwh.out.size)); have H5wi := Lib.hid (H5wh.out.through hb); clear hb))
          go_ret
          exact ⟨rfl, HXwi.out⟩
        · as_aux_lemma =>
          have hkk : kb m = kb k := hk.symm
          rw [hkk] at HSm hwm hmm
          have hsm : ∀ W, (binOp .eql 38 (.agg r1.toArray) (.agg q1.toArray)).run Try.prog W = .ok (.bool e2) W := fun W => by
            rw [HSm.out W, HE2.out]; congr 2; rw [Bool.eq_iff_iff]; simp; exact eq_comm
          have hck2 : decide ((from_, other, xb) = (from_, to_, xa)) = false := by
            exact decide_eq_false (fun e => ho (congrArg (fun p => p.2.1) e))
          rw [hck2] at HCk
          clear hck2
          clear hk HSm hkk
          generalize ((kb k).toNat : Int) = x1 at *
          have hca := HCa.out _ HA2.out
          have hcb := HCb.out _ HB2.out
          have hse := HSe.out
          go_wp2
          try dsimp only [Act.put]
          have HSp := Lib.hid KS.out
          have H4p := Lib.hid K4.out
          have H5p := Lib.hid K5.out
          have HXp := Lib.hid KX.out
          refine wp_region_held_drew (S := fun W => Blk W b4 38 q1 ∧ Blk W b5 35 q2) (by kernel_rfl) ⟨H4p.out.drew, H5p.out.drew⟩ (fun hHeld => ?_)
          change wpAnyH _ _ _ _ _ _ #[false, false, false, false, false, false, false, false, false, false, false, false, false, false, false, false, false, false, false, false, false, false, false, false, false] _ _
          refine wpAnyH_take (i := 0) (v := (.pointer (some ⟨g, 0, none⟩))) rfl (by kernel_rfl) (by kernel_rfl) (by kernel_rfl) (fun _ _ _ h => h) (Or.inl ⟨by kernel_rfl, fun w hSw => ?_⟩) (by assumption) ?_
          · (try dsimp only at hSw); go_simp <;> (try rfl)
          change wpAnyH _ _ _ _ _ _ _ (Act.put _ (some (82 : Nat)) (.pointer (some ⟨g, 0, none⟩))) _
          simp only [Act.put, List.setIfInBounds_toArray, List.set_cons_zero, List.set_cons_succ]
          refine wpAnyH_take (i := 1) (v := (.int .i64 m)) rfl (by kernel_rfl) (by kernel_rfl) (by kernel_rfl) (fun _ _ _ h => h) (Or.inl ⟨by kernel_rfl, fun w hSw => ?_⟩) (by assumption) ?_
          · (try dsimp only at hSw); go_simp <;> (try rfl)
          change wpAnyH _ _ _ _ _ _ _ (Act.put _ (some (83 : Nat)) (.int .i64 m)) _
          simp only [Act.put, List.setIfInBounds_toArray, List.set_cons_zero, List.set_cons_succ]
          refine wpAnyH_take (i := 2) (v := (.slice B nb cb)) rfl (by kernel_rfl) (by kernel_rfl) (by kernel_rfl) (fun _ _ _ h => h) (Or.inl ⟨by kernel_rfl, fun w hSw => ?_⟩) (by assumption) ?_
          · (try dsimp only at hSw); go_simp <;> (try rfl)
          change wpAnyH _ _ _ _ _ _ _ (Act.put _ (some (84 : Nat)) (.slice B nb cb)) _
          simp only [Act.put, List.setIfInBounds_toArray, List.set_cons_zero, List.set_cons_succ]
          refine wpAnyH_take (i := 4) (v := (.agg q1.toArray)) rfl (by kernel_rfl) (by kernel_rfl) (by kernel_rfl) (fun _ _ _ h => h) (yields_load_at (by kernel_rfl) 38 (.tmp 18) rfl (.pointer (some ⟨b4, 0, none⟩)) (by simp [Act.eval]) (.agg q1.toArray) (fun W hW => hW.1.loadAt 38 _ Try.underlying38 rfl (by rw [HQ1l.out]; kernel_rfl))) (by assumption) ?_
          change wpAnyH _ _ _ _ _ _ _ (Act.put _ (some (86 : Nat)) (.agg q1.toArray)) _
          simp only [Act.put, List.setIfInBounds_toArray, List.set_cons_zero, List.set_cons_succ]
          refine wpAnyH_take (i := 6) (v := (.bool e2)) rfl (by kernel_rfl) (by kernel_rfl) (by kernel_rfl) (fun _ _ _ h => h) (Or.inl ⟨by kernel_rfl, fun w hSw => ?_⟩) (by assumption) ?_
          · (try dsimp only at hSw); go_simp <;> (try rfl)
          change wpAnyH _ _ _ _ _ _ _ (Act.put _ (some (88 : Nat)) (.bool e2)) _
          simp only [Act.put, List.setIfInBounds_toArray, List.set_cons_zero, List.set_cons_succ]
          refine wpAnyH_ready (rs := [3]) (by kernel_rfl) (by simp) ?_
          refine AllReadyH.cons rfl (fun K hK => ?_) AllReadyH.nil
          go_simp
          refine (HDm.out _ HSp.out.drew (HB2.out.drew)).mono ?_
          rintro e wa ⟨rfl, hs, hf⟩; have HSwa := Lib.hid hs; have H4wa := Lib.hid (hf.blk H4p.out.drew h4g); have H5wa := Lib.hid (hf.blk H5p.out.drew h5g); have HXwa := Lib.hid (HXp.out.drew.trans (hf.low.mono hwg)); clear hs hf
          go_wp2_with fail
          refine hK.out _ _ ⟨H4wa.out, H5wa.out⟩ (fun hHeld1 => ?_)
          clear hHeld hK K
          have hHeld := hHeld1
          clear hHeld1
          refine wpAnyH_take (i := 5) (v := (.bool e2)) rfl (by kernel_rfl) (by kernel_rfl) (by kernel_rfl) (fun _ _ _ h => h) (Or.inl ⟨by kernel_rfl, fun w hSw => ?_⟩) (by assumption) ?_
          · (try dsimp only at hSw); go_simp <;> (try rfl)
          change wpAnyH _ _ _ _ _ _ _ (Act.put _ (some (87 : Nat)) (.bool e2)) _
          simp only [Act.put, List.setIfInBounds_toArray, List.set_cons_zero, List.set_cons_succ]
          refine wpAnyH_take (i := 7) (v := (.bool false)) rfl (by kernel_rfl) (by kernel_rfl) (by kernel_rfl) (fun _ _ _ h => h) (Or.inl ⟨by kernel_rfl, fun w hSw => ?_⟩) (by assumption) ?_
          · (try dsimp only at hSw); go_simp <;> (try rfl)
          change wpAnyH _ _ _ _ _ _ _ (Act.put _ (some (89 : Nat)) (.bool false)) _
          simp only [Act.put, List.setIfInBounds_toArray, List.set_cons_zero, List.set_cons_succ]
          refine wpAnyH_take (i := 8) (v := (.bool false)) rfl (by kernel_rfl) (by kernel_rfl) (by kernel_rfl) (fun _ _ _ h => h) (Or.inl ⟨by kernel_rfl, fun w hSw => ?_⟩) (by assumption) ?_
          · (try dsimp only at hSw); go_simp <;> (try rfl)
          change wpAnyH _ _ _ _ _ _ _ (Act.put _ (some (90 : Nat)) (.bool false)) _
          simp only [Act.put, List.setIfInBounds_toArray, List.set_cons_zero, List.set_cons_succ]
          refine wpAnyH_take (i := 9) (v := (.pointer (some ⟨g, 0, none⟩))) rfl (by kernel_rfl) (by kernel_rfl) (by kernel_rfl) (fun _ _ _ h => h) (Or.inl ⟨by kernel_rfl, fun w hSw => ?_⟩) (by assumption) ?_
          · (try dsimp only at hSw); go_simp <;> (try rfl)
          change wpAnyH _ _ _ _ _ _ _ (Act.put _ (some (91 : Nat)) (.pointer (some ⟨g, 0, none⟩))) _
          simp only [Act.put, List.setIfInBounds_toArray, List.set_cons_zero, List.set_cons_succ]
          refine wpAnyH_take (i := 10) (v := (.int .i64 k)) rfl (by kernel_rfl) (by kernel_rfl) (by kernel_rfl) (fun _ _ _ h => h) (Or.inl ⟨by kernel_rfl, fun w hSw => ?_⟩) (by assumption) ?_
          · (try dsimp only at hSw); go_simp <;> (try rfl)
          change wpAnyH _ _ _ _ _ _ _ (Act.put _ (some (92 : Nat)) (.int .i64 k)) _
          simp only [Act.put, List.setIfInBounds_toArray, List.set_cons_zero, List.set_cons_succ]
          refine wpAnyH_take (i := 11) (v := (.slice A na ca)) rfl (by kernel_rfl) (by kernel_rfl) (by kernel_rfl) (fun _ _ _ h => h) (Or.inl ⟨by kernel_rfl, fun w hSw => ?_⟩) (by assumption) ?_
          · (try dsimp only at hSw); go_simp <;> (try rfl)
          change wpAnyH _ _ _ _ _ _ _ (Act.put _ (some (93 : Nat)) (.slice A na ca)) _
          simp only [Act.put, List.setIfInBounds_toArray, List.set_cons_zero, List.set_cons_succ]
          refine wpAnyH_take (i := 13) (v := (.agg q1.toArray)) rfl (by kernel_rfl) (by kernel_rfl) (by kernel_rfl) (fun _ _ _ h => h) (yields_load_at (by kernel_rfl) 38 (.tmp 18) rfl (.pointer (some ⟨b4, 0, none⟩)) (by simp [Act.eval]) (.agg q1.toArray) (fun W hW => hW.1.loadAt 38 _ Try.underlying38 rfl (by rw [HQ1l.out]; kernel_rfl))) (by assumption) ?_
          change wpAnyH _ _ _ _ _ _ _ (Act.put _ (some (95 : Nat)) (.agg q1.toArray)) _
          simp only [Act.put, List.setIfInBounds_toArray, List.set_cons_zero, List.set_cons_succ]
          refine wpAnyH_ready (rs := [12]) (by kernel_rfl) (by simp) ?_
          refine AllReadyH.cons rfl (fun K hK => ?_) AllReadyH.nil
          go_simp
          refine (HDk.out _ HSwa.out (HA.out.through HXwa.out)).mono ?_
          rintro e wb ⟨rfl, hs, hf⟩; have HSwb := Lib.hid hs; have H4wb := Lib.hid (hf.blk H4wa.out h4g); have H5wb := Lib.hid (hf.blk H5wa.out h5g); have HXwb := Lib.hid (HXwa.out.trans (hf.low.mono hwg)); clear hs hf
          go_wp2_with fail
          refine hK.out _ _ ⟨H4wb.out, H5wb.out⟩ (fun hHeld1 => ?_)
          clear hHeld hK K
          have hHeld := hHeld1
          clear hHeld1
          refine wpAnyH_take (i := 14) (v := (.bool false)) rfl (by kernel_rfl) (by kernel_rfl) (by kernel_rfl) (fun _ _ _ h => h) (Or.inl ⟨by kernel_rfl, fun w hSw => ?_⟩) (by assumption) ?_
          · (try dsimp only at hSw); go_simp <;> (try rfl)
          change wpAnyH _ _ _ _ _ _ _ (Act.put _ (some (96 : Nat)) (.bool false)) _
          simp only [Act.put, List.setIfInBounds_toArray, List.set_cons_zero, List.set_cons_succ]
          refine wpAnyH_take (i := 15) (v := (.bool false)) rfl (by kernel_rfl) (by kernel_rfl) (by kernel_rfl) (fun _ _ _ h => h) (Or.inl ⟨by kernel_rfl, fun w hSw => ?_⟩) (by assumption) ?_
          · (try dsimp only at hSw); go_simp <;> (try rfl)
          change wpAnyH _ _ _ _ _ _ _ (Act.put _ (some (97 : Nat)) (.bool false)) _
          simp only [Act.put, List.setIfInBounds_toArray, List.set_cons_zero, List.set_cons_succ]
          refine wpAnyH_take (i := 16) (v := (.bool false)) rfl (by kernel_rfl) (by kernel_rfl) (by kernel_rfl) (fun _ _ _ h => h) (Or.inl ⟨by kernel_rfl, fun w hSw => ?_⟩) (by assumption) ?_
          · (try dsimp only at hSw); go_simp <;> (try rfl)
          change wpAnyH _ _ _ _ _ _ _ (Act.put _ (some (98 : Nat)) (.bool false)) _
          simp only [Act.put, List.setIfInBounds_toArray, List.set_cons_zero, List.set_cons_succ]
          refine wpAnyH_take (i := 17) (v := (.pointer (some ⟨g, 0, none⟩))) rfl (by kernel_rfl) (by kernel_rfl) (by kernel_rfl) (fun _ _ _ h => h) (Or.inl ⟨by kernel_rfl, fun w hSw => ?_⟩) (by assumption) ?_
          · (try dsimp only at hSw); go_simp <;> (try rfl)
          change wpAnyH _ _ _ _ _ _ _ (Act.put _ (some (99 : Nat)) (.pointer (some ⟨g, 0, none⟩))) _
          simp only [Act.put, List.setIfInBounds_toArray, List.set_cons_zero, List.set_cons_succ]
          refine wpAnyH_take (i := 18) (v := (.int .i64 from_)) rfl (by kernel_rfl) (by kernel_rfl) (by kernel_rfl) (fun _ _ _ h => h) (Or.inl ⟨by kernel_rfl, fun w hSw => ?_⟩) (by assumption) ?_
          · (try dsimp only at hSw); go_simp <;> (try rfl)
          change wpAnyH _ _ _ _ _ _ _ (Act.put _ (some (100 : Nat)) (.int .i64 from_)) _
          simp only [Act.put, List.setIfInBounds_toArray, List.set_cons_zero, List.set_cons_succ]
          refine wpAnyH_take (i := 19) (v := (.int .i64 to_)) rfl (by kernel_rfl) (by kernel_rfl) (by kernel_rfl) (fun _ _ _ h => h) (Or.inl ⟨by kernel_rfl, fun w hSw => ?_⟩) (by assumption) ?_
          · (try dsimp only at hSw); go_simp <;> (try rfl)
          change wpAnyH _ _ _ _ _ _ _ (Act.put _ (some (101 : Nat)) (.int .i64 to_)) _
          simp only [Act.put, List.setIfInBounds_toArray, List.set_cons_zero, List.set_cons_succ]
          refine wpAnyH_take (i := 20) (v := (.slice A na ca)) rfl (by kernel_rfl) (by kernel_rfl) (by kernel_rfl) (fun _ _ _ h => h) (Or.inl ⟨by kernel_rfl, fun w hSw => ?_⟩) (by assumption) ?_
          · (try dsimp only at hSw); go_simp <;> (try rfl)
          change wpAnyH _ _ _ _ _ _ _ (Act.put _ (some (102 : Nat)) (.slice A na ca)) _
          simp only [Act.put, List.setIfInBounds_toArray, List.set_cons_zero, List.set_cons_succ]
          refine wpAnyH_take (i := 22) (v := (.agg q2.toArray)) rfl (by kernel_rfl) (by kernel_rfl) (by kernel_rfl) (fun _ _ _ h => h) (yields_load_at (by kernel_rfl) 35 (.tmp 19) rfl (.pointer (some ⟨b5, 0, none⟩)) (by simp [Act.eval]) (.agg q2.toArray) (fun W hW => hW.2.loadAt 35 _ Try.underlying35 rfl (by rw [HQ2l.out]; kernel_rfl))) (by assumption) ?_
          change wpAnyH _ _ _ _ _ _ _ (Act.put _ (some (104 : Nat)) (.agg q2.toArray)) _
          simp only [Act.put, List.setIfInBounds_toArray, List.set_cons_zero, List.set_cons_succ]
          refine wpAnyH_ready (rs := [21]) (by kernel_rfl) (by simp) ?_
          refine AllReadyH.cons rfl (fun K hK => ?_) AllReadyH.nil
          go_simp
          refine (HTf.out _ HSwb.out (HA.out.through HXwb.out)).mono ?_
          rintro e wc ⟨rfl, hs, hf⟩; have HSwc := Lib.hid hs; have H4wc := Lib.hid (hf.blk H4wb.out h4g); have H5wc := Lib.hid (hf.blk H5wb.out h5g); have HXwc := Lib.hid (HXwb.out.trans (hf.low.mono hwg)); clear hs hf
          go_wp2_with fail
          refine hK.out _ _ ⟨H4wc.out, H5wc.out⟩ (fun hHeld1 => ?_)
          clear hHeld hK K
          have hHeld := hHeld1
          clear hHeld1
          refine wpAnyH_take (i := 23) (v := (.bool false)) rfl (by kernel_rfl) (by kernel_rfl) (by kernel_rfl) (fun _ _ _ h => h) (Or.inl ⟨by kernel_rfl, fun w hSw => ?_⟩) (by assumption) ?_
          · (try dsimp only at hSw); go_simp <;> (try rfl)
          change wpAnyH _ _ _ _ _ _ _ (Act.put _ (some (105 : Nat)) (.bool false)) _
          simp only [Act.put, List.setIfInBounds_toArray, List.set_cons_zero, List.set_cons_succ]
          refine wpAnyH_take (i := 24) (v := (.bool false)) rfl (by kernel_rfl) (by kernel_rfl) (by kernel_rfl) (fun _ _ _ h => h) (Or.inl ⟨by kernel_rfl, fun w hSw => ?_⟩) (by assumption) ?_
          · (try dsimp only at hSw); go_simp <;> (try rfl)
          change wpAnyH _ _ _ _ _ _ _ (Act.put _ (some (106 : Nat)) (.bool false)) _
          simp only [Act.put, List.setIfInBounds_toArray, List.set_cons_zero, List.set_cons_succ]
          refine wpAnyH_done (by kernel_rfl) ?_ _
          go_wp2_with (first
            | (refine wpList_load_blk_g 35 (.tmp 19) rfl (by kernel_rfl) b5 rfl 35 q2 _ H5wc.out Try.underlying35 rfl (by rw [HQ2l.out]; kernel_rfl) ?_)
            | (go_at_call 14; (with_reducible refine (HCk.out _ HSwc.out (HB.out.through HXwc.out)).mono ?_); rintro e wd ⟨rfl, hb⟩; have HXwd := Lib.hid (HXwc.out.trans (hb.mono HXwc.out.size)); have H5wd := Lib.hid (H5wc.out.through hb); clear hb; have hca2 := HCa.out _ (HA.out.through HXwd.out); have hcb2 := HCb.out _ (HB.out.through HXwd.out))
            | (go_at_call 11; (with_reducible refine (bsizes_nil _).mono ?_); rintro e we ⟨rfl, rfl⟩)
            | (go_at_call 12; (with_reducible refine (HNd.out _).mono ?_); rintro e wf ⟨rfl, hb⟩; have HXwf := Lib.hid (HXwd.out.trans (hb.mono HXwd.out.size)); have H5wf := Lib.hid (H5wd.out.through hb); clear hb)
            | (refine wpList_build_g (by kernel_rfl) 38 [] rfl [] rfl (.agg z0.toArray) (hbd _) ?_)
            | (go_at_call 13; (with_reducible refine (HNt.out _).mono ?_); rintro e wg ⟨rfl, hb⟩; have HXwg := Lib.hid (HXwf.out.trans (hb.mono HXwf.out.size)); have H5wg := Lib.hid (H5wf.out.through hb); clear hb)
            | (refine wpList_build_g (by kernel_rfl) 35 [] rfl [] rfl (.agg z0.toArray) (hbt _) ?_)
            | (go_at_call 15; (with_reducible refine (HNs.out _).mono ?_); rintro e wh ⟨rfl, hb⟩; have HXwh := Lib.hid (HXwg.out.trans (hb.mono HXwg.out.size)); have H5wh := Lib.hid (H5wg.out.through hb); clear hb)
            | (refine wpList_load_blk_g 35 (.tmp 19) rfl (by kernel_rfl) b5 rfl 35 q2 _ H5wh.out Try.underlying35 rfl (by rw [HQ2l.out]; kernel_rfl) ?_)
            | (go_at_call 14; (with_reducible refine (HNc.out _).mono ?_); rintro e wi ⟨rfl, hb⟩; have HXwi := Lib.hid (HXwh.out.trans (hb.mono HXwh.out.size)); have H5wi := Lib.hid (H5wh.out.through hb); clear hb))
          go_ret
          exact ⟨rfl, HXwi.out⟩
      · by_cases ho : other = to_
        · as_aux_lemma =>
          have hsm : ∀ W, (binOp .eql 38 (.agg r1.toArray) (.agg q1.toArray)).run Try.prog W = .ok (.bool false) W := fun W => by
            rw [HSm.out W]; congr 2; exact decide_eq_false (fun e => hk (congrArg Prod.fst e).symm)
          have hck2 : decide ((from_, other, xb) = (from_, to_, xa)) = e2 := by
            rw [ho, HE2.out, Bool.eq_iff_iff]; simp; exact eq_comm
          rw [hck2] at HCk
          clear hck2
          have hx12 : ¬ ((kb k).toNat : Int) = ((kb m).toNat : Int) := fun e => hk (UInt8.toNat_inj.1 (by omega))
          clear hk HSm
          generalize ((kb k).toNat : Int) = x1 at *
          generalize ((kb m).toNat : Int) = x2 at *
          subst ho
          have hca := HCa.out _ HA2.out
          have hcb := HCb.out _ HB2.out
          have hse := HSe.out
          go_wp2
          try dsimp only [Act.put]
          have HSp := Lib.hid KS.out
          have H4p := Lib.hid K4.out
          have H5p := Lib.hid K5.out
          have HXp := Lib.hid KX.out
          refine wp_region_held_drew (S := fun W => Blk W b4 38 q1 ∧ Blk W b5 35 q2) (by kernel_rfl) ⟨H4p.out.drew, H5p.out.drew⟩ (fun hHeld => ?_)
          change wpAnyH _ _ _ _ _ _ #[false, false, false, false, false, false, false, false, false, false, false, false, false, false, false, false, false, false, false, false, false, false, false, false, false] _ _
          refine wpAnyH_take (i := 0) (v := (.pointer (some ⟨g, 0, none⟩))) rfl (by kernel_rfl) (by kernel_rfl) (by kernel_rfl) (fun _ _ _ h => h) (Or.inl ⟨by kernel_rfl, fun w hSw => ?_⟩) (by assumption) ?_
          · (try dsimp only at hSw); go_simp <;> (try rfl)
          change wpAnyH _ _ _ _ _ _ _ (Act.put _ (some (82 : Nat)) (.pointer (some ⟨g, 0, none⟩))) _
          simp only [Act.put, List.setIfInBounds_toArray, List.set_cons_zero, List.set_cons_succ]
          refine wpAnyH_take (i := 1) (v := (.int .i64 m)) rfl (by kernel_rfl) (by kernel_rfl) (by kernel_rfl) (fun _ _ _ h => h) (Or.inl ⟨by kernel_rfl, fun w hSw => ?_⟩) (by assumption) ?_
          · (try dsimp only at hSw); go_simp <;> (try rfl)
          change wpAnyH _ _ _ _ _ _ _ (Act.put _ (some (83 : Nat)) (.int .i64 m)) _
          simp only [Act.put, List.setIfInBounds_toArray, List.set_cons_zero, List.set_cons_succ]
          refine wpAnyH_take (i := 2) (v := (.slice B nb cb)) rfl (by kernel_rfl) (by kernel_rfl) (by kernel_rfl) (fun _ _ _ h => h) (Or.inl ⟨by kernel_rfl, fun w hSw => ?_⟩) (by assumption) ?_
          · (try dsimp only at hSw); go_simp <;> (try rfl)
          change wpAnyH _ _ _ _ _ _ _ (Act.put _ (some (84 : Nat)) (.slice B nb cb)) _
          simp only [Act.put, List.setIfInBounds_toArray, List.set_cons_zero, List.set_cons_succ]
          refine wpAnyH_take (i := 4) (v := (.agg q1.toArray)) rfl (by kernel_rfl) (by kernel_rfl) (by kernel_rfl) (fun _ _ _ h => h) (yields_load_at (by kernel_rfl) 38 (.tmp 18) rfl (.pointer (some ⟨b4, 0, none⟩)) (by simp [Act.eval]) (.agg q1.toArray) (fun W hW => hW.1.loadAt 38 _ Try.underlying38 rfl (by rw [HQ1l.out]; kernel_rfl))) (by assumption) ?_
          change wpAnyH _ _ _ _ _ _ _ (Act.put _ (some (86 : Nat)) (.agg q1.toArray)) _
          simp only [Act.put, List.setIfInBounds_toArray, List.set_cons_zero, List.set_cons_succ]
          refine wpAnyH_take (i := 6) (v := (.bool false)) rfl (by kernel_rfl) (by kernel_rfl) (by kernel_rfl) (fun _ _ _ h => h) (Or.inl ⟨by kernel_rfl, fun w hSw => ?_⟩) (by assumption) ?_
          · (try dsimp only at hSw); go_simp <;> (try rfl)
          change wpAnyH _ _ _ _ _ _ _ (Act.put _ (some (88 : Nat)) (.bool false)) _
          simp only [Act.put, List.setIfInBounds_toArray, List.set_cons_zero, List.set_cons_succ]
          refine wpAnyH_ready (rs := [3]) (by kernel_rfl) (by simp) ?_
          refine AllReadyH.cons rfl (fun K hK => ?_) AllReadyH.nil
          go_simp
          refine (HDm.out _ HSp.out.drew (HB2.out.drew)).mono ?_
          rintro e wa ⟨rfl, hs, hf⟩; have HSwa := Lib.hid hs; have H4wa := Lib.hid (hf.blk H4p.out.drew h4g); have H5wa := Lib.hid (hf.blk H5p.out.drew h5g); have HXwa := Lib.hid (HXp.out.drew.trans (hf.low.mono hwg)); clear hs hf
          go_wp2_with fail
          refine hK.out _ _ ⟨H4wa.out, H5wa.out⟩ (fun hHeld1 => ?_)
          clear hHeld hK K
          have hHeld := hHeld1
          clear hHeld1
          refine wpAnyH_take (i := 5) (v := (.bool false)) rfl (by kernel_rfl) (by kernel_rfl) (by kernel_rfl) (fun _ _ _ h => h) (Or.inl ⟨by kernel_rfl, fun w hSw => ?_⟩) (by assumption) ?_
          · (try dsimp only at hSw); go_simp <;> (try rfl)
          change wpAnyH _ _ _ _ _ _ _ (Act.put _ (some (87 : Nat)) (.bool false)) _
          simp only [Act.put, List.setIfInBounds_toArray, List.set_cons_zero, List.set_cons_succ]
          refine wpAnyH_take (i := 7) (v := (.bool false)) rfl (by kernel_rfl) (by kernel_rfl) (by kernel_rfl) (fun _ _ _ h => h) (Or.inl ⟨by kernel_rfl, fun w hSw => ?_⟩) (by assumption) ?_
          · (try dsimp only at hSw); go_simp <;> (try rfl)
          change wpAnyH _ _ _ _ _ _ _ (Act.put _ (some (89 : Nat)) (.bool false)) _
          simp only [Act.put, List.setIfInBounds_toArray, List.set_cons_zero, List.set_cons_succ]
          refine wpAnyH_take (i := 8) (v := (.bool false)) rfl (by kernel_rfl) (by kernel_rfl) (by kernel_rfl) (fun _ _ _ h => h) (Or.inl ⟨by kernel_rfl, fun w hSw => ?_⟩) (by assumption) ?_
          · (try dsimp only at hSw); go_simp <;> (try rfl)
          change wpAnyH _ _ _ _ _ _ _ (Act.put _ (some (90 : Nat)) (.bool false)) _
          simp only [Act.put, List.setIfInBounds_toArray, List.set_cons_zero, List.set_cons_succ]
          refine wpAnyH_take (i := 9) (v := (.pointer (some ⟨g, 0, none⟩))) rfl (by kernel_rfl) (by kernel_rfl) (by kernel_rfl) (fun _ _ _ h => h) (Or.inl ⟨by kernel_rfl, fun w hSw => ?_⟩) (by assumption) ?_
          · (try dsimp only at hSw); go_simp <;> (try rfl)
          change wpAnyH _ _ _ _ _ _ _ (Act.put _ (some (91 : Nat)) (.pointer (some ⟨g, 0, none⟩))) _
          simp only [Act.put, List.setIfInBounds_toArray, List.set_cons_zero, List.set_cons_succ]
          refine wpAnyH_take (i := 10) (v := (.int .i64 k)) rfl (by kernel_rfl) (by kernel_rfl) (by kernel_rfl) (fun _ _ _ h => h) (Or.inl ⟨by kernel_rfl, fun w hSw => ?_⟩) (by assumption) ?_
          · (try dsimp only at hSw); go_simp <;> (try rfl)
          change wpAnyH _ _ _ _ _ _ _ (Act.put _ (some (92 : Nat)) (.int .i64 k)) _
          simp only [Act.put, List.setIfInBounds_toArray, List.set_cons_zero, List.set_cons_succ]
          refine wpAnyH_take (i := 11) (v := (.slice A na ca)) rfl (by kernel_rfl) (by kernel_rfl) (by kernel_rfl) (fun _ _ _ h => h) (Or.inl ⟨by kernel_rfl, fun w hSw => ?_⟩) (by assumption) ?_
          · (try dsimp only at hSw); go_simp <;> (try rfl)
          change wpAnyH _ _ _ _ _ _ _ (Act.put _ (some (93 : Nat)) (.slice A na ca)) _
          simp only [Act.put, List.setIfInBounds_toArray, List.set_cons_zero, List.set_cons_succ]
          refine wpAnyH_take (i := 13) (v := (.agg q1.toArray)) rfl (by kernel_rfl) (by kernel_rfl) (by kernel_rfl) (fun _ _ _ h => h) (yields_load_at (by kernel_rfl) 38 (.tmp 18) rfl (.pointer (some ⟨b4, 0, none⟩)) (by simp [Act.eval]) (.agg q1.toArray) (fun W hW => hW.1.loadAt 38 _ Try.underlying38 rfl (by rw [HQ1l.out]; kernel_rfl))) (by assumption) ?_
          change wpAnyH _ _ _ _ _ _ _ (Act.put _ (some (95 : Nat)) (.agg q1.toArray)) _
          simp only [Act.put, List.setIfInBounds_toArray, List.set_cons_zero, List.set_cons_succ]
          refine wpAnyH_ready (rs := [12]) (by kernel_rfl) (by simp) ?_
          refine AllReadyH.cons rfl (fun K hK => ?_) AllReadyH.nil
          go_simp
          refine (HDk.out _ HSwa.out (HA.out.through HXwa.out)).mono ?_
          rintro e wb ⟨rfl, hs, hf⟩; have HSwb := Lib.hid hs; have H4wb := Lib.hid (hf.blk H4wa.out h4g); have H5wb := Lib.hid (hf.blk H5wa.out h5g); have HXwb := Lib.hid (HXwa.out.trans (hf.low.mono hwg)); clear hs hf
          go_wp2_with fail
          refine hK.out _ _ ⟨H4wb.out, H5wb.out⟩ (fun hHeld1 => ?_)
          clear hHeld hK K
          have hHeld := hHeld1
          clear hHeld1
          refine wpAnyH_take (i := 14) (v := (.bool false)) rfl (by kernel_rfl) (by kernel_rfl) (by kernel_rfl) (fun _ _ _ h => h) (Or.inl ⟨by kernel_rfl, fun w hSw => ?_⟩) (by assumption) ?_
          · (try dsimp only at hSw); go_simp <;> (try rfl)
          change wpAnyH _ _ _ _ _ _ _ (Act.put _ (some (96 : Nat)) (.bool false)) _
          simp only [Act.put, List.setIfInBounds_toArray, List.set_cons_zero, List.set_cons_succ]
          refine wpAnyH_take (i := 15) (v := (.bool false)) rfl (by kernel_rfl) (by kernel_rfl) (by kernel_rfl) (fun _ _ _ h => h) (Or.inl ⟨by kernel_rfl, fun w hSw => ?_⟩) (by assumption) ?_
          · (try dsimp only at hSw); go_simp <;> (try rfl)
          change wpAnyH _ _ _ _ _ _ _ (Act.put _ (some (97 : Nat)) (.bool false)) _
          simp only [Act.put, List.setIfInBounds_toArray, List.set_cons_zero, List.set_cons_succ]
          refine wpAnyH_take (i := 16) (v := (.bool false)) rfl (by kernel_rfl) (by kernel_rfl) (by kernel_rfl) (fun _ _ _ h => h) (Or.inl ⟨by kernel_rfl, fun w hSw => ?_⟩) (by assumption) ?_
          · (try dsimp only at hSw); go_simp <;> (try rfl)
          change wpAnyH _ _ _ _ _ _ _ (Act.put _ (some (98 : Nat)) (.bool false)) _
          simp only [Act.put, List.setIfInBounds_toArray, List.set_cons_zero, List.set_cons_succ]
          refine wpAnyH_take (i := 17) (v := (.pointer (some ⟨g, 0, none⟩))) rfl (by kernel_rfl) (by kernel_rfl) (by kernel_rfl) (fun _ _ _ h => h) (Or.inl ⟨by kernel_rfl, fun w hSw => ?_⟩) (by assumption) ?_
          · (try dsimp only at hSw); go_simp <;> (try rfl)
          change wpAnyH _ _ _ _ _ _ _ (Act.put _ (some (99 : Nat)) (.pointer (some ⟨g, 0, none⟩))) _
          simp only [Act.put, List.setIfInBounds_toArray, List.set_cons_zero, List.set_cons_succ]
          refine wpAnyH_take (i := 18) (v := (.int .i64 from_)) rfl (by kernel_rfl) (by kernel_rfl) (by kernel_rfl) (fun _ _ _ h => h) (Or.inl ⟨by kernel_rfl, fun w hSw => ?_⟩) (by assumption) ?_
          · (try dsimp only at hSw); go_simp <;> (try rfl)
          change wpAnyH _ _ _ _ _ _ _ (Act.put _ (some (100 : Nat)) (.int .i64 from_)) _
          simp only [Act.put, List.setIfInBounds_toArray, List.set_cons_zero, List.set_cons_succ]
          refine wpAnyH_take (i := 19) (v := (.int .i64 other)) rfl (by kernel_rfl) (by kernel_rfl) (by kernel_rfl) (fun _ _ _ h => h) (Or.inl ⟨by kernel_rfl, fun w hSw => ?_⟩) (by assumption) ?_
          · (try dsimp only at hSw); go_simp <;> (try rfl)
          change wpAnyH _ _ _ _ _ _ _ (Act.put _ (some (101 : Nat)) (.int .i64 other)) _
          simp only [Act.put, List.setIfInBounds_toArray, List.set_cons_zero, List.set_cons_succ]
          refine wpAnyH_take (i := 20) (v := (.slice A na ca)) rfl (by kernel_rfl) (by kernel_rfl) (by kernel_rfl) (fun _ _ _ h => h) (Or.inl ⟨by kernel_rfl, fun w hSw => ?_⟩) (by assumption) ?_
          · (try dsimp only at hSw); go_simp <;> (try rfl)
          change wpAnyH _ _ _ _ _ _ _ (Act.put _ (some (102 : Nat)) (.slice A na ca)) _
          simp only [Act.put, List.setIfInBounds_toArray, List.set_cons_zero, List.set_cons_succ]
          refine wpAnyH_take (i := 22) (v := (.agg q2.toArray)) rfl (by kernel_rfl) (by kernel_rfl) (by kernel_rfl) (fun _ _ _ h => h) (yields_load_at (by kernel_rfl) 35 (.tmp 19) rfl (.pointer (some ⟨b5, 0, none⟩)) (by simp [Act.eval]) (.agg q2.toArray) (fun W hW => hW.2.loadAt 35 _ Try.underlying35 rfl (by rw [HQ2l.out]; kernel_rfl))) (by assumption) ?_
          change wpAnyH _ _ _ _ _ _ _ (Act.put _ (some (104 : Nat)) (.agg q2.toArray)) _
          simp only [Act.put, List.setIfInBounds_toArray, List.set_cons_zero, List.set_cons_succ]
          refine wpAnyH_ready (rs := [21]) (by kernel_rfl) (by simp) ?_
          refine AllReadyH.cons rfl (fun K hK => ?_) AllReadyH.nil
          go_simp
          refine (HTf.out _ HSwb.out (HA.out.through HXwb.out)).mono ?_
          rintro e wc ⟨rfl, hs, hf⟩; have HSwc := Lib.hid hs; have H4wc := Lib.hid (hf.blk H4wb.out h4g); have H5wc := Lib.hid (hf.blk H5wb.out h5g); have HXwc := Lib.hid (HXwb.out.trans (hf.low.mono hwg)); clear hs hf
          go_wp2_with fail
          refine hK.out _ _ ⟨H4wc.out, H5wc.out⟩ (fun hHeld1 => ?_)
          clear hHeld hK K
          have hHeld := hHeld1
          clear hHeld1
          refine wpAnyH_take (i := 23) (v := (.bool false)) rfl (by kernel_rfl) (by kernel_rfl) (by kernel_rfl) (fun _ _ _ h => h) (Or.inl ⟨by kernel_rfl, fun w hSw => ?_⟩) (by assumption) ?_
          · (try dsimp only at hSw); go_simp <;> (try rfl)
          change wpAnyH _ _ _ _ _ _ _ (Act.put _ (some (105 : Nat)) (.bool false)) _
          simp only [Act.put, List.setIfInBounds_toArray, List.set_cons_zero, List.set_cons_succ]
          refine wpAnyH_take (i := 24) (v := (.bool false)) rfl (by kernel_rfl) (by kernel_rfl) (by kernel_rfl) (fun _ _ _ h => h) (Or.inl ⟨by kernel_rfl, fun w hSw => ?_⟩) (by assumption) ?_
          · (try dsimp only at hSw); go_simp <;> (try rfl)
          change wpAnyH _ _ _ _ _ _ _ (Act.put _ (some (106 : Nat)) (.bool false)) _
          simp only [Act.put, List.setIfInBounds_toArray, List.set_cons_zero, List.set_cons_succ]
          refine wpAnyH_done (by kernel_rfl) ?_ _
          go_wp2_with (first
            | (refine wpList_load_blk_g 35 (.tmp 19) rfl (by kernel_rfl) b5 rfl 35 q2 _ H5wc.out Try.underlying35 rfl (by rw [HQ2l.out]; kernel_rfl) ?_)
            | (go_at_call 14; (with_reducible refine (HCk.out _ HSwc.out (HB.out.through HXwc.out)).mono ?_); rintro e wd ⟨rfl, hb⟩; have HXwd := Lib.hid (HXwc.out.trans (hb.mono HXwc.out.size)); have H5wd := Lib.hid (H5wc.out.through hb); clear hb; have hca2 := HCa.out _ (HA.out.through HXwd.out); have hcb2 := HCb.out _ (HB.out.through HXwd.out))
            | (go_at_call 11; (with_reducible refine (bsizes_nil _).mono ?_); rintro e we ⟨rfl, rfl⟩)
            | (go_at_call 12; (with_reducible refine (HNd.out _).mono ?_); rintro e wf ⟨rfl, hb⟩; have HXwf := Lib.hid (HXwd.out.trans (hb.mono HXwd.out.size)); have H5wf := Lib.hid (H5wd.out.through hb); clear hb)
            | (refine wpList_build_g (by kernel_rfl) 38 [] rfl [] rfl (.agg z0.toArray) (hbd _) ?_)
            | (go_at_call 13; (with_reducible refine (HNt.out _).mono ?_); rintro e wg ⟨rfl, hb⟩; have HXwg := Lib.hid (HXwf.out.trans (hb.mono HXwf.out.size)); have H5wg := Lib.hid (H5wf.out.through hb); clear hb)
            | (refine wpList_build_g (by kernel_rfl) 35 [] rfl [] rfl (.agg z0.toArray) (hbt _) ?_)
            | (go_at_call 15; (with_reducible refine (HNs.out _).mono ?_); rintro e wh ⟨rfl, hb⟩; have HXwh := Lib.hid (HXwg.out.trans (hb.mono HXwg.out.size)); have H5wh := Lib.hid (H5wg.out.through hb); clear hb)
            | (refine wpList_load_blk_g 35 (.tmp 19) rfl (by kernel_rfl) b5 rfl 35 q2 _ H5wh.out Try.underlying35 rfl (by rw [HQ2l.out]; kernel_rfl) ?_)
            | (go_at_call 14; (with_reducible refine (HNc.out _).mono ?_); rintro e wi ⟨rfl, hb⟩; have HXwi := Lib.hid (HXwh.out.trans (hb.mono HXwh.out.size)); have H5wi := Lib.hid (H5wh.out.through hb); clear hb))
          go_ret
          exact ⟨rfl, HXwi.out⟩
        · as_aux_lemma =>
          have hsm : ∀ W, (binOp .eql 38 (.agg r1.toArray) (.agg q1.toArray)).run Try.prog W = .ok (.bool false) W := fun W => by
            rw [HSm.out W]; congr 2; exact decide_eq_false (fun e => hk (congrArg Prod.fst e).symm)
          have hck2 : decide ((from_, other, xb) = (from_, to_, xa)) = false := by
            exact decide_eq_false (fun e => ho (congrArg (fun p => p.2.1) e))
          rw [hck2] at HCk
          clear hck2
          have hx12 : ¬ ((kb k).toNat : Int) = ((kb m).toNat : Int) := fun e => hk (UInt8.toNat_inj.1 (by omega))
          clear hk HSm
          generalize ((kb k).toNat : Int) = x1 at *
          generalize ((kb m).toNat : Int) = x2 at *
          have hca := HCa.out _ HA2.out
          have hcb := HCb.out _ HB2.out
          have hse := HSe.out
          go_wp2
          try dsimp only [Act.put]
          have HSp := Lib.hid KS.out
          have H4p := Lib.hid K4.out
          have H5p := Lib.hid K5.out
          have HXp := Lib.hid KX.out
          refine wp_region_held_drew (S := fun W => Blk W b4 38 q1 ∧ Blk W b5 35 q2) (by kernel_rfl) ⟨H4p.out.drew, H5p.out.drew⟩ (fun hHeld => ?_)
          change wpAnyH _ _ _ _ _ _ #[false, false, false, false, false, false, false, false, false, false, false, false, false, false, false, false, false, false, false, false, false, false, false, false, false] _ _
          refine wpAnyH_take (i := 0) (v := (.pointer (some ⟨g, 0, none⟩))) rfl (by kernel_rfl) (by kernel_rfl) (by kernel_rfl) (fun _ _ _ h => h) (Or.inl ⟨by kernel_rfl, fun w hSw => ?_⟩) (by assumption) ?_
          · (try dsimp only at hSw); go_simp <;> (try rfl)
          change wpAnyH _ _ _ _ _ _ _ (Act.put _ (some (82 : Nat)) (.pointer (some ⟨g, 0, none⟩))) _
          simp only [Act.put, List.setIfInBounds_toArray, List.set_cons_zero, List.set_cons_succ]
          refine wpAnyH_take (i := 1) (v := (.int .i64 m)) rfl (by kernel_rfl) (by kernel_rfl) (by kernel_rfl) (fun _ _ _ h => h) (Or.inl ⟨by kernel_rfl, fun w hSw => ?_⟩) (by assumption) ?_
          · (try dsimp only at hSw); go_simp <;> (try rfl)
          change wpAnyH _ _ _ _ _ _ _ (Act.put _ (some (83 : Nat)) (.int .i64 m)) _
          simp only [Act.put, List.setIfInBounds_toArray, List.set_cons_zero, List.set_cons_succ]
          refine wpAnyH_take (i := 2) (v := (.slice B nb cb)) rfl (by kernel_rfl) (by kernel_rfl) (by kernel_rfl) (fun _ _ _ h => h) (Or.inl ⟨by kernel_rfl, fun w hSw => ?_⟩) (by assumption) ?_
          · (try dsimp only at hSw); go_simp <;> (try rfl)
          change wpAnyH _ _ _ _ _ _ _ (Act.put _ (some (84 : Nat)) (.slice B nb cb)) _
          simp only [Act.put, List.setIfInBounds_toArray, List.set_cons_zero, List.set_cons_succ]
          refine wpAnyH_take (i := 4) (v := (.agg q1.toArray)) rfl (by kernel_rfl) (by kernel_rfl) (by kernel_rfl) (fun _ _ _ h => h) (yields_load_at (by kernel_rfl) 38 (.tmp 18) rfl (.pointer (some ⟨b4, 0, none⟩)) (by simp [Act.eval]) (.agg q1.toArray) (fun W hW => hW.1.loadAt 38 _ Try.underlying38 rfl (by rw [HQ1l.out]; kernel_rfl))) (by assumption) ?_
          change wpAnyH _ _ _ _ _ _ _ (Act.put _ (some (86 : Nat)) (.agg q1.toArray)) _
          simp only [Act.put, List.setIfInBounds_toArray, List.set_cons_zero, List.set_cons_succ]
          refine wpAnyH_take (i := 6) (v := (.bool false)) rfl (by kernel_rfl) (by kernel_rfl) (by kernel_rfl) (fun _ _ _ h => h) (Or.inl ⟨by kernel_rfl, fun w hSw => ?_⟩) (by assumption) ?_
          · (try dsimp only at hSw); go_simp <;> (try rfl)
          change wpAnyH _ _ _ _ _ _ _ (Act.put _ (some (88 : Nat)) (.bool false)) _
          simp only [Act.put, List.setIfInBounds_toArray, List.set_cons_zero, List.set_cons_succ]
          refine wpAnyH_ready (rs := [3]) (by kernel_rfl) (by simp) ?_
          refine AllReadyH.cons rfl (fun K hK => ?_) AllReadyH.nil
          go_simp
          refine (HDm.out _ HSp.out.drew (HB2.out.drew)).mono ?_
          rintro e wa ⟨rfl, hs, hf⟩; have HSwa := Lib.hid hs; have H4wa := Lib.hid (hf.blk H4p.out.drew h4g); have H5wa := Lib.hid (hf.blk H5p.out.drew h5g); have HXwa := Lib.hid (HXp.out.drew.trans (hf.low.mono hwg)); clear hs hf
          go_wp2_with fail
          refine hK.out _ _ ⟨H4wa.out, H5wa.out⟩ (fun hHeld1 => ?_)
          clear hHeld hK K
          have hHeld := hHeld1
          clear hHeld1
          refine wpAnyH_take (i := 5) (v := (.bool false)) rfl (by kernel_rfl) (by kernel_rfl) (by kernel_rfl) (fun _ _ _ h => h) (Or.inl ⟨by kernel_rfl, fun w hSw => ?_⟩) (by assumption) ?_
          · (try dsimp only at hSw); go_simp <;> (try rfl)
          change wpAnyH _ _ _ _ _ _ _ (Act.put _ (some (87 : Nat)) (.bool false)) _
          simp only [Act.put, List.setIfInBounds_toArray, List.set_cons_zero, List.set_cons_succ]
          refine wpAnyH_take (i := 7) (v := (.bool false)) rfl (by kernel_rfl) (by kernel_rfl) (by kernel_rfl) (fun _ _ _ h => h) (Or.inl ⟨by kernel_rfl, fun w hSw => ?_⟩) (by assumption) ?_
          · (try dsimp only at hSw); go_simp <;> (try rfl)
          change wpAnyH _ _ _ _ _ _ _ (Act.put _ (some (89 : Nat)) (.bool false)) _
          simp only [Act.put, List.setIfInBounds_toArray, List.set_cons_zero, List.set_cons_succ]
          refine wpAnyH_take (i := 8) (v := (.bool false)) rfl (by kernel_rfl) (by kernel_rfl) (by kernel_rfl) (fun _ _ _ h => h) (Or.inl ⟨by kernel_rfl, fun w hSw => ?_⟩) (by assumption) ?_
          · (try dsimp only at hSw); go_simp <;> (try rfl)
          change wpAnyH _ _ _ _ _ _ _ (Act.put _ (some (90 : Nat)) (.bool false)) _
          simp only [Act.put, List.setIfInBounds_toArray, List.set_cons_zero, List.set_cons_succ]
          refine wpAnyH_take (i := 9) (v := (.pointer (some ⟨g, 0, none⟩))) rfl (by kernel_rfl) (by kernel_rfl) (by kernel_rfl) (fun _ _ _ h => h) (Or.inl ⟨by kernel_rfl, fun w hSw => ?_⟩) (by assumption) ?_
          · (try dsimp only at hSw); go_simp <;> (try rfl)
          change wpAnyH _ _ _ _ _ _ _ (Act.put _ (some (91 : Nat)) (.pointer (some ⟨g, 0, none⟩))) _
          simp only [Act.put, List.setIfInBounds_toArray, List.set_cons_zero, List.set_cons_succ]
          refine wpAnyH_take (i := 10) (v := (.int .i64 k)) rfl (by kernel_rfl) (by kernel_rfl) (by kernel_rfl) (fun _ _ _ h => h) (Or.inl ⟨by kernel_rfl, fun w hSw => ?_⟩) (by assumption) ?_
          · (try dsimp only at hSw); go_simp <;> (try rfl)
          change wpAnyH _ _ _ _ _ _ _ (Act.put _ (some (92 : Nat)) (.int .i64 k)) _
          simp only [Act.put, List.setIfInBounds_toArray, List.set_cons_zero, List.set_cons_succ]
          refine wpAnyH_take (i := 11) (v := (.slice A na ca)) rfl (by kernel_rfl) (by kernel_rfl) (by kernel_rfl) (fun _ _ _ h => h) (Or.inl ⟨by kernel_rfl, fun w hSw => ?_⟩) (by assumption) ?_
          · (try dsimp only at hSw); go_simp <;> (try rfl)
          change wpAnyH _ _ _ _ _ _ _ (Act.put _ (some (93 : Nat)) (.slice A na ca)) _
          simp only [Act.put, List.setIfInBounds_toArray, List.set_cons_zero, List.set_cons_succ]
          refine wpAnyH_take (i := 13) (v := (.agg q1.toArray)) rfl (by kernel_rfl) (by kernel_rfl) (by kernel_rfl) (fun _ _ _ h => h) (yields_load_at (by kernel_rfl) 38 (.tmp 18) rfl (.pointer (some ⟨b4, 0, none⟩)) (by simp [Act.eval]) (.agg q1.toArray) (fun W hW => hW.1.loadAt 38 _ Try.underlying38 rfl (by rw [HQ1l.out]; kernel_rfl))) (by assumption) ?_
          change wpAnyH _ _ _ _ _ _ _ (Act.put _ (some (95 : Nat)) (.agg q1.toArray)) _
          simp only [Act.put, List.setIfInBounds_toArray, List.set_cons_zero, List.set_cons_succ]
          refine wpAnyH_ready (rs := [12]) (by kernel_rfl) (by simp) ?_
          refine AllReadyH.cons rfl (fun K hK => ?_) AllReadyH.nil
          go_simp
          refine (HDk.out _ HSwa.out (HA.out.through HXwa.out)).mono ?_
          rintro e wb ⟨rfl, hs, hf⟩; have HSwb := Lib.hid hs; have H4wb := Lib.hid (hf.blk H4wa.out h4g); have H5wb := Lib.hid (hf.blk H5wa.out h5g); have HXwb := Lib.hid (HXwa.out.trans (hf.low.mono hwg)); clear hs hf
          go_wp2_with fail
          refine hK.out _ _ ⟨H4wb.out, H5wb.out⟩ (fun hHeld1 => ?_)
          clear hHeld hK K
          have hHeld := hHeld1
          clear hHeld1
          refine wpAnyH_take (i := 14) (v := (.bool false)) rfl (by kernel_rfl) (by kernel_rfl) (by kernel_rfl) (fun _ _ _ h => h) (Or.inl ⟨by kernel_rfl, fun w hSw => ?_⟩) (by assumption) ?_
          · (try dsimp only at hSw); go_simp <;> (try rfl)
          change wpAnyH _ _ _ _ _ _ _ (Act.put _ (some (96 : Nat)) (.bool false)) _
          simp only [Act.put, List.setIfInBounds_toArray, List.set_cons_zero, List.set_cons_succ]
          refine wpAnyH_take (i := 15) (v := (.bool false)) rfl (by kernel_rfl) (by kernel_rfl) (by kernel_rfl) (fun _ _ _ h => h) (Or.inl ⟨by kernel_rfl, fun w hSw => ?_⟩) (by assumption) ?_
          · (try dsimp only at hSw); go_simp <;> (try rfl)
          change wpAnyH _ _ _ _ _ _ _ (Act.put _ (some (97 : Nat)) (.bool false)) _
          simp only [Act.put, List.setIfInBounds_toArray, List.set_cons_zero, List.set_cons_succ]
          refine wpAnyH_take (i := 16) (v := (.bool false)) rfl (by kernel_rfl) (by kernel_rfl) (by kernel_rfl) (fun _ _ _ h => h) (Or.inl ⟨by kernel_rfl, fun w hSw => ?_⟩) (by assumption) ?_
          · (try dsimp only at hSw); go_simp <;> (try rfl)
          change wpAnyH _ _ _ _ _ _ _ (Act.put _ (some (98 : Nat)) (.bool false)) _
          simp only [Act.put, List.setIfInBounds_toArray, List.set_cons_zero, List.set_cons_succ]
          refine wpAnyH_take (i := 17) (v := (.pointer (some ⟨g, 0, none⟩))) rfl (by kernel_rfl) (by kernel_rfl) (by kernel_rfl) (fun _ _ _ h => h) (Or.inl ⟨by kernel_rfl, fun w hSw => ?_⟩) (by assumption) ?_
          · (try dsimp only at hSw); go_simp <;> (try rfl)
          change wpAnyH _ _ _ _ _ _ _ (Act.put _ (some (99 : Nat)) (.pointer (some ⟨g, 0, none⟩))) _
          simp only [Act.put, List.setIfInBounds_toArray, List.set_cons_zero, List.set_cons_succ]
          refine wpAnyH_take (i := 18) (v := (.int .i64 from_)) rfl (by kernel_rfl) (by kernel_rfl) (by kernel_rfl) (fun _ _ _ h => h) (Or.inl ⟨by kernel_rfl, fun w hSw => ?_⟩) (by assumption) ?_
          · (try dsimp only at hSw); go_simp <;> (try rfl)
          change wpAnyH _ _ _ _ _ _ _ (Act.put _ (some (100 : Nat)) (.int .i64 from_)) _
          simp only [Act.put, List.setIfInBounds_toArray, List.set_cons_zero, List.set_cons_succ]
          refine wpAnyH_take (i := 19) (v := (.int .i64 to_)) rfl (by kernel_rfl) (by kernel_rfl) (by kernel_rfl) (fun _ _ _ h => h) (Or.inl ⟨by kernel_rfl, fun w hSw => ?_⟩) (by assumption) ?_
          · (try dsimp only at hSw); go_simp <;> (try rfl)
          change wpAnyH _ _ _ _ _ _ _ (Act.put _ (some (101 : Nat)) (.int .i64 to_)) _
          simp only [Act.put, List.setIfInBounds_toArray, List.set_cons_zero, List.set_cons_succ]
          refine wpAnyH_take (i := 20) (v := (.slice A na ca)) rfl (by kernel_rfl) (by kernel_rfl) (by kernel_rfl) (fun _ _ _ h => h) (Or.inl ⟨by kernel_rfl, fun w hSw => ?_⟩) (by assumption) ?_
          · (try dsimp only at hSw); go_simp <;> (try rfl)
          change wpAnyH _ _ _ _ _ _ _ (Act.put _ (some (102 : Nat)) (.slice A na ca)) _
          simp only [Act.put, List.setIfInBounds_toArray, List.set_cons_zero, List.set_cons_succ]
          refine wpAnyH_take (i := 22) (v := (.agg q2.toArray)) rfl (by kernel_rfl) (by kernel_rfl) (by kernel_rfl) (fun _ _ _ h => h) (yields_load_at (by kernel_rfl) 35 (.tmp 19) rfl (.pointer (some ⟨b5, 0, none⟩)) (by simp [Act.eval]) (.agg q2.toArray) (fun W hW => hW.2.loadAt 35 _ Try.underlying35 rfl (by rw [HQ2l.out]; kernel_rfl))) (by assumption) ?_
          change wpAnyH _ _ _ _ _ _ _ (Act.put _ (some (104 : Nat)) (.agg q2.toArray)) _
          simp only [Act.put, List.setIfInBounds_toArray, List.set_cons_zero, List.set_cons_succ]
          refine wpAnyH_ready (rs := [21]) (by kernel_rfl) (by simp) ?_
          refine AllReadyH.cons rfl (fun K hK => ?_) AllReadyH.nil
          go_simp
          refine (HTf.out _ HSwb.out (HA.out.through HXwb.out)).mono ?_
          rintro e wc ⟨rfl, hs, hf⟩; have HSwc := Lib.hid hs; have H4wc := Lib.hid (hf.blk H4wb.out h4g); have H5wc := Lib.hid (hf.blk H5wb.out h5g); have HXwc := Lib.hid (HXwb.out.trans (hf.low.mono hwg)); clear hs hf
          go_wp2_with fail
          refine hK.out _ _ ⟨H4wc.out, H5wc.out⟩ (fun hHeld1 => ?_)
          clear hHeld hK K
          have hHeld := hHeld1
          clear hHeld1
          refine wpAnyH_take (i := 23) (v := (.bool false)) rfl (by kernel_rfl) (by kernel_rfl) (by kernel_rfl) (fun _ _ _ h => h) (Or.inl ⟨by kernel_rfl, fun w hSw => ?_⟩) (by assumption) ?_
          · (try dsimp only at hSw); go_simp <;> (try rfl)
          change wpAnyH _ _ _ _ _ _ _ (Act.put _ (some (105 : Nat)) (.bool false)) _
          simp only [Act.put, List.setIfInBounds_toArray, List.set_cons_zero, List.set_cons_succ]
          refine wpAnyH_take (i := 24) (v := (.bool false)) rfl (by kernel_rfl) (by kernel_rfl) (by kernel_rfl) (fun _ _ _ h => h) (Or.inl ⟨by kernel_rfl, fun w hSw => ?_⟩) (by assumption) ?_
          · (try dsimp only at hSw); go_simp <;> (try rfl)
          change wpAnyH _ _ _ _ _ _ _ (Act.put _ (some (106 : Nat)) (.bool false)) _
          simp only [Act.put, List.setIfInBounds_toArray, List.set_cons_zero, List.set_cons_succ]
          refine wpAnyH_done (by kernel_rfl) ?_ _
          go_wp2_with (first
            | (refine wpList_load_blk_g 35 (.tmp 19) rfl (by kernel_rfl) b5 rfl 35 q2 _ H5wc.out Try.underlying35 rfl (by rw [HQ2l.out]; kernel_rfl) ?_)
            | (go_at_call 14; (with_reducible refine (HCk.out _ HSwc.out (HB.out.through HXwc.out)).mono ?_); rintro e wd ⟨rfl, hb⟩; have HXwd := Lib.hid (HXwc.out.trans (hb.mono HXwc.out.size)); have H5wd := Lib.hid (H5wc.out.through hb); clear hb; have hca2 := HCa.out _ (HA.out.through HXwd.out); have hcb2 := HCb.out _ (HB.out.through HXwd.out))
            | (go_at_call 11; (with_reducible refine (bsizes_nil _).mono ?_); rintro e we ⟨rfl, rfl⟩)
            | (go_at_call 12; (with_reducible refine (HNd.out _).mono ?_); rintro e wf ⟨rfl, hb⟩; have HXwf := Lib.hid (HXwd.out.trans (hb.mono HXwd.out.size)); have H5wf := Lib.hid (H5wd.out.through hb); clear hb)
            | (refine wpList_build_g (by kernel_rfl) 38 [] rfl [] rfl (.agg z0.toArray) (hbd _) ?_)
            | (go_at_call 13; (with_reducible refine (HNt.out _).mono ?_); rintro e wg ⟨rfl, hb⟩; have HXwg := Lib.hid (HXwf.out.trans (hb.mono HXwf.out.size)); have H5wg := Lib.hid (H5wf.out.through hb); clear hb)
            | (refine wpList_build_g (by kernel_rfl) 35 [] rfl [] rfl (.agg z0.toArray) (hbt _) ?_)
            | (go_at_call 15; (with_reducible refine (HNs.out _).mono ?_); rintro e wh ⟨rfl, hb⟩; have HXwh := Lib.hid (HXwg.out.trans (hb.mono HXwg.out.size)); have H5wh := Lib.hid (H5wg.out.through hb); clear hb)
            | (refine wpList_load_blk_g 35 (.tmp 19) rfl (by kernel_rfl) b5 rfl 35 q2 _ H5wh.out Try.underlying35 rfl (by rw [HQ2l.out]; kernel_rfl) ?_)
            | (go_at_call 14; (with_reducible refine (HNc.out _).mono ?_); rintro e wi ⟨rfl, hb⟩; have HXwi := Lib.hid (HXwh.out.trans (hb.mono HXwh.out.size)); have H5wi := Lib.hid (H5wh.out.through hb); clear hb))
          go_ret
          exact ⟨rfl, HXwi.out⟩

end Go.Proofs.Ytnncfhkgcaoomaa
