/-
  The program's Bytes of a message, walked.
-/
import Derived.Test.YtkklgfcmgefedaaWiB
namespace Go.Proofs.Ytkklgfcmgefedaa
open Go.RowKit

set_option maxHeartbeats 16000000 in
set_option maxRecDepth 100000 in
theorem bytes_any (m : Ms) (B : Option Addr) (nb cb : Nat) (A : Option Addr) (nt ct : Nat) (w : World) (h : MsIn w B nb A nt ct m) (hL : (encM m).length ≤ 1000000000) (hn : nt ≤ 10000000) :
    Calls Try.prog 8 #[.agg #[.int .i64 m.kd, .int .i64 m.fr, .slice B nb cb, .slice A nt ct]] w (Byt w (encM m)) := by
  obtain ⟨i0, hi, hz0, hz1, hz2⟩ := info_parts Try.info_u8
  have HTs := Lib.hid h.2
  have HYs := Lib.hid h.1
  have hLn : m.ts.length = nt := h.2.len
  have HMx : Hid (nt ≤ 9223372036854775807) := Lib.hid (by omega)
  obtain ⟨OUT, hO⟩ : ∃ OUT, encM m = OUT := ⟨_, rfl⟩
  have hbl : m.bd.length ≤ 1000000000 := by
    have h9 := hL
    unfold encM rowB at h9
    simp only [List.length_append, beB_length] at h9
    omega
  rw [hO] at hL ⊢
  have HLL := Lib.hid hL
  have HOUT : Hid ((beB (u64N m.kd) 1 ++ beB (u64N m.fr) 1 ++ rowB m.bd) ++ beB nt 2 ++ encAll encTg m.ts = OUT) := Lib.hid (by rw [← hO, ← hLn]; simp [encM, List.append_assoc])
  have HB0 : Hid (Blk (w.alloc (.cells #[.int .i64 m.kd, .int .i64 m.fr, .slice B nb cb, .slice A nt ct] 25)) w.heap.size 25 [.int .i64 m.kd, .int .i64 m.fr, .slice B nb cb, .slice A nt ct]) := Lib.hid (Blk.fresh rfl rfl)
  have HX0 : Hid (Below w.heap.size w (w.alloc (.cells #[.int .i64 m.kd, .int .i64 m.fr, .slice B nb cb, .slice A nt ct] 25))) := Lib.hid (below1_ w _)
  have k0 := HB0.out.cellAt (i := 0) rfl
  have hcv := fun (v : Int) (W : World) => conv_u64 3 37 Try.underlying3 Try.underlying37 v W
  have hcv0 := hcv m.kd
  have hcv1 := hcv m.fr
  have HP1 : Hid (∀ (W : World) (B : Option Addr) (k d : Nat), By W (fun _ => True) B k [] → k ≤ d → Calls Try.prog 16 #[.slice B k d, .int .u64 ((u64N m.kd : Nat) : Int), .int .i64 1] W (Byt W (beB (u64N m.kd) 1))) := Lib.hid (fun W B k d hY hd => by have h9 := put_by 1 rfl (u64N m.kd) (by unfold u64N; omega) (c := d) hY (by simp) hd; rw [List.nil_append] at h9; exact h9)
  have HP2 : Hid (∀ (W : World) (B : Option Addr) (k d : Nat), By W (fun _ => True) B k (beB (u64N m.kd) 1) → k ≤ d → Calls Try.prog 16 #[.slice B k d, .int .u64 ((u64N m.fr : Nat) : Int), .int .i64 1] W (Byt W (beB (u64N m.kd) 1 ++ beB (u64N m.fr) 1))) := Lib.hid (fun W B k d hY hd => put_by 1 rfl (u64N m.fr) (by unfold u64N; omega) hY (by rw [beB_length]; omega) hd)
  have HRw : Hid (∀ (W : World) (C : Option Addr) (k d : Nat), By W (fun _ => True) C k (beB (u64N m.kd) 1 ++ beB (u64N m.fr) 1) → k ≤ d → Below w.heap.size w W → Calls Try.prog 17 #[.slice C k d, .slice B nb cb] W (Byt W (beB (u64N m.kd) 1 ++ beB (u64N m.fr) 1 ++ rowB m.bd))) := Lib.hid (fun W C k d hY hd hW => row_by hY (HYs.out.through hW) (by simp [beB_length]) (by omega) hd)
  have hwu : ∀ W : World, (convert 3 37 (.int .i64 (nt : Int))).run Try.prog W = .ok (.int .u64 (nt : Int)) W := fun W => by
    have h9 := conv_u64 3 37 Try.underlying3 Try.underlying37 (nt : Int) W
    rw [u64N_nat (by omega)] at h9
    exact h9
  have HPut : Hid (∀ (W : World) (B : Option Addr) (k d : Nat), By W (fun _ => True) B k (beB (u64N m.kd) 1 ++ beB (u64N m.fr) 1 ++ rowB m.bd) → k ≤ d → Calls Try.prog 16 #[.slice B k d, .int .u64 (nt : Int), .int .i64 2] W (Made W (beB (u64N m.kd) 1 ++ beB (u64N m.fr) 1 ++ rowB m.bd ++ beB nt 2).length (beB (u64N m.kd) 1 ++ beB (u64N m.fr) 1 ++ rowB m.bd ++ beB nt 2))) := Lib.hid (fun W B k d hY hd => by
    have h9 := put_any (fun _ => True) B k d (beB (u64N m.kd) 1 ++ beB (u64N m.fr) 1 ++ rowB m.bd) ((nt : Nat) : Int) (2 : Nat) (by omega) (by omega) W hY (by rw [← hY.len]; simp only [List.length_append, beB_length, rowB]; omega) hd
    rw [Int.toNat_natCast, putB_wid rfl] at h9
    have e : putN k (2 : Nat) = (beB (u64N m.kd) 1 ++ beB (u64N m.fr) 1 ++ rowB m.bd ++ beB nt 2).length := by rw [List.length_append, beB_length, hY.len]; rfl
    rw [e] at h9
    exact h9)
  clear h hO hL hn hbl hLn hcv
  go_enter Try.func8, Try.ntmps8
  go_wp2_with (first
    | (go_at_call 16; (with_reducible refine (HP1.out _ none 0 0 By.none_ (Nat.le_refl _)).mono ?_); rintro e w1 ⟨A1, n1, d1, rfl, hy1, hc1, hm1, hb1⟩; have HY1 := Lib.hid hy1; have HC1 := Lib.hid hc1; have HX1 : Hid (Below w.heap.size w w1) := Lib.hid (below_step HX0.out hb1); have HB1 := Lib.hid (HB0.out.through hb1); clear k0; have k1 := HB1.out.cellAt (i := 1) rfl; clear hy1 hc1 hm1 hb1)
    | (go_at_call 16; (with_reducible refine (HP2.out _ _ _ _ HY1.out HC1.out).mono ?_); rintro e w2 ⟨A2, n2, d2, rfl, hy2, hc2, hm2, hb2⟩; have HY2 := Lib.hid hy2; have HC2 := Lib.hid hc2; have HX2 : Hid (Below w.heap.size w w2) := Lib.hid (below_step HX1.out hb2); have HB2 := Lib.hid (HB1.out.through hb2); clear k1; have k2 := HB2.out.cellAt (i := 2) rfl; clear hy2 hc2 hm2 hb2)
    | (go_at_call 17; (with_reducible refine (HRw.out _ _ _ _ HY2.out HC2.out HX2.out).mono ?_); rintro e w3 ⟨A3, n3, d3, rfl, hy3, hc3, hm3, hb3⟩; have HY3 := Lib.hid hy3; have HC3 := Lib.hid hc3; have HX3 : Hid (Below w.heap.size w w3) := Lib.hid (below_step HX2.out hb3); have HB3 := Lib.hid (HB2.out.through hb3); have HT3 := Lib.hid (HTs.out.through HX3.out); clear k2; have k3 := HB3.out.cellAt (i := 3) rfl; clear hy3 hc3 hm3 hb3)
    | (go_at_call 16; (with_reducible refine (HPut.out _ _ _ _ HY3.out HC3.out).mono ?_); rintro e w4 ⟨v4, rfl, ho4, hb4⟩; have HO4 := Lib.hid ho4; have HX4 := Lib.hid hb4; have HB4 := Lib.hid (HB3.out.through hb4); clear k3; have k3 := HB4.out.cellAt (i := 3) rfl; clear ho4 hb4))
  clear k3 hcv0 hcv1 hwu
  obtain ⟨Y, hY⟩ : ∃ Y, beB (u64N m.kd) 1 ++ beB (u64N m.fr) 1 ++ rowB m.bd ++ beB nt 2 = Y := ⟨_, rfl⟩
  have HOUT2 : Hid (Y ++ encAll encTg m.ts = OUT) := Lib.hid (by rw [← hY]; exact HOUT.out)
  rw [hY] at HO4
  clear hY
  have hkm := HMx.out
  go_loopw [3, 28] (fun bv jv wr => ∃ (j : Nat) (zs : List UInt8) (v' : Value), j ≤ nt ∧ jv = .int .i64 (j : Int) ∧ v' = bv ∧ zs ++ encAll encTg (m.ts.drop j) = OUT ∧ wr.ownsRow w3.heap.size 5 1 v' zs.length (vs zs) ∧ Below w3.heap.size w3 wr) (fun _ jv _ => nt - (intOf jv).toNat)
  case atStart => exact ⟨0, Y, v4, Nat.zero_le _, rfl, rfl, HOUT2.out, HO4.out, HX4.out⟩
  case round =>
    obtain ⟨j, zs, v', hj, rfl, rfl, hpq, hown, hx⟩ := hrel
    have HO := Lib.hid hown
    have HX := Lib.hid hx
    have HPQ := Lib.hid hpq
    clear hown hx hpq
    by_cases hltj : j < nt
    · obtain ⟨gt, ot, t, hBe, _, _, hdt, htl, hrt⟩ := HT3.out.at hltj
      simp only at hBe
      subst hBe
      have HRt := Lib.hid (rangeAt.through hrt HX.out)
      have HTL := Lib.hid htl
      have hixt := fun (W : World) => Try.ix_tg W gt ot nt ct j hltj
      have hsl := fun W => Try.sl_tag wr.heap.size 0 W
      have HPQ3 : Hid ((zs ++ t) ++ encAll encTg (m.ts.drop (j + 1)) = OUT) := Lib.hid (by rw [← HPQ.out, hdt]; simp [encAll, encTg])
      have HBD9 : Hid (zs.length + 32 ≤ 140737488355328) := Lib.hid (by have h9 := congrArg List.length HPQ3.out; simp only [List.length_append] at h9; have := HLL.out; omega)
      clear hrt hdt htl
      go_wp2_with (first
        | (refine wpList_load_mid rfl 40 (.tmp 30) rfl gt (ot + j * 32) rfl (vs t) _ HRt.out Try.underlying40 rfl (by rw [vs_length, HTL.out]; kernel_rfl) ?_)
        | (refine wpList_store_blk rfl 40 (.tmp 5) (.tmp 31) rfl wr.heap.size (vs t) rfl rfl 40 (vs (List.replicate 32 0)) (Blk.fresh rfl rfl) (by rw [vs_length, HTL.out]; kernel_rfl) (by rw [vs_length, vs_length, HTL.out]; rfl) (Array.all_eq_true_iff_forall_mem.2 (fun u hu => vs_one u (by simpa using hu))) ?_; simp only [Act.put]; intro w8 hb8 hg8; have HTb := Lib.hid hb8; have HOp9 := Lib.hid (own_through HO.out (below_new hg8)); have HXp9 := Lib.hid (below_step HX.out (below_new hg8)); have HBS9 : Hid (w3.heap.size ≤ w8.heap.size) := Lib.hid HXp9.out.size; clear hb8 hg8)
        | (at_builtin; refine wpList_append_by _ rfl (.tmp 32) (.tmp 33) 22 rfl w3.heap.size i0 Try.underlying22 hi hz0 hz1 hz2 v' zs.length (vs zs) rfl (HOp9.out) (fun _ => True) _ 32 32 t rfl (By.of_blk_n HTb.out HTL.out trivial) HBD9.out HBS9.out ?_; intro v9 w9 hown9 hgrow9 _; have HN9 : Hid (w9.ownsRow w3.heap.size 5 1 v9 (zs ++ t).length (vs (zs ++ t))) := Lib.hid (by rw [List.length_append, ← vs_append]; (try rw [HTL.out]); exact hown9); have HXn9 : Hid (Below w3.heap.size w3 w9) := Lib.hid (HXp9.out.grown hgrow9 HBS9.out (fun g hg => (HOp9.out.lt g hg).1)); clear hown9 hgrow9))
      go_roundw
      case rel => exact ⟨j + 1, zs ++ t, v9, by omega, by go_num, rfl, HPQ3.out, HN9.out, HXn9.out⟩
      case measure => simp [intOf]; omega
    · have e9 : m.ts.drop j = [] := List.drop_of_length_le (by have := HTs.out.len; simp only at this; omega)
      have HPQ3 : Hid (zs = OUT) := Lib.hid (by rw [← HPQ.out, e9]; simp [encAll])
      clear e9
      obtain ⟨A7, c7, rfl, hn7, hm7, _⟩ := own_form HO.out
      go_wp2
      go_ret
      rw [← HPQ3.out]
      exact ⟨A7, _, c7, rfl, (By.of_own HO.out).weak fun _ _ => trivial, hn7, hm7, below_step HX3.out HX.out⟩

end Go.Proofs.Ytkklgfcmgefedaa
