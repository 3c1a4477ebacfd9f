/-
  The law VotesProposals, over contracts of the program's own calls.
-/
import Derived.Test.YtpngcdafamkhcaaVoL0
import Derived.Test.YtpngcdafamkhcaaVoF
namespace Go.Proofs.Ytpngcdafamkhcaa
open Go.RowKit
theorem step_convw {P : Program} {ops : Array Oper} {o : Oper} {a : Act} {w : World} {K : Act → World → Prop} {Q : Exit → Act → World → Prop} {E : Prop} (hw : Region.wanted o (yielded ops a.tmps) = true) (src dst : TypeId) (x : Operand) (ho : o.op = .convert src dst x)
    (p v : Value) (hx : a.eval x = p) (hrun : (convert src dst p).run P w = .ok v w) (h : K (a.put o.dst v) w) : if Region.wanted o (yielded ops a.tmps) = true then Oper.wp P o a w K Q else E := by
  rw [if_pos hw]
  unfold Oper.wp execOp
  simp only [ho, hx, Sem.run_bind, hrun, Result.andThen_ok]
  exact h
theorem encB_len {es : List Ey} (L : Nat) (h : ∀ y ∈ es, y.co.lt.length + y.co.tx.length ≤ L) : (encB es).length ≤ 2 + es.length * (39 + L) := by
  have : (encAll encEy es).length ≤ es.length * (39 + L) := by
    induction es with
    | nil => simp [encAll]
    | cons y es ih =>
      have h1 := h y (List.mem_cons_self ..)
      have h2 := ih (fun z hz => h z (List.mem_cons_of_mem _ hz))
      simp only [encAll, List.length_append, List.length_cons, encEy_len]
      rw [Nat.add_mul, Nat.one_mul]
      omega
  unfold encB
  rw [List.length_append, beB_length]
  omega
theorem Blk.whole_ {w : World} {g : Nat} {t : TypeId} {cs : List Value} (h : Blk w g t cs) : w.rangeAt g 0 cs := Blk.range (pre := []) (post := []) (by simpa using h)

set_option maxHeartbeats 64000000 in
set_option maxRecDepth 100000 in
theorem votesprops_of (hfx : FixedV) (h4 : PPrW) (b4 : PrW) (v : Pr) (N : Int) (A : Option Addr) (k c : Nat) (w : World) (h : EysIn w A k v.es) (hkc : k ≤ c) (hcm : c ≤ maxLen) (hin : ∀ y ∈ v.es, y.In) :
    Calls Try.prog 3 #[.agg #[.int .i64 v.vw, .int .i64 v.sq, .slice A k c], .int .i64 N] w fun e w' => e = .returned (.bool true) ∧ Below w.heap.size w w' := by
  have hsz := ba_size
  have HFx : Hid (∀ w : World, Calls Try.prog 4 #[] w fun e w' => e = .returned (.bool true) ∧ Below w.heap.size w w') := Lib.hid hfx
  have HI := Lib.hid h
  have HLn := Lib.hid h.len
  have HIn := Lib.hid hin
  have H4 := Lib.hid h4
  have H5 := Lib.hid b4
  have hkx : k ≤ 9223372036854775807 := by simp only [maxLen] at hcm; omega
  have K20 : Hid (Blk (w.alloc (.cells #[.int .i64 v.vw, .int .i64 v.sq, .slice A k c] 24)) w.heap.size 24 [.int .i64 v.vw, .int .i64 v.sq, .slice A k c]) := Lib.hid (Blk.fresh rfl rfl)
  have HX0 : Hid (Below w.heap.size w (w.alloc (.cells #[.int .i64 v.vw, .int .i64 v.sq, .slice A k c] 24))) := Lib.hid (below1_ w _)
  clear h hfx h4 b4 hin hkc hcm
  by_cases s1 : 20 < k
  · have d1 : decide ((20 : Int) < (k : Int)) = true := by simp; omega
    clear s1
    go_enter Try.func3, Try.ntmps3
    go_wp2_with (first
      | (go_at_call 4; (with_reducible refine (HFx.out _).mono ?_); rintro e w0 ⟨rfl, hb0⟩; have HV0 : Hid (Below w.heap.size w w0) := Lib.hid (below_step HX0.out hb0); have K2 := Lib.hid (K20.out.through hb0); have k2c := K2.out.cellAt (i := 2) rfl; clear hb0))
    go_ret
    exact ⟨rfl, HV0.out⟩
  have d1 : decide ((20 : Int) < (k : Int)) = false := by simp; omega
  have HK := Lib.hid s1
  clear s1
  go_enter Try.func3, Try.ntmps3
  go_wp2_with (first
    | (go_at_call 4; (with_reducible refine (HFx.out _).mono ?_); rintro e w0 ⟨rfl, hb0⟩; have HV0 : Hid (Below w.heap.size w w0) := Lib.hid (below_step HX0.out hb0); have K2 := Lib.hid (K20.out.through hb0); have k2c := K2.out.cellAt (i := 2) rfl; clear hb0))
  clear k2c
  go_loopw [21] (fun iv wr => ∃ i : Nat, i ≤ k ∧ iv = .int .i64 i ∧ (∀ y ∈ v.es.take i, y.co.lt.length ≤ 100 ∧ y.co.tx.length ≤ 300) ∧ Below w0.heap.size w0 wr) (fun iv _ => k - (intOf iv).toNat)
  case atStart => exact ⟨0, Nat.zero_le _, rfl, (fun y hy => by simp at hy), Below.refl _ _⟩
  case round =>
    obtain ⟨i, hi, rfl, hp, hx⟩ := hrel
    have HX := Lib.hid hx
    have HP := Lib.hid hp
    clear hx hp
    by_cases hlt : i < k
    · obtain ⟨g, o, y, rfl, hyi, _, hd, hrx⟩ := (HI.out.through (below_step HV0.out HX.out)).at hlt
      have HRx := Lib.hid hrx
      have hix := Try.ix_ey wr g o k c i hlt
      have HXa : Hid (Below w0.heap.size w0 (wr.alloc (.cells #[.int .i64 y.co.cl, .int .i64 y.co.sp, .int .i64 y.co.op, .string (ba y.co.lt), .int .i64 y.co.a, .int .i64 y.co.b, .string (ba y.co.tx), .int .u32 (y.ms : Int)] 30))) := Lib.hid (HX.out.alloc HX.out.size _)
      have HTk : Hid (v.es.take (i + 1) = v.es.take i ++ [y]) := Lib.hid (by rw [List.take_add_one, hyi]; rfl)
      clear hrx hd hyi
      by_cases h0 : y.co.lt.length ≤ 100
      case neg =>
        have d0 : decide ((100 : Int) < (y.co.lt.length : Int)) = true := by simp; omega
        clear h0
        go_wp2_with (first
          | (refine wpList_load_mid rfl 30 (.tmp 23) rfl g (o + i * 8) rfl [.int .i64 y.co.cl, .int .i64 y.co.sp, .int .i64 y.co.op, .string (ba y.co.lt), .int .i64 y.co.a, .int .i64 y.co.b, .string (ba y.co.tx), .int .u32 (y.ms : Int)] _ HRx.out Try.underlying30 rfl (by kernel_rfl) ?_))
        go_ret
        exact ⟨rfl, below_step HV0.out HXa.out⟩
      have d0 : decide ((100 : Int) < (y.co.lt.length : Int)) = false := by simp; omega
      by_cases h1 : y.co.tx.length ≤ 300
      case neg =>
        have d2 : decide ((300 : Int) < (y.co.tx.length : Int)) = true := by simp; omega
        clear h0 h1
        go_wp2_with (first
          | (refine wpList_load_mid rfl 30 (.tmp 23) rfl g (o + i * 8) rfl [.int .i64 y.co.cl, .int .i64 y.co.sp, .int .i64 y.co.op, .string (ba y.co.lt), .int .i64 y.co.a, .int .i64 y.co.b, .string (ba y.co.tx), .int .u32 (y.ms : Int)] _ HRx.out Try.underlying30 rfl (by kernel_rfl) ?_))
        go_ret
        exact ⟨rfl, below_step HV0.out HXa.out⟩
      have d2 : decide ((300 : Int) < (y.co.tx.length : Int)) = false := by simp; omega
      have HP2 : Hid (∀ z ∈ v.es.take (i + 1), z.co.lt.length ≤ 100 ∧ z.co.tx.length ≤ 300) := Lib.hid (fun z hz => by rw [HTk.out] at hz; rcases List.mem_append.1 hz with h9 | h9; exact HP.out z h9; rw [List.mem_singleton.1 h9]; exact ⟨h0, h1⟩)
      clear h0 h1
      go_wp2_with (first
        | (refine wpList_load_mid rfl 30 (.tmp 23) rfl g (o + i * 8) rfl [.int .i64 y.co.cl, .int .i64 y.co.sp, .int .i64 y.co.op, .string (ba y.co.lt), .int .i64 y.co.a, .int .i64 y.co.b, .string (ba y.co.tx), .int .u32 (y.ms : Int)] _ HRx.out Try.underlying30 rfl (by kernel_rfl) ?_))
      go_roundw
      case rel => exact ⟨i + 1, by omega, by go_num, HP2.out, HXa.out⟩
      case measure => simp [intOf]; omega
    · have hik : i = k := by omega
      subst hik
      have hal : ∀ y ∈ v.es, y.co.lt.length ≤ 100 ∧ y.co.tx.length ≤ 300 := by have h9 := HP.out; rw [List.take_of_length_le (by rw [HLn.out]; exact Nat.le_refl _)] at h9; exact h9
      have hk20 : i ≤ 20 := by have := HK.out; omega
      obtain ⟨k, hk⟩ : ∃ k, k = i := ⟨_, rfl⟩
      subst hk
      have HVr : Hid (Below w.heap.size w wr) := Lib.hid (below_step HV0.out HX.out)
      have K2r := Lib.hid (K2.out.through HX.out)
      have hel : (encB v.es).length ≤ 10000 := by
        have h9 := encB_len (es := v.es) 400 (fun y hy => by have := hal y hy; omega)
        have h8 : v.es.length * (39 + 400) ≤ 20 * 439 := by rw [HLn.out]; exact Nat.mul_le_mul hk20 (Nat.le_refl _)
        omega
      obtain ⟨EP, hEP⟩ : ∃ E, encPr v = E := ⟨_, rfl⟩
      have hpl : EP.length ≤ 20000 := by rw [← hEP]; unfold encPr rowB; simp only [List.length_append, beB_length]; omega
      obtain ⟨Xp, ep, hXp⟩ : ∃ X e, parsePr 1048576 EP N = (X, e) := ⟨_, _, rfl⟩
      obtain ⟨ec, hec⟩ : ∃ e, chkB v.es N = e := ⟨_, rfl⟩
      obtain ⟨q0, hq0⟩ : ∃ b, isW v.vw = b := ⟨_, rfl⟩
      obtain ⟨q1, hq1⟩ : ∃ b, isW v.sq = b := ⟨_, rfl⟩
      have HEnd : Hid (ec = 0 → q0 = true → q1 = true → Xp = v ∧ ep = 0) := Lib.hid (fun a b c => by
        have h9 := parsePr_enc (m := 1048576) (by omega) v N (hq0.trans b) (hq1.trans c) (hec.trans a) HIn.out (by omega)
        rw [hEP, hXp] at h9
        exact Prod.mk.inj h9)
      have HQ0 : Hid (∀ W : World, Calls Try.prog 11 #[.int .i64 v.vw] W fun e w' => e = .returned (.bool q0) ∧ w' = W) := Lib.hid (fun W => hq0 ▸ rview_any v.vw W)
      have HQ1 : Hid (∀ W : World, Calls Try.prog 12 #[.int .i64 v.sq] W fun e w' => e = .returned (.bool q1) ∧ w' = W) := Lib.hid (fun W => hq1 ▸ rseq_any v.sq W)
      have HCk : Hid (∀ W : World, EysIn W A k v.es → Calls Try.prog 10 #[.slice A k c, .int .i64 N] W fun e w' => e = .returned (.int .i64 ec) ∧ Below W.heap.size W w') := Lib.hid (fun W h9 => hec ▸ rcheck15_any v.es N A k c W h9 (fun y hy => by have := hal y hy; omega))
      have HB : Hid (∀ W : World, EysIn W A k v.es → Calls Try.prog 5 #[.agg #[.int .i64 v.vw, .int .i64 v.sq, .slice A k c]] W (Byt W EP)) := Lib.hid (fun W h9 => hEP ▸ H5.out v A k c W h9 (by omega) (fun y hy => by have := hal y hy; omega))
      have HD : Hid (∀ W : World, EysIn W A k v.es → Calls Try.prog 8 #[.agg #[.int .i64 v.vw, .int .i64 v.sq, .slice A k c]] W (Byt W EP)) := Lib.hid (fun W h9 => hEP ▸ rprop_any v A k c W h9 (by omega) (fun y hy => by have := hal y hy; omega) (by omega))
      have HP : Hid (∀ (A : Option Addr) (n c : Nat) (W : World), By W (fun _ => True) A n EP → n ≤ c → c ≤ maxLen → Calls Try.prog 6 #[.slice A n c, .int .i64 N] W (PrOut W Xp ep)) := Lib.hid (fun A n c W h7 h8 h9 => by have h6 := H4.out EP N A n c W h7 h8 h9 (by rw [← h7.len]; omega); rw [hXp] at h6; exact h6)
      have HR : Hid (∀ (A : Option Addr) (n c : Nat) (W : World), By W (fun _ => True) A n EP → n ≤ c → c ≤ maxLen → Calls Try.prog 7 #[.slice A n c, .int .i64 N] W (PrOut W Xp ep)) := Lib.hid (fun A n c W h7 h8 h9 => by have h6 := rparsepr_any EP N A n c W h7 h8 h9 (by rw [← h7.len]; omega); rw [hXp] at h6; exact h6)
      have HSm : Hid (∀ (B : Option Addr) (m d : Nat) (B' : Option Addr) (m' d' : Nat) (W : World), EysIn W B m Xp.es → EysIn W B' m' Xp.es → Calls Try.prog 9 #[.slice B m d, .slice B' m' d'] W fun e w' => e = .returned (.bool true) ∧ Below W.heap.size W w') := Lib.hid (fun B m d B' m' d' W h8 h9 => by
        have hm : m ≤ 9223372036854775807 := by rw [← h8.len]; exact es_small hXp
        have h7 := rsame15_any Xp.es Xp.es B m d B' m' d' W h8 h9 hm
        rw [sameB_self] at h7
        exact h7)
      have HStr : Hid (∀ (ys : List UInt8) (A : Option Addr) (n c : Nat) (W : World), By W (fun _ => True) A n ys → (convert 31 9 (.slice A n c)).run Try.prog W = .ok (.string (ba ys)) W) := Lib.hid (fun ys A n c W h => run_string_by _ 31 9 5 Try.underlying31 Try.underlying5 Try.underlying9 _ _ _ _ _ h)
      clear hal hk20 hel hEP hpl hXp hec hq0 hq1 hi hlt hkx
      go_wp2_with (first
        | (refine wpList_load_blk rfl 24 (.tmp 2) rfl w.heap.size rfl 24 [.int .i64 v.vw, .int .i64 v.sq, .slice A k c] _ K2r.out Try.underlying24 rfl (by kernel_rfl) ?_)
        | (go_at_call 5; (with_reducible refine (HB.out _ (HI.out.through HVr.out)).mono ?_); rintro e w1 ⟨A1, n1, d1, rfl, hy1, hn1, hm1, hb1⟩; have HY := Lib.hid hy1; have HM := Lib.hid (And.intro hn1 hm1); have HV1 := Lib.hid (below_step HVr.out hb1); have K2 := Lib.hid (K2r.out.through hb1); clear hy1 hn1 hm1 hb1)
        | (go_at_call 6; (with_reducible refine (HP.out _ _ _ _ HY.out HM.out.1 HM.out.2).mono ?_); rintro e w3 ⟨A3, k3, c3, rfl, hi3, hb3⟩; have I3 := Lib.hid (hi3.through (below1_ w3 (.cells #[.int .i64 Xp.vw, .int .i64 Xp.sq, .slice A3 k3 c3] 24))); have G3 : Hid (Blk (w3.alloc (.cells #[.int .i64 Xp.vw, .int .i64 Xp.sq, .slice A3 k3 c3] 24)) w3.heap.size 24 [.int .i64 Xp.vw, .int .i64 Xp.sq, .slice A3 k3 c3]) := Lib.hid (Blk.fresh rfl rfl); have HV3 : Hid (Below w.heap.size w (w3.alloc (.cells #[.int .i64 Xp.vw, .int .i64 Xp.sq, .slice A3 k3 c3] 24))) := Lib.hid ((below_step HV1.out hb3).alloc (below_step HV1.out hb3).size (.cells #[.int .i64 Xp.vw, .int .i64 Xp.sq, .slice A3 k3 c3] 24)); have HY := Lib.hid ((HY.out.through hb3).through (below1_ w3 (.cells #[.int .i64 Xp.vw, .int .i64 Xp.sq, .slice A3 k3 c3] 24))); have K2 := Lib.hid ((K2.out.through hb3).through (below1_ w3 (.cells #[.int .i64 Xp.vw, .int .i64 Xp.sq, .slice A3 k3 c3] 24))); clear hi3 hb3)
        | (go_at_call 7; (with_reducible refine (HR.out _ _ _ _ HY.out HM.out.1 HM.out.2).mono ?_); rintro e w4 ⟨A4, k4, c4, rfl, hi4, hb4⟩; have I4 := Lib.hid (hi4.through (below1_ w4 (.cells #[.int .i64 Xp.vw, .int .i64 Xp.sq, .slice A4 k4 c4] 24))); have G4 : Hid (Blk (w4.alloc (.cells #[.int .i64 Xp.vw, .int .i64 Xp.sq, .slice A4 k4 c4] 24)) w4.heap.size 24 [.int .i64 Xp.vw, .int .i64 Xp.sq, .slice A4 k4 c4]) := Lib.hid (Blk.fresh rfl rfl); have HV4 : Hid (Below w.heap.size w (w4.alloc (.cells #[.int .i64 Xp.vw, .int .i64 Xp.sq, .slice A4 k4 c4] 24))) := Lib.hid ((below_step HV3.out hb4).alloc (below_step HV3.out hb4).size (.cells #[.int .i64 Xp.vw, .int .i64 Xp.sq, .slice A4 k4 c4] 24)); have HY := Lib.hid ((HY.out.through hb4).through (below1_ w4 (.cells #[.int .i64 Xp.vw, .int .i64 Xp.sq, .slice A4 k4 c4] 24))); have K2 := Lib.hid ((K2.out.through hb4).through (below1_ w4 (.cells #[.int .i64 Xp.vw, .int .i64 Xp.sq, .slice A4 k4 c4] 24))); have G3 := Lib.hid ((G3.out.through hb4).through (below1_ w4 (.cells #[.int .i64 Xp.vw, .int .i64 Xp.sq, .slice A4 k4 c4] 24))); have I3 := Lib.hid ((I3.out.through hb4).through (below1_ w4 (.cells #[.int .i64 Xp.vw, .int .i64 Xp.sq, .slice A4 k4 c4] 24))); clear hi4 hb4))
      try dsimp only [Act.put]
      refine wp_region_held_drew (S := fun W => Below (w4.alloc (.cells #[.int .i64 Xp.vw, .int .i64 Xp.sq, .slice A4 k4 c4] 24)).heap.size (w4.alloc (.cells #[.int .i64 Xp.vw, .int .i64 Xp.sq, .slice A4 k4 c4] 24)) W) (by kernel_rfl) (Below.refl _ _).drew (fun hHeld => ?_)
      change wpAnyH _ _ _ _ _ _ #[false, false, false, false, false, false, false, false, false, false, false, false, false, false, false, false, false, false, false, false, false, false, false, false, false, false, false, false, false, false, false, false, false] _ _
      refine wpAnyH_take (i := 0) (v := (.slice A1 n1 d1)) rfl (by kernel_rfl) (by kernel_rfl) (by kernel_rfl) (fun _ _ _ h => h) (Or.inl ⟨by kernel_rfl, fun w hSw => ?_⟩) (by assumption) ?_
      · (try dsimp only at hSw); go_simp <;> (try rfl)
      change wpAnyH _ _ _ _ _ _ _ (Act.put _ (some (52 : Nat)) (.slice A1 n1 d1)) _
      simp only [Act.put, List.setIfInBounds_toArray, List.set_cons_zero, List.set_cons_succ]
      refine wpAnyH_take (i := 1) (v := (.string (ba EP))) rfl (by kernel_rfl) (by kernel_rfl) (by kernel_rfl) (fun _ _ _ h => h) (yields_conv (by kernel_rfl) 31 9 (.tmp 52) rfl (.slice A1 n1 d1) (by simp [Act.eval]) (.string (ba EP)) (fun W hW => HStr.out _ _ _ _ W (HY.out.through hW))) (by assumption) ?_
      change wpAnyH _ _ _ _ _ _ _ (Act.put _ (some (53 : Nat)) (.string (ba EP))) _
      simp only [Act.put, List.setIfInBounds_toArray, List.set_cons_zero, List.set_cons_succ]
      refine wpAnyH_take (i := 2) (v := (.agg #[.int .i64 v.vw, .int .i64 v.sq, .slice A k c])) rfl (by kernel_rfl) (by kernel_rfl) (by kernel_rfl) (fun _ _ _ h => h) (yieldsIf_load_mid (by kernel_rfl) 24 (.tmp 2) rfl w.heap.size 0 (by simp [Act.eval]) [.int .i64 v.vw, .int .i64 v.sq, .slice A k c] _ (fun W hW => rangeAt.through (Blk.whole_ K2.out) hW) Try.underlying24 rfl (by kernel_rfl)) (by assumption) ?_
      change wpAnyH _ _ _ _ _ _ _ (Act.put _ (some (54 : Nat)) (.agg #[.int .i64 v.vw, .int .i64 v.sq, .slice A k c])) _
      simp only [Act.put, List.setIfInBounds_toArray, List.set_cons_zero, List.set_cons_succ]
      refine wpAnyH_ready (rs := [3]) (by kernel_rfl) (by simp) ?_
      refine AllReadyH.cons rfl (fun K hK => ?_) AllReadyH.nil
      go_simp
      refine (HD.out _ (HI.out.through (below_step HV4.out hHeld))).mono ?_
      rintro e y1 ⟨B1, m1, e1, rfl, hyd, _, _, hbd⟩; have Z1 := Lib.hid hyd; have HJ1 := Lib.hid (below_step hHeld hbd); clear hyd hbd
      go_wp2_with fail
      refine hK.out _ _ HJ1.out (fun hHeld1 => ?_)
      clear hHeld hK K
      have hHeld := hHeld1
      clear hHeld1
      refine wpAnyH_ready (rs := [4]) (by kernel_rfl) (by simp) ?_
      refine AllReadyH.cons (o := ⟨some 56, .convert 31 9 (.tmp 55), _, _, _, none⟩) rfl (fun K hK => ?_) AllReadyH.nil
      refine step_convw (by kernel_rfl) 31 9 (.tmp 55) rfl (.slice B1 m1 e1) (.string (ba EP)) (by simp [Act.eval]) (HStr.out _ _ _ _ _ Z1.out) ?_
      refine hK.out _ _ hHeld (fun hHeld1 => ?_)
      clear hHeld hK K
      have hHeld := hHeld1
      clear hHeld1
      change wpAnyH _ _ _ _ _ _ _ (Act.put _ (some (56 : Nat)) (.string (ba EP))) _
      simp only [Act.put, List.setIfInBounds_toArray, List.set_cons_zero, List.set_cons_succ]
      refine wpAnyH_take (i := 5) (v := (.bool false)) rfl (by kernel_rfl) (by kernel_rfl) (by kernel_rfl) (fun _ _ _ h => h) (Or.inl ⟨by kernel_rfl, fun w hSw => ?_⟩) (by assumption) ?_
      · (try dsimp only at hSw); go_simp <;> (try rfl)
      change wpAnyH _ _ _ _ _ _ _ (Act.put _ (some (57 : Nat)) (.bool false)) _
      simp only [Act.put, List.setIfInBounds_toArray, List.set_cons_zero, List.set_cons_succ]
      refine wpAnyH_take (i := 6) (v := (.bool false)) rfl (by kernel_rfl) (by kernel_rfl) (by kernel_rfl) (fun _ _ _ h => h) (Or.inl ⟨by kernel_rfl, fun w hSw => ?_⟩) (by assumption) ?_
      · (try dsimp only at hSw); go_simp <;> (try rfl)
      change wpAnyH _ _ _ _ _ _ _ (Act.put _ (some (58 : Nat)) (.bool false)) _
      simp only [Act.put, List.setIfInBounds_toArray, List.set_cons_zero, List.set_cons_succ]
      refine wpAnyH_take (i := 7) (v := (.int .i64 ep)) rfl (by kernel_rfl) (by kernel_rfl) (by kernel_rfl) (fun _ _ _ h => h) (Or.inl ⟨by kernel_rfl, fun w hSw => ?_⟩) (by assumption) ?_
      · (try dsimp only at hSw); go_simp <;> (try rfl)
      change wpAnyH _ _ _ _ _ _ _ (Act.put _ (some (59 : Nat)) (.int .i64 ep)) _
      simp only [Act.put, List.setIfInBounds_toArray, List.set_cons_zero, List.set_cons_succ]
      refine wpAnyH_take (i := 8) (v := (.int .i64 ep)) rfl (by kernel_rfl) (by kernel_rfl) (by kernel_rfl) (fun _ _ _ h => h) (Or.inl ⟨by kernel_rfl, fun w hSw => ?_⟩) (by assumption) ?_
      · (try dsimp only at hSw); go_simp <;> (try rfl)
      change wpAnyH _ _ _ _ _ _ _ (Act.put _ (some (60 : Nat)) (.int .i64 ep)) _
      simp only [Act.put, List.setIfInBounds_toArray, List.set_cons_zero, List.set_cons_succ]
      refine wpAnyH_take (i := 9) (v := (.bool false)) rfl (by kernel_rfl) (by kernel_rfl) (by kernel_rfl) (fun _ _ _ h => h) (Or.inl ⟨by kernel_rfl, fun w hSw => ?_⟩) (by assumption) ?_
      · (try dsimp only at hSw); go_simp <;> (try rfl)
      change wpAnyH _ _ _ _ _ _ _ (Act.put _ (some (61 : Nat)) (.bool false)) _
      simp only [Act.put, List.setIfInBounds_toArray, List.set_cons_zero, List.set_cons_succ]
      refine wpAnyH_take (i := 10) (v := (.bool false)) rfl (by kernel_rfl) (by kernel_rfl) (by kernel_rfl) (fun _ _ _ h => h) (Or.inl ⟨by kernel_rfl, fun w hSw => ?_⟩) (by assumption) ?_
      · (try dsimp only at hSw); go_simp <;> (try rfl)
      change wpAnyH _ _ _ _ _ _ _ (Act.put _ (some (62 : Nat)) (.bool false)) _
      simp only [Act.put, List.setIfInBounds_toArray, List.set_cons_zero, List.set_cons_succ]
      refine wpAnyH_take (i := 11) (v := (.bool false)) rfl (by kernel_rfl) (by kernel_rfl) (by kernel_rfl) (fun _ _ _ h => h) (Or.inl ⟨by kernel_rfl, fun w hSw => ?_⟩) (by assumption) ?_
      · (try dsimp only at hSw); go_simp <;> (try rfl)
      change wpAnyH _ _ _ _ _ _ _ (Act.put _ (some (63 : Nat)) (.bool false)) _
      simp only [Act.put, List.setIfInBounds_toArray, List.set_cons_zero, List.set_cons_succ]
      refine wpAnyH_take (i := 12) (v := (.pointer (some ⟨w3.heap.size, 0, none⟩))) rfl (by kernel_rfl) (by kernel_rfl) (by kernel_rfl) (fun _ _ _ h => h) (Or.inl ⟨by kernel_rfl, fun w hSw => ?_⟩) (by assumption) ?_
      · (try dsimp only at hSw); go_simp <;> (try rfl)
      change wpAnyH _ _ _ _ _ _ _ (Act.put _ (some (64 : Nat)) (.pointer (some ⟨w3.heap.size, 0, none⟩))) _
      simp only [Act.put, List.setIfInBounds_toArray, List.set_cons_zero, List.set_cons_succ]
      refine wpAnyH_take (i := 13) (v := (.int .i64 Xp.vw)) rfl (by kernel_rfl) (by kernel_rfl) (by kernel_rfl) (fun _ _ _ h => h) (yields_load_at (by kernel_rfl) 2 (.tmp 64) rfl (.pointer (some ⟨w3.heap.size, 0, none⟩)) (by simp [Act.eval]) (.int .i64 Xp.vw) (fun W hW => load_one' (Try.agg_i64 W) ((G3.out.through hW).cellAt (i := 0) rfl))) (by assumption) ?_
      change wpAnyH _ _ _ _ _ _ _ (Act.put _ (some (65 : Nat)) (.int .i64 Xp.vw)) _
      simp only [Act.put, List.setIfInBounds_toArray, List.set_cons_zero, List.set_cons_succ]
      refine wpAnyH_take (i := 14) (v := (.pointer (some ⟨w4.heap.size, 0, none⟩))) rfl (by kernel_rfl) (by kernel_rfl) (by kernel_rfl) (fun _ _ _ h => h) (Or.inl ⟨by kernel_rfl, fun w hSw => ?_⟩) (by assumption) ?_
      · (try dsimp only at hSw); go_simp <;> (try rfl)
      change wpAnyH _ _ _ _ _ _ _ (Act.put _ (some (66 : Nat)) (.pointer (some ⟨w4.heap.size, 0, none⟩))) _
      simp only [Act.put, List.setIfInBounds_toArray, List.set_cons_zero, List.set_cons_succ]
      refine wpAnyH_take (i := 15) (v := (.int .i64 Xp.vw)) rfl (by kernel_rfl) (by kernel_rfl) (by kernel_rfl) (fun _ _ _ h => h) (yields_load_at (by kernel_rfl) 2 (.tmp 66) rfl (.pointer (some ⟨w4.heap.size, 0, none⟩)) (by simp [Act.eval]) (.int .i64 Xp.vw) (fun W hW => load_one' (Try.agg_i64 W) ((G4.out.through hW).cellAt (i := 0) rfl))) (by assumption) ?_
      change wpAnyH _ _ _ _ _ _ _ (Act.put _ (some (67 : Nat)) (.int .i64 Xp.vw)) _
      simp only [Act.put, List.setIfInBounds_toArray, List.set_cons_zero, List.set_cons_succ]
      refine wpAnyH_take (i := 16) (v := (.bool false)) rfl (by kernel_rfl) (by kernel_rfl) (by kernel_rfl) (fun _ _ _ h => h) (Or.inl ⟨by kernel_rfl, fun w hSw => ?_⟩) (by assumption) ?_
      · (try dsimp only at hSw); go_simp <;> (try rfl)
      change wpAnyH _ _ _ _ _ _ _ (Act.put _ (some (68 : Nat)) (.bool false)) _
      simp only [Act.put, List.setIfInBounds_toArray, List.set_cons_zero, List.set_cons_succ]
      refine wpAnyH_take (i := 17) (v := (.bool false)) rfl (by kernel_rfl) (by kernel_rfl) (by kernel_rfl) (fun _ _ _ h => h) (Or.inl ⟨by kernel_rfl, fun w hSw => ?_⟩) (by assumption) ?_
      · (try dsimp only at hSw); go_simp <;> (try rfl)
      change wpAnyH _ _ _ _ _ _ _ (Act.put _ (some (69 : Nat)) (.bool false)) _
      simp only [Act.put, List.setIfInBounds_toArray, List.set_cons_zero, List.set_cons_succ]
      refine wpAnyH_take (i := 18) (v := (.bool false)) rfl (by kernel_rfl) (by kernel_rfl) (by kernel_rfl) (fun _ _ _ h => h) (Or.inl ⟨by kernel_rfl, fun w hSw => ?_⟩) (by assumption) ?_
      · (try dsimp only at hSw); go_simp <;> (try rfl)
      change wpAnyH _ _ _ _ _ _ _ (Act.put _ (some (70 : Nat)) (.bool false)) _
      simp only [Act.put, List.setIfInBounds_toArray, List.set_cons_zero, List.set_cons_succ]
      refine wpAnyH_take (i := 19) (v := (.pointer (some ⟨w3.heap.size, 1, none⟩))) rfl (by kernel_rfl) (by kernel_rfl) (by kernel_rfl) (fun _ _ _ h => h) (Or.inl ⟨by kernel_rfl, fun w hSw => ?_⟩) (by assumption) ?_
      · (try dsimp only at hSw); go_simp <;> (try rfl)
      change wpAnyH _ _ _ _ _ _ _ (Act.put _ (some (71 : Nat)) (.pointer (some ⟨w3.heap.size, 1, none⟩))) _
      simp only [Act.put, List.setIfInBounds_toArray, List.set_cons_zero, List.set_cons_succ]
      refine wpAnyH_take (i := 20) (v := (.int .i64 Xp.sq)) rfl (by kernel_rfl) (by kernel_rfl) (by kernel_rfl) (fun _ _ _ h => h) (yields_load_at (by kernel_rfl) 2 (.tmp 71) rfl (.pointer (some ⟨w3.heap.size, 1, none⟩)) (by simp [Act.eval]) (.int .i64 Xp.sq) (fun W hW => load_one' (Try.agg_i64 W) ((G3.out.through hW).cellAt (i := 1) rfl))) (by assumption) ?_
      change wpAnyH _ _ _ _ _ _ _ (Act.put _ (some (72 : Nat)) (.int .i64 Xp.sq)) _
      simp only [Act.put, List.setIfInBounds_toArray, List.set_cons_zero, List.set_cons_succ]
      refine wpAnyH_take (i := 21) (v := (.pointer (some ⟨w4.heap.size, 1, none⟩))) rfl (by kernel_rfl) (by kernel_rfl) (by kernel_rfl) (fun _ _ _ h => h) (Or.inl ⟨by kernel_rfl, fun w hSw => ?_⟩) (by assumption) ?_
      · (try dsimp only at hSw); go_simp <;> (try rfl)
      change wpAnyH _ _ _ _ _ _ _ (Act.put _ (some (73 : Nat)) (.pointer (some ⟨w4.heap.size, 1, none⟩))) _
      simp only [Act.put, List.setIfInBounds_toArray, List.set_cons_zero, List.set_cons_succ]
      refine wpAnyH_take (i := 22) (v := (.int .i64 Xp.sq)) rfl (by kernel_rfl) (by kernel_rfl) (by kernel_rfl) (fun _ _ _ h => h) (yields_load_at (by kernel_rfl) 2 (.tmp 73) rfl (.pointer (some ⟨w4.heap.size, 1, none⟩)) (by simp [Act.eval]) (.int .i64 Xp.sq) (fun W hW => load_one' (Try.agg_i64 W) ((G4.out.through hW).cellAt (i := 1) rfl))) (by assumption) ?_
      change wpAnyH _ _ _ _ _ _ _ (Act.put _ (some (74 : Nat)) (.int .i64 Xp.sq)) _
      simp only [Act.put, List.setIfInBounds_toArray, List.set_cons_zero, List.set_cons_succ]
      refine wpAnyH_take (i := 23) (v := (.bool false)) rfl (by kernel_rfl) (by kernel_rfl) (by kernel_rfl) (fun _ _ _ h => h) (Or.inl ⟨by kernel_rfl, fun w hSw => ?_⟩) (by assumption) ?_
      · (try dsimp only at hSw); go_simp <;> (try rfl)
      change wpAnyH _ _ _ _ _ _ _ (Act.put _ (some (75 : Nat)) (.bool false)) _
      simp only [Act.put, List.setIfInBounds_toArray, List.set_cons_zero, List.set_cons_succ]
      refine wpAnyH_take (i := 24) (v := (.bool false)) rfl (by kernel_rfl) (by kernel_rfl) (by kernel_rfl) (fun _ _ _ h => h) (Or.inl ⟨by kernel_rfl, fun w hSw => ?_⟩) (by assumption) ?_
      · (try dsimp only at hSw); go_simp <;> (try rfl)
      change wpAnyH _ _ _ _ _ _ _ (Act.put _ (some (76 : Nat)) (.bool false)) _
      simp only [Act.put, List.setIfInBounds_toArray, List.set_cons_zero, List.set_cons_succ]
      refine wpAnyH_take (i := 25) (v := (.bool false)) rfl (by kernel_rfl) (by kernel_rfl) (by kernel_rfl) (fun _ _ _ h => h) (Or.inl ⟨by kernel_rfl, fun w hSw => ?_⟩) (by assumption) ?_
      · (try dsimp only at hSw); go_simp <;> (try rfl)
      change wpAnyH _ _ _ _ _ _ _ (Act.put _ (some (77 : Nat)) (.bool false)) _
      simp only [Act.put, List.setIfInBounds_toArray, List.set_cons_zero, List.set_cons_succ]
      refine wpAnyH_take (i := 26) (v := (.pointer (some ⟨w3.heap.size, 2, none⟩))) rfl (by kernel_rfl) (by kernel_rfl) (by kernel_rfl) (fun _ _ _ h => h) (Or.inl ⟨by kernel_rfl, fun w hSw => ?_⟩) (by assumption) ?_
      · (try dsimp only at hSw); go_simp <;> (try rfl)
      change wpAnyH _ _ _ _ _ _ _ (Act.put _ (some (78 : Nat)) (.pointer (some ⟨w3.heap.size, 2, none⟩))) _
      simp only [Act.put, List.setIfInBounds_toArray, List.set_cons_zero, List.set_cons_succ]
      refine wpAnyH_take (i := 27) (v := (.slice A3 k3 c3)) rfl (by kernel_rfl) (by kernel_rfl) (by kernel_rfl) (fun _ _ _ h => h) (yields_load_at (by kernel_rfl) 22 (.tmp 78) rfl (.pointer (some ⟨w3.heap.size, 2, none⟩)) (by simp [Act.eval]) (.slice A3 k3 c3) (fun W hW => load_one' (Try.agg_es W) ((G3.out.through hW).cellAt (i := 2) rfl))) (by assumption) ?_
      change wpAnyH _ _ _ _ _ _ _ (Act.put _ (some (79 : Nat)) (.slice A3 k3 c3)) _
      simp only [Act.put, List.setIfInBounds_toArray, List.set_cons_zero, List.set_cons_succ]
      refine wpAnyH_take (i := 28) (v := (.pointer (some ⟨w4.heap.size, 2, none⟩))) rfl (by kernel_rfl) (by kernel_rfl) (by kernel_rfl) (fun _ _ _ h => h) (Or.inl ⟨by kernel_rfl, fun w hSw => ?_⟩) (by assumption) ?_
      · (try dsimp only at hSw); go_simp <;> (try rfl)
      change wpAnyH _ _ _ _ _ _ _ (Act.put _ (some (80 : Nat)) (.pointer (some ⟨w4.heap.size, 2, none⟩))) _
      simp only [Act.put, List.setIfInBounds_toArray, List.set_cons_zero, List.set_cons_succ]
      refine wpAnyH_take (i := 29) (v := (.slice A4 k4 c4)) rfl (by kernel_rfl) (by kernel_rfl) (by kernel_rfl) (fun _ _ _ h => h) (yields_load_at (by kernel_rfl) 22 (.tmp 80) rfl (.pointer (some ⟨w4.heap.size, 2, none⟩)) (by simp [Act.eval]) (.slice A4 k4 c4) (fun W hW => load_one' (Try.agg_es W) ((G4.out.through hW).cellAt (i := 2) rfl))) (by assumption) ?_
      change wpAnyH _ _ _ _ _ _ _ (Act.put _ (some (81 : Nat)) (.slice A4 k4 c4)) _
      simp only [Act.put, List.setIfInBounds_toArray, List.set_cons_zero, List.set_cons_succ]
      refine wpAnyH_ready (rs := [30]) (by kernel_rfl) (by simp) ?_
      refine AllReadyH.cons rfl (fun K hK => ?_) AllReadyH.nil
      go_simp
      refine (HSm.out _ _ _ _ _ _ _ (I3.out.through hHeld) (I4.out.through hHeld)).mono ?_
      rintro e y2 ⟨rfl, hbs⟩; have HJ2 := Lib.hid (below_step hHeld hbs); clear hbs
      go_wp2_with fail
      refine hK.out _ _ HJ2.out (fun hHeld1 => ?_)
      clear hHeld hK K
      have hHeld := hHeld1
      clear hHeld1
      refine wpAnyH_take (i := 31) (v := (.bool false)) rfl (by kernel_rfl) (by kernel_rfl) (by kernel_rfl) (fun _ _ _ h => h) (Or.inl ⟨by kernel_rfl, fun w hSw => ?_⟩) (by assumption) ?_
      · (try dsimp only at hSw); go_simp <;> (try rfl)
      change wpAnyH _ _ _ _ _ _ _ (Act.put _ (some (83 : Nat)) (.bool false)) _
      simp only [Act.put, List.setIfInBounds_toArray, List.set_cons_zero, List.set_cons_succ]
      refine wpAnyH_take (i := 32) (v := (.bool false)) rfl (by kernel_rfl) (by kernel_rfl) (by kernel_rfl) (fun _ _ _ h => h) (Or.inl ⟨by kernel_rfl, fun w hSw => ?_⟩) (by assumption) ?_
      · (try dsimp only at hSw); go_simp <;> (try rfl)
      change wpAnyH _ _ _ _ _ _ _ (Act.put _ (some (84 : Nat)) (.bool false)) _
      simp only [Act.put, List.setIfInBounds_toArray, List.set_cons_zero, List.set_cons_succ]
      refine wpAnyH_done (by kernel_rfl) ?_ _
      have HVe : Hid (Below w.heap.size w y2) := Lib.hid (below_step HV4.out hHeld)
      have K2e := Lib.hid (K2.out.through hHeld)
      have G3e := Lib.hid (G3.out.through hHeld)
      have I3e := Lib.hid (I3.out.through hHeld)
      have y2c := K2e.out.cellAt (i := 2) rfl
      clear hHeld
      by_cases hec : ec = 0
      case neg =>
        have j0 : (ec == 0) = false := by simpa using hec
        have j1 : (ec != 0) = true := by simpa using hec
        clear hec
        go_wp2_with (first
          | go_skip
          | (go_at_call 10; (with_reducible refine (HCk.out _ (HI.out.through HVe.out)).mono ?_); rintro e w5 ⟨rfl, hb5⟩; have HV5 := Lib.hid (below_step HVe.out hb5); have K25 := Lib.hid (K2e.out.through hb5); have G35 := Lib.hid (G3e.out.through hb5); have I35 := Lib.hid (I3e.out.through hb5); have HI5 := Lib.hid (HI.out.through HV5.out); have x0 := K25.out.cellAt (i := 0) rfl; have x1 := K25.out.cellAt (i := 1) rfl; have x2 := K25.out.cellAt (i := 2) rfl; have z0 := G35.out.cellAt (i := 0) rfl; have z1 := G35.out.cellAt (i := 1) rfl; have z2 := G35.out.cellAt (i := 2) rfl; clear hb5 y2c))
        go_ret
        exact ⟨rfl, HV5.out⟩
      subst hec
      cases q0 with
      | false =>
        go_wp2_with (first
          | go_skip
          | (go_at_call 10; (with_reducible refine (HCk.out _ (HI.out.through HVe.out)).mono ?_); rintro e w5 ⟨rfl, hb5⟩; have HV5 := Lib.hid (below_step HVe.out hb5); have K25 := Lib.hid (K2e.out.through hb5); have G35 := Lib.hid (G3e.out.through hb5); have I35 := Lib.hid (I3e.out.through hb5); have HI5 := Lib.hid (HI.out.through HV5.out); have x0 := K25.out.cellAt (i := 0) rfl; have x1 := K25.out.cellAt (i := 1) rfl; have x2 := K25.out.cellAt (i := 2) rfl; have z0 := G35.out.cellAt (i := 0) rfl; have z1 := G35.out.cellAt (i := 1) rfl; have z2 := G35.out.cellAt (i := 2) rfl; clear hb5 y2c)
          | (go_at_call 11; (with_reducible refine (HQ0.out _).mono ?_); rintro e wq0 ⟨rfl, rfl⟩))
        go_ret
        exact ⟨rfl, HV5.out⟩
      | true =>
      cases q1 with
      | false =>
        go_wp2_with (first
          | go_skip
          | (go_at_call 10; (with_reducible refine (HCk.out _ (HI.out.through HVe.out)).mono ?_); rintro e w5 ⟨rfl, hb5⟩; have HV5 := Lib.hid (below_step HVe.out hb5); have K25 := Lib.hid (K2e.out.through hb5); have G35 := Lib.hid (G3e.out.through hb5); have I35 := Lib.hid (I3e.out.through hb5); have HI5 := Lib.hid (HI.out.through HV5.out); have x0 := K25.out.cellAt (i := 0) rfl; have x1 := K25.out.cellAt (i := 1) rfl; have x2 := K25.out.cellAt (i := 2) rfl; have z0 := G35.out.cellAt (i := 0) rfl; have z1 := G35.out.cellAt (i := 1) rfl; have z2 := G35.out.cellAt (i := 2) rfl; clear hb5 y2c)
          | (go_at_call 11; (with_reducible refine (HQ0.out _).mono ?_); rintro e wq0 ⟨rfl, rfl⟩)
          | (go_at_call 12; (with_reducible refine (HQ1.out _).mono ?_); rintro e wq1 ⟨rfl, rfl⟩))
        go_ret
        exact ⟨rfl, HV5.out⟩
      | true =>
      obtain ⟨hxv, he0⟩ := HEnd.out rfl rfl rfl
      subst hxv
      subst he0
      go_wp2_with (first
        | go_skip
        | (go_at_call 10; (with_reducible refine (HCk.out _ (HI.out.through HVe.out)).mono ?_); rintro e w5 ⟨rfl, hb5⟩; have HV5 := Lib.hid (below_step HVe.out hb5); have K25 := Lib.hid (K2e.out.through hb5); have G35 := Lib.hid (G3e.out.through hb5); have I35 := Lib.hid (I3e.out.through hb5); have HI5 := Lib.hid (HI.out.through HV5.out); have x0 := K25.out.cellAt (i := 0) rfl; have x1 := K25.out.cellAt (i := 1) rfl; have x2 := K25.out.cellAt (i := 2) rfl; have z0 := G35.out.cellAt (i := 0) rfl; have z1 := G35.out.cellAt (i := 1) rfl; have z2 := G35.out.cellAt (i := 2) rfl; clear hb5 y2c)
        | (go_at_call 11; (with_reducible refine (HQ0.out _).mono ?_); rintro e wq0 ⟨rfl, rfl⟩)
        | (go_at_call 12; (with_reducible refine (HQ1.out _).mono ?_); rintro e wq1 ⟨rfl, rfl⟩)
        | (go_at_call 9; (with_reducible refine (HSm.out _ _ _ _ _ _ _ I35.out HI5.out).mono ?_); rintro e w6 ⟨rfl, hb6⟩; have HV6 := Lib.hid (below_step HV5.out hb6); clear hb6))
      go_ret
      exact ⟨rfl, HV6.out⟩

end Go.Proofs.Ytpngcdafamkhcaa
