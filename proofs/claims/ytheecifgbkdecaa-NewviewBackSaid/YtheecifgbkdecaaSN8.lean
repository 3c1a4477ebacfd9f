/-
  RqC
-/
import Derived.Test.YtheecifgbkdecaaSN2
import Derived.Test.YtheecifgbkdecaaSN7
import Derived.Test.YtheecifgbkdecaaSN5
import Derived.Test.YtheecifgbkdecaaSNT
namespace Go.Proofs.Ytheecifgbkdecaa
open Go.RowKit

theorem ret_i {a b : Int} (h : a = b) : Ending.returned (Value.int .i64 a) = .returned (.int .i64 b) := by rw [h]

set_option maxHeartbeats 8000000 in
theorem rchkC_any (c : Cr) (n : Int) (w : World) (hl : c.lt.length ≤ 1000000) :
  Calls Try.prog 112 #[.agg #[.int .i64 c.cl, .int .i64 c.sp, .int .i64 c.op, .string (ba c.lt), .int .i64 c.a, .int .i64 c.b, .string (ba c.tx)], .int .i64 n] w fun e w' => e = .returned (.int .i64 (chkC c n)) ∧ Below w.heap.size w w' := by
 have hsz := ba_size
 have HX : Hid (Below w.heap.size w (w.alloc (.cells #[.int .i64 c.cl, .int .i64 c.sp, .int .i64 c.op, .string (ba c.lt), .int .i64 c.a, .int .i64 c.b, .string (ba c.tx)] 58))) := Lib.hid ((Below.refl _ w).alloc (Nat.le_refl _) _)
 have HB : Hid (Blk (w.alloc (.cells #[.int .i64 c.cl, .int .i64 c.sp, .int .i64 c.op, .string (ba c.lt), .int .i64 c.a, .int .i64 c.b, .string (ba c.tx)] 58)) w.heap.size 58 [.int .i64 c.cl, .int .i64 c.sp, .int .i64 c.op, .string (ba c.lt), .int .i64 c.a, .int .i64 c.b, .string (ba c.tx)]) := Lib.hid (Blk.fresh rfl rfl)
 have c0 := HB.out.cellAt (i := 0) rfl
 have c1 := HB.out.cellAt (i := 1) rfl
 have c2 := HB.out.cellAt (i := 2) rfl
 have c3 := HB.out.cellAt (i := 3) rfl
 have c6 := HB.out.cellAt (i := 6) rfl
 go_enter Try.func112, Try.ntmps112
 by_cases h0 : n < 1
 case pos =>
  have d0 : decide (n < 1) = true := by simpa using h0
  have hv : chkC c n = 1 := by unfold chkC; simp [h0]; try omega
  have HV := Lib.hid hv
  clear hv h0
  go_wp2
  go_ret
  exact ⟨ret_i HV.out.symm, HX.out⟩
 case neg =>
  have d0 : decide (n < 1) = false := by simpa using h0
  by_cases h1 : 7 < n
  case pos =>
   have d1 : decide (7 < n) = true := by simpa using h1
   have hv : chkC c n = 1 := by unfold chkC; simp [h0, h1]; try omega
   have HV := Lib.hid hv
   clear hv h0 h1
   go_wp2
   go_ret
   exact ⟨ret_i HV.out.symm, HX.out⟩
  case neg =>
   have d1 : decide (7 < n) = false := by simpa using h1
   by_cases h2 : c.cl < n
   case pos =>
    have d2 : decide (c.cl < n) = true := by simpa using h2
    have hv : chkC c n = 17 := by unfold chkC; simp [h0, h1, h2]; try omega
    have HV := Lib.hid hv
    clear hv h0 h1 h2
    go_wp2
    go_ret
    exact ⟨ret_i HV.out.symm, HX.out⟩
   case neg =>
    have d2 : decide (c.cl < n) = false := by simpa using h2
    have hwr : IntKind.i64.wrap (n + 3) = n + 3 := IntWalk.i64_in _ (by omega)
    by_cases h3 : n + 3 < c.cl
    case pos =>
     have d3 : decide (n + 3 < c.cl) = true := by simpa using h3
     have hv : chkC c n = 17 := by unfold chkC; simp [h0, h1, h2, h3]; try omega
     have HV := Lib.hid hv
     clear hv h0 h1 h2 h3
     go_wp2
     go_ret
     exact ⟨ret_i HV.out.symm, HX.out⟩
    case neg =>
     have d3 : decide (n + 3 < c.cl) = false := by simpa using h3
     by_cases h4 : c.sp < 1
     case pos =>
      have d4 : decide (c.sp < 1) = true := by simpa using h4
      have hv : chkC c n = 5 := by unfold chkC; simp [h0, h1, h2, h3, h4]; try omega
      have HV := Lib.hid hv
      clear hv h0 h1 h2 h3 h4
      go_wp2
      go_ret
      exact ⟨ret_i HV.out.symm, HX.out⟩
     case neg =>
      have d4 : decide (c.sp < 1) = false := by simpa using h4
      by_cases h5 : 1099511627776 < c.sp
      case pos =>
       have d5 : decide (1099511627776 < c.sp) = true := by simpa using h5
       have hv : chkC c n = 5 := by unfold chkC; simp [h0, h1, h2, h3, h4, h5]; try omega
       have HV := Lib.hid hv
       clear hv h0 h1 h2 h3 h4 h5
       go_wp2
       go_ret
       exact ⟨ret_i HV.out.symm, HX.out⟩
      case neg =>
       have d5 : decide (1099511627776 < c.sp) = false := by simpa using h5
       by_cases h6 : c.op < 1
       case pos =>
        have d6 : decide (c.op < 1) = true := by simpa using h6
        have hv : chkC c n = 5 := by unfold chkC; simp [h0, h1, h2, h3, h4, h5, h6]; try omega
        have HV := Lib.hid hv
        clear hv h0 h1 h2 h3 h4 h5 h6
        go_wp2
        go_ret
        exact ⟨ret_i HV.out.symm, HX.out⟩
       case neg =>
        have d6 : decide (c.op < 1) = false := by simpa using h6
        by_cases h7 : 9 < c.op
        case pos =>
         have d7 : decide (9 < c.op) = true := by simpa using h7
         have hv : chkC c n = 5 := by unfold chkC; simp [h0, h1, h2, h3, h4, h5, h6, h7]; try omega
         have HV := Lib.hid hv
         clear hv h0 h1 h2 h3 h4 h5 h6 h7
         go_wp2
         go_ret
         exact ⟨ret_i HV.out.symm, HX.out⟩
        case neg =>
         have d7 : decide (9 < c.op) = false := by simpa using h7
         cases hn : isNm c.lt with
         | false =>
          have HNM := Lib.hid (fun W : World => hn ▸ risname_any c.lt W hl)
          have hv : chkC c n = 7 := by unfold chkC; simp [h0, h1, h2, h3, h4, h5, h6, h7, hn]; try omega
          have HV := Lib.hid hv
          clear hv h0 h1 h2 h3 h4 h5 h6 h7
          go_wp2_with (go_at_call 116; (with_reducible refine (HNM.out _).mono ?_); rintro e w2 ⟨rfl, rfl⟩)
          go_ret
          exact ⟨ret_i HV.out.symm, HX.out⟩
         | true =>
          have HNM := Lib.hid (fun W : World => hn ▸ risname_any c.lt W hl)
          by_cases h8 : c.tx.length ≤ 200
          case neg =>
           have d8 : decide ((200 : Int) < (c.tx.length : Int)) = true := by simp; omega
           have hv : chkC c n = 3 := by unfold chkC; simp [h0, h1, h2, h3, h4, h5, h6, h7, h8, hn]; try omega
           have HV := Lib.hid hv
           clear hv h0 h1 h2 h3 h4 h5 h6 h7 h8
           go_wp2_with (go_at_call 116; (with_reducible refine (HNM.out _).mono ?_); rintro e w2 ⟨rfl, rfl⟩)
           go_ret
           exact ⟨ret_i HV.out.symm, HX.out⟩
          case pos =>
           have d8 : decide ((200 : Int) < (c.tx.length : Int)) = false := by simp; omega
           have hv : chkC c n = 0 := by unfold chkC; simp [h0, h1, h2, h3, h4, h5, h6, h7, h8, hn]; try omega
           have HV := Lib.hid hv
           clear hv h0 h1 h2 h3 h4 h5 h6 h7 h8
           go_wp2_with (go_at_call 116; (with_reducible refine (HNM.out _).mono ?_); rintro e w2 ⟨rfl, rfl⟩)
           go_ret
           exact ⟨ret_i HV.out.symm, HX.out⟩

theorem wpList_str_bytes {ops : Array Oper} {rest : List Oper} {o : Oper} {a : Act} {w : World} {Q : Exit → Act → World → Prop} (hgd : o.guard = none) (x : Operand) (ho : o.op = .convert 9 28 x)
  (l : List UInt8) (hx : a.eval x = .string (ba l)) (h : ∀ A c w', By w' (fun _ => True) A l.length l → Below w.heap.size w w' → wpList Try.prog ops Q rest (a.put o.dst (.slice A l.length c)) w') : wpList Try.prog ops Q (o :: rest) a w := by
 refine wpList_plain hgd fun K hK => ?_
 have hrun := Lib.run_convert_string_bytes (P := Try.prog) w 9 28 5 (ba l) Try.underlying9 Try.underlying28 Try.underlying5
 rw [ba_size] at hrun
 unfold Oper.wp execOp
 simp only [ho, hx, Sem.run_bind, hrun, Result.andThen_ok]
 exact hK _ _ (h _ _ _ (by_bytes w l) (below_bytes w _))

theorem u64N_lt64 (v : Int) : u64N v < 18446744073709551616 := by unfold u64N; omega
@[simp] theorem beB_len (v k : Nat) : (beB v k).length = k := beB_length v k
@[simp] theorem rowB_len (xs : List UInt8) : (rowB xs).length = 4 + xs.length := by unfold rowB; rw [List.length_append, beB_length]

set_option maxHeartbeats 8000000 in
set_option maxRecDepth 100000 in
theorem rcoreB_any (c : Cr) (w : World) (hl : c.lt.length ≤ 1000000) (ht : c.tx.length ≤ 1000000) :
  Calls Try.prog 108 #[.agg #[.int .i64 c.cl, .int .i64 c.sp, .int .i64 c.op, .string (ba c.lt), .int .i64 c.a, .int .i64 c.b, .string (ba c.tx)]] w (Byt w (encCr c)) := by
 have H1 : Hid (Blk (w.alloc (.cells #[.int .i64 c.cl, .int .i64 c.sp, .int .i64 c.op, .string (ba c.lt), .int .i64 c.a, .int .i64 c.b, .string (ba c.tx)] 58)) w.heap.size 58 [.int .i64 c.cl, .int .i64 c.sp, .int .i64 c.op, .string (ba c.lt), .int .i64 c.a, .int .i64 c.b, .string (ba c.tx)]) := Lib.hid (Blk.fresh rfl rfl)
 have HX1 : Hid (Below w.heap.size w (w.alloc (.cells #[.int .i64 c.cl, .int .i64 c.sp, .int .i64 c.op, .string (ba c.lt), .int .i64 c.a, .int .i64 c.b, .string (ba c.tx)] 58))) := Lib.hid ((Below.refl _ w).alloc (Nat.le_refl _) _)
 go_enter Try.func108, Try.ntmps108
 go_wp2
 try dsimp only [Act.put]
 generalize hw1 : w.alloc (.cells #[.int .i64 c.cl, .int .i64 c.sp, .int .i64 c.op, .string (ba c.lt), .int .i64 c.a, .int .i64 c.b, .string (ba c.tx)] 58) = w1 at *
 clear hw1
 refine wp_region_held_drew (S := fun W => Below w1.heap.size w1 W) (by kernel_rfl) (Below.refl _ _).drew (fun hHeld => ?_)
 change wpAnyH _ _ _ _ _ _ #[false, false, false, false, false, false, false, false, false, false, false, false, false] _ _
 refine tkq (i := 0) (d := 4) (v := (.pointer (some ⟨w.heap.size, 0, none⟩))) rfl rfl (Or.inl ⟨by kernel_rfl, fun w hSw => ?_⟩) (by assumption) ?_
 ·(try dsimp only at hSw); go_simp <;> (try rfl)
 simp only [Act.put, sq1, sq2, sq3]
 refine tkq (i := 1) (d := 5) (v := (.int .i64 c.cl)) rfl rfl (yields_load_at (by kernel_rfl) 3 (.tmp 4) rfl (.pointer (some ⟨w.heap.size, 0, none⟩)) rfl (.int .i64 c.cl) (fun W hW => load_one' (by kernel_rfl) ((H1.out.through hW).cellAt (i := 0) rfl))) (by assumption) ?_
 simp only [Act.put, sq1, sq2, sq3]
 refine tkq (i := 2) (d := 6) (v := (.int .u64 ((u64N c.cl : Nat) : Int))) rfl rfl (yields_conv (by kernel_rfl) 3 70 (.tmp 5) rfl (.int .i64 c.cl) (by simp [Act.eval]) (.int .u64 ((u64N c.cl : Nat) : Int)) (fun W hW => conv_u64 3 70 Try.underlying3 Try.underlying70 c.cl W)) (by assumption) ?_
 simp only [Act.put, sq1, sq2, sq3]
 refine tkq (i := 4) (d := 8) (v := (.pointer (some ⟨w.heap.size, 1, none⟩))) rfl rfl (Or.inl ⟨by kernel_rfl, fun w hSw => ?_⟩) (by assumption) ?_
 ·(try dsimp only at hSw); go_simp <;> (try rfl)
 simp only [Act.put, sq1, sq2, sq3]
 refine tkq (i := 5) (d := 9) (v := (.int .i64 c.sp)) rfl rfl (yields_load_at (by kernel_rfl) 2 (.tmp 8) rfl (.pointer (some ⟨w.heap.size, 1, none⟩)) rfl (.int .i64 c.sp) (fun W hW => load_one' (by kernel_rfl) ((H1.out.through hW).cellAt (i := 1) rfl))) (by assumption) ?_
 simp only [Act.put, sq1, sq2, sq3]
 refine tkq (i := 6) (d := 10) (v := (.int .u64 ((u64N c.sp : Nat) : Int))) rfl rfl (yields_conv (by kernel_rfl) 2 70 (.tmp 9) rfl (.int .i64 c.sp) (by simp [Act.eval]) (.int .u64 ((u64N c.sp : Nat) : Int)) (fun W hW => conv_u64 2 70 Try.underlying2 Try.underlying70 c.sp W)) (by assumption) ?_
 simp only [Act.put, sq1, sq2, sq3]
 refine tkq (i := 8) (d := 12) (v := (.pointer (some ⟨w.heap.size, 2, none⟩))) rfl rfl (Or.inl ⟨by kernel_rfl, fun w hSw => ?_⟩) (by assumption) ?_
 ·(try dsimp only at hSw); go_simp <;> (try rfl)
 simp only [Act.put, sq1, sq2, sq3]
 refine tkq (i := 9) (d := 13) (v := (.int .i64 c.op)) rfl rfl (yields_load_at (by kernel_rfl) 3 (.tmp 12) rfl (.pointer (some ⟨w.heap.size, 2, none⟩)) rfl (.int .i64 c.op) (fun W hW => load_one' (by kernel_rfl) ((H1.out.through hW).cellAt (i := 2) rfl))) (by assumption) ?_
 simp only [Act.put, sq1, sq2, sq3]
 refine tkq (i := 10) (d := 14) (v := (.int .u64 ((u64N c.op : Nat) : Int))) rfl rfl (yields_conv (by kernel_rfl) 3 70 (.tmp 13) rfl (.int .i64 c.op) (by simp [Act.eval]) (.int .u64 ((u64N c.op : Nat) : Int)) (fun W hW => conv_u64 3 70 Try.underlying3 Try.underlying70 c.op W)) (by assumption) ?_
 simp only [Act.put, sq1, sq2, sq3]
 refine wpAnyH_ready (rs := [3]) (by kernel_rfl) (by simp) ?_
 refine AllReadyH.cons rfl (fun K hK => ?_) AllReadyH.nil
 go_simp
 refine (rput_by (Q := fun _ => True) (A := none) (n := 0) (c := 0) (xs := []) 1 rfl (u64N c.cl) (u64N_lt64 _) By.none_ (by simp)).mono ?_
 rintro e wa ⟨Aa, na, ca, rfl, hya, _, _, hba⟩; have HYa := Lib.hid hya; have HKa := Lib.hid (below_step hHeld hba); clear hya hba
 go_wp2_with fail
 refine hK.out _ _ HKa.out (fun hHeld1 => ?_)
 clear hHeld hK K
 have hHeld := hHeld1
 clear hHeld1
 refine wpAnyH_ready (rs := [7]) (by kernel_rfl) (by simp) ?_
 refine AllReadyH.cons rfl (fun K hK => ?_) AllReadyH.nil
 go_simp
 refine (rput_by 8 rfl (u64N c.sp) (u64N_lt64 _) (HYa.out) (by first | (simp; done) | (simp; omega))).mono ?_
 rintro e wb ⟨Ab, nb, cb, rfl, hyb, _, _, hbb⟩; have HYb := Lib.hid hyb; have HKb := Lib.hid (below_step hHeld hbb); clear hyb hbb
 go_wp2_with fail
 refine hK.out _ _ HKb.out (fun hHeld1 => ?_)
 clear hHeld hK K
 have hHeld := hHeld1
 clear hHeld1
 refine wpAnyH_ready (rs := [11]) (by kernel_rfl) (by simp) ?_
 refine AllReadyH.cons rfl (fun K hK => ?_) AllReadyH.nil
 go_simp
 refine (rput_by 1 rfl (u64N c.op) (u64N_lt64 _) (HYb.out) (by first | (simp; done) | (simp; omega))).mono ?_
 rintro e we ⟨Ae, ne, ce, rfl, hye, _, _, hbe⟩; have HYe := Lib.hid hye; have HKe := Lib.hid (below_step hHeld hbe); clear hye hbe
 go_wp2_with fail
 refine hK.out _ _ HKe.out (fun hHeld1 => ?_)
 clear hHeld hK K
 have hHeld := hHeld1
 clear hHeld1
 refine tkq (i := 12) (d := 3) (v := (.slice Ae ne ce)) rfl rfl (Or.inl ⟨by kernel_rfl, fun w hSw => ?_⟩) (by assumption) ?_
 ·(try dsimp only at hSw); go_simp <;> (try rfl)
 simp only [Act.put, sq1, sq2, sq3]
 refine wpAnyH_done (by kernel_rfl) ?_ _
 have HXe := Lib.hid (below_step HX1.out HKe.out)
 have k3 := (H1.out.through HKe.out).cellAt (i := 3) rfl
 go_wp2_with (first | (refine wpList_str_bytes rfl (.tmp 18) rfl c.lt rfl ?_; intro Sf df vf hysf hbsf; have HSf := Lib.hid hysf; have HTf := Lib.hid (HYe.out.through hbsf); have HUf := Lib.hid (below_step HXe.out hbsf); have H1s := Lib.hid ((H1.out.through HKe.out).through hbsf); clear hysf hbsf) | (go_at_call 71; (with_reducible refine (rrow_by HTf.out HSf.out (by first | (simp; done) | (simp; omega)) (by omega)).mono ?_); rintro e wf ⟨Af, nf, cf, rfl, hyf, hnf, hmf, hbf⟩; have HYf := Lib.hid hyf; have HXf := Lib.hid (below_step HUf.out hbf); have H1f := Lib.hid (H1s.out.through hbf); have HCf := Lib.hid (And.intro hnf hmf); clear hyf hbf hnf hmf))
 try dsimp only [Act.put]
 clear k3
 refine wp_region_held_drew (S := fun W => Below wf.heap.size wf W) (by kernel_rfl) (Below.refl _ _).drew (fun hHeld => ?_)
 change wpAnyH _ _ _ _ _ _ #[false, false, false, false, false, false, false, false, false, false] _ _
 refine tkq (i := 0) (d := 21) (v := (.slice Af nf cf)) rfl rfl (Or.inl ⟨by kernel_rfl, fun w hSw => ?_⟩) (by assumption) ?_
 ·(try dsimp only at hSw); go_simp <;> (try rfl)
 simp only [Act.put, sq1, sq2, sq3]
 refine tkq (i := 1) (d := 22) (v := (.pointer (some ⟨w.heap.size, 4, none⟩))) rfl rfl (Or.inl ⟨by kernel_rfl, fun w hSw => ?_⟩) (by assumption) ?_
 ·(try dsimp only at hSw); go_simp <;> (try rfl)
 simp only [Act.put, sq1, sq2, sq3]
 refine tkq (i := 2) (d := 23) (v := (.int .i64 c.a)) rfl rfl (yields_load_at (by kernel_rfl) 2 (.tmp 22) rfl (.pointer (some ⟨w.heap.size, 4, none⟩)) rfl (.int .i64 c.a) (fun W hW => load_one' (by kernel_rfl) ((H1f.out.through hW).cellAt (i := 4) rfl))) (by assumption) ?_
 simp only [Act.put, sq1, sq2, sq3]
 refine tkq (i := 3) (d := 24) (v := (.int .u64 ((u64N c.a : Nat) : Int))) rfl rfl (yields_conv (by kernel_rfl) 2 70 (.tmp 23) rfl (.int .i64 c.a) (by simp [Act.eval]) (.int .u64 ((u64N c.a : Nat) : Int)) (fun W hW => conv_u64 2 70 Try.underlying2 Try.underlying70 c.a W)) (by assumption) ?_
 simp only [Act.put, sq1, sq2, sq3]
 refine tkq (i := 5) (d := 26) (v := (.pointer (some ⟨w.heap.size, 5, none⟩))) rfl rfl (Or.inl ⟨by kernel_rfl, fun w hSw => ?_⟩) (by assumption) ?_
 ·(try dsimp only at hSw); go_simp <;> (try rfl)
 simp only [Act.put, sq1, sq2, sq3]
 refine tkq (i := 6) (d := 27) (v := (.int .i64 c.b)) rfl rfl (yields_load_at (by kernel_rfl) 2 (.tmp 26) rfl (.pointer (some ⟨w.heap.size, 5, none⟩)) rfl (.int .i64 c.b) (fun W hW => load_one' (by kernel_rfl) ((H1f.out.through hW).cellAt (i := 5) rfl))) (by assumption) ?_
 simp only [Act.put, sq1, sq2, sq3]
 refine tkq (i := 7) (d := 28) (v := (.int .u64 ((u64N c.b : Nat) : Int))) rfl rfl (yields_conv (by kernel_rfl) 2 70 (.tmp 27) rfl (.int .i64 c.b) (by simp [Act.eval]) (.int .u64 ((u64N c.b : Nat) : Int)) (fun W hW => conv_u64 2 70 Try.underlying2 Try.underlying70 c.b W)) (by assumption) ?_
 simp only [Act.put, sq1, sq2, sq3]
 refine wpAnyH_ready (rs := [4]) (by kernel_rfl) (by simp) ?_
 refine AllReadyH.cons rfl (fun K hK => ?_) AllReadyH.nil
 go_simp
 refine (rput_by 8 rfl (u64N c.a) (u64N_lt64 _) (HYf.out.through hHeld) (by first | (simp; done) | (simp; omega))).mono ?_
 rintro e wh ⟨Ah, nh, ch, rfl, hyh, _, _, hbh⟩; have HYh := Lib.hid hyh; have HKh := Lib.hid (below_step hHeld hbh); clear hyh hbh
 go_wp2_with fail
 refine hK.out _ _ HKh.out (fun hHeld1 => ?_)
 clear hHeld hK K
 have hHeld := hHeld1
 clear hHeld1
 refine wpAnyH_ready (rs := [8]) (by kernel_rfl) (by simp) ?_
 refine AllReadyH.cons rfl (fun K hK => ?_) AllReadyH.nil
 go_simp
 refine (rput_by 8 rfl (u64N c.b) (u64N_lt64 _) (HYh.out) (by first | (simp; done) | (simp; omega))).mono ?_
 rintro e wi ⟨Ai, ni, ci, rfl, hyi, _, _, hbi⟩; have HYi := Lib.hid hyi; have HKi := Lib.hid (below_step hHeld hbi); clear hyi hbi
 go_wp2_with fail
 refine hK.out _ _ HKi.out (fun hHeld1 => ?_)
 clear hHeld hK K
 have hHeld := hHeld1
 clear hHeld1
 refine tkq (i := 9) (d := 3) (v := (.slice Ai ni ci)) rfl rfl (Or.inl ⟨by kernel_rfl, fun w hSw => ?_⟩) (by assumption) ?_
 ·(try dsimp only at hSw); go_simp <;> (try rfl)
 simp only [Act.put, sq1, sq2, sq3]
 refine wpAnyH_done (by kernel_rfl) ?_ _
 have HXi := Lib.hid (below_step HXf.out HKi.out)
 have k6 := (H1f.out.through HKi.out).cellAt (i := 6) rfl
 go_wp2_with (first | (refine wpList_str_bytes rfl (.tmp 32) rfl c.tx rfl ?_; intro Sj dj vj hysj hbsj; have HSj := Lib.hid hysj; have HTj := Lib.hid (HYi.out.through hbsj); have HUj := Lib.hid (below_step HXi.out hbsj); clear hysj hbsj) | (go_at_call 71; (with_reducible refine (rrow_by HTj.out HSj.out (by first | (simp; done) | (simp; omega)) (by omega)).mono ?_); rintro e wj ⟨Aj, nj, cj, rfl, hyj, hnj, hmj, hbj⟩; have HYj := Lib.hid hyj; have HXj := Lib.hid (below_step HUj.out hbj); have HCj := Lib.hid (And.intro hnj hmj); clear hyj hbj hnj hmj))
 go_ret
 exact ⟨Aj, nj, cj, rfl, (by have h9 := HYj.out; simpa only [encCr, List.nil_append, List.append_assoc] using h9), HCj.out.1, HCj.out.2, HXj.out⟩

end Go.Proofs.Ytheecifgbkdecaa
