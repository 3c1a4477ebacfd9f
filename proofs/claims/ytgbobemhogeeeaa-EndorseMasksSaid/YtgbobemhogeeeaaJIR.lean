/-
  Joined: VIR.
-/
import Derived.Test.YtgbobemhogeeeaaJIM
import Derived.BigQuiet
namespace Go.Proofs.Ytgbobemhogeeeaa
open Go.RowKit

theorem maskN_add (f : Nat → Bool) (k : Nat) : maskN f (k + 1) = maskN f k + (if f k then 2 ^ k else 0) := by
  have h := maskN_lt f k
  rw [maskN]
  cases f k with
  | false => simp
  | true =>
    simp only [if_true]
    have h9 := Nat.two_pow_add_eq_or_of_lt h 1
    rw [Nat.mul_one] at h9
    rw [Nat.or_comm, ← h9, Nat.add_comm]
theorem inE_some {hold : Int → List UInt8 → Bool} {es : List En} {who o : Int} {e : En} (h : es.find? (fun e => e.og == o) = some e) : inE hold es who o = (decide (0 ≤ who) && (match e.ts[who.toNat]? with | some t => hold o t | none => false)) := by
  unfold inE endT
  rw [h]
  simp only
  by_cases hw : 0 ≤ who
  · simp [hw]
    cases e.ts[who.toNat]? <;> rfl
  · simp [hw]
theorem inE_none {hold : Int → List UInt8 → Bool} {es : List En} {who o : Int} (h : es.find? (fun e => e.og == o) = none) : inE hold es who o = false := by
  unfold inE endT
  rw [h]
  rfl

set_option maxHeartbeats 16000000 in
set_option maxRecDepth 100000 in
theorem rmask13_any (g : Nat) (ds ts : List (List UInt8)) (co : Cr) (es : List En) (A : Option Addr) (n c1 : Nat) (N who : Int) (w : World) (h : EsIn w A n es) (hn : n ≤ 1000000) (hl : co.lt.length ≤ 1000) (ht : co.tx.length ≤ 1000) (hs : IS w g ds ts) (htl : ts.length < 1000000000) :
    Calls Try.prog 12 #[(.pointer (some ⟨g, 0, none⟩)), .agg #[.int .i64 co.cl, .int .i64 co.sp, .int .i64 co.op, .string (ba co.lt), .int .i64 co.a, .int .i64 co.b, .string (ba co.tx), .slice A n c1], .int .i64 N, .int .i64 who] w fun e w' => e = .returned (.int .u32 (maskF (fun o : Nat => inE (holdI ts (100 :: encCr co) who) es who (o : Int)) N : Nat)) ∧ Below w.heap.size w w' := by
  have HI := Lib.hid h
  have HLn := Lib.hid h.len
  have HX0 : Hid (Below w.heap.size w (w.alloc (.cells #[.int .i64 co.cl, .int .i64 co.sp, .int .i64 co.op, .string (ba co.lt), .int .i64 co.a, .int .i64 co.b, .string (ba co.tx), .slice A n c1] 26))) := Lib.hid (below1_ w _)
  have HB0 : Hid (Blk (w.alloc (.cells #[.int .i64 co.cl, .int .i64 co.sp, .int .i64 co.op, .string (ba co.lt), .int .i64 co.a, .int .i64 co.b, .string (ba co.tx), .slice A n c1] 26)) w.heap.size 26 [.int .i64 co.cl, .int .i64 co.sp, .int .i64 co.op, .string (ba co.lt), .int .i64 co.a, .int .i64 co.b, .string (ba co.tx), .slice A n c1]) := Lib.hid (Blk.fresh rfl rfl)
  by_cases hN1 : N < 1
  · have d1 : decide (N < 1) = true := by simpa using hN1
    have HV : Hid (maskF (fun o : Nat => inE (holdI ts (100 :: encCr co) who) es who (o : Int)) N = 0) := Lib.hid (by unfold maskF; rw [if_pos (.inl hN1)])
    rw [HV.out]
    clear h hs hN1
    go_enter Try.func12, Try.ntmps12
    go_wp2
    go_ret
    exact ⟨rfl, HX0.out⟩
  have d1 : decide (N < 1) = false := by simpa using hN1
  by_cases hN7 : 7 < N
  · have d2 : decide (7 < N) = true := by simpa using hN7
    have HV : Hid (maskF (fun o : Nat => inE (holdI ts (100 :: encCr co) who) es who (o : Int)) N = 0) := Lib.hid (by unfold maskF; rw [if_pos (.inr hN7)])
    rw [HV.out]
    clear h hs hN1 hN7
    go_enter Try.func12, Try.ntmps12
    go_wp2
    go_ret
    exact ⟨rfl, HX0.out⟩
  have d2 : decide (7 < N) = false := by simpa using hN7
  obtain ⟨m, rfl⟩ : ∃ m : Nat, N = m := ⟨N.toNat, by omega⟩
  have hm7 : m ≤ 7 := by omega
  have HTx : Hid (∀ W, Calls Try.prog 14 #[.agg #[.int .i64 co.cl, .int .i64 co.sp, .int .i64 co.op, .string (ba co.lt), .int .i64 co.a, .int .i64 co.b, .string (ba co.tx)]] W fun e w' => ∃ T m d, e = .returned (.slice T m d) ∧ By w' (fun _ => True) T m (100 :: encCr co) ∧ Below W.heap.size W w') := Lib.hid (fun W => rtext13_any co W hl ht)
  have hel : (encCr co).length ≤ 2034 := by rw [encCr_len]; omega
  have HCh : Hid (∀ (o z : Int) (t : List UInt8) (W : World) (T : Option Addr) (tn tc : Nat), t.length = 32 → Below w.heap.size w W → By W (fun _ => True) T tn (100 :: encCr co) → Calls Try.prog 36 #[(.pointer (some ⟨g, 0, none⟩)), .int .i64 o, .int .i64 z, .slice T tn tc, .agg (vs t).toArray] W fun e w' => e = .returned (.bool (holdI ts (100 :: encCr co) z o t)) ∧ Below W.heap.size W w') := Lib.hid (fun o z t W T tn tc h32 hW hT => icheck_any g o z (100 :: encCr co) t T tn tc ds ts W (hs.through hW) hT (by rw [← hT.len]; simp; omega) h32 htl)
  obtain ⟨f, hf⟩ : ∃ f : Nat → Bool, (fun o : Nat => inE (holdI ts (100 :: encCr co) who) es who (o : Int)) = f := ⟨_, rfl⟩
  have HF : Hid (∀ o : Nat, f o = inE (holdI ts (100 :: encCr co) who) es who (o : Int)) := Lib.hid (fun o => by rw [← hf])
  rw [hf]
  have HV : Hid (maskF f (m : Int) = maskN f m) := Lib.hid (by unfold maskF; rw [if_neg (by omega), Int.toNat_natCast])
  rw [HV.out]
  clear h hs hN1 hN7 hl ht htl hel hf
  go_enter Try.func12, Try.ntmps12
  go_wp2
  go_loopw [9, 10, 11] (fun mv bv jv wr => ∃ j : Nat, j ≤ m ∧ jv = .int .i64 (j : Int) ∧ mv = .int .u32 ((maskN f j : Nat) : Int) ∧ bv = .int .u32 ((2 ^ j : Nat) : Int) ∧ Blk wr w.heap.size 26 [.int .i64 co.cl, .int .i64 co.sp, .int .i64 co.op, .string (ba co.lt), .int .i64 co.a, .int .i64 co.b, .string (ba co.tx), .slice A n c1] ∧ Below w.heap.size w wr) (fun _ _ jv _ => m - (intOf jv).toNat)
  case atStart => exact ⟨0, Nat.zero_le _, rfl, rfl, rfl, HB0.out, HX0.out⟩
  case round =>
    obtain ⟨j, hj, rfl, rfl, rfl, hb, hx⟩ := hrel
    have HB := Lib.hid hb
    have HX := Lib.hid hx
    have c7 := hb.cellAt (i := 7) rfl
    clear hb hx
    by_cases hjm : j < m
    · have HMl := Lib.hid (maskN_lt f j)
      have HMa := Lib.hid (maskN_add f j)
      have hP : 2 ^ j ≤ 64 := Nat.pow_le_pow_right (n := 2) (by decide) (show j ≤ 6 by omega)
      have HPs : Hid (2 ^ (j + 1) = 2 ^ j * 2) := Lib.hid (Nat.pow_succ 2 j)
      obtain ⟨Bt, hBt⟩ : ∃ Bt : Nat, 2 ^ j = Bt := ⟨_, rfl⟩
      obtain ⟨Mk, hMk⟩ : ∃ Mk : Nat, maskN f j = Mk := ⟨_, rfl⟩
      rw [hBt, hMk] at HMl
      rw [hBt, hMk] at HMa
      rw [hBt] at hP HPs
      rw [hBt, hMk]
      have hlM := HMl.out
      have hw2 : IntKind.u32.wrap ((Bt : Int) * 2) = (Bt : Int) * 2 := IntWalk.u32_in _ (by omega)
      have hw2b : (Bt : Int) * 2 % 4294967296 = (Bt : Int) * 2 := by omega
      have hwm : IntKind.u32.wrap ((Mk : Int) + (Bt : Int)) = (Mk : Int) + (Bt : Int) := IntWalk.u32_in _ (by omega)
      have hwmb : ((Mk : Int) + (Bt : Int)) % 4294967296 = (Mk : Int) + (Bt : Int) := by omega
      clear hBt hMk hlM
      go_wp2
      go_loopw [9, 28] (fun mv iv wr => ∃ i : Nat, i ≤ n ∧ iv = .int .i64 (i : Int) ∧ mv = .int .u32 ((Mk : Nat) : Int) ∧ es.find? (fun e => e.og == (j : Int)) = (es.drop i).find? (fun e => e.og == (j : Int)) ∧ Blk wr w.heap.size 26 [.int .i64 co.cl, .int .i64 co.sp, .int .i64 co.op, .string (ba co.lt), .int .i64 co.a, .int .i64 co.b, .string (ba co.tx), .slice A n c1] ∧ Below w.heap.size w wr) (fun _ iv _ => n - (intOf iv).toNat)
      case atStart => exact ⟨0, Nat.zero_le _, rfl, rfl, rfl, HB.out, HX.out⟩
      case round =>
        obtain ⟨i, hi, rfl, rfl, hfd, hb, hx⟩ := hrel
        have HBi := Lib.hid hb
        have HXi := Lib.hid hx
        clear hb hx
        by_cases hlt : i < n
        case neg =>
          have e9 : es.drop i = [] := List.drop_of_length_le (by have := HLn.out; omega)
          rw [e9] at hfd
          have HV0 : Hid (maskN f (j + 1) = Mk) := Lib.hid (by rw [HMa.out, HF.out j, inE_none hfd]; rfl)
          clear hfd e9
          go_wp2
          go_roundw
          case rel => exact ⟨j + 1, by omega, by go_num, by rw [HV0.out], by rw [HPs.out]; simp, HBi.out, HXi.out⟩
          case measure => simp [intOf]; omega
        case pos =>
        obtain ⟨g0, o0, e, B, k, d, rfl, _, _, hd, hrx, hts⟩ := (HI.out.through HXi.out).at hlt
        rw [hd] at hfd
        have HRx := Lib.hid hrx
        have hix := Try.ix_en wr g0 o0 n c1 i hlt
        have HXz0 : Hid (Below w.heap.size w (wr.alloc (.cells #[.int .i64 e.og, .slice B k d] 34))) := Lib.hid (HXi.out.alloc HXi.out.size _)
        have HBz0 := Lib.hid (HBi.out.alloc (.cells #[.int .i64 e.og, .slice B k d] 34))
        clear hrx hd
        by_cases hog : e.og = (j : Int)
        case neg =>
          have b1 : (e.og == (j : Int)) = false := by simpa using hog
          have b2 : (e.og != (j : Int)) = true := by simpa using hog
          have HFd : Hid (es.find? (fun e => e.og == (j : Int)) = (es.drop (i + 1)).find? (fun e => e.og == (j : Int))) := Lib.hid (by rw [hfd, List.find?_cons, b1])
          clear hfd hog hts
          go_wp2_with (first
            | (refine wpList_load_mid rfl 34 (.tmp 30) rfl g0 (o0 + i * 2) rfl [.int .i64 e.og, .slice B k d] _ HRx.out Try.underlying34 rfl (by kernel_rfl) ?_))
          go_roundw
          case rel => exact ⟨i + 1, by omega, by go_num, rfl, HFd.out, HBz0.out, HXz0.out⟩
          case measure => simp [intOf]; omega
        have b1 : (e.og == (j : Int)) = true := by simpa using hog
        have b2 : (e.og != (j : Int)) = false := by simpa using hog
        have hin := inE_some (hold := holdI ts (100 :: encCr co) who) (who := who) (show es.find? (fun e => e.og == (j : Int)) = some e by rw [hfd, List.find?_cons, b1])
        clear hfd hog
        by_cases hw0 : 0 ≤ who
        case neg =>
          have dw : decide (0 ≤ who) = false := by simpa using hw0
          have HV0 : Hid (maskN f (j + 1) = Mk) := Lib.hid (by rw [HMa.out, HF.out j, hin, dw]; rfl)
          clear hin hts hw0
          go_wp2_with (first
            | (refine wpList_load_mid rfl 34 (.tmp 30) rfl g0 (o0 + i * 2) rfl [.int .i64 e.og, .slice B k d] _ HRx.out Try.underlying34 rfl (by kernel_rfl) ?_))
          go_quiet (fail)
          go_wp2
          go_roundw
          case rel => exact ⟨j + 1, by omega, by go_num, by rw [HV0.out], by rw [HPs.out]; simp, HBz0.out.drewN _, below_drewN HXz0.out _⟩
          case measure => simp [intOf]; omega
        obtain ⟨u, rfl⟩ : ∃ u : Nat, who = u := ⟨who.toNat, by omega⟩
        have dw : decide ((0 : Int) ≤ (u : Int)) = true := by simp
        have HTk := Lib.hid hts.len
        by_cases huk : u < k
        case neg =>
          have dk : decide ((u : Int) < (k : Int)) = false := by simp; omega
          have HV0 : Hid (maskN f (j + 1) = Mk) := Lib.hid (by rw [HMa.out, HF.out j, hin, Int.toNat_natCast, List.getElem?_eq_none (by have := HTk.out; simp only at this; omega)]; simp)
          have c1z : (wr.alloc (.cells #[.int .i64 e.og, .slice B k d] 34)).cell? ⟨wr.heap.size, 1, none⟩ = some (.slice B k d) := (Blk.fresh rfl rfl : Blk (wr.alloc (.cells #[.int .i64 e.og, .slice B k d] 34)) wr.heap.size 34 [.int .i64 e.og, .slice B k d]).cellAt (i := 1) rfl
          clear hin hts hw0
          go_wp2_with (first
            | (refine wpList_load_mid rfl 34 (.tmp 30) rfl g0 (o0 + i * 2) rfl [.int .i64 e.og, .slice B k d] _ HRx.out Try.underlying34 rfl (by kernel_rfl) ?_))
          go_quiet (fail)
          go_wp2
          go_roundw
          case rel => exact ⟨j + 1, by omega, by go_num, by rw [HV0.out], by rw [HPs.out]; simp, HBz0.out.drewN _, below_drewN HXz0.out _⟩
          case measure => simp [intOf]; omega
        have dk : decide ((u : Int) < (k : Int)) = true := by simp; omega
        obtain ⟨gt, ot, t, hB, htu, _, _, htl, hrt⟩ := hts.at huk
        simp only at hB
        subst hB
        have hixt := fun (W : World) => Try.ix_tg W gt ot k d u huk
        have HTl := Lib.hid htl
        have HRt := Lib.hid (range_through hrt (below1_ wr (.cells #[.int .i64 e.og, .slice (some ⟨gt, ot, none⟩) k d] 34)))
        have HOe : Hid (Blk (wr.alloc (.cells #[.int .i64 e.og, .slice (some ⟨gt, ot, none⟩) k d] 34)) wr.heap.size 34 [.int .i64 e.og, .slice (some ⟨gt, ot, none⟩) k d]) := Lib.hid (Blk.fresh rfl rfl)
        have HCz : Hid ((wr.alloc (.cells #[.int .i64 e.og, .slice (some ⟨gt, ot, none⟩) k d] 34)).rangeAt w.heap.size 0 [.int .i64 co.cl, .int .i64 co.sp, .int .i64 co.op, .string (ba co.lt), .int .i64 co.a, .int .i64 co.b, .string (ba co.tx)]) := Lib.hid (Blk.front (post := [.slice (some ⟨g0, o0, none⟩) n c1]) HBz0.out)
        have HXz := HXz0
        have HCk : Hid (∀ (W : World) (T : Option Addr) (tn tc : Nat), Below w.heap.size w W → By W (fun _ => True) T tn (100 :: encCr co) → Calls Try.prog 36 #[(.pointer (some ⟨g, 0, none⟩)), .int .i64 (j : Int), .int .i64 (u : Int), .slice T tn tc, .agg (vs t).toArray] W fun e w' => e = .returned (.bool (holdI ts (100 :: encCr co) (u : Int) (j : Int) t)) ∧ Below W.heap.size W w') := Lib.hid (fun W T tn tc hW hT => HCh.out (j : Int) (u : Int) t W T tn tc htl hW hT)
        have HIn : Hid (f j = holdI ts (100 :: encCr co) (u : Int) (j : Int) t) := Lib.hid (by rw [HF.out j, hin, Int.toNat_natCast, htu, dw]; rfl)
        clear hin hts hw0 htu htl hrt
        generalize holdI ts (100 :: encCr co) (u : Int) (j : Int) t = bo at *
        have hg9 := HIn
        cases bo with
        | false =>
          have HV0 : Hid (maskN f (j + 1) = Mk) := Lib.hid (by rw [HMa.out, HIn.out]; rfl)
          go_wp2_with (first
            | (refine wpList_load_mid rfl 34 (.tmp 30) rfl g0 (o0 + i * 2) rfl [.int .i64 e.og, .slice (some ⟨gt, ot, none⟩) k d] _ HRx.out Try.underlying34 rfl (by kernel_rfl) ?_))
          try dsimp only [Act.put]
          generalize hwz : wr.alloc (.cells #[.int .i64 e.og, .slice (some ⟨gt, ot, none⟩) k d] 34) = wz at *
          clear hwz
          generalize hge : wr.heap.size = ge at *
          clear hge
          refine wp_region_held_drew (S := fun W => Below wz.heap.size wz W) (by kernel_rfl) (Below.refl _ _).drew (fun hHeld => ?_)
          change wpAnyH _ _ _ _ _ _ #[false, false, false, false, false, false, false, false, false, false, false, false, false, false, false, false, false, false, false, false, false, false, false] _ _
          refine wpAnyH_take (i := 0) (v := (.int .i64 (u : Int))) rfl (by kernel_rfl) (by kernel_rfl) (by kernel_rfl) (fun _ _ _ h => h) (Or.inl ⟨by kernel_rfl, fun w hSw => ?_⟩) (by assumption) ?_
          · (try dsimp only at hSw); go_simp <;> (try rfl)
          change wpAnyH _ _ _ _ _ _ _ (Act.put _ (some (36 : Nat)) (.int .i64 (u : Int))) _
          simp only [Act.put, List.setIfInBounds_toArray, List.set_cons_zero, List.set_cons_succ]
          refine wpAnyH_take (i := 1) (v := (.bool true)) rfl (by kernel_rfl) (by kernel_rfl) (by kernel_rfl) (fun _ _ _ h => h) (Or.inl ⟨by kernel_rfl, fun w hSw => ?_⟩) (by assumption) ?_
          · (try dsimp only at hSw); go_simp <;> (try rfl)
          change wpAnyH _ _ _ _ _ _ _ (Act.put _ (some (37 : Nat)) (.bool true)) _
          simp only [Act.put, List.setIfInBounds_toArray, List.set_cons_zero, List.set_cons_succ]
          refine wpAnyH_take (i := 2) (v := (.bool true)) rfl (by kernel_rfl) (by kernel_rfl) (by kernel_rfl) (fun _ _ _ h => h) (Or.inl ⟨by kernel_rfl, fun w hSw => ?_⟩) (by assumption) ?_
          · (try dsimp only at hSw); go_simp <;> (try rfl)
          change wpAnyH _ _ _ _ _ _ _ (Act.put _ (some (38 : Nat)) (.bool true)) _
          simp only [Act.put, List.setIfInBounds_toArray, List.set_cons_zero, List.set_cons_succ]
          refine wpAnyH_take (i := 3) (v := (.int .i64 (u : Int))) rfl (by kernel_rfl) (by kernel_rfl) (by kernel_rfl) (fun _ _ _ h => h) (Or.inl ⟨by kernel_rfl, fun w hSw => ?_⟩) (by assumption) ?_
          · (try dsimp only at hSw); go_simp <;> (try rfl)
          change wpAnyH _ _ _ _ _ _ _ (Act.put _ (some (39 : Nat)) (.int .i64 (u : Int))) _
          simp only [Act.put, List.setIfInBounds_toArray, List.set_cons_zero, List.set_cons_succ]
          refine wpAnyH_take (i := 4) (v := (.pointer (some ⟨ge, 1, none⟩))) rfl (by kernel_rfl) (by kernel_rfl) (by kernel_rfl) (fun _ _ _ h => h) (Or.inl ⟨by kernel_rfl, fun w hSw => ?_⟩) (by assumption) ?_
          · (try dsimp only at hSw); go_simp <;> (try rfl)
          change wpAnyH _ _ _ _ _ _ _ (Act.put _ (some (40 : Nat)) (.pointer (some ⟨ge, 1, none⟩))) _
          simp only [Act.put, List.setIfInBounds_toArray, List.set_cons_zero, List.set_cons_succ]
          refine wpAnyH_take (i := 5) (v := (.slice (some ⟨gt, ot, none⟩) k d)) rfl (by kernel_rfl) (by kernel_rfl) (by kernel_rfl) (fun _ _ _ h => h) (yields_load_at (by kernel_rfl) 32 (.tmp 40) rfl (.pointer (some ⟨ge, 1, none⟩)) (by simp [Act.eval]) (.slice (some ⟨gt, ot, none⟩) k d) (fun W hW => load_one' (Try.agg_ts W) ((HOe.out.through hW).cellAt (i := 1) rfl))) (by assumption) ?_
          change wpAnyH _ _ _ _ _ _ _ (Act.put _ (some (41 : Nat)) (.slice (some ⟨gt, ot, none⟩) k d)) _
          simp only [Act.put, List.setIfInBounds_toArray, List.set_cons_zero, List.set_cons_succ]
          refine wpAnyH_take (i := 6) (v := (.int .i64 (k : Int))) rfl (by kernel_rfl) (by kernel_rfl) (by kernel_rfl) (fun _ _ _ h => h) (Or.inl ⟨by kernel_rfl, fun w hSw => ?_⟩) (by assumption) ?_
          · (try dsimp only at hSw); go_simp <;> (try rfl)
          change wpAnyH _ _ _ _ _ _ _ (Act.put _ (some (42 : Nat)) (.int .i64 (k : Int))) _
          simp only [Act.put, List.setIfInBounds_toArray, List.set_cons_zero, List.set_cons_succ]
          refine wpAnyH_take (i := 7) (v := (.bool true)) rfl (by kernel_rfl) (by kernel_rfl) (by kernel_rfl) (fun _ _ _ h => h) (Or.inl ⟨by kernel_rfl, fun w hSw => ?_⟩) (by assumption) ?_
          · (try dsimp only at hSw); go_simp <;> (try rfl)
          change wpAnyH _ _ _ _ _ _ _ (Act.put _ (some (43 : Nat)) (.bool true)) _
          simp only [Act.put, List.setIfInBounds_toArray, List.set_cons_zero, List.set_cons_succ]
          refine wpAnyH_take (i := 8) (v := (.bool true)) rfl (by kernel_rfl) (by kernel_rfl) (by kernel_rfl) (fun _ _ _ h => h) (Or.inl ⟨by kernel_rfl, fun w hSw => ?_⟩) (by assumption) ?_
          · (try dsimp only at hSw); go_simp <;> (try rfl)
          change wpAnyH _ _ _ _ _ _ _ (Act.put _ (some (44 : Nat)) (.bool true)) _
          simp only [Act.put, List.setIfInBounds_toArray, List.set_cons_zero, List.set_cons_succ]
          refine wpAnyH_take (i := 9) (v := (.bool true)) rfl (by kernel_rfl) (by kernel_rfl) (by kernel_rfl) (fun _ _ _ h => h) (Or.inl ⟨by kernel_rfl, fun w hSw => ?_⟩) (by assumption) ?_
          · (try dsimp only at hSw); go_simp <;> (try rfl)
          change wpAnyH _ _ _ _ _ _ _ (Act.put _ (some (45 : Nat)) (.bool true)) _
          simp only [Act.put, List.setIfInBounds_toArray, List.set_cons_zero, List.set_cons_succ]
          refine wpAnyH_take (i := 10) (v := (.pointer (some ⟨g, 0, none⟩))) rfl (by kernel_rfl) (by kernel_rfl) (by kernel_rfl) (fun _ _ _ h => h) (Or.inl ⟨by kernel_rfl, fun w hSw => ?_⟩) (by assumption) ?_
          · (try dsimp only at hSw); go_simp <;> (try rfl)
          change wpAnyH _ _ _ _ _ _ _ (Act.put _ (some (46 : Nat)) (.pointer (some ⟨g, 0, none⟩))) _
          simp only [Act.put, List.setIfInBounds_toArray, List.set_cons_zero, List.set_cons_succ]
          refine wpAnyH_take (i := 11) (v := (.int .i64 (j : Int))) rfl (by kernel_rfl) (by kernel_rfl) (by kernel_rfl) (fun _ _ _ h => h) (Or.inl ⟨by kernel_rfl, fun w hSw => ?_⟩) (by assumption) ?_
          · (try dsimp only at hSw); go_simp <;> (try rfl)
          change wpAnyH _ _ _ _ _ _ _ (Act.put _ (some (47 : Nat)) (.int .i64 (j : Int))) _
          simp only [Act.put, List.setIfInBounds_toArray, List.set_cons_zero, List.set_cons_succ]
          refine wpAnyH_take (i := 12) (v := (.int .i64 (u : Int))) rfl (by kernel_rfl) (by kernel_rfl) (by kernel_rfl) (fun _ _ _ h => h) (Or.inl ⟨by kernel_rfl, fun w hSw => ?_⟩) (by assumption) ?_
          · (try dsimp only at hSw); go_simp <;> (try rfl)
          change wpAnyH _ _ _ _ _ _ _ (Act.put _ (some (48 : Nat)) (.int .i64 (u : Int))) _
          simp only [Act.put, List.setIfInBounds_toArray, List.set_cons_zero, List.set_cons_succ]
          refine wpAnyH_take (i := 13) (v := (.pointer (some ⟨w.heap.size, 0, none⟩))) rfl (by kernel_rfl) (by kernel_rfl) (by kernel_rfl) (fun _ _ _ h => h) (Or.inl ⟨by kernel_rfl, fun w hSw => ?_⟩) (by assumption) ?_
          · (try dsimp only at hSw); go_simp <;> (try rfl)
          change wpAnyH _ _ _ _ _ _ _ (Act.put _ (some (49 : Nat)) (.pointer (some ⟨w.heap.size, 0, none⟩))) _
          simp only [Act.put, List.setIfInBounds_toArray, List.set_cons_zero, List.set_cons_succ]
          refine wpAnyH_take (i := 14) (v := (.agg #[.int .i64 co.cl, .int .i64 co.sp, .int .i64 co.op, .string (ba co.lt), .int .i64 co.a, .int .i64 co.b, .string (ba co.tx)])) rfl (by kernel_rfl) (by kernel_rfl) (by kernel_rfl) (fun _ _ _ h => h) (yieldsIf_load_mid (by kernel_rfl) 23 (.tmp 49) rfl w.heap.size 0 (by simp [Act.eval]) [.int .i64 co.cl, .int .i64 co.sp, .int .i64 co.op, .string (ba co.lt), .int .i64 co.a, .int .i64 co.b, .string (ba co.tx)] _ (fun W hW => range_through HCz.out hW) Try.underlying23 rfl (by kernel_rfl)) (by assumption) ?_
          change wpAnyH _ _ _ _ _ _ _ (Act.put _ (some (50 : Nat)) (.agg #[.int .i64 co.cl, .int .i64 co.sp, .int .i64 co.op, .string (ba co.lt), .int .i64 co.a, .int .i64 co.b, .string (ba co.tx)])) _
          simp only [Act.put, List.setIfInBounds_toArray, List.set_cons_zero, List.set_cons_succ]
          refine wpAnyH_take (i := 16) (v := (.pointer (some ⟨ge, 1, none⟩))) rfl (by kernel_rfl) (by kernel_rfl) (by kernel_rfl) (fun _ _ _ h => h) (Or.inl ⟨by kernel_rfl, fun w hSw => ?_⟩) (by assumption) ?_
          · (try dsimp only at hSw); go_simp <;> (try rfl)
          change wpAnyH _ _ _ _ _ _ _ (Act.put _ (some (52 : Nat)) (.pointer (some ⟨ge, 1, none⟩))) _
          simp only [Act.put, List.setIfInBounds_toArray, List.set_cons_zero, List.set_cons_succ]
          refine wpAnyH_take (i := 17) (v := (.slice (some ⟨gt, ot, none⟩) k d)) rfl (by kernel_rfl) (by kernel_rfl) (by kernel_rfl) (fun _ _ _ h => h) (yields_load_at (by kernel_rfl) 32 (.tmp 52) rfl (.pointer (some ⟨ge, 1, none⟩)) (by simp [Act.eval]) (.slice (some ⟨gt, ot, none⟩) k d) (fun W hW => load_one' (Try.agg_ts W) ((HOe.out.through hW).cellAt (i := 1) rfl))) (by assumption) ?_
          change wpAnyH _ _ _ _ _ _ _ (Act.put _ (some (53 : Nat)) (.slice (some ⟨gt, ot, none⟩) k d)) _
          simp only [Act.put, List.setIfInBounds_toArray, List.set_cons_zero, List.set_cons_succ]
          refine wpAnyH_take (i := 18) (v := (.int .i64 (u : Int))) rfl (by kernel_rfl) (by kernel_rfl) (by kernel_rfl) (fun _ _ _ h => h) (Or.inl ⟨by kernel_rfl, fun w hSw => ?_⟩) (by assumption) ?_
          · (try dsimp only at hSw); go_simp <;> (try rfl)
          change wpAnyH _ _ _ _ _ _ _ (Act.put _ (some (54 : Nat)) (.int .i64 (u : Int))) _
          simp only [Act.put, List.setIfInBounds_toArray, List.set_cons_zero, List.set_cons_succ]
          refine wpAnyH_take (i := 19) (v := (.pointer (some ⟨gt, ot + u * 32, none⟩))) rfl (by kernel_rfl) (by kernel_rfl) (by kernel_rfl) (fun _ _ _ h => h) (Or.inl ⟨by kernel_rfl, fun w hSw => ?_⟩) (by assumption) ?_
          · (try dsimp only at hSw); go_simp <;> (try rfl)
          change wpAnyH _ _ _ _ _ _ _ (Act.put _ (some (55 : Nat)) (.pointer (some ⟨gt, ot + u * 32, none⟩))) _
          simp only [Act.put, List.setIfInBounds_toArray, List.set_cons_zero, List.set_cons_succ]
          refine wpAnyH_take (i := 20) (v := (.agg (vs t).toArray)) rfl (by kernel_rfl) (by kernel_rfl) (by kernel_rfl) (fun _ _ _ h => h) (yieldsIf_load_mid (by kernel_rfl) 73 (.tmp 55) rfl gt (ot + u * 32) (by simp [Act.eval]) (vs t) _ (fun W hW => range_through HRt.out hW) Try.underlying73 rfl (by rw [vs_length, HTl.out]; kernel_rfl)) (by assumption) ?_
          change wpAnyH _ _ _ _ _ _ _ (Act.put _ (some (56 : Nat)) (.agg (vs t).toArray)) _
          simp only [Act.put, List.setIfInBounds_toArray, List.set_cons_zero, List.set_cons_succ]
          refine wpAnyH_ready (rs := [15]) (by kernel_rfl) (by simp) ?_
          refine AllReadyH.cons rfl (fun K hK => ?_) AllReadyH.nil
          go_simp
          refine (HTx.out _).mono ?_
          rintro e w2 ⟨T2, m2, d2, rfl, hy2, hb2⟩; have HY2 := Lib.hid hy2; have HK2 := Lib.hid (below_step hHeld hb2); clear hy2 hb2
          go_wp2_with fail
          refine hK.out _ _ HK2.out (fun hHeld1 => ?_)
          clear hHeld hK K
          have hHeld := hHeld1
          clear hHeld1
          refine wpAnyH_ready (rs := [21]) (by kernel_rfl) (by simp) ?_
          refine AllReadyH.cons rfl (fun K hK => ?_) AllReadyH.nil
          go_simp
          refine (HCk.out _ _ _ _ (below_step HXz.out HK2.out) HY2.out).mono ?_
          rintro e w3 ⟨rfl, hb3⟩; have HK3 := Lib.hid (below_step HK2.out hb3); clear hb3
          go_wp2_with fail
          refine hK.out _ _ HK3.out (fun hHeld1 => ?_)
          clear hHeld hK K
          have hHeld := hHeld1
          clear hHeld1
          refine wpAnyH_take (i := 22) (v := (.bool false)) rfl (by kernel_rfl) (by kernel_rfl) (by kernel_rfl) (fun _ _ _ h => h) (Or.inl ⟨by kernel_rfl, fun w hSw => ?_⟩) (by assumption) ?_
          · (try dsimp only at hSw); go_simp <;> (try rfl)
          change wpAnyH _ _ _ _ _ _ _ (Act.put _ (some (58 : Nat)) (.bool false)) _
          simp only [Act.put, List.setIfInBounds_toArray, List.set_cons_zero, List.set_cons_succ]
          refine wpAnyH_done (by kernel_rfl) ?_ _
          go_wp2
          go_roundw
          case rel => exact ⟨j + 1, by omega, by go_num, by rw [HV0.out], by rw [HPs.out]; simp, HBz0.out.through HK3.out, below_step HXz.out HK3.out⟩
          case measure => simp [intOf]; omega
        | true =>
          have HV0 : Hid (maskN f (j + 1) = Mk + Bt) := Lib.hid (by rw [HMa.out, HIn.out]; rfl)
          go_wp2_with (first
            | (refine wpList_load_mid rfl 34 (.tmp 30) rfl g0 (o0 + i * 2) rfl [.int .i64 e.og, .slice (some ⟨gt, ot, none⟩) k d] _ HRx.out Try.underlying34 rfl (by kernel_rfl) ?_))
          try dsimp only [Act.put]
          generalize hwz : wr.alloc (.cells #[.int .i64 e.og, .slice (some ⟨gt, ot, none⟩) k d] 34) = wz at *
          clear hwz
          generalize hge : wr.heap.size = ge at *
          clear hge
          refine wp_region_held_drew (S := fun W => Below wz.heap.size wz W) (by kernel_rfl) (Below.refl _ _).drew (fun hHeld => ?_)
          change wpAnyH _ _ _ _ _ _ #[false, false, false, false, false, false, false, false, false, false, false, false, false, false, false, false, false, false, false, false, false, false, false] _ _
          refine wpAnyH_take (i := 0) (v := (.int .i64 (u : Int))) rfl (by kernel_rfl) (by kernel_rfl) (by kernel_rfl) (fun _ _ _ h => h) (Or.inl ⟨by kernel_rfl, fun w hSw => ?_⟩) (by assumption) ?_
          · (try dsimp only at hSw); go_simp <;> (try rfl)
          change wpAnyH _ _ _ _ _ _ _ (Act.put _ (some (36 : Nat)) (.int .i64 (u : Int))) _
          simp only [Act.put, List.setIfInBounds_toArray, List.set_cons_zero, List.set_cons_succ]
          refine wpAnyH_take (i := 1) (v := (.bool true)) rfl (by kernel_rfl) (by kernel_rfl) (by kernel_rfl) (fun _ _ _ h => h) (Or.inl ⟨by kernel_rfl, fun w hSw => ?_⟩) (by assumption) ?_
          · (try dsimp only at hSw); go_simp <;> (try rfl)
          change wpAnyH _ _ _ _ _ _ _ (Act.put _ (some (37 : Nat)) (.bool true)) _
          simp only [Act.put, List.setIfInBounds_toArray, List.set_cons_zero, List.set_cons_succ]
          refine wpAnyH_take (i := 2) (v := (.bool true)) rfl (by kernel_rfl) (by kernel_rfl) (by kernel_rfl) (fun _ _ _ h => h) (Or.inl ⟨by kernel_rfl, fun w hSw => ?_⟩) (by assumption) ?_
          · (try dsimp only at hSw); go_simp <;> (try rfl)
          change wpAnyH _ _ _ _ _ _ _ (Act.put _ (some (38 : Nat)) (.bool true)) _
          simp only [Act.put, List.setIfInBounds_toArray, List.set_cons_zero, List.set_cons_succ]
          refine wpAnyH_take (i := 3) (v := (.int .i64 (u : Int))) rfl (by kernel_rfl) (by kernel_rfl) (by kernel_rfl) (fun _ _ _ h => h) (Or.inl ⟨by kernel_rfl, fun w hSw => ?_⟩) (by assumption) ?_
          · (try dsimp only at hSw); go_simp <;> (try rfl)
          change wpAnyH _ _ _ _ _ _ _ (Act.put _ (some (39 : Nat)) (.int .i64 (u : Int))) _
          simp only [Act.put, List.setIfInBounds_toArray, List.set_cons_zero, List.set_cons_succ]
          refine wpAnyH_take (i := 4) (v := (.pointer (some ⟨ge, 1, none⟩))) rfl (by kernel_rfl) (by kernel_rfl) (by kernel_rfl) (fun _ _ _ h => h) (Or.inl ⟨by kernel_rfl, fun w hSw => ?_⟩) (by assumption) ?_
          · (try dsimp only at hSw); go_simp <;> (try rfl)
          change wpAnyH _ _ _ _ _ _ _ (Act.put _ (some (40 : Nat)) (.pointer (some ⟨ge, 1, none⟩))) _
          simp only [Act.put, List.setIfInBounds_toArray, List.set_cons_zero, List.set_cons_succ]
          refine wpAnyH_take (i := 5) (v := (.slice (some ⟨gt, ot, none⟩) k d)) rfl (by kernel_rfl) (by kernel_rfl) (by kernel_rfl) (fun _ _ _ h => h) (yields_load_at (by kernel_rfl) 32 (.tmp 40) rfl (.pointer (some ⟨ge, 1, none⟩)) (by simp [Act.eval]) (.slice (some ⟨gt, ot, none⟩) k d) (fun W hW => load_one' (Try.agg_ts W) ((HOe.out.through hW).cellAt (i := 1) rfl))) (by assumption) ?_
          change wpAnyH _ _ _ _ _ _ _ (Act.put _ (some (41 : Nat)) (.slice (some ⟨gt, ot, none⟩) k d)) _
          simp only [Act.put, List.setIfInBounds_toArray, List.set_cons_zero, List.set_cons_succ]
          refine wpAnyH_take (i := 6) (v := (.int .i64 (k : Int))) rfl (by kernel_rfl) (by kernel_rfl) (by kernel_rfl) (fun _ _ _ h => h) (Or.inl ⟨by kernel_rfl, fun w hSw => ?_⟩) (by assumption) ?_
          · (try dsimp only at hSw); go_simp <;> (try rfl)
          change wpAnyH _ _ _ _ _ _ _ (Act.put _ (some (42 : Nat)) (.int .i64 (k : Int))) _
          simp only [Act.put, List.setIfInBounds_toArray, List.set_cons_zero, List.set_cons_succ]
          refine wpAnyH_take (i := 7) (v := (.bool true)) rfl (by kernel_rfl) (by kernel_rfl) (by kernel_rfl) (fun _ _ _ h => h) (Or.inl ⟨by kernel_rfl, fun w hSw => ?_⟩) (by assumption) ?_
          · (try dsimp only at hSw); go_simp <;> (try rfl)
          change wpAnyH _ _ _ _ _ _ _ (Act.put _ (some (43 : Nat)) (.bool true)) _
          simp only [Act.put, List.setIfInBounds_toArray, List.set_cons_zero, List.set_cons_succ]
          refine wpAnyH_take (i := 8) (v := (.bool true)) rfl (by kernel_rfl) (by kernel_rfl) (by kernel_rfl) (fun _ _ _ h => h) (Or.inl ⟨by kernel_rfl, fun w hSw => ?_⟩) (by assumption) ?_
          · (try dsimp only at hSw); go_simp <;> (try rfl)
          change wpAnyH _ _ _ _ _ _ _ (Act.put _ (some (44 : Nat)) (.bool true)) _
          simp only [Act.put, List.setIfInBounds_toArray, List.set_cons_zero, List.set_cons_succ]
          refine wpAnyH_take (i := 9) (v := (.bool true)) rfl (by kernel_rfl) (by kernel_rfl) (by kernel_rfl) (fun _ _ _ h => h) (Or.inl ⟨by kernel_rfl, fun w hSw => ?_⟩) (by assumption) ?_
          · (try dsimp only at hSw); go_simp <;> (try rfl)
          change wpAnyH _ _ _ _ _ _ _ (Act.put _ (some (45 : Nat)) (.bool true)) _
          simp only [Act.put, List.setIfInBounds_toArray, List.set_cons_zero, List.set_cons_succ]
          refine wpAnyH_take (i := 10) (v := (.pointer (some ⟨g, 0, none⟩))) rfl (by kernel_rfl) (by kernel_rfl) (by kernel_rfl) (fun _ _ _ h => h) (Or.inl ⟨by kernel_rfl, fun w hSw => ?_⟩) (by assumption) ?_
          · (try dsimp only at hSw); go_simp <;> (try rfl)
          change wpAnyH _ _ _ _ _ _ _ (Act.put _ (some (46 : Nat)) (.pointer (some ⟨g, 0, none⟩))) _
          simp only [Act.put, List.setIfInBounds_toArray, List.set_cons_zero, List.set_cons_succ]
          refine wpAnyH_take (i := 11) (v := (.int .i64 (j : Int))) rfl (by kernel_rfl) (by kernel_rfl) (by kernel_rfl) (fun _ _ _ h => h) (Or.inl ⟨by kernel_rfl, fun w hSw => ?_⟩) (by assumption) ?_
          · (try dsimp only at hSw); go_simp <;> (try rfl)
          change wpAnyH _ _ _ _ _ _ _ (Act.put _ (some (47 : Nat)) (.int .i64 (j : Int))) _
          simp only [Act.put, List.setIfInBounds_toArray, List.set_cons_zero, List.set_cons_succ]
          refine wpAnyH_take (i := 12) (v := (.int .i64 (u : Int))) rfl (by kernel_rfl) (by kernel_rfl) (by kernel_rfl) (fun _ _ _ h => h) (Or.inl ⟨by kernel_rfl, fun w hSw => ?_⟩) (by assumption) ?_
          · (try dsimp only at hSw); go_simp <;> (try rfl)
          change wpAnyH _ _ _ _ _ _ _ (Act.put _ (some (48 : Nat)) (.int .i64 (u : Int))) _
          simp only [Act.put, List.setIfInBounds_toArray, List.set_cons_zero, List.set_cons_succ]
          refine wpAnyH_take (i := 13) (v := (.pointer (some ⟨w.heap.size, 0, none⟩))) rfl (by kernel_rfl) (by kernel_rfl) (by kernel_rfl) (fun _ _ _ h => h) (Or.inl ⟨by kernel_rfl, fun w hSw => ?_⟩) (by assumption) ?_
          · (try dsimp only at hSw); go_simp <;> (try rfl)
          change wpAnyH _ _ _ _ _ _ _ (Act.put _ (some (49 : Nat)) (.pointer (some ⟨w.heap.size, 0, none⟩))) _
          simp only [Act.put, List.setIfInBounds_toArray, List.set_cons_zero, List.set_cons_succ]
          refine wpAnyH_take (i := 14) (v := (.agg #[.int .i64 co.cl, .int .i64 co.sp, .int .i64 co.op, .string (ba co.lt), .int .i64 co.a, .int .i64 co.b, .string (ba co.tx)])) rfl (by kernel_rfl) (by kernel_rfl) (by kernel_rfl) (fun _ _ _ h => h) (yieldsIf_load_mid (by kernel_rfl) 23 (.tmp 49) rfl w.heap.size 0 (by simp [Act.eval]) [.int .i64 co.cl, .int .i64 co.sp, .int .i64 co.op, .string (ba co.lt), .int .i64 co.a, .int .i64 co.b, .string (ba co.tx)] _ (fun W hW => range_through HCz.out hW) Try.underlying23 rfl (by kernel_rfl)) (by assumption) ?_
          change wpAnyH _ _ _ _ _ _ _ (Act.put _ (some (50 : Nat)) (.agg #[.int .i64 co.cl, .int .i64 co.sp, .int .i64 co.op, .string (ba co.lt), .int .i64 co.a, .int .i64 co.b, .string (ba co.tx)])) _
          simp only [Act.put, List.setIfInBounds_toArray, List.set_cons_zero, List.set_cons_succ]
          refine wpAnyH_take (i := 16) (v := (.pointer (some ⟨ge, 1, none⟩))) rfl (by kernel_rfl) (by kernel_rfl) (by kernel_rfl) (fun _ _ _ h => h) (Or.inl ⟨by kernel_rfl, fun w hSw => ?_⟩) (by assumption) ?_
          · (try dsimp only at hSw); go_simp <;> (try rfl)
          change wpAnyH _ _ _ _ _ _ _ (Act.put _ (some (52 : Nat)) (.pointer (some ⟨ge, 1, none⟩))) _
          simp only [Act.put, List.setIfInBounds_toArray, List.set_cons_zero, List.set_cons_succ]
          refine wpAnyH_take (i := 17) (v := (.slice (some ⟨gt, ot, none⟩) k d)) rfl (by kernel_rfl) (by kernel_rfl) (by kernel_rfl) (fun _ _ _ h => h) (yields_load_at (by kernel_rfl) 32 (.tmp 52) rfl (.pointer (some ⟨ge, 1, none⟩)) (by simp [Act.eval]) (.slice (some ⟨gt, ot, none⟩) k d) (fun W hW => load_one' (Try.agg_ts W) ((HOe.out.through hW).cellAt (i := 1) rfl))) (by assumption) ?_
          change wpAnyH _ _ _ _ _ _ _ (Act.put _ (some (53 : Nat)) (.slice (some ⟨gt, ot, none⟩) k d)) _
          simp only [Act.put, List.setIfInBounds_toArray, List.set_cons_zero, List.set_cons_succ]
          refine wpAnyH_take (i := 18) (v := (.int .i64 (u : Int))) rfl (by kernel_rfl) (by kernel_rfl) (by kernel_rfl) (fun _ _ _ h => h) (Or.inl ⟨by kernel_rfl, fun w hSw => ?_⟩) (by assumption) ?_
          · (try dsimp only at hSw); go_simp <;> (try rfl)
          change wpAnyH _ _ _ _ _ _ _ (Act.put _ (some (54 : Nat)) (.int .i64 (u : Int))) _
          simp only [Act.put, List.setIfInBounds_toArray, List.set_cons_zero, List.set_cons_succ]
          refine wpAnyH_take (i := 19) (v := (.pointer (some ⟨gt, ot + u * 32, none⟩))) rfl (by kernel_rfl) (by kernel_rfl) (by kernel_rfl) (fun _ _ _ h => h) (Or.inl ⟨by kernel_rfl, fun w hSw => ?_⟩) (by assumption) ?_
          · (try dsimp only at hSw); go_simp <;> (try rfl)
          change wpAnyH _ _ _ _ _ _ _ (Act.put _ (some (55 : Nat)) (.pointer (some ⟨gt, ot + u * 32, none⟩))) _
          simp only [Act.put, List.setIfInBounds_toArray, List.set_cons_zero, List.set_cons_succ]
          refine wpAnyH_take (i := 20) (v := (.agg (vs t).toArray)) rfl (by kernel_rfl) (by kernel_rfl) (by kernel_rfl) (fun _ _ _ h => h) (yieldsIf_load_mid (by kernel_rfl) 73 (.tmp 55) rfl gt (ot + u * 32) (by simp [Act.eval]) (vs t) _ (fun W hW => range_through HRt.out hW) Try.underlying73 rfl (by rw [vs_length, HTl.out]; kernel_rfl)) (by assumption) ?_
          change wpAnyH _ _ _ _ _ _ _ (Act.put _ (some (56 : Nat)) (.agg (vs t).toArray)) _
          simp only [Act.put, List.setIfInBounds_toArray, List.set_cons_zero, List.set_cons_succ]
          refine wpAnyH_ready (rs := [15]) (by kernel_rfl) (by simp) ?_
          refine AllReadyH.cons rfl (fun K hK => ?_) AllReadyH.nil
          go_simp
          refine (HTx.out _).mono ?_
          rintro e w2 ⟨T2, m2, d2, rfl, hy2, hb2⟩; have HY2 := Lib.hid hy2; have HK2 := Lib.hid (below_step hHeld hb2); clear hy2 hb2
          go_wp2_with fail
          refine hK.out _ _ HK2.out (fun hHeld1 => ?_)
          clear hHeld hK K
          have hHeld := hHeld1
          clear hHeld1
          refine wpAnyH_ready (rs := [21]) (by kernel_rfl) (by simp) ?_
          refine AllReadyH.cons rfl (fun K hK => ?_) AllReadyH.nil
          go_simp
          refine (HCk.out _ _ _ _ (below_step HXz.out HK2.out) HY2.out).mono ?_
          rintro e w3 ⟨rfl, hb3⟩; have HK3 := Lib.hid (below_step HK2.out hb3); clear hb3
          go_wp2_with fail
          refine hK.out _ _ HK3.out (fun hHeld1 => ?_)
          clear hHeld hK K
          have hHeld := hHeld1
          clear hHeld1
          refine wpAnyH_take (i := 22) (v := (.bool true)) rfl (by kernel_rfl) (by kernel_rfl) (by kernel_rfl) (fun _ _ _ h => h) (Or.inl ⟨by kernel_rfl, fun w hSw => ?_⟩) (by assumption) ?_
          · (try dsimp only at hSw); go_simp <;> (try rfl)
          change wpAnyH _ _ _ _ _ _ _ (Act.put _ (some (58 : Nat)) (.bool true)) _
          simp only [Act.put, List.setIfInBounds_toArray, List.set_cons_zero, List.set_cons_succ]
          refine wpAnyH_done (by kernel_rfl) ?_ _
          go_wp2
          go_roundw
          case rel => exact ⟨j + 1, by omega, by go_num, by rw [HV0.out]; simp, by rw [HPs.out]; simp, HBz0.out.through HK3.out, below_step HXz.out HK3.out⟩
          case measure => simp [intOf]; omega
    · obtain rfl : j = m := by omega
      go_wp2
      go_ret
      exact ⟨rfl, HX.out⟩

end Go.Proofs.Ytgbobemhogeeeaa
