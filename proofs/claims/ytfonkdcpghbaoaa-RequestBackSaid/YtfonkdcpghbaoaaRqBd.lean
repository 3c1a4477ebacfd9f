/-
  The document's Bytes of a request, walked.
-/
import Derived.Test.YtfonkdcpghbaoaaRqBy
namespace Go.Proofs.Ytfonkdcpghbaoaa
open Go.RowKit

set_option maxHeartbeats 16000000 in
set_option maxRecDepth 100000 in
theorem rbytes_any (co : Cr) (es : List En) (A : Option Addr) (n c1 : Nat) (w : World) (h : EsIn w A n es) (hn : n ≤ 1000) (hlt : co.lt.length ≤ 1000) (htx : co.tx.length ≤ 1000) (hL : (Rq.bytes ⟨co, es⟩).length ≤ 1000000) :
    Calls Try.prog 19 #[.agg #[.int .i64 co.cl, .int .i64 co.sp, .int .i64 co.op, .string (ba co.lt), .int .i64 co.a, .int .i64 co.b, .string (ba co.tx), .slice A n c1]] w (Byt w (Rq.bytes ⟨co, es⟩)) := by
  obtain ⟨i0, hi, hz0, hz1, hz2⟩ := info_parts Try.info_u8
  have HI := Lib.hid h
  have HLn := Lib.hid h.len
  obtain ⟨OUT, hO⟩ : ∃ OUT, Rq.bytes ⟨co, es⟩ = OUT := ⟨_, rfl⟩
  rw [hO] at hL ⊢
  have HLL := Lib.hid hL
  have HOUT : Hid (rowB (encCr co) ++ beB n 2 ++ encAll encEn es = OUT) := Lib.hid (by rw [← hO, List.append_assoc, ← h.len]; rfl)
  have HB1 : Hid (Blk (w.alloc (.cells #[.int .i64 co.cl, .int .i64 co.sp, .int .i64 co.op, .string (ba co.lt), .int .i64 co.a, .int .i64 co.b, .string (ba co.tx), .slice A n c1] 34)) w.heap.size 34 [.int .i64 co.cl, .int .i64 co.sp, .int .i64 co.op, .string (ba co.lt), .int .i64 co.a, .int .i64 co.b, .string (ba co.tx), .slice A n c1]) := Lib.hid (Blk.fresh rfl rfl)
  have HC1 : Hid ((w.alloc (.cells #[.int .i64 co.cl, .int .i64 co.sp, .int .i64 co.op, .string (ba co.lt), .int .i64 co.a, .int .i64 co.b, .string (ba co.tx), .slice A n c1] 34)).rangeAt w.heap.size 0 [.int .i64 co.cl, .int .i64 co.sp, .int .i64 co.op, .string (ba co.lt), .int .i64 co.a, .int .i64 co.b, .string (ba co.tx)]) := Lib.hid (Blk.front (post := [.slice A n c1]) HB1.out)
  have HX1 : Hid (Below w.heap.size w (w.alloc (.cells #[.int .i64 co.cl, .int .i64 co.sp, .int .i64 co.op, .string (ba co.lt), .int .i64 co.a, .int .i64 co.b, .string (ba co.tx), .slice A n c1] 34))) := Lib.hid (below1_ w _)
  have HCb : Hid (∀ W, Calls Try.prog 12 #[.agg #[.int .i64 co.cl, .int .i64 co.sp, .int .i64 co.op, .string (ba co.lt), .int .i64 co.a, .int .i64 co.b, .string (ba co.tx)]] W (Byt W (encCr co))) := Lib.hid (fun W => rcoreB_any co W (by omega) (by omega))
  have HCL : Hid ((encCr co).length ≤ 1099511627776) := Lib.hid (by rw [encCr_len]; omega)
  have hwu : ∀ W : World, (convert 3 65 (.int .i64 (n : Int))).run Try.prog W = .ok (.int .u64 (n : Int)) W := fun W => by
    have h9 := conv_u64 3 65 Try.underlying3 Try.underlying65 (n : Int) W
    rw [u64N_nat (by omega)] at h9
    exact h9
  have HPut : Hid (∀ (W : World) (B : Option Addr) (m d : Nat), By W (fun _ => True) B m (rowB (encCr co)) → Calls Try.prog 40 #[.slice B m d, .int .u64 (n : Int), .int .i64 2] W (Byt W (rowB (encCr co) ++ beB n 2))) := Lib.hid (fun W B m d hY => rput_by 2 rfl n (by omega) hY (by rw [rowB_len, encCr_len]; omega))
  have HIX := Lib.hid Try.ix_en
  clear h hO hL hlt htx
  go_enter Try.func19, Try.ntmps19
  go_wp2_with (first
    | (refine wpList_load_mid rfl 23 (.tmp 10) rfl w.heap.size 0 rfl [.int .i64 co.cl, .int .i64 co.sp, .int .i64 co.op, .string (ba co.lt), .int .i64 co.a, .int .i64 co.b, .string (ba co.tx)] _ HC1.out Try.underlying23 rfl (by kernel_rfl) ?_)
    | (go_at_call 12; (with_reducible refine (HCb.out _).mono ?_); rintro e w2 ⟨A2, n2, d2, rfl, hy2, hn2, hm2, hb2⟩; have HY2 := Lib.hid hy2; have HX2 := Lib.hid (below_step HX1.out hb2); have HB2 := Lib.hid (HB1.out.through hb2); clear hy2 hn2 hm2 hb2)
    | (go_at_call 41; (with_reducible refine (rrow_by (Q := fun _ => True) (A := none) (n := 0) (c := 0) (xs := []) By.none_ HY2.out (by simp) HCL.out).mono ?_); rintro e w3 ⟨A3, n3, d3, rfl, hy3, hn3, hm3, hb3⟩; have HY3 := Lib.hid hy3; have HX3 := Lib.hid (below_step HX2.out hb3); have HB3 := Lib.hid (HB2.out.through hb3); have c7 := HB3.out.cellAt (i := 7) rfl; clear hy3 hn3 hm3 hb3)
    | (go_at_call 40; (refine (HPut.out _ _ _ _ HY3.out).mono ?_); rintro e w4 ⟨A4, n4, d4, rfl, hy4, _, _, hb4⟩; have HY4 := Lib.hid hy4; have HX4 := Lib.hid (below_step HX3.out hb4); have HB4 := Lib.hid (HB3.out.through hb4); clear c7; have c7 := HB4.out.cellAt (i := 7) rfl; clear hy4 hb4))
  clear c7
  go_loopw [3, 23] (fun bv iv wr => ∃ (i : Nat) (ys : List UInt8) (A' : Option Addr) (m c : Nat), i ≤ n ∧ iv = .int .i64 (i : Int) ∧ bv = .slice A' m c ∧ m ≤ c ∧ c ≤ maxLen ∧ ys ++ encAll encEn (es.drop i) = OUT ∧ By wr (fun _ => True) A' m ys ∧ Below w.heap.size w wr) (fun _ iv _ => n - (intOf iv).toNat)
  case atStart => exact ⟨0, _, A4, n4, d4, Nat.zero_le _, rfl, rfl, by assumption, by assumption, HOUT.out, HY4.out, HX4.out⟩
  case round =>
    obtain ⟨i, ys, A', m, c, hi', rfl, rfl, hmc, hcm, hpq, hy, hx⟩ := hrel
    have HY := Lib.hid hy
    have HXo := Lib.hid hx
    have HPQ := Lib.hid hpq
    have HMC := Lib.hid (And.intro hmc hcm)
    clear hy hx hpq hmc hcm
    by_cases hlt : i < n
    · obtain ⟨g, o, e, B, k1, dd, rfl, _, hme, hd, hrx, hts⟩ := (HI.out.through HXo.out).at hlt
      have HRx := Lib.hid hrx
      have HTs0 := Lib.hid (hts.through (below1_ wr (.cells #[.int .i64 e.og, .slice B k1 dd] 41)))
      have hix := HIX.out wr g o n c1 i hlt
      have hcv := fun W : World => conv_u64 3 65 Try.underlying3 Try.underlying65 e.og W
      have HPQ2 : Hid ((ys ++ [UInt8.ofNat (u64N e.og)]) ++ (encAll encTg e.ts ++ encAll encEn (es.drop (i + 1))) = OUT) := Lib.hid (by rw [← HPQ.out, hd]; simp [encAll, encEn, beB])
      have hyl : ys.length + 1 ≤ 1000000 := by have h9 := congrArg List.length HPQ2.out; simp only [List.length_append, List.length_cons, List.length_nil] at h9; have := HLL.out; omega
      have HPut1 : Hid (∀ (W : World) (B : Option Addr) (m d : Nat), By W (fun _ => True) B m ys → Calls Try.prog 40 #[.slice B m d, .int .u64 ((u64N e.og : Nat) : Int), .int .i64 1] W (Made W (ys ++ [UInt8.ofNat (u64N e.og)]).length (ys ++ [UInt8.ofNat (u64N e.og)]))) := Lib.hid (fun W B m d hY => by
        have h9 := rput_any (fun _ => True) B m d ys ((u64N e.og : Nat) : Int) (1 : Nat) (by omega) (by have := u64N_lt64 e.og; omega) W hY (by rw [← hY.len]; omega)
        rw [Int.toNat_natCast, putB_wid rfl] at h9
        have e : putN m (1 : Nat) = (ys ++ [UInt8.ofNat (u64N e.og)]).length := by rw [List.length_append, hY.len]; rfl
        rw [e] at h9
        exact h9)
      have HE5 : Hid (Blk (wr.alloc (.cells #[.int .i64 e.og, .slice B k1 dd] 41)) wr.heap.size 41 [.int .i64 e.og, .slice B k1 dd]) := Lib.hid (Blk.fresh rfl rfl)
      clear hrx hts hd hme hyl
      go_wp2_with (first
        | (refine wpList_load_mid rfl 41 (.tmp 25) rfl g (o + i * 2) rfl [.int .i64 e.og, .slice B k1 dd] _ HRx.out Try.underlying41 rfl (by kernel_rfl) ?_)
        | (go_at_call 40; (refine (HPut1.out _ _ _ _ (HY.out.alloc (.cells #[.int .i64 e.og, .slice B k1 dd] 41))).mono ?_); rintro e w6 ⟨v6, rfl, ho6, hb6⟩; have HO6 := Lib.hid ho6; have HX6 := Lib.hid hb6; have c1e := ((HE5.out).through hb6).cellAt (i := 1) rfl; clear ho6 hb6))
      clear c1e hcv hix
      have HXw : Hid (Below w.heap.size w (wr.alloc (.cells #[.int .i64 e.og, .slice B k1 dd] 41))) := Lib.hid (HXo.out.alloc HXo.out.size _)
      obtain ⟨Y, hY⟩ : ∃ Y, ys ++ [UInt8.ofNat (u64N e.og)] = Y := ⟨_, rfl⟩
      rw [hY] at HO6 HPQ2
      obtain ⟨W5, hW5⟩ : ∃ W5, wr.alloc (.cells #[.int .i64 e.og, .slice B k1 dd] 41) = W5 := ⟨_, rfl⟩
      rw [hW5] at HO6 HX6 HTs0 HXw
      clear hY hW5 HXo HPQ HY HE5 HPut1 HRx HMC
      have hkm : k1 ≤ 9223372036854775807 := by
        have h8 := HTs0.out.2.2
        simp only [maxLen] at h8
        omega
      go_loopw [3, 35] (fun bv jv wr => ∃ (j : Nat) (zs : List UInt8) (v' : Value), j ≤ k1 ∧ jv = .int .i64 (j : Int) ∧ v' = bv ∧ zs ++ (encAll encTg (e.ts.drop j) ++ encAll encEn (es.drop (i + 1))) = OUT ∧ wr.ownsRow W5.heap.size 5 1 v' zs.length (vs zs) ∧ Below W5.heap.size W5 wr) (fun _ jv _ => k1 - (intOf jv).toNat)
      case atStart => exact ⟨0, Y, v6, Nat.zero_le _, rfl, rfl, HPQ2.out, HO6.out, HX6.out⟩
      case round =>
        obtain ⟨j, zs, v', hj, rfl, rfl, hpq, hown, hx⟩ := hrel
        have HO := Lib.hid hown
        have HX := Lib.hid hx
        have HPQ := Lib.hid hpq
        clear hown hx hpq
        by_cases hltj : j < k1
        · obtain ⟨gt, ot, t, hBe, _, _, hdt, htl, hrt⟩ := HTs0.out.at hltj
          simp only at hBe
          subst hBe
          have HRt := Lib.hid (range_through hrt HX.out)
          have HTL := Lib.hid htl
          have hixt := fun (W : World) => Try.ix_tg W gt ot k1 dd j hltj
          have HPQ3 : Hid (zs ++ (t.drop 0 ++ (encAll encTg (e.ts.drop (j + 1)) ++ encAll encEn (es.drop (i + 1)))) = OUT) := Lib.hid (by rw [← HPQ.out, hdt]; simp [encAll, encTg])
          have HIdx : Hid (∀ (W : World) (i : Nat) (x : UInt8), i < 32 → t[i]? = some x → (Instr.index 80 (.agg (vs t).toArray) (.int .i64 (i : Int))).run Try.prog W = .ok (.int .u8 (x.toNat : Int)) W) := Lib.hid (fun W i x h1 h2 => run_index_row W 80 5 32 (vs t) .i64 i (u8 x) Try.underlying80 (by kernel_rfl) (by kernel_rfl) h1 (by rw [vs_get, h2]; rfl))
          clear hrt hdt htl
          go_wp2_with (first
            | (refine wpList_load_mid rfl 80 (.tmp 37) rfl gt (ot + j * 32) rfl (vs t) _ HRt.out Try.underlying80 rfl (by rw [vs_length, HTL.out]; kernel_rfl) ?_)
            | (refine wpList_store_blk rfl 80 (.tmp 7) (.tmp 38) rfl wr.heap.size (vs t) rfl rfl 80 (vs (List.replicate 32 0)) (Blk.fresh rfl rfl) (by rw [vs_length, HTL.out]; kernel_rfl) (by rw [vs_length, vs_length, HTL.out]; rfl) (Array.all_eq_true_iff_forall_mem.2 (fun u hu => vs_one u (by simpa using hu))) ?_; simp only [Act.put]; intro w8 hb8 hg8; have HTb := Lib.hid hb8; have HO8 := Lib.hid (own_through HO.out (below_new hg8)); have HX8 := Lib.hid (below_step HX.out (below_new hg8)); clear hb8 hg8)
            | (refine wpList_load_blk rfl 80 (.tmp 7) rfl wr.heap.size rfl 80 (vs t) _ HTb.out Try.underlying80 rfl (by rw [vs_length, HTL.out]; kernel_rfl) ?_))
          clear HO HX HPQ
          go_loopw [3, 40] (fun bv kv wr => ∃ (m : Nat) (ys3 : List UInt8) (v' : Value), m ≤ 32 ∧ kv = .int .i64 (m : Int) ∧ v' = bv ∧ ys3 ++ (t.drop m ++ (encAll encTg (e.ts.drop (j + 1)) ++ encAll encEn (es.drop (i + 1)))) = OUT ∧ wr.ownsRow W5.heap.size 5 1 v' ys3.length (vs ys3) ∧ Below W5.heap.size W5 wr) (fun _ kv _ => 32 - (intOf kv).toNat)
          case atStart => exact ⟨0, zs, v', by omega, rfl, rfl, HPQ3.out, HO8.out, HX8.out⟩
          case round =>
            obtain ⟨m, ys3, v', hm, rfl, rfl, hpq, hown, hx⟩ := hrel
            have HO := Lib.hid hown
            have HX := Lib.hid hx
            have HPQ := Lib.hid hpq
            clear hown hx hpq
            by_cases hltm : m < 32
            · have hml : m < t.length := by rw [HTL.out]; exact hltm
              have hget := List.getElem?_eq_getElem hml
              have hdm := List.drop_eq_getElem_cons hml
              generalize t[m] = x at hget hdm
              have hidx := fun W => HIdx.out W m x hltm hget
              have HPQ4 : Hid ((ys3 ++ [x]) ++ (t.drop (m + 1) ++ (encAll encTg (e.ts.drop (j + 1)) ++ encAll encEn (es.drop (i + 1)))) = OUT) := Lib.hid (by rw [← HPQ.out, hdm]; simp)
              have HBD : Hid (ys3.length + 1 ≤ 140737488355328) := Lib.hid (by have h9 := congrArg List.length HPQ4.out; simp only [List.length_append, List.length_cons, List.length_nil] at h9; have := HLL.out; omega)
              clear hget hdm hml
              go_wp2_with (first
                | (at_builtin; refine wpList_append_by _ rfl (.tmp 43) (.tmp 45) 25 rfl W5.heap.size i0 Try.underlying25 hi hz0 hz1 hz2 v' ys3.length (vs ys3) rfl (HO.out.alloc _) (fun _ => True) (some ⟨wr.heap.size, 0, none⟩) 1 1 [x] rfl (By.one8 _ trivial) HBD.out (Nat.le_trans HX.out.size (below1_ wr _).size) ?_; intro v9 w9 hown9 hgrow9 _; have HN9 : Hid (w9.ownsRow W5.heap.size 5 1 v9 (ys3 ++ [x]).length (vs (ys3 ++ [x]))) := Lib.hid (by rw [List.length_append, ← vs_append]; exact hown9); have HX9 : Hid (Below W5.heap.size W5 w9) := Lib.hid ((HX.out.alloc HX.out.size _).grown hgrow9 (Nat.le_trans HX.out.size (below1_ wr _).size) (fun g hg => (HO.out.lt g hg).1)); clear hown9 hgrow9))
              go_roundw
              case rel => exact ⟨m + 1, ys3 ++ [x], v9, by omega, by go_num, rfl, HPQ4.out, HN9.out, HX9.out⟩
              case measure => simp [intOf]; omega
            · have hm32 : m = 32 := by omega
              subst hm32
              have HPQ4 : Hid (ys3 ++ (encAll encTg (e.ts.drop (j + 1)) ++ encAll encEn (es.drop (i + 1))) = OUT) := Lib.hid (by
                have e32 : t.drop 32 = [] := List.drop_of_length_le (by rw [HTL.out]; exact Nat.le_refl _)
                rw [← HPQ.out, e32]
                rfl)
              go_wp2
              go_roundw
              case rel => exact ⟨j + 1, ys3, v', by omega, by go_num, rfl, HPQ4.out, HO.out, HX.out⟩
              case measure => simp [intOf]; omega
        · have hjk : j = k1 := by omega
          subst hjk
          have e9 : e.ts.drop j = [] := List.drop_of_length_le (by have := HTs0.out.len; simp only at this; omega)
          have HPQ3 : Hid (zs ++ encAll encEn (es.drop (i + 1)) = OUT) := Lib.hid (by rw [← HPQ.out, e9]; rfl)
          clear e9
          obtain ⟨A7, c7, rfl, hn7, hm7, _⟩ := own_form HO.out
          go_wp2
          go_roundw
          case rel => exact ⟨i + 1, zs, A7, _, c7, by omega, by go_num, rfl, hn7, hm7, HPQ3.out, (By.of_own HO.out).weak fun _ _ => trivial, below_step HXw.out HX.out⟩
          case measure => simp [intOf]; omega
    · have e9 : es.drop i = [] := List.drop_of_length_le (by have := HLn.out; omega)
      have HPQ3 : Hid (ys = OUT) := Lib.hid (by rw [← HPQ.out, e9]; simp [encAll])
      clear e9
      go_wp2
      go_ret
      rw [← HPQ3.out]
      exact ⟨A', m, c, rfl, HY.out, HMC.out.1, HMC.out.2, HXo.out⟩

end Go.Proofs.Ytfonkdcpghbaoaa
