/-
  The program's Bytes of a request, walked.
-/
import Derived.Test.YtfonkdcpghbaoaaRqS
import Derived.Test.YtfonkdcpghbaoaaRqT
import Derived.Test.YtfonkdcpghbaoaaRqA
namespace Go.Proofs.Ytfonkdcpghbaoaa
open Go.RowKit

theorem range_through {w w' : World} {g o : Nat} {cs : List Value} (h : w.rangeAt g o cs) (hb : Below w.heap.size w w') : w'.rangeAt g o cs := fun j v hv =>
  (hb.cell (p := ⟨g, o + j, none⟩) (World.block_lt_of_cell? w _ (h j v hv))).trans (h j v hv)
theorem own_through {w w' : World} {base sz n : Nat} {e : TypeId} {v : Value} {xs : List Value} (h : w.ownsRow base e sz v n xs) (hb : Below w.heap.size w w') : w'.ownsRow base e sz v n xs :=
  h.kept (only_below (g := w.heap.size) hb) (.inr (fun e => by have := h.lt _ e; omega))
theorem conv_by (y : Int) (w : World) : (convert 3 5 (.int .i64 y)).run Try.prog w = .ok (.int .u8 (((u64N y : Nat) : Int) % 256)) w := by
  have e : IntKind.u8.wrap y = ((u64N y : Nat) : Int) % 256 := by
    simp [IntKind.wrap, IntKind.signed, IntKind.bits, u64N]
    omega
  simp [convert, run_underlying Try.underlying3, run_underlying Try.underlying5, Conv.intToInt, e]
theorem u8_by (y : Int) : u8 (UInt8.ofNat (u64N y)) = .int .u8 (((u64N y : Nat) : Int) % 256) := by
  simp [u8]

set_option maxHeartbeats 16000000 in
set_option maxRecDepth 100000 in
theorem bytes_any (co : Cr) (es : List En) (A : Option Addr) (n c1 : Nat) (w : World) (h : EsIn w A n es) (hn : n ≤ 1000) (hlt : co.lt.length ≤ 1000) (htx : co.tx.length ≤ 1000) (hL : (Rq.bytes ⟨co, es⟩).length ≤ 1000000) :
    Calls Try.prog 18 #[.agg #[.int .i64 co.cl, .int .i64 co.sp, .int .i64 co.op, .string (ba co.lt), .int .i64 co.a, .int .i64 co.b, .string (ba co.tx), .slice A n c1]] w (Byt w (Rq.bytes ⟨co, es⟩)) := by
  obtain ⟨i0, hi, hz0, hz1, hz2⟩ := info_parts Try.info_u8
  have HI := Lib.hid h
  have HLn := Lib.hid h.len
  obtain ⟨OUT, hO⟩ : ∃ OUT, Rq.bytes ⟨co, es⟩ = OUT := ⟨_, rfl⟩
  rw [hO] at hL ⊢
  have HLL := Lib.hid hL
  have HOUT : Hid (rowB (encCr co) ++ beB n 2 ++ encAll encEn es = OUT) := Lib.hid (by rw [← hO, List.append_assoc, ← h.len]; rfl)
  have HB1 : Hid (Blk (w.alloc (.cells #[.int .i64 co.cl, .int .i64 co.sp, .int .i64 co.op, .string (ba co.lt), .int .i64 co.a, .int .i64 co.b, .string (ba co.tx), .slice A n c1] 34)) w.heap.size 34 [.int .i64 co.cl, .int .i64 co.sp, .int .i64 co.op, .string (ba co.lt), .int .i64 co.a, .int .i64 co.b, .string (ba co.tx), .slice A n c1]) := Lib.hid (Blk.fresh rfl rfl)
  have HC1 : Hid ((w.alloc (.cells #[.int .i64 co.cl, .int .i64 co.sp, .int .i64 co.op, .string (ba co.lt), .int .i64 co.a, .int .i64 co.b, .string (ba co.tx), .slice A n c1] 34)).rangeAt w.heap.size 0 [.int .i64 co.cl, .int .i64 co.sp, .int .i64 co.op, .string (ba co.lt), .int .i64 co.a, .int .i64 co.b, .string (ba co.tx)]) := Lib.hid (Blk.front (post := [.slice A n c1]) HB1.out)
  have HX1 : Hid (Below w.heap.size w (w.alloc (.cells #[.int .i64 co.cl, .int .i64 co.sp, .int .i64 co.op, .string (ba co.lt), .int .i64 co.a, .int .i64 co.b, .string (ba co.tx), .slice A n c1] 34))) := Lib.hid (below1_ w _)
  have HCb : Hid (∀ W, Calls Try.prog 9 #[.agg #[.int .i64 co.cl, .int .i64 co.sp, .int .i64 co.op, .string (ba co.lt), .int .i64 co.a, .int .i64 co.b, .string (ba co.tx)]] W (Byt W (encCr co))) := Lib.hid (fun W => coreB_any co W (by omega) (by omega))
  have HCL : Hid ((encCr co).length ≤ 1099511627776) := Lib.hid (by rw [encCr_len]; omega)
  have hwu : ∀ W : World, (convert 3 65 (.int .i64 (n : Int))).run Try.prog W = .ok (.int .u64 (n : Int)) W := fun W => by
    have h9 := conv_u64 3 65 Try.underlying3 Try.underlying65 (n : Int) W
    rw [u64N_nat (by omega)] at h9
    exact h9
  have HPut : Hid (∀ (W : World) (B : Option Addr) (m d : Nat), By W (fun _ => True) B m (rowB (encCr co)) → m ≤ d → Calls Try.prog 35 #[.slice B m d, .int .u64 (n : Int), .int .i64 2] W (Made W (rowB (encCr co) ++ beB n 2).length (rowB (encCr co) ++ beB n 2))) := Lib.hid (fun W B m d hY hmd => by
    have h9 := put_any (fun _ => True) B m d (rowB (encCr co)) (n : Int) (2 : Nat) (by omega) (by omega) W hY (by rw [← hY.len, rowB_len, encCr_len]; omega) hmd
    rw [Int.toNat_natCast, putB_wid rfl] at h9
    have e : putN m (2 : Nat) = (rowB (encCr co) ++ beB n 2).length := by rw [List.length_append, beB_length, hY.len]; rfl
    rw [e] at h9
    exact h9)
  have HIX := Lib.hid Try.ix_en
  have HIT := Lib.hid Try.ix_tg
  clear h hO hL hlt htx
  go_enter Try.func18, Try.ntmps18
  go_wp2_with (first
    | (refine wpList_load_mid rfl 23 (.tmp 8) rfl w.heap.size 0 rfl [.int .i64 co.cl, .int .i64 co.sp, .int .i64 co.op, .string (ba co.lt), .int .i64 co.a, .int .i64 co.b, .string (ba co.tx)] _ HC1.out Try.underlying23 rfl (by kernel_rfl) ?_)
    | (go_at_call 9; (with_reducible refine (HCb.out _).mono ?_); rintro e w2 ⟨A2, n2, d2, rfl, hy2, hn2, hm2, hb2⟩; have HY2 := Lib.hid hy2; have HX2 := Lib.hid (below_step HX1.out hb2); have HB2 := Lib.hid (HB1.out.through hb2); clear hy2 hn2 hm2 hb2)
    | (go_at_call 36; (with_reducible refine (row_by (Q := fun _ => True) (A := none) (n := 0) (c := 0) (xs := []) By.none_ HY2.out (by simp) HCL.out (Nat.le_refl _)).mono ?_); rintro e w3 ⟨A3, n3, d3, rfl, hy3, hn3, hm3, hb3⟩; have HY3 := Lib.hid hy3; have HN3 := Lib.hid hn3; have HX3 := Lib.hid (below_step HX2.out hb3); have HB3 := Lib.hid (HB2.out.through hb3); have c7 := HB3.out.cellAt (i := 7) rfl; clear hy3 hn3 hm3 hb3)
    | (go_at_call 35; (refine (HPut.out _ _ _ _ HY3.out HN3.out).mono ?_); rintro e w4 ⟨v4, rfl, ho4, hb4⟩; have HO4 := Lib.hid ho4; have HX4 := Lib.hid (below_step HX3.out hb4); have HB4 := Lib.hid (HB3.out.through hb4); have HW4 := Lib.hid hb4; clear c7; have c7 := HB4.out.cellAt (i := 7) rfl; clear ho4 hb4))
  clear c7
  go_loopw [3, 21] (fun bv iv wr => ∃ (i : Nat) (ys : List UInt8) (v' : Value), i ≤ n ∧ iv = .int .i64 (i : Int) ∧ v' = bv ∧ ys ++ encAll encEn (es.drop i) = OUT ∧ wr.ownsRow w3.heap.size 5 1 v' ys.length (vs ys) ∧ Below w3.heap.size w3 wr) (fun _ iv _ => n - (intOf iv).toNat)
  case atStart => exact ⟨0, _, v4, Nat.zero_le _, rfl, rfl, HOUT.out, HO4.out, HW4.out⟩
  case round =>
    obtain ⟨i, ys, v', hi', rfl, rfl, hpq, hown, hx⟩ := hrel
    have HO := Lib.hid hown
    have HX := Lib.hid hx
    have HPQ := Lib.hid hpq
    have hsz3 : w3.heap.size ≤ wr.heap.size := hx.size
    clear hown hx hpq
    by_cases hlt : i < n
    · obtain ⟨g, o, e, B, k1, dd, rfl, _, hme, hd, hrx, hts⟩ := (HI.out.through HX3.out).at hlt
      have HRx := Lib.hid (range_through hrx HX.out)
      have HTs := Lib.hid hts
      have hix := HIX.out wr g o n c1 i hlt
      have hcv := conv_by e.og
      have HXp5 : Hid (Below w3.heap.size w3 ((wr.alloc (.cells #[.int .i64 e.og, .slice B k1 dd] 41)).alloc (.cells #[.int .u8 (((u64N e.og : Nat) : Int) % 256)] 5))) := Lib.hid ((HX.out.alloc hsz3 _).alloc (Nat.le_trans hsz3 (below1_ wr _).size) _)
      have HBS5 : Hid (w3.heap.size ≤ ((wr.alloc (.cells #[.int .i64 e.og, .slice B k1 dd] 41)).alloc (.cells #[.int .u8 (((u64N e.og : Nat) : Int) % 256)] 5)).heap.size) := Lib.hid HXp5.out.size
      have HOp5 := Lib.hid ((HO.out.alloc (.cells #[.int .i64 e.og, .slice B k1 dd] 41)).alloc (.cells #[.int .u8 (((u64N e.og : Nat) : Int) % 256)] 5))
      have HPQ2 : Hid ((ys ++ [UInt8.ofNat (u64N e.og)]) ++ (encAll encTg e.ts ++ encAll encEn (es.drop (i + 1))) = OUT) := Lib.hid (by rw [← HPQ.out, hd]; simp [encAll, encEn, beB])
      have HBD5 : Hid (ys.length + 1 ≤ 140737488355328) := Lib.hid (by have h9 := congrArg List.length HPQ2.out; simp only [List.length_append, List.length_cons, List.length_nil] at h9; have := HLL.out; omega)
      have HTL : Hid (([UInt8.ofNat (u64N e.og)] : List UInt8).length = 1) := Lib.hid rfl
      have HBy5 : Hid (By ((wr.alloc (.cells #[.int .i64 e.og, .slice B k1 dd] 41)).alloc (.cells #[.int .u8 (((u64N e.og : Nat) : Int) % 256)] 5)) (fun _ => True) (some ⟨wr.heap.size + 1, 0, none⟩) 1 [UInt8.ofNat (u64N e.og)]) := Lib.hid (by
        have h9 := By.one (w := wr.alloc (.cells #[.int .i64 e.og, .slice B k1 dd] 41)) (Q := fun _ => True) 5 trivial (u8_by e.og)
        rw [show (wr.alloc (.cells #[.int .i64 e.og, .slice B k1 dd] 41)).heap.size = wr.heap.size + 1 by simp] at h9
        exact h9)
      have HE5 : Hid (Blk (wr.alloc (.cells #[.int .i64 e.og, .slice B k1 dd] 41)) wr.heap.size 41 [.int .i64 e.og, .slice B k1 dd]) := Lib.hid (Blk.fresh rfl rfl)
      clear hrx hts hd hme
      go_wp2_with (first
        | (refine wpList_load_mid rfl 41 (.tmp 23) rfl g (o + i * 2) rfl [.int .i64 e.og, .slice B k1 dd] _ HRx.out Try.underlying41 rfl (by kernel_rfl) ?_)
        | (at_builtin; refine wpList_append_by _ rfl (.tmp 25) (.tmp 29) 25 rfl w3.heap.size i0 Try.underlying25 hi hz0 hz1 hz2 v' ys.length (vs ys) rfl (HOp5.out) (fun _ => True) _ 1 1 [UInt8.ofNat (u64N e.og)] rfl (HBy5.out) HBD5.out HBS5.out ?_; intro v5 w5 hown5 hgrow5 _; have HN5 : Hid (w5.ownsRow w3.heap.size 5 1 v5 (ys ++ [UInt8.ofNat (u64N e.og)]).length (vs (ys ++ [UInt8.ofNat (u64N e.og)]))) := Lib.hid (by rw [List.length_append, ← vs_append]; (try rw [HTL.out]); exact hown5); have HXn5 : Hid (Below w3.heap.size w3 w5) := Lib.hid (HXp5.out.grown hgrow5 HBS5.out (fun g hg => (HOp5.out.lt g hg).1)); have c1e := ((HE5.out.alloc _).grown hgrow5 (fun e => by have := (HO.out.lt _ e.symm).2; omega)).cellAt (i := 1) rfl; clear hown5 hgrow5))
      clear c1e hcv
      obtain ⟨Y, hY⟩ : ∃ Y, ys ++ [UInt8.ofNat (u64N e.og)] = Y := ⟨_, rfl⟩
      rw [hY] at HN5 HPQ2
      have HXw := Lib.hid HXn5.out
      clear hY HO HX HPQ HXp5 HBS5 HOp5 HBD5 HBy5 HE5 HTL HXn5 HRx hix
      have hkm : k1 ≤ 9223372036854775807 := by
        have h8 := HTs.out.2.2
        simp only [maxLen] at h8
        omega
      go_loopw [3, 34] (fun bv jv wr => ∃ (j : Nat) (zs : List UInt8) (v' : Value), j ≤ k1 ∧ jv = .int .i64 (j : Int) ∧ v' = bv ∧ zs ++ (encAll encTg (e.ts.drop j) ++ encAll encEn (es.drop (i + 1))) = OUT ∧ wr.ownsRow w3.heap.size 5 1 v' zs.length (vs zs) ∧ Below w3.heap.size w3 wr) (fun _ jv _ => k1 - (intOf jv).toNat)
      case atStart => exact ⟨0, Y, v5, Nat.zero_le _, rfl, rfl, HPQ2.out, HN5.out, HXw.out⟩
      case round =>
        obtain ⟨j, zs, v', hj, rfl, rfl, hpq, hown, hx⟩ := hrel
        have HO := Lib.hid hown
        have HX := Lib.hid hx
        have HPQ := Lib.hid hpq
        have hsz3 : w3.heap.size ≤ wr.heap.size := hx.size
        clear hown hx hpq
        by_cases hltj : j < k1
        · obtain ⟨gt, ot, t, hBe, _, _, hdt, htl, hrt⟩ := HTs.out.at hltj
          simp only at hBe
          subst hBe
          have HRt := Lib.hid (range_through hrt HX.out)
          have HTL := Lib.hid htl
          have hixt := fun (W : World) => Try.ix_tg W gt ot k1 dd j hltj
          have hsl := fun W => Try.sl_tag wr.heap.size 0 W
          have HPQ3 : Hid ((zs ++ t) ++ (encAll encTg (e.ts.drop (j + 1)) ++ encAll encEn (es.drop (i + 1))) = OUT) := Lib.hid (by rw [← HPQ.out, hdt]; simp [encAll, encTg])
          have HBD9 : Hid (zs.length + 32 ≤ 140737488355328) := Lib.hid (by have h9 := congrArg List.length HPQ3.out; simp only [List.length_append] at h9; have := HLL.out; omega)
          clear hrt hdt htl
          go_wp2_with (first
            | (refine wpList_load_mid rfl 80 (.tmp 36) rfl gt (ot + j * 32) rfl (vs t) _ HRt.out Try.underlying80 rfl (by rw [vs_length, HTL.out]; kernel_rfl) ?_)
            | (refine wpList_store_blk rfl 80 (.tmp 7) (.tmp 37) rfl wr.heap.size (vs t) rfl rfl 80 (vs (List.replicate 32 0)) (Blk.fresh rfl rfl) (by rw [vs_length, HTL.out]; kernel_rfl) (by rw [vs_length, vs_length, HTL.out]; rfl) (Array.all_eq_true_iff_forall_mem.2 (fun u hu => vs_one u (by simpa using hu))) ?_; simp only [Act.put]; intro w8 hb8 hg8; have HTb := Lib.hid hb8; have HOp9 := Lib.hid (own_through HO.out (below_new hg8)); have HXp9 := Lib.hid (below_step HX.out (below_new hg8)); have HBS9 : Hid (w3.heap.size ≤ w8.heap.size) := Lib.hid HXp9.out.size; clear hb8 hg8)
            | (at_builtin; refine wpList_append_by _ rfl (.tmp 38) (.tmp 39) 25 rfl w3.heap.size i0 Try.underlying25 hi hz0 hz1 hz2 v' zs.length (vs zs) rfl (HOp9.out) (fun _ => True) _ 32 32 t rfl (By.of_blk_n HTb.out HTL.out trivial) HBD9.out HBS9.out ?_; intro v9 w9 hown9 hgrow9 _; have HN9 : Hid (w9.ownsRow w3.heap.size 5 1 v9 (zs ++ t).length (vs (zs ++ t))) := Lib.hid (by rw [List.length_append, ← vs_append]; (try rw [HTL.out]); exact hown9); have HXn9 : Hid (Below w3.heap.size w3 w9) := Lib.hid (HXp9.out.grown hgrow9 HBS9.out (fun g hg => (HOp9.out.lt g hg).1)); clear hown9 hgrow9))
          go_roundw
          case rel => exact ⟨j + 1, zs ++ t, v9, by omega, by go_num, rfl, HPQ3.out, HN9.out, HXn9.out⟩
          case measure => simp [intOf]; omega
        · have hjk : j = k1 := by omega
          subst hjk
          have e9 : e.ts.drop j = [] := List.drop_of_length_le (by have := HTs.out.len; simp only at this; omega)
          have HPQ3 : Hid (zs ++ encAll encEn (es.drop (i + 1)) = OUT) := Lib.hid (by rw [← HPQ.out, e9]; rfl)
          clear e9
          go_wp2
          go_roundw
          case rel => exact ⟨i + 1, zs, v', by omega, by go_num, rfl, HPQ3.out, HO.out, HX.out⟩
          case measure => simp [intOf]; omega
    · have e9 : es.drop i = [] := List.drop_of_length_le (by have := HLn.out; omega)
      have HPQ3 : Hid (ys = OUT) := Lib.hid (by rw [← HPQ.out, e9]; simp [encAll])
      clear e9
      obtain ⟨A7, c7, rfl, hn7, hm7, _⟩ := own_form HO.out
      go_wp2
      go_ret
      rw [← HPQ3.out]
      exact ⟨A7, _, c7, rfl, (By.of_own HO.out).weak fun _ _ => trivial, hn7, hm7, below_step HX3.out HX.out⟩

end Go.Proofs.Ytfonkdcpghbaoaa
