/-
  The document's Same, walked.
-/
import Derived.Test.YtfonkdcpghbaoaaRqV
import Derived.Test.YtfonkdcpghbaoaaNm
import Derived.BigQuiet
namespace Go.Proofs.Ytfonkdcpghbaoaa
open Go.RowKit

theorem Try.agg_es (w : World) : (isAgg 32).run Try.prog w = .ok false w := by kernel_rfl
theorem Try.agg_ts (w : World) : (isAgg 39).run Try.prog w = .ok false w := by kernel_rfl
theorem allB_next {α : Type} {p : α → α → Bool} {x y : α} {xs ys : List α} (h : p x y = true) : allB p (x :: xs) (y :: ys) = allB p xs ys := by simp [allB, h]
theorem allB_stop {α : Type} {p : α → α → Bool} {x y : α} {xs ys : List α} (h : p x y = false) : allB p (x :: xs) (y :: ys) = false := by simp [allB, h]
theorem allB_far {α : Type} {p : α → α → Bool} {xs ys : List α} (h : xs.length ≠ ys.length) : allB p xs ys = false := by
  cases hb : allB p xs ys
  · rfl
  · exact absurd (allB_len hb) h
theorem below2_ (w : World) (A B : Obj) : Below w.heap.size w ((w.alloc A).alloc B) := (below1_ w A).alloc (below1_ w A).size B
theorem Blk.front {w : World} {g : Nat} {t : TypeId} {cs post : List Value} (h : Blk w g t (cs ++ post)) : w.rangeAt g 0 cs := Blk.range (pre := []) (post := post) (by simpa using h)
theorem take_next {α : Type} {xs ys : List α} {j : Nat} {x : α} (h : xs.take j = ys.take j) (hx : xs[j]? = some x) (hy : ys[j]? = some x) : xs.take (j + 1) = ys.take (j + 1) := by
  rw [List.take_add_one, List.take_add_one, h, hx, hy]
theorem TsIn.range {w : World} {g o k c : Nat} {ts : List (List UInt8)} {j : Nat} {t : List UInt8} (h : TsIn w (some ⟨g, o, none⟩, k, c) ts) (ht : ts[j]? = some t) : w.rangeAt g (o + j * 32) (vs t) := by
  have hj : j < k := by
    have h1 := (List.getElem?_eq_some_iff.1 ht).1
    have h2 := h.len
    simp only at h2
    omega
  obtain ⟨g', o', t', e, h1, _, _, _, h2⟩ := h.at hj
  simp only [Option.some.injEq, Addr.mk.injEq] at e
  obtain ⟨rfl, rfl, _⟩ := e
  rw [ht] at h1
  obtain rfl := Option.some.inj h1
  exact h2
theorem Rq.same_eq (c d : Cr) (l k : List En) : Rq.same ⟨c, l⟩ ⟨d, k⟩ = (c.eqb d && allB En.eqb l k) := rfl
theorem En.eqb_ts {e f : En} (h : e.ts ≠ f.ts) : e.eqb f = false := by
  cases hb : e.eqb f
  · rfl
  · exact absurd (congrArg En.ts (En.eqb_iff.1 hb)) h
theorem En.eqb_og {e f : En} (h : e.og ≠ f.og) : e.eqb f = false := by
  cases hb : e.eqb f
  · rfl
  · exact absurd (congrArg En.og (En.eqb_iff.1 hb)) h

set_option maxHeartbeats 16000000 in
set_option maxRecDepth 100000 in
theorem rsame_any (c d : Cr) (l k : List En) (A : Option Addr) (n c1 : Nat) (A' : Option Addr) (n' c2 : Nat) (w : World) (h : EsIn w A n l) (h' : EsIn w A' n' k) (hn : n ≤ 1000000) (hn' : n' ≤ 1000000) :
    Calls Try.prog 17 #[.agg #[.int .i64 c.cl, .int .i64 c.sp, .int .i64 c.op, .string (ba c.lt), .int .i64 c.a, .int .i64 c.b, .string (ba c.tx), .slice A n c1], .agg #[.int .i64 d.cl, .int .i64 d.sp, .int .i64 d.op, .string (ba d.lt), .int .i64 d.a, .int .i64 d.b, .string (ba d.tx), .slice A' n' c2]] w fun e w' => e = .returned (.bool (Rq.same ⟨c, l⟩ ⟨d, k⟩)) ∧ Below w.heap.size w w' := by
  have HI := Lib.hid h
  have HJ := Lib.hid h'
  obtain ⟨bb, hbb⟩ : ∃ bb, Rq.same ⟨c, l⟩ ⟨d, k⟩ = bb := ⟨_, rfl⟩
  rw [hbb]
  have HBB := Lib.hid hbb
  have H1 : Hid (Blk ((w.alloc (.cells #[.int .i64 c.cl, .int .i64 c.sp, .int .i64 c.op, .string (ba c.lt), .int .i64 c.a, .int .i64 c.b, .string (ba c.tx), .slice A n c1] 34)).alloc (.cells #[.int .i64 d.cl, .int .i64 d.sp, .int .i64 d.op, .string (ba d.lt), .int .i64 d.a, .int .i64 d.b, .string (ba d.tx), .slice A' n' c2] 34)) w.heap.size 34 [.int .i64 c.cl, .int .i64 c.sp, .int .i64 c.op, .string (ba c.lt), .int .i64 c.a, .int .i64 c.b, .string (ba c.tx), .slice A n c1]) := Lib.hid ((Blk.fresh rfl rfl).alloc _)
  have H2 : Hid (Blk ((w.alloc (.cells #[.int .i64 c.cl, .int .i64 c.sp, .int .i64 c.op, .string (ba c.lt), .int .i64 c.a, .int .i64 c.b, .string (ba c.tx), .slice A n c1] 34)).alloc (.cells #[.int .i64 d.cl, .int .i64 d.sp, .int .i64 d.op, .string (ba d.lt), .int .i64 d.a, .int .i64 d.b, .string (ba d.tx), .slice A' n' c2] 34)) (w.heap.size + 1) 34 [.int .i64 d.cl, .int .i64 d.sp, .int .i64 d.op, .string (ba d.lt), .int .i64 d.a, .int .i64 d.b, .string (ba d.tx), .slice A' n' c2]) := Lib.hid (Blk.fresh (by simp) rfl)
  have HC1 : Hid (((w.alloc (.cells #[.int .i64 c.cl, .int .i64 c.sp, .int .i64 c.op, .string (ba c.lt), .int .i64 c.a, .int .i64 c.b, .string (ba c.tx), .slice A n c1] 34)).alloc (.cells #[.int .i64 d.cl, .int .i64 d.sp, .int .i64 d.op, .string (ba d.lt), .int .i64 d.a, .int .i64 d.b, .string (ba d.tx), .slice A' n' c2] 34)).rangeAt w.heap.size 0 [.int .i64 c.cl, .int .i64 c.sp, .int .i64 c.op, .string (ba c.lt), .int .i64 c.a, .int .i64 c.b, .string (ba c.tx)]) := Lib.hid (Blk.front (post := [.slice A n c1]) H1.out)
  have HC2 : Hid (((w.alloc (.cells #[.int .i64 c.cl, .int .i64 c.sp, .int .i64 c.op, .string (ba c.lt), .int .i64 c.a, .int .i64 c.b, .string (ba c.tx), .slice A n c1] 34)).alloc (.cells #[.int .i64 d.cl, .int .i64 d.sp, .int .i64 d.op, .string (ba d.lt), .int .i64 d.a, .int .i64 d.b, .string (ba d.tx), .slice A' n' c2] 34)).rangeAt (w.heap.size + 1) 0 [.int .i64 d.cl, .int .i64 d.sp, .int .i64 d.op, .string (ba d.lt), .int .i64 d.a, .int .i64 d.b, .string (ba d.tx)]) := Lib.hid (Blk.front (post := [.slice A' n' c2]) H2.out)
  have HXe : Hid (Below w.heap.size w ((w.alloc (.cells #[.int .i64 c.cl, .int .i64 c.sp, .int .i64 c.op, .string (ba c.lt), .int .i64 c.a, .int .i64 c.b, .string (ba c.tx), .slice A n c1] 34)).alloc (.cells #[.int .i64 d.cl, .int .i64 d.sp, .int .i64 d.op, .string (ba d.lt), .int .i64 d.a, .int .i64 d.b, .string (ba d.tx), .slice A' n' c2] 34))) := Lib.hid (below2_ w _ _)
  have hne : ∀ W, (binOp .neq 23 (.agg #[.int .i64 c.cl, .int .i64 c.sp, .int .i64 c.op, .string (ba c.lt), .int .i64 c.a, .int .i64 c.b, .string (ba c.tx)]) (.agg #[.int .i64 d.cl, .int .i64 d.sp, .int .i64 d.op, .string (ba d.lt), .int .i64 d.a, .int .i64 d.b, .string (ba d.tx)])).run Try.prog W = .ok (.bool (!(c.eqb d))) W := fun W => neq_cr c d W
  clear h h' hbb
  cases s0 : c.eqb d
  case false =>
    rw [s0] at hne
    have HS0 := Lib.hid s0
    clear s0
    go_enter Try.func17, Try.ntmps17
    go_wp2_with (first
      | (refine wpList_load_mid rfl 23 (.tmp 9) rfl w.heap.size 0 rfl [.int .i64 c.cl, .int .i64 c.sp, .int .i64 c.op, .string (ba c.lt), .int .i64 c.a, .int .i64 c.b, .string (ba c.tx)] _ HC1.out Try.underlying23 rfl (by kernel_rfl) ?_)
      | (refine wpList_load_mid rfl 23 (.tmp 11) rfl (w.heap.size + 1) 0 rfl [.int .i64 d.cl, .int .i64 d.sp, .int .i64 d.op, .string (ba d.lt), .int .i64 d.a, .int .i64 d.b, .string (ba d.tx)] _ HC2.out Try.underlying23 rfl (by kernel_rfl) ?_))
    go_ret
    exact ⟨ret_b (by rw [← HBB.out, Rq.same_eq, HS0.out]; rfl), HXe.out⟩
  rw [s0] at hne
  obtain rfl := Cr.eqb_iff.1 s0
  have HS0 := Lib.hid s0
  clear s0
  by_cases s2 : n = n'
  case neg =>
    have s2i : ¬ (n : Int) = (n' : Int) := by omega
    have s2b : ((n : Int) == (n' : Int)) = false := by simpa using s2i
    have s2d : ((n : Int) != (n' : Int)) = true := by simpa using s2i
    have s2c : (n == n') = false := by simpa using s2
    have s2e : (n != n') = true := by simpa using s2
    have HS2 := Lib.hid s2
    clear s2 s2i
    go_enter Try.func17, Try.ntmps17
    go_wp2_with (first
      | (refine wpList_load_mid rfl 23 (.tmp 9) rfl w.heap.size 0 rfl [.int .i64 c.cl, .int .i64 c.sp, .int .i64 c.op, .string (ba c.lt), .int .i64 c.a, .int .i64 c.b, .string (ba c.tx)] _ HC1.out Try.underlying23 rfl (by kernel_rfl) ?_)
      | (refine wpList_load_mid rfl 23 (.tmp 11) rfl (w.heap.size + 1) 0 rfl [.int .i64 c.cl, .int .i64 c.sp, .int .i64 c.op, .string (ba c.lt), .int .i64 c.a, .int .i64 c.b, .string (ba c.tx)] _ HC2.out Try.underlying23 rfl (by kernel_rfl) ?_))
    go_ret
    exact ⟨ret_b (by rw [← HBB.out, Rq.same_eq, allB_far (by have := HI.out.len; have := HJ.out.len; have := HS2.out; omega)]; simp), HXe.out⟩
  subst s2
  have HAB : Hid (allB En.eqb l k = bb) := Lib.hid (by rw [← HBB.out, Rq.same_eq, HS0.out]; rfl)
  clear HBB
  go_enter Try.func17, Try.ntmps17
  go_wp2_with (first
    | (refine wpList_load_mid rfl 23 (.tmp 9) rfl w.heap.size 0 rfl [.int .i64 c.cl, .int .i64 c.sp, .int .i64 c.op, .string (ba c.lt), .int .i64 c.a, .int .i64 c.b, .string (ba c.tx)] _ HC1.out Try.underlying23 rfl (by kernel_rfl) ?_)
    | (refine wpList_load_mid rfl 23 (.tmp 11) rfl (w.heap.size + 1) 0 rfl [.int .i64 c.cl, .int .i64 c.sp, .int .i64 c.op, .string (ba c.lt), .int .i64 c.a, .int .i64 c.b, .string (ba c.tx)] _ HC2.out Try.underlying23 rfl (by kernel_rfl) ?_))
  go_loopw [26] (fun iv wr => ∃ i : Nat, i ≤ n ∧ iv = .int .i64 i ∧ allB En.eqb l k = allB En.eqb (l.drop i) (k.drop i) ∧ Blk wr (w.heap.size + 1) 34 [.int .i64 c.cl, .int .i64 c.sp, .int .i64 c.op, .string (ba c.lt), .int .i64 c.a, .int .i64 c.b, .string (ba c.tx), .slice A' n c2] ∧ Below w.heap.size w wr) (fun iv _ => n - (intOf iv).toNat)
  case atStart => exact ⟨0, Nat.zero_le _, rfl, rfl, H2.out, HXe.out⟩
  case round =>
    obtain ⟨i, hi, rfl, hp, hb2, hx⟩ := hrel
    have HX := Lib.hid hx
    by_cases hlt : i < n
    · obtain ⟨g, o, e, B, k1, dd, rfl, hei, _, hd, hrx, hts⟩ := (HI.out.through HX.out).at hlt
      obtain ⟨g', o', e', B', k', dd', rfl, hei', _, hd', hry, hts'⟩ := (HJ.out.through HX.out).at hlt
      rw [hd, hd'] at hp
      have HRx := Lib.hid hrx
      have HB2 := Lib.hid (hb2.alloc (.cells #[.int .i64 e.og, .slice B k1 dd] 41))
      have HXa : Hid (Below w.heap.size w (wr.alloc (.cells #[.int .i64 e.og, .slice B k1 dd] 41))) := Lib.hid (HX.out.alloc HX.out.size _)
      have HTs := Lib.hid (hts.through (below1_ wr (.cells #[.int .i64 e.og, .slice B k1 dd] 41)))
      have HTs' := Lib.hid (hts'.through (below1_ wr (.cells #[.int .i64 e.og, .slice B k1 dd] 41)))
      have hya : (wr.alloc (.cells #[.int .i64 e.og, .slice B k1 dd] 41)).cell? ⟨g', o' + i * 2, none⟩ = some (.int .i64 e'.og) := (below1_ wr (.cells #[.int .i64 e.og, .slice B k1 dd] 41)).cell (p := ⟨g', o' + i * 2, none⟩) (World.block_lt_of_cell? wr ⟨g', o' + i * 2 + 0, none⟩ (hry 0 _ rfl)) |>.trans (hry 0 _ rfl)
      have hyb : (wr.alloc (.cells #[.int .i64 e.og, .slice B k1 dd] 41)).cell? ⟨g', o' + i * 2 + 1, none⟩ = some (.slice B' k' dd') := (below1_ wr (.cells #[.int .i64 e.og, .slice B k1 dd] 41)).cell (p := ⟨g', o' + i * 2 + 1, none⟩) (World.block_lt_of_cell? wr ⟨g', o' + i * 2 + 1, none⟩ (hry 1 _ rfl)) |>.trans (hry 1 _ rfl)
      have hyl := (World.block_lt_of_cell? wr ⟨g', o' + i * 2 + 1, none⟩ (hry 1 _ rfl))
      have HYl : Hid (g' < wr.heap.size) := Lib.hid hyl
      have hc7 := HB2.out.cellAt (i := 7) rfl
      have hix := fun (W : World) => Try.ix_en W g o n c1 i hlt
      have hix' := fun (W : World) => Try.ix_en W g' o' n c2 i hlt
      clear hrx hry hb2 hx hei hei' hd hd' hts hts' hyl
      by_cases h1 : e.og = e'.og
      case neg =>
        have b1 : (e.og == e'.og) = false := by simpa using h1
        have b2 : (e.og != e'.og) = true := by simpa using h1
        have HF : Hid (bb = false) := Lib.hid (by rw [← HAB.out, hp, allB_stop (En.eqb_og h1)])
        clear hp h1
        go_wp2_with (first
          | (refine wpList_load_mid rfl 41 (.tmp 29) rfl g (o + i * 2) rfl [.int .i64 e.og, .slice B k1 dd] _ HRx.out Try.underlying41 rfl (by kernel_rfl) ?_))
        go_quiet (fail)
        go_wp2
        go_ret
        exact ⟨ret_b HF.out.symm, below_drewN HXa.out _⟩
      have b1 : (e.og == e'.og) = true := by simpa using h1
      have b2 : (e.og != e'.og) = false := by simpa using h1
      by_cases h2 : k1 = k'
      case neg =>
        have h2i : ¬ (k1 : Int) = (k' : Int) := by omega
        have b3 : ((k1 : Int) == (k' : Int)) = false := by simpa using h2i
        have b4 : ((k1 : Int) != (k' : Int)) = true := by simpa using h2i
        have b5 : (k1 == k') = false := by simpa using h2
        have b6 : (k1 != k') = true := by simpa using h2
        have HF : Hid (bb = false) := Lib.hid (by rw [← HAB.out, hp, allB_stop (En.eqb_ts (fun h => h2 (by have h3 := congrArg List.length h; rw [HTs.out.len, HTs'.out.len] at h3; exact h3)))])
        clear hp h1 h2 h2i
        go_wp2_with (first
          | (refine wpList_load_mid rfl 41 (.tmp 29) rfl g (o + i * 2) rfl [.int .i64 e.og, .slice B k1 dd] _ HRx.out Try.underlying41 rfl (by kernel_rfl) ?_))
        go_quiet (fail)
        go_wp2
        go_ret
        exact ⟨ret_b HF.out.symm, below_drewN HXa.out _⟩
      subst h2
      have HP := Lib.hid hp
      have H1e := Lib.hid h1
      clear hp h1
      go_wp2_with (first
        | (refine wpList_load_mid rfl 41 (.tmp 29) rfl g (o + i * 2) rfl [.int .i64 e.og, .slice B k1 dd] _ HRx.out Try.underlying41 rfl (by kernel_rfl) ?_))
      go_quiet (fail)
      obtain ⟨w2, hw2⟩ : ∃ w2, (wr.alloc (.cells #[.int .i64 e.og, .slice B k1 dd] 41)).drewN nq = w2 := ⟨_, rfl⟩
      have hx2 : Below (wr.alloc (.cells #[.int .i64 e.og, .slice B k1 dd] 41)).heap.size (wr.alloc (.cells #[.int .i64 e.og, .slice B k1 dd] 41)) w2 := by rw [← hw2]; exact below_drewN (Below.refl _ _) _
      have HX2 : Hid (Below w.heap.size w w2) := Lib.hid (below_step HXa.out hx2)
      have HBb := Lib.hid (HB2.out.through hx2)
      have HTa := Lib.hid (HTs.out.through hx2)
      have HTa' := Lib.hid (HTs'.out.through hx2)
      have HYl2 : Hid (g' < w2.heap.size) := Lib.hid (Nat.lt_of_lt_of_le HYl.out (Nat.le_trans (below1_ wr (.cells #[.int .i64 e.og, .slice B k1 dd] 41)).size hx2.size))
      have HYc : Hid (w2.cell? ⟨g', o' + i * 2 + 1, none⟩ = some (.slice B' k1 dd')) := Lib.hid ((hx2.cell (p := ⟨g', o' + i * 2 + 1, none⟩) (Nat.lt_of_lt_of_le HYl.out (below1_ wr (.cells #[.int .i64 e.og, .slice B k1 dd] 41)).size)).trans hyb)
      have hec : w2.cell? ⟨wr.heap.size, 1, none⟩ = some (.slice B k1 dd) := Blk.cellAt (Blk.through (Blk.fresh rfl rfl : Blk (wr.alloc (.cells #[.int .i64 e.og, .slice B k1 dd] 41)) wr.heap.size 41 [.int .i64 e.og, .slice B k1 dd]) hx2) (i := 1) rfl
      rw [hw2]
      have hkm : k1 ≤ 9223372036854775807 := by
        have h8 := HTa.out.2.2
        simp only [maxLen] at h8
        omega
      clear hya hyb b1 b2 hc7 hx2 hw2 HB2 HTs HTs' HXa HX HRx HYl
      go_wp2
      clear hec
      go_loopw [56] (fun jv wr => ∃ j : Nat, j ≤ k1 ∧ jv = .int .i64 j ∧ e.ts.take j = e'.ts.take j ∧ Below w2.heap.size w2 wr) (fun jv _ => k1 - (intOf jv).toNat)
      case atStart => exact ⟨0, Nat.zero_le _, rfl, rfl, Below.refl _ _⟩
      case round =>
        obtain ⟨j, hj, rfl, hq, hxi⟩ := hrel
        have HQ := Lib.hid hq
        have HXi := Lib.hid hxi
        clear hq hxi
        by_cases hltj : j < k1
        · obtain ⟨gt, ot, t, hBe, htj, _, _, htl, hrt⟩ := (HTa.out.through HXi.out).at hltj
          obtain ⟨gt', ot', t', hBe', htj', _, _, htl', hrt'⟩ := (HTa'.out.through HXi.out).at hltj
          simp only at hBe hBe'
          subst hBe hBe'
          have HRt := Lib.hid hrt
          have HTl := Lib.hid htl
          have HTl' := Lib.hid htl'
          have HTj := Lib.hid htj
          have HTj' := Lib.hid htj'
          have hixt := fun (W : World) => Try.ix_tg W gt ot k1 dd j hltj
          have hixt' := fun (W : World) => Try.ix_tg W gt' ot' k1 dd' j hltj
          have htn : ∀ W, (binOp .neq 80 (.agg (vs t).toArray) (.agg (vs t').toArray)).run Try.prog W = .ok (.bool (!(t == t'))) W := fun W => tag_ne t t' htl htl' W
          clear htj htj' htl htl' hrt
          by_cases ht : t = t'
          case neg =>
            have hb9 : (t == t') = false := by simpa using ht
            have HF : Hid (bb = false) := Lib.hid (by rw [← HAB.out, HP.out, allB_stop (En.eqb_ts (fun h => ht (by have h3 := HTj.out; rw [h, HTj'.out] at h3; exact (Option.some.inj h3).symm)))])
            rw [hb9] at htn
            clear ht hb9
            go_wp2_with (first
              | (refine wpList_load_mid rfl 80 (.tmp 59) rfl gt (ot + j * 32) rfl (vs t) _ HRt.out Try.underlying80 rfl (by rw [vs_length, HTl.out]; kernel_rfl) ?_)
              | (refine wpList_store_blk rfl 80 (.tmp 8) (.tmp 60) rfl wr.heap.size (vs t) rfl rfl 80 (vs (List.replicate 32 0)) (Blk.fresh rfl rfl) (by rw [vs_length, HTl.out]; kernel_rfl) (by rw [vs_length, vs_length, HTl.out]; rfl) (Array.all_eq_true_iff_forall_mem.2 (fun u hu => vs_one u (by simpa using hu))) ?_; simp only [Act.put]; intro w1 hb1 hg1; have HTb := Lib.hid hb1; have HW1 : Hid (Below w2.heap.size w2 w1) := Lib.hid (below_step HXi.out (below_new hg1)); clear hb1 hg1))
            refine wp_region_held_drew (S := fun W => Below w1.heap.size w1 W) (by kernel_rfl) (Below.refl _ _).drew (fun hHeld => ?_)
            change wpAnyH _ _ _ _ _ _ #[false, false, false, false, false, false, false, false, false, false, false] _ _
            refine wpAnyH_take (i := 0) (v := (.agg (vs t).toArray)) rfl (by kernel_rfl) (by kernel_rfl) (by kernel_rfl) (fun _ _ _ h => h) (yieldsIf_load_mid (by kernel_rfl) 80 (.tmp 8) rfl wr.heap.size 0 (by simp [Act.eval]) (vs t) _ (fun W hW => (HTb.out.through hW).whole) Try.underlying80 rfl (by rw [vs_length, HTl.out]; kernel_rfl)) (by assumption) ?_
            change wpAnyH _ _ _ _ _ _ _ (Act.put _ (some (61 : Nat)) (.agg (vs t).toArray)) _
            simp only [Act.put, List.setIfInBounds_toArray, List.set_cons_zero, List.set_cons_succ]
            refine wpAnyH_take (i := 1) (v := (.pointer (some ⟨w.heap.size + 1, 7, none⟩))) rfl (by kernel_rfl) (by kernel_rfl) (by kernel_rfl) (fun _ _ _ h => h) (Or.inl ⟨by kernel_rfl, fun w hSw => ?_⟩) (by assumption) ?_
            · (try dsimp only at hSw); go_simp <;> (try rfl)
            change wpAnyH _ _ _ _ _ _ _ (Act.put _ (some (62 : Nat)) (.pointer (some ⟨w.heap.size + 1, 7, none⟩))) _
            simp only [Act.put, List.setIfInBounds_toArray, List.set_cons_zero, List.set_cons_succ]
            refine wpAnyH_take (i := 2) (v := (.slice (some ⟨g', o', none⟩) n c2)) rfl (by kernel_rfl) (by kernel_rfl) (by kernel_rfl) (fun _ _ _ h => h) (yields_load_at (by kernel_rfl) 32 (.tmp 62) rfl (.pointer (some ⟨w.heap.size + 1, 7, none⟩)) (by simp [Act.eval]) (.slice (some ⟨g', o', none⟩) n c2) (fun W hW => load_one' (Try.agg_es W) ((HBb.out.through (below_step HW1.out hW)).cellAt (i := 7) rfl))) (by assumption) ?_
            change wpAnyH _ _ _ _ _ _ _ (Act.put _ (some (63 : Nat)) (.slice (some ⟨g', o', none⟩) n c2)) _
            simp only [Act.put, List.setIfInBounds_toArray, List.set_cons_zero, List.set_cons_succ]
            refine wpAnyH_take (i := 3) (v := (.int .i64 (i : Int))) rfl (by kernel_rfl) (by kernel_rfl) (by kernel_rfl) (fun _ _ _ h => h) (Or.inl ⟨by kernel_rfl, fun w hSw => ?_⟩) (by assumption) ?_
            · (try dsimp only at hSw); go_simp <;> (try rfl)
            change wpAnyH _ _ _ _ _ _ _ (Act.put _ (some (64 : Nat)) (.int .i64 (i : Int))) _
            simp only [Act.put, List.setIfInBounds_toArray, List.set_cons_zero, List.set_cons_succ]
            refine wpAnyH_take (i := 4) (v := (.pointer (some ⟨g', o' + i * 2, none⟩))) rfl (by kernel_rfl) (by kernel_rfl) (by kernel_rfl) (fun _ _ _ h => h) (Or.inl ⟨by kernel_rfl, fun w hSw => ?_⟩) (by assumption) ?_
            · (try dsimp only at hSw); go_simp <;> (try rfl)
            change wpAnyH _ _ _ _ _ _ _ (Act.put _ (some (65 : Nat)) (.pointer (some ⟨g', o' + i * 2, none⟩))) _
            simp only [Act.put, List.setIfInBounds_toArray, List.set_cons_zero, List.set_cons_succ]
            refine wpAnyH_take (i := 5) (v := (.pointer (some ⟨g', o' + i * 2 + 1, none⟩))) rfl (by kernel_rfl) (by kernel_rfl) (by kernel_rfl) (fun _ _ _ h => h) (Or.inl ⟨by kernel_rfl, fun w hSw => ?_⟩) (by assumption) ?_
            · (try dsimp only at hSw); go_simp <;> (try rfl)
            change wpAnyH _ _ _ _ _ _ _ (Act.put _ (some (66 : Nat)) (.pointer (some ⟨g', o' + i * 2 + 1, none⟩))) _
            simp only [Act.put, List.setIfInBounds_toArray, List.set_cons_zero, List.set_cons_succ]
            refine wpAnyH_take (i := 6) (v := (.slice (some ⟨gt', ot', none⟩) k1 dd')) rfl (by kernel_rfl) (by kernel_rfl) (by kernel_rfl) (fun _ _ _ h => h) (yields_load_at (by kernel_rfl) 39 (.tmp 66) rfl (.pointer (some ⟨g', o' + i * 2 + 1, none⟩)) (by simp [Act.eval]) (.slice (some ⟨gt', ot', none⟩) k1 dd') (fun W hW => load_one' (Try.agg_ts W) (((below_step HW1.out hW).cell (p := ⟨g', o' + i * 2 + 1, none⟩) HYl2.out).trans HYc.out))) (by assumption) ?_
            change wpAnyH _ _ _ _ _ _ _ (Act.put _ (some (67 : Nat)) (.slice (some ⟨gt', ot', none⟩) k1 dd')) _
            simp only [Act.put, List.setIfInBounds_toArray, List.set_cons_zero, List.set_cons_succ]
            refine wpAnyH_take (i := 7) (v := (.int .i64 (j : Int))) rfl (by kernel_rfl) (by kernel_rfl) (by kernel_rfl) (fun _ _ _ h => h) (Or.inl ⟨by kernel_rfl, fun w hSw => ?_⟩) (by assumption) ?_
            · (try dsimp only at hSw); go_simp <;> (try rfl)
            change wpAnyH _ _ _ _ _ _ _ (Act.put _ (some (68 : Nat)) (.int .i64 (j : Int))) _
            simp only [Act.put, List.setIfInBounds_toArray, List.set_cons_zero, List.set_cons_succ]
            refine wpAnyH_take (i := 8) (v := (.pointer (some ⟨gt', ot' + j * 32, none⟩))) rfl (by kernel_rfl) (by kernel_rfl) (by kernel_rfl) (fun _ _ _ h => h) (Or.inl ⟨by kernel_rfl, fun w hSw => ?_⟩) (by assumption) ?_
            · (try dsimp only at hSw); go_simp <;> (try rfl)
            change wpAnyH _ _ _ _ _ _ _ (Act.put _ (some (69 : Nat)) (.pointer (some ⟨gt', ot' + j * 32, none⟩))) _
            simp only [Act.put, List.setIfInBounds_toArray, List.set_cons_zero, List.set_cons_succ]
            refine wpAnyH_take (i := 9) (v := (.agg (vs t').toArray)) rfl (by kernel_rfl) (by kernel_rfl) (by kernel_rfl) (fun _ _ _ h => h) (yieldsIf_load_mid (by kernel_rfl) 80 (.tmp 69) rfl gt' (ot' + j * 32) (by simp [Act.eval]) (vs t') _ (fun W hW => (HTa'.out.through (below_step HW1.out hW)).range HTj'.out) Try.underlying80 rfl (by rw [vs_length, HTl'.out]; kernel_rfl)) (by assumption) ?_
            change wpAnyH _ _ _ _ _ _ _ (Act.put _ (some (70 : Nat)) (.agg (vs t').toArray)) _
            simp only [Act.put, List.setIfInBounds_toArray, List.set_cons_zero, List.set_cons_succ]
            refine wpAnyH_take (i := 10) (v := (.bool true)) rfl (by kernel_rfl) (by kernel_rfl) (by kernel_rfl) (fun _ _ _ h => h) (Or.inl ⟨by kernel_rfl, fun w hSw => ?_⟩) (by assumption) ?_
            · (try dsimp only at hSw); go_simp <;> (try rfl)
            change wpAnyH _ _ _ _ _ _ _ (Act.put _ (some (71 : Nat)) (.bool true)) _
            simp only [Act.put, List.setIfInBounds_toArray, List.set_cons_zero, List.set_cons_succ]
            refine wpAnyH_done (by kernel_rfl) ?_ _
            have HZ := Lib.hid (below_step HX2.out (below_step HW1.out hHeld))
            clear hHeld
            go_wp2
            go_ret
            exact ⟨ret_b HF.out.symm, HZ.out⟩
          subst ht
          have hb9 : (t == t) = true := by simp
          rw [hb9] at htn
          clear hb9
          go_wp2_with (first
            | (refine wpList_load_mid rfl 80 (.tmp 59) rfl gt (ot + j * 32) rfl (vs t) _ HRt.out Try.underlying80 rfl (by rw [vs_length, HTl.out]; kernel_rfl) ?_)
            | (refine wpList_store_blk rfl 80 (.tmp 8) (.tmp 60) rfl wr.heap.size (vs t) rfl rfl 80 (vs (List.replicate 32 0)) (Blk.fresh rfl rfl) (by rw [vs_length, HTl.out]; kernel_rfl) (by rw [vs_length, vs_length, HTl.out]; rfl) (Array.all_eq_true_iff_forall_mem.2 (fun u hu => vs_one u (by simpa using hu))) ?_; simp only [Act.put]; intro w1 hb1 hg1; have HTb := Lib.hid hb1; have HW1 : Hid (Below w2.heap.size w2 w1) := Lib.hid (below_step HXi.out (below_new hg1)); clear hb1 hg1))
          refine wp_region_held_drew (S := fun W => Below w1.heap.size w1 W) (by kernel_rfl) (Below.refl _ _).drew (fun hHeld => ?_)
          change wpAnyH _ _ _ _ _ _ #[false, false, false, false, false, false, false, false, false, false, false] _ _
          refine wpAnyH_take (i := 0) (v := (.agg (vs t).toArray)) rfl (by kernel_rfl) (by kernel_rfl) (by kernel_rfl) (fun _ _ _ h => h) (yieldsIf_load_mid (by kernel_rfl) 80 (.tmp 8) rfl wr.heap.size 0 (by simp [Act.eval]) (vs t) _ (fun W hW => (HTb.out.through hW).whole) Try.underlying80 rfl (by rw [vs_length, HTl.out]; kernel_rfl)) (by assumption) ?_
          change wpAnyH _ _ _ _ _ _ _ (Act.put _ (some (61 : Nat)) (.agg (vs t).toArray)) _
          simp only [Act.put, List.setIfInBounds_toArray, List.set_cons_zero, List.set_cons_succ]
          refine wpAnyH_take (i := 1) (v := (.pointer (some ⟨w.heap.size + 1, 7, none⟩))) rfl (by kernel_rfl) (by kernel_rfl) (by kernel_rfl) (fun _ _ _ h => h) (Or.inl ⟨by kernel_rfl, fun w hSw => ?_⟩) (by assumption) ?_
          · (try dsimp only at hSw); go_simp <;> (try rfl)
          change wpAnyH _ _ _ _ _ _ _ (Act.put _ (some (62 : Nat)) (.pointer (some ⟨w.heap.size + 1, 7, none⟩))) _
          simp only [Act.put, List.setIfInBounds_toArray, List.set_cons_zero, List.set_cons_succ]
          refine wpAnyH_take (i := 2) (v := (.slice (some ⟨g', o', none⟩) n c2)) rfl (by kernel_rfl) (by kernel_rfl) (by kernel_rfl) (fun _ _ _ h => h) (yields_load_at (by kernel_rfl) 32 (.tmp 62) rfl (.pointer (some ⟨w.heap.size + 1, 7, none⟩)) (by simp [Act.eval]) (.slice (some ⟨g', o', none⟩) n c2) (fun W hW => load_one' (Try.agg_es W) ((HBb.out.through (below_step HW1.out hW)).cellAt (i := 7) rfl))) (by assumption) ?_
          change wpAnyH _ _ _ _ _ _ _ (Act.put _ (some (63 : Nat)) (.slice (some ⟨g', o', none⟩) n c2)) _
          simp only [Act.put, List.setIfInBounds_toArray, List.set_cons_zero, List.set_cons_succ]
          refine wpAnyH_take (i := 3) (v := (.int .i64 (i : Int))) rfl (by kernel_rfl) (by kernel_rfl) (by kernel_rfl) (fun _ _ _ h => h) (Or.inl ⟨by kernel_rfl, fun w hSw => ?_⟩) (by assumption) ?_
          · (try dsimp only at hSw); go_simp <;> (try rfl)
          change wpAnyH _ _ _ _ _ _ _ (Act.put _ (some (64 : Nat)) (.int .i64 (i : Int))) _
          simp only [Act.put, List.setIfInBounds_toArray, List.set_cons_zero, List.set_cons_succ]
          refine wpAnyH_take (i := 4) (v := (.pointer (some ⟨g', o' + i * 2, none⟩))) rfl (by kernel_rfl) (by kernel_rfl) (by kernel_rfl) (fun _ _ _ h => h) (Or.inl ⟨by kernel_rfl, fun w hSw => ?_⟩) (by assumption) ?_
          · (try dsimp only at hSw); go_simp <;> (try rfl)
          change wpAnyH _ _ _ _ _ _ _ (Act.put _ (some (65 : Nat)) (.pointer (some ⟨g', o' + i * 2, none⟩))) _
          simp only [Act.put, List.setIfInBounds_toArray, List.set_cons_zero, List.set_cons_succ]
          refine wpAnyH_take (i := 5) (v := (.pointer (some ⟨g', o' + i * 2 + 1, none⟩))) rfl (by kernel_rfl) (by kernel_rfl) (by kernel_rfl) (fun _ _ _ h => h) (Or.inl ⟨by kernel_rfl, fun w hSw => ?_⟩) (by assumption) ?_
          · (try dsimp only at hSw); go_simp <;> (try rfl)
          change wpAnyH _ _ _ _ _ _ _ (Act.put _ (some (66 : Nat)) (.pointer (some ⟨g', o' + i * 2 + 1, none⟩))) _
          simp only [Act.put, List.setIfInBounds_toArray, List.set_cons_zero, List.set_cons_succ]
          refine wpAnyH_take (i := 6) (v := (.slice (some ⟨gt', ot', none⟩) k1 dd')) rfl (by kernel_rfl) (by kernel_rfl) (by kernel_rfl) (fun _ _ _ h => h) (yields_load_at (by kernel_rfl) 39 (.tmp 66) rfl (.pointer (some ⟨g', o' + i * 2 + 1, none⟩)) (by simp [Act.eval]) (.slice (some ⟨gt', ot', none⟩) k1 dd') (fun W hW => load_one' (Try.agg_ts W) (((below_step HW1.out hW).cell (p := ⟨g', o' + i * 2 + 1, none⟩) HYl2.out).trans HYc.out))) (by assumption) ?_
          change wpAnyH _ _ _ _ _ _ _ (Act.put _ (some (67 : Nat)) (.slice (some ⟨gt', ot', none⟩) k1 dd')) _
          simp only [Act.put, List.setIfInBounds_toArray, List.set_cons_zero, List.set_cons_succ]
          refine wpAnyH_take (i := 7) (v := (.int .i64 (j : Int))) rfl (by kernel_rfl) (by kernel_rfl) (by kernel_rfl) (fun _ _ _ h => h) (Or.inl ⟨by kernel_rfl, fun w hSw => ?_⟩) (by assumption) ?_
          · (try dsimp only at hSw); go_simp <;> (try rfl)
          change wpAnyH _ _ _ _ _ _ _ (Act.put _ (some (68 : Nat)) (.int .i64 (j : Int))) _
          simp only [Act.put, List.setIfInBounds_toArray, List.set_cons_zero, List.set_cons_succ]
          refine wpAnyH_take (i := 8) (v := (.pointer (some ⟨gt', ot' + j * 32, none⟩))) rfl (by kernel_rfl) (by kernel_rfl) (by kernel_rfl) (fun _ _ _ h => h) (Or.inl ⟨by kernel_rfl, fun w hSw => ?_⟩) (by assumption) ?_
          · (try dsimp only at hSw); go_simp <;> (try rfl)
          change wpAnyH _ _ _ _ _ _ _ (Act.put _ (some (69 : Nat)) (.pointer (some ⟨gt', ot' + j * 32, none⟩))) _
          simp only [Act.put, List.setIfInBounds_toArray, List.set_cons_zero, List.set_cons_succ]
          refine wpAnyH_take (i := 9) (v := (.agg (vs t).toArray)) rfl (by kernel_rfl) (by kernel_rfl) (by kernel_rfl) (fun _ _ _ h => h) (yieldsIf_load_mid (by kernel_rfl) 80 (.tmp 69) rfl gt' (ot' + j * 32) (by simp [Act.eval]) (vs t) _ (fun W hW => (HTa'.out.through (below_step HW1.out hW)).range HTj'.out) Try.underlying80 rfl (by rw [vs_length, HTl'.out]; kernel_rfl)) (by assumption) ?_
          change wpAnyH _ _ _ _ _ _ _ (Act.put _ (some (70 : Nat)) (.agg (vs t).toArray)) _
          simp only [Act.put, List.setIfInBounds_toArray, List.set_cons_zero, List.set_cons_succ]
          refine wpAnyH_take (i := 10) (v := (.bool false)) rfl (by kernel_rfl) (by kernel_rfl) (by kernel_rfl) (fun _ _ _ h => h) (Or.inl ⟨by kernel_rfl, fun w hSw => ?_⟩) (by assumption) ?_
          · (try dsimp only at hSw); go_simp <;> (try rfl)
          change wpAnyH _ _ _ _ _ _ _ (Act.put _ (some (71 : Nat)) (.bool false)) _
          simp only [Act.put, List.setIfInBounds_toArray, List.set_cons_zero, List.set_cons_succ]
          refine wpAnyH_done (by kernel_rfl) ?_ _
          have HZ := Lib.hid (below_step HW1.out hHeld)
          clear hHeld
          go_wp2
          go_roundw
          case rel => exact ⟨j + 1, by omega, by go_num, take_next HQ.out HTj.out HTj'.out, HZ.out⟩
          case measure => simp [intOf]; omega
        · have hjk : j = k1 := by omega
          subst hjk
          have hte : e.ts = e'.ts := by
            have h3 := HQ.out
            rwa [List.take_of_length_le (by have := HTa.out.len; simp only at this; omega), List.take_of_length_le (by have := HTa'.out.len; simp only at this; omega)] at h3
          have he : e = e' := by
            obtain ⟨e1, e2⟩ := e
            obtain ⟨f1, f2⟩ := e'
            simp only at hte
            have h9 := H1e.out
            simp only at h9
            rw [h9, hte]
          have HPn := Lib.hid (HP.out.trans (allB_next (En.eqb_iff.2 he)))
          clear he hte
          go_wp2
          go_roundw
          case rel => exact ⟨i + 1, by omega, by go_num, HPn.out, HBb.out.through HXi.out, below_step HX2.out HXi.out⟩
          case measure => simp [intOf]; omega
    · have e : l.drop i = [] := List.drop_of_length_le (by have := HI.out.len; omega)
      have e' : k.drop i = [] := List.drop_of_length_le (by have := HJ.out.len; omega)
      rw [e, e'] at hp
      have HF : Hid (bb = true) := Lib.hid (by rw [← HAB.out, hp]; rfl)
      clear hp e e' hx hb2
      go_wp2
      go_ret
      exact ⟨ret_b HF.out.symm, HX.out⟩

end Go.Proofs.Ytfonkdcpghbaoaa
