/-
  The document's With, walked.
-/
import Derived.Test.YtfonkdcpghbaoaaEnW
import Derived.Test.YtfonkdcpghbaoaaEnQ
import Derived.Test.YtfonkdcpghbaoaaRqBy
namespace Go.Proofs.Ytfonkdcpghbaoaa
open Go.RowKit

/-- Endorsements put together in a call's own slice, their tags in memory that stays. -/
theorem es_behind {w w' : World} {Bb : Nat} {A : Option Addr} {n c : Nat} {es : List En} {ss : List Pl} (h : Os w' Bb 41 2 (.slice A n c) (enR es ss)) (ha : AllIn w es ss) (hb : Below w.heap.size w w') : EsIn w' A n es := by
  obtain ⟨A', c', hv, _, _, hs⟩ := h.out
  injection hv with e1 e2 e3
  subst e1
  exact ⟨ss, by rw [e2]; exact hs, ha.through hb⟩

set_option maxHeartbeats 16000000 in
set_option maxRecDepth 100000 in
theorem rwith_any (co : Cr) (es : List En) (A : Option Addr) (n c1 : Nat) (x : En) (B : Option Addr) (m d : Nat) (w : World) (h : EsIn w A n es) (hx : TsIn w (B, m, d) x.ts) (hn : n ≤ 1000) :
    Calls Try.prog 33 #[.agg #[.int .i64 co.cl, .int .i64 co.sp, .int .i64 co.op, .string (ba co.lt), .int .i64 co.a, .int .i64 co.b, .string (ba co.tx), .slice A n c1], .agg #[.int .i64 x.og, .slice B m d]] w (RqOutC w ⟨co, withE es x⟩) := by
  have hz := Try.zero_rq
  have hbq := Try.build_rq
  have HX0 : Hid (Below w.heap.size w (((w.alloc (.cells #[.int .i64 co.cl, .int .i64 co.sp, .int .i64 co.op, .string (ba co.lt), .int .i64 co.a, .int .i64 co.b, .string (ba co.tx), .slice A n c1] 34)).alloc (.cells #[.int .i64 x.og, .slice B m d] 41)).alloc (.cells #[.int .i64 0, .int .i64 0, .int .i64 0, .string (ba []), .int .i64 0, .int .i64 0, .string (ba []), .slice none 0 0] 34))) := Lib.hid ((below2_ w _ _).alloc (below2_ w _ _).size _)
  have H1 : Hid (Blk (((w.alloc (.cells #[.int .i64 co.cl, .int .i64 co.sp, .int .i64 co.op, .string (ba co.lt), .int .i64 co.a, .int .i64 co.b, .string (ba co.tx), .slice A n c1] 34)).alloc (.cells #[.int .i64 x.og, .slice B m d] 41)).alloc (.cells #[.int .i64 0, .int .i64 0, .int .i64 0, .string (ba []), .int .i64 0, .int .i64 0, .string (ba []), .slice none 0 0] 34)) w.heap.size 34 [.int .i64 co.cl, .int .i64 co.sp, .int .i64 co.op, .string (ba co.lt), .int .i64 co.a, .int .i64 co.b, .string (ba co.tx), .slice A n c1]) := Lib.hid (((Blk.fresh rfl rfl).alloc _).alloc _)
  have H2 : Hid (Blk (((w.alloc (.cells #[.int .i64 co.cl, .int .i64 co.sp, .int .i64 co.op, .string (ba co.lt), .int .i64 co.a, .int .i64 co.b, .string (ba co.tx), .slice A n c1] 34)).alloc (.cells #[.int .i64 x.og, .slice B m d] 41)).alloc (.cells #[.int .i64 0, .int .i64 0, .int .i64 0, .string (ba []), .int .i64 0, .int .i64 0, .string (ba []), .slice none 0 0] 34)) (w.heap.size + 1) 41 [.int .i64 x.og, .slice B m d]) := Lib.hid ((Blk.fresh (by simp) rfl).alloc _)
  have H3 : Hid (Blk (((w.alloc (.cells #[.int .i64 co.cl, .int .i64 co.sp, .int .i64 co.op, .string (ba co.lt), .int .i64 co.a, .int .i64 co.b, .string (ba co.tx), .slice A n c1] 34)).alloc (.cells #[.int .i64 x.og, .slice B m d] 41)).alloc (.cells #[.int .i64 0, .int .i64 0, .int .i64 0, .string (ba []), .int .i64 0, .int .i64 0, .string (ba []), .slice none 0 0] 34)) (w.heap.size + 2) 34 [.int .i64 0, .int .i64 0, .int .i64 0, .string (ba []), .int .i64 0, .int .i64 0, .string (ba []), .slice none 0 0]) := Lib.hid (Blk.fresh (by simp) rfl)
  have hs3 : w.heap.size + 3 = (((w.alloc (.cells #[.int .i64 co.cl, .int .i64 co.sp, .int .i64 co.op, .string (ba co.lt), .int .i64 co.a, .int .i64 co.b, .string (ba co.tx), .slice A n c1] 34)).alloc (.cells #[.int .i64 x.og, .slice B m d] 41)).alloc (.cells #[.int .i64 0, .int .i64 0, .int .i64 0, .string (ba []), .int .i64 0, .int .i64 0, .string (ba []), .slice none 0 0] 34)).heap.size := by simp
  have HLn := Lib.hid h.len
  have HI := Lib.hid h
  have HTx := Lib.hid hx
  have HIX := Lib.hid Try.ix_en
  have hrw := rW_with x es
  obtain ⟨R, hR⟩ : ∃ R, withE es x = R := ⟨_, rfl⟩
  rw [hR] at hrw ⊢
  have HRW := Lib.hid hrw
  have k7 := H1.out.cellAt (i := 7) rfl
  clear h hx hR hrw
  go_enter Try.func33, Try.ntmps33
  go_wp2
  generalize (((w.alloc (.cells #[.int .i64 co.cl, .int .i64 co.sp, .int .i64 co.op, .string (ba co.lt), .int .i64 co.a, .int .i64 co.b, .string (ba co.tx), .slice A n c1] 34)).alloc (.cells #[.int .i64 x.og, .slice B m d] 41)).alloc (.cells #[.int .i64 0, .int .i64 0, .int .i64 0, .string (ba []), .int .i64 0, .int .i64 0, .string (ba []), .slice none 0 0] 34)) = W3 at *
  have HS3 := Lib.hid hs3
  clear k7
  go_loopw [5, 15] (fun tv iv wr => ∃ i : Nat, i ≤ n ∧ iv = .int .i64 (i : Int) ∧ tv = .bool ((es.take i).any fun e => e.og == x.og) ∧ Below W3.heap.size W3 wr) (fun _ iv _ => n - (intOf iv).toNat)
  case atStart => exact ⟨0, Nat.zero_le _, rfl, rfl, Below.refl _ _⟩
  case round =>
    obtain ⟨i, hi, rfl, rfl, hx⟩ := hrel
    have HX := Lib.hid hx
    clear hx
    by_cases hlt : i < n
    · obtain ⟨g, o, e, D, k, g2, rfl, hei, _, _, hrx, _⟩ := (HI.out.through (below_step HX0.out HX.out)).at hlt
      have HRx := Lib.hid hrx
      have hix := HIX.out wr g o n c1 i hlt
      have hk0 := ((H2.out.through HX.out).alloc (.cells #[.int .i64 e.og, .slice D k g2] 41)).cellAt (i := 0) rfl
      have HAny : Hid ((es.take (i + 1)).any (fun e => e.og == x.og) = ((es.take i).any (fun e => e.og == x.og) || (e.og == x.og))) := Lib.hid (by rw [List.take_add_one, hei]; simp)
      clear hrx hei
      cases ha : (es.take i).any (fun e => e.og == x.og) with
      | true =>
        rw [ha] at HAny
        clear ha
        go_wp2_with (first
          | (refine wpList_load_mid rfl 41 (.tmp 17) rfl g (o + i * 2) rfl [.int .i64 e.og, .slice D k g2] _ HRx.out Try.underlying41 rfl (by kernel_rfl) ?_))
        go_roundw
        case rel => exact ⟨i + 1, by omega, by go_num, by rw [HAny.out]; rfl, HX.out.alloc HX.out.size _⟩
        case measure => simp [intOf]; omega
      | false =>
        rw [ha, Bool.false_or] at HAny
        clear ha
        go_wp2_with (first
          | (refine wpList_load_mid rfl 41 (.tmp 17) rfl g (o + i * 2) rfl [.int .i64 e.og, .slice D k g2] _ HRx.out Try.underlying41 rfl (by kernel_rfl) ?_))
        go_roundw
        case rel => exact ⟨i + 1, by omega, by go_num, by rw [HAny.out], HX.out.alloc HX.out.size _⟩
        case measure => simp [intOf]; omega
    · have e9 : es.take i = es := List.take_of_length_le (by have := HLn.out; omega)
      rw [e9]
      have k7 := (H1.out.through HX.out).cellAt (i := 7) rfl
      have HRW2 := HRW.out
      obtain ⟨th, hth⟩ : ∃ th, (es.any fun e => e.og == x.og) = th := ⟨_, rfl⟩
      rw [hth] at HRW2 ⊢
      have HRt := Lib.hid HRW2
      clear HRW2 hth e9
      go_wp2
      clear k7
      go_loopw [8, 9, 31] (fun qv pv iv wr => ∃ (i : Nat) (out : List En) (so : List Pl) (pl : Bool) (ov : Value), i ≤ n ∧ iv = .int .i64 (i : Int) ∧ pv = .bool pl ∧ ov = qv ∧ out ++ rW th x pl (es.drop i) = R ∧ out.length = so.length ∧ out.length ≤ 2 * i ∧ AllIn w out so ∧ Os wr W3.heap.size 41 2 ov (enR out so) ∧ Below W3.heap.size W3 wr) (fun _ _ iv _ => n - (intOf iv).toNat)
      case atStart => exact ⟨0, [], [], false, .slice none 0 0, Nat.zero_le _, rfl, rfl, rfl, HRt.out, rfl, Nat.le_refl _, trivial, Os.nil _ _ _ _, HX.out⟩
      case round =>
        obtain ⟨i, out, so, pl, ov, hi, rfl, rfl, rfl, hp, hls, hlo, hao, ho, hx⟩ := hrel
        have HXr := Lib.hid hx
        have HOr := Lib.hid ho
        have HLs := Lib.hid hls
        have HLo := Lib.hid hlo
        have HAo := Lib.hid hao
        have HLr : Hid ((enR out so).length ≤ 2000) := Lib.hid (by rw [enR_len hls]; omega)
        clear hx ho hls hlo hao
        by_cases hlt : i < n
        · obtain ⟨g, o, e, D, k, g2, rfl, _, _, hd, hrx, hte⟩ := HI.out.at hlt
          rw [hd] at hp
          have HRx := Lib.hid (range_through hrx (below_step HX0.out HXr.out))
          have HTe := Lib.hid hte
          have hix := HIX.out wr g o n c1 i hlt
          have HKa := Lib.hid ((H2.out.through HXr.out).alloc (.cells #[.int .i64 e.og, .slice D k g2] 41))
          have hk0 := HKa.out.cellAt (i := 0) rfl
          have HEa : Hid (Blk (wr.alloc (.cells #[.int .i64 e.og, .slice D k g2] 41)) wr.heap.size 41 [.int .i64 e.og, .slice D k g2]) := Lib.hid (Blk.fresh rfl rfl)
          have HOa := Lib.hid (HOr.out.alloc (.cells #[.int .i64 e.og, .slice D k g2] 41))
          have HXa : Hid (Below W3.heap.size W3 (wr.alloc (.cells #[.int .i64 e.og, .slice D k g2] 41))) := Lib.hid (HXr.out.alloc HXr.out.size _)
          have HOw := Lib.hid (fun b hb => (HOr.out.lt b hb).2)
          clear hrx hte hd
          cases pl with
          | true =>
            have HR : Hid (out ++ [e] ++ rW th x true (es.drop (i + 1)) = R) := Lib.hid (by rw [← hp]; rw [rW]; simp)
            clear hp
            go_wp2_with (first
              | (refine wpList_load_mid rfl 41 (.tmp 33) rfl g (o + i * 2) rfl [.int .i64 e.og, .slice D k g2] _ HRx.out Try.underlying41 rfl (by kernel_rfl) ?_)
              | (refine wpList_load_blk rfl 41 (.tmp 11) rfl wr.heap.size rfl 41 [.int .i64 e.og, .slice D k g2] _ HEa.out Try.underlying41 rfl (by kernel_rfl) ?_)
              | (refine wpList_build_el rfl Try.el_en (.tmp 64) rfl [.int .i64 e.og, .slice D k g2] rfl rfl ?_)
              | (at_builtin; refine wpList_append_el rfl Try.el_en (.tmp 63) (.tmp 65) rfl W3.heap.size ov (enR out so) rfl (HOa.out.alloc (.cells #[.int .i64 e.og, .slice D k g2] 41)) (wr.alloc (.cells #[.int .i64 e.og, .slice D k g2] 41)).heap.size [.int .i64 e.og, .slice D k g2] rfl (Blk.fresh rfl rfl) rfl (fun u hu => by simp at hu; rcases hu with rfl | rfl <;> rfl) (by have := HLr.out; (try simp only [List.length_append, List.length_cons, List.length_nil]); omega) (Nat.le_trans HXa.out.size (below1_ (wr.alloc (.cells #[.int .i64 e.og, .slice D k g2] 41)) _).size) ?_; intro vc wc hoc hgc; have HXc : Hid (Below W3.heap.size W3 wc) := Lib.hid ((HXa.out.alloc HXa.out.size (.cells #[.int .i64 e.og, .slice D k g2] 41)).grown hgc (HXa.out.alloc HXa.out.size (.cells #[.int .i64 e.og, .slice D k g2] 41)).size (fun b hb => (HOa.out.lt b hb).1)); have HOc := Lib.hid hoc; clear hoc hgc))
            go_roundw
            case rel => exact ⟨i + 1, out ++ [e], so ++ [(D, k, g2)], true, vc, by omega, by go_num, rfl, rfl, HR.out, by simp [HLs.out], (by simp; have := HLo.out; omega), (HAo.out.append (show AllIn w [e] [(D, k, g2)] from ⟨HTe.out, trivial⟩)), (by rw [enR_snoc HLs.out]; exact HOc.out), HXc.out⟩
            case measure => simp [intOf]; omega
          | false =>
            cases th with
            | true =>
              cases hq : (e.og == x.og) with
              | true =>
                have HR : Hid (out ++ [x] ++ rW true x true (es.drop (i + 1)) = R) := Lib.hid (by rw [← hp]; rw [rW]; simp [hq])
                clear hp
                go_wp2_with (first
                  | (refine wpList_load_mid rfl 41 (.tmp 33) rfl g (o + i * 2) rfl [.int .i64 e.og, .slice D k g2] _ HRx.out Try.underlying41 rfl (by kernel_rfl) ?_)
                  | (refine wpList_load_blk rfl 41 (.tmp 3) rfl (w.heap.size + 1) rfl 41 [.int .i64 x.og, .slice B m d] _ HKa.out Try.underlying41 rfl (by kernel_rfl) ?_)
                  | (refine wpList_build_el rfl Try.el_en (.tmp 59) rfl [.int .i64 x.og, .slice B m d] rfl rfl ?_)
                  | (at_builtin; refine wpList_append_el rfl Try.el_en (.tmp 58) (.tmp 60) rfl W3.heap.size ov (enR out so) rfl (HOa.out.alloc (.cells #[.int .i64 x.og, .slice B m d] 41)) (wr.alloc (.cells #[.int .i64 e.og, .slice D k g2] 41)).heap.size [.int .i64 x.og, .slice B m d] rfl (Blk.fresh rfl rfl) rfl (fun u hu => by simp at hu; rcases hu with rfl | rfl <;> rfl) (by have := HLr.out; (try simp only [List.length_append, List.length_cons, List.length_nil]); omega) (Nat.le_trans HXa.out.size (below1_ (wr.alloc (.cells #[.int .i64 e.og, .slice D k g2] 41)) _).size) ?_; intro vc wc hoc hgc; have HXc : Hid (Below W3.heap.size W3 wc) := Lib.hid ((HXa.out.alloc HXa.out.size (.cells #[.int .i64 x.og, .slice B m d] 41)).grown hgc (HXa.out.alloc HXa.out.size (.cells #[.int .i64 x.og, .slice B m d] 41)).size (fun b hb => (HOa.out.lt b hb).1)); have HOc := Lib.hid hoc; have HEb := Lib.hid ((HEa.out.alloc (.cells #[.int .i64 x.og, .slice B m d] 41)).grown hgc (fun e9 => by have := HOw.out _ e9.symm; omega)); clear hoc hgc))
                go_roundw
                case rel => exact ⟨i + 1, out ++ [x], so ++ [(B, m, d)], true, vc, by omega, by go_num, rfl, rfl, HR.out, by simp [HLs.out], (by simp; have := HLo.out; omega), (HAo.out.append (show AllIn w [x] [(B, m, d)] from ⟨HTx.out, trivial⟩)), (by rw [enR_snoc HLs.out]; exact HOc.out), HXc.out⟩
                case measure => simp [intOf]; omega
              | false =>
                have HR : Hid (out ++ [e] ++ rW true x false (es.drop (i + 1)) = R) := Lib.hid (by rw [← hp]; rw [rW]; simp [hq])
                clear hp
                go_wp2_with (first
                  | (refine wpList_load_mid rfl 41 (.tmp 33) rfl g (o + i * 2) rfl [.int .i64 e.og, .slice D k g2] _ HRx.out Try.underlying41 rfl (by kernel_rfl) ?_)
                  | (refine wpList_load_blk rfl 41 (.tmp 11) rfl wr.heap.size rfl 41 [.int .i64 e.og, .slice D k g2] _ HEa.out Try.underlying41 rfl (by kernel_rfl) ?_)
                  | (refine wpList_build_el rfl Try.el_en (.tmp 64) rfl [.int .i64 e.og, .slice D k g2] rfl rfl ?_)
                  | (at_builtin; refine wpList_append_el rfl Try.el_en (.tmp 63) (.tmp 65) rfl W3.heap.size ov (enR out so) rfl (HOa.out.alloc (.cells #[.int .i64 e.og, .slice D k g2] 41)) (wr.alloc (.cells #[.int .i64 e.og, .slice D k g2] 41)).heap.size [.int .i64 e.og, .slice D k g2] rfl (Blk.fresh rfl rfl) rfl (fun u hu => by simp at hu; rcases hu with rfl | rfl <;> rfl) (by have := HLr.out; (try simp only [List.length_append, List.length_cons, List.length_nil]); omega) (Nat.le_trans HXa.out.size (below1_ (wr.alloc (.cells #[.int .i64 e.og, .slice D k g2] 41)) _).size) ?_; intro vc wc hoc hgc; have HXc : Hid (Below W3.heap.size W3 wc) := Lib.hid ((HXa.out.alloc HXa.out.size (.cells #[.int .i64 e.og, .slice D k g2] 41)).grown hgc (HXa.out.alloc HXa.out.size (.cells #[.int .i64 e.og, .slice D k g2] 41)).size (fun b hb => (HOa.out.lt b hb).1)); have HOc := Lib.hid hoc; clear hoc hgc))
                go_roundw
                case rel => exact ⟨i + 1, out ++ [e], so ++ [(D, k, g2)], false, vc, by omega, by go_num, rfl, rfl, HR.out, by simp [HLs.out], (by simp; have := HLo.out; omega), (HAo.out.append (show AllIn w [e] [(D, k, g2)] from ⟨HTe.out, trivial⟩)), (by rw [enR_snoc HLs.out]; exact HOc.out), HXc.out⟩
                case measure => simp [intOf]; omega
            | false =>
              cases hq : decide (x.og < e.og) with
              | true =>
                have HR : Hid ((out ++ [x]) ++ [e] ++ rW false x true (es.drop (i + 1)) = R) := Lib.hid (by rw [← hp]; rw [rW]; simp [hq])
                clear hp
                go_wp2_with (first
                  | (refine wpList_load_mid rfl 41 (.tmp 33) rfl g (o + i * 2) rfl [.int .i64 e.og, .slice D k g2] _ HRx.out Try.underlying41 rfl (by kernel_rfl) ?_)
                  | (refine wpList_load_blk rfl 41 (.tmp 3) rfl (w.heap.size + 1) rfl 41 [.int .i64 x.og, .slice B m d] _ HKa.out Try.underlying41 rfl (by kernel_rfl) ?_)
                  | (refine wpList_build_el rfl Try.el_en (.tmp 59) rfl [.int .i64 x.og, .slice B m d] rfl rfl ?_)
                  | (at_builtin; refine wpList_append_el rfl Try.el_en (.tmp 58) (.tmp 60) rfl W3.heap.size ov (enR out so) rfl (HOa.out.alloc (.cells #[.int .i64 x.og, .slice B m d] 41)) (wr.alloc (.cells #[.int .i64 e.og, .slice D k g2] 41)).heap.size [.int .i64 x.og, .slice B m d] rfl (Blk.fresh rfl rfl) rfl (fun u hu => by simp at hu; rcases hu with rfl | rfl <;> rfl) (by have := HLr.out; (try simp only [List.length_append, List.length_cons, List.length_nil]); omega) (Nat.le_trans HXa.out.size (below1_ (wr.alloc (.cells #[.int .i64 e.og, .slice D k g2] 41)) _).size) ?_; intro vb wb hob hgb; have HXb : Hid (Below W3.heap.size W3 wb) := Lib.hid ((HXa.out.alloc HXa.out.size (.cells #[.int .i64 x.og, .slice B m d] 41)).grown hgb (HXa.out.alloc HXa.out.size (.cells #[.int .i64 x.og, .slice B m d] 41)).size (fun b hb => (HOa.out.lt b hb).1)); have HOb := Lib.hid hob; have HEb := Lib.hid ((HEa.out.alloc (.cells #[.int .i64 x.og, .slice B m d] 41)).grown hgb (fun e9 => by have := HOw.out _ e9.symm; omega)); clear hob hgb)
                  | (refine wpList_load_blk rfl 41 (.tmp 11) rfl wr.heap.size rfl 41 [.int .i64 e.og, .slice D k g2] _ HEb.out Try.underlying41 rfl (by kernel_rfl) ?_)
                  | (refine wpList_build_el rfl Try.el_en (.tmp 64) rfl [.int .i64 e.og, .slice D k g2] rfl rfl ?_)
                  | (at_builtin; refine wpList_append_el rfl Try.el_en (.tmp 63) (.tmp 65) rfl W3.heap.size vb (enR out so ++ [[.int .i64 x.og, .slice B m d]]) rfl (HOb.out.alloc (.cells #[.int .i64 e.og, .slice D k g2] 41)) wb.heap.size [.int .i64 e.og, .slice D k g2] rfl (Blk.fresh rfl rfl) rfl (fun u hu => by simp at hu; rcases hu with rfl | rfl <;> rfl) (by have := HLr.out; (try simp only [List.length_append, List.length_cons, List.length_nil]); omega) (Nat.le_trans HXb.out.size (below1_ wb _).size) ?_; intro vc wc hoc hgc; have HXc : Hid (Below W3.heap.size W3 wc) := Lib.hid ((HXb.out.alloc HXb.out.size (.cells #[.int .i64 e.og, .slice D k g2] 41)).grown hgc (HXb.out.alloc HXb.out.size (.cells #[.int .i64 e.og, .slice D k g2] 41)).size (fun b hb => (HOb.out.lt b hb).1)); have HOc := Lib.hid hoc; clear hoc hgc))
                go_roundw
                case rel => exact ⟨i + 1, (out ++ [x]) ++ [e], (so ++ [(B, m, d)]) ++ [(D, k, g2)], true, vc, by omega, by go_num, rfl, rfl, HR.out, by simp [HLs.out], (by simp; have := HLo.out; omega), ((HAo.out.append (show AllIn w [x] [(B, m, d)] from ⟨HTx.out, trivial⟩)).append (show AllIn w [e] [(D, k, g2)] from ⟨HTe.out, trivial⟩)), (by rw [enR_snoc (by simp [HLs.out]), enR_snoc HLs.out]; exact HOc.out), HXc.out⟩
                case measure => simp [intOf]; omega
              | false =>
                have HR : Hid (out ++ [e] ++ rW false x false (es.drop (i + 1)) = R) := Lib.hid (by rw [← hp]; rw [rW]; simp [hq])
                clear hp
                go_wp2_with (first
                  | (refine wpList_load_mid rfl 41 (.tmp 33) rfl g (o + i * 2) rfl [.int .i64 e.og, .slice D k g2] _ HRx.out Try.underlying41 rfl (by kernel_rfl) ?_)
                  | (refine wpList_load_blk rfl 41 (.tmp 11) rfl wr.heap.size rfl 41 [.int .i64 e.og, .slice D k g2] _ HEa.out Try.underlying41 rfl (by kernel_rfl) ?_)
                  | (refine wpList_build_el rfl Try.el_en (.tmp 64) rfl [.int .i64 e.og, .slice D k g2] rfl rfl ?_)
                  | (at_builtin; refine wpList_append_el rfl Try.el_en (.tmp 63) (.tmp 65) rfl W3.heap.size ov (enR out so) rfl (HOa.out.alloc (.cells #[.int .i64 e.og, .slice D k g2] 41)) (wr.alloc (.cells #[.int .i64 e.og, .slice D k g2] 41)).heap.size [.int .i64 e.og, .slice D k g2] rfl (Blk.fresh rfl rfl) rfl (fun u hu => by simp at hu; rcases hu with rfl | rfl <;> rfl) (by have := HLr.out; (try simp only [List.length_append, List.length_cons, List.length_nil]); omega) (Nat.le_trans HXa.out.size (below1_ (wr.alloc (.cells #[.int .i64 e.og, .slice D k g2] 41)) _).size) ?_; intro vc wc hoc hgc; have HXc : Hid (Below W3.heap.size W3 wc) := Lib.hid ((HXa.out.alloc HXa.out.size (.cells #[.int .i64 e.og, .slice D k g2] 41)).grown hgc (HXa.out.alloc HXa.out.size (.cells #[.int .i64 e.og, .slice D k g2] 41)).size (fun b hb => (HOa.out.lt b hb).1)); have HOc := Lib.hid hoc; clear hoc hgc))
                go_roundw
                case rel => exact ⟨i + 1, out ++ [e], so ++ [(D, k, g2)], false, vc, by omega, by go_num, rfl, rfl, HR.out, by simp [HLs.out], (by simp; have := HLo.out; omega), (HAo.out.append (show AllIn w [e] [(D, k, g2)] from ⟨HTe.out, trivial⟩)), (by rw [enR_snoc HLs.out]; exact HOc.out), HXc.out⟩
                case measure => simp [intOf]; omega
        · have e9 : es.drop i = [] := List.drop_of_length_le (by have := HLn.out; omega)
          rw [e9] at hp
          have KR1 := Lib.hid (H1.out.through HXr.out)
          have HKr := Lib.hid (H2.out.through HXr.out)
          clear e9
          cases pl with
          | true =>
            have HR : Hid (out = R) := Lib.hid (by rw [← hp, rW]; simp)
            have KR3 := Lib.hid (H3.out.through HXr.out)
            obtain ⟨A7, c7, rfl, hc7, hm7, hs7⟩ := HOr.out.out
            obtain ⟨n7, hn7⟩ : ∃ n7, (enR out so).length = n7 := ⟨_, rfl⟩
            have HOq : Hid (Os wr W3.heap.size 41 2 (.slice A7 n7 c7) (enR out so)) := Lib.hid (by rw [← hn7]; exact HOr.out)
            rw [hn7] at hc7 ⊢
            have HC7 := Lib.hid (And.intro hc7 hm7)
            have HAq := Lib.hid (HAo.out.through (below_step HX0.out HXr.out))
            have hgl : w.heap.size + 2 < W3.heap.size := by have := HS3.out; omega
            clear hp hc7 hm7 hs7 hn7 HOr
            go_wp2_with (first
              | (refine wpList_load_mid rfl 23 (.tmp 74) rfl w.heap.size 0 rfl [.int .i64 co.cl, .int .i64 co.sp, .int .i64 co.op, .string (ba co.lt), .int .i64 co.a, .int .i64 co.b, .string (ba co.tx)] _ (Blk.front (post := [.slice A n c1]) KR1.out) Try.underlying23 rfl (by kernel_rfl) ?_)
              | (refine wpList_store_blk rfl 34 (.tmp 4) (.tmp 77) rfl (w.heap.size + 2) [.int .i64 co.cl, .int .i64 co.sp, .int .i64 co.op, .string (ba co.lt), .int .i64 co.a, .int .i64 co.b, .string (ba co.tx), .slice A7 n7 c7] rfl rfl 34 [.int .i64 0, .int .i64 0, .int .i64 0, .string (ba []), .int .i64 0, .int .i64 0, .string (ba []), .slice none 0 0] KR3.out (by kernel_rfl) rfl (one8 _ _ _ _ _ _ _ _ _ _) ?_; intro wy hby hgy; have HGy := Lib.hid hgy; have HBy := Lib.hid hby; have HXy : Hid (Below w.heap.size w wy) := Lib.hid ((below_step HX0.out HXr.out).grown hgy (below_step HX0.out HXr.out).size (fun k hk => by have := Option.some.inj hk; omega)); clear hby hgy))
            (try simp only [Exit.inBlock, Exit.then]); refine bodyPost_ret (results_cell_row_0 rfl _ _ (w.heap.size + 2) 34 _ (0, 0) _ rfl HBy.out Try.underlying34 rfl (by kernel_rfl)) rfl ?_
            exact ⟨A7, n7, c7, rfl, by rw [← HR.out]; exact es_behind (HOq.out.far HGy.out hgl) HAo.out HXy.out, HC7.out.1, HC7.out.2, HXy.out⟩
          | false =>
            have HR : Hid (out ++ [x] = R) := Lib.hid (by rw [← hp, rW]; simp)
            clear hp
            have hgl : w.heap.size + 2 < W3.heap.size := by have := HS3.out; omega
            go_wp2_with (first
              | (refine wpList_load_blk rfl 41 (.tmp 3) rfl (w.heap.size + 1) rfl 41 [.int .i64 x.og, .slice B m d] _ HKr.out Try.underlying41 rfl (by kernel_rfl) ?_)
              | (refine wpList_build_el rfl Try.el_en (.tmp 71) rfl [.int .i64 x.og, .slice B m d] rfl rfl ?_)
              | (at_builtin; refine wpList_append_el rfl Try.el_en (.tmp 70) (.tmp 72) rfl W3.heap.size ov (enR out so) rfl (HOr.out.alloc (.cells #[.int .i64 x.og, .slice B m d] 41)) wr.heap.size [.int .i64 x.og, .slice B m d] rfl (Blk.fresh rfl rfl) rfl (fun u hu => by simp at hu; rcases hu with rfl | rfl <;> rfl) (by have := HLr.out; (try simp only [List.length_append, List.length_cons, List.length_nil]); omega) (Nat.le_trans HXr.out.size (below1_ wr _).size) ?_; intro vc wc hoc hgc; have HXc : Hid (Below W3.heap.size W3 wc) := Lib.hid ((HXr.out.alloc HXr.out.size (.cells #[.int .i64 x.og, .slice B m d] 41)).grown hgc (HXr.out.alloc HXr.out.size (.cells #[.int .i64 x.og, .slice B m d] 41)).size (fun b hb => (HOr.out.lt b hb).1)); have HOc := Lib.hid hoc; obtain ⟨A7, c7, rfl, hc7, hm7, _⟩ := hoc.out; have HOq : Hid (Os wc W3.heap.size 41 2 (.slice A7 ((enR out so).length + 1) c7) (enR out so ++ ([[.int .i64 x.og, .slice B m d]] : List (List Value)))) := Lib.hid (by rw [show (enR out so ++ ([[.int .i64 x.og, .slice B m d]] : List (List Value))).length = (enR out so).length + 1 by simp] at hoc; exact hoc); have HC7 := Lib.hid (And.intro hc7 hm7); clear hc7 hm7; clear hoc hgc)
              | (refine wpList_load_mid rfl 23 (.tmp 74) rfl w.heap.size 0 rfl [.int .i64 co.cl, .int .i64 co.sp, .int .i64 co.op, .string (ba co.lt), .int .i64 co.a, .int .i64 co.b, .string (ba co.tx)] _ (Blk.front (post := [.slice A n c1]) (H1.out.through HXc.out)) Try.underlying23 rfl (by kernel_rfl) ?_)
              | (refine wpList_store_blk rfl 34 (.tmp 4) (.tmp 77) rfl (w.heap.size + 2) [.int .i64 co.cl, .int .i64 co.sp, .int .i64 co.op, .string (ba co.lt), .int .i64 co.a, .int .i64 co.b, .string (ba co.tx), .slice A7 ((enR out so).length + 1) c7] rfl rfl 34 [.int .i64 0, .int .i64 0, .int .i64 0, .string (ba []), .int .i64 0, .int .i64 0, .string (ba []), .slice none 0 0] (H3.out.through HXc.out) (by kernel_rfl) rfl (one8 _ _ _ _ _ _ _ _ _ _) ?_; intro wy hby hgy; have HGy := Lib.hid hgy; have HBy := Lib.hid hby; have HXy : Hid (Below w.heap.size w wy) := Lib.hid ((below_step HX0.out HXc.out).grown hgy (below_step HX0.out HXc.out).size (fun k hk => by have := Option.some.inj hk; omega)); clear hby hgy))
            (try simp only [Exit.inBlock, Exit.then]); refine bodyPost_ret (results_cell_row_0 rfl _ _ (w.heap.size + 2) 34 _ (0, 0) _ rfl HBy.out Try.underlying34 rfl (by kernel_rfl)) rfl ?_
            have hls2 := HLs.out
            exact ⟨A7, _, c7, rfl, by rw [← HR.out]; exact es_behind (ss := so ++ [(B, m, d)]) (by rw [enR_snoc hls2]; exact HOq.out.far HGy.out hgl) (HAo.out.append (show AllIn w [x] [(B, m, d)] from ⟨HTx.out, trivial⟩)) HXy.out, by have h9 := HC7.out.1; simpa using h9, HC7.out.2, HXy.out⟩

end Go.Proofs.Ytfonkdcpghbaoaa
