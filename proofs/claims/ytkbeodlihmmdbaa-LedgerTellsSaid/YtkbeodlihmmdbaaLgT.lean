/-
  The document's Told, walked.
-/
import Derived.Test.YtkbeodlihmmdbaaLgW
import Derived.Laws.Cover1
namespace Go.Proofs.Ytkbeodlihmmdbaa
open Go.RowKit

set_option maxHeartbeats 16000000 in
set_option maxRecDepth 100000 in
theorem rtold_any (l : Lg) (x : Oc) (A : Option Addr) (n c : Nat) (B : Option Addr) (m d : Nat) (w : World) (h : LgIn w A n B m l) (hn : m ≤ 1000) :
    Calls Try.prog 12 #[l.val A n c B m d, .agg #[.int .i64 x.cl, .int .i64 x.sp, .int .i64 x.rs]] w (LgOut w (toldL l x)) := by
  have hli := ba_list
  have hz := Try.zero_lg
  have hzl := Try.zero_oc
  have hbn := Try.build_lg
  have HI := Lib.hid h
  unfold toldL
  have hf : ∀ W, LgIn W A n B m l → Calls Try.prog 16 #[l.val A n c B m d, .int .i64 x.cl] W fun e w' => e = .returned (.tuple #[.agg (lastR (lastL x.cl l.os)).1.cells.toArray, .bool (lastL x.cl l.os).isSome]) ∧ Below W.heap.size W w' := fun W hW => by
    have := rlast_any l x.cl A n c B m d W hW (by omega)
    have e2 : (lastR (lastL x.cl l.os)).2 = (lastL x.cl l.os).isSome := by cases lastL x.cl l.os <;> rfl
    rw [e2] at this
    exact this
  have hlen : (putO (lastL x.cl l.os).isSome x l.os).length ≤ m + 1 := by have := putO_len (lastL x.cl l.os).isSome x l.os; have := h.len; omega
  generalize (lastL x.cl l.os).isSome = th at *
  generalize (lastR (lastL x.cl l.os)).1 = f at *
  obtain ⟨r, hr⟩ : ∃ r, putO th x l.os = r := ⟨_, rfl⟩
  rw [hr] at hlen ⊢
  have HR := Lib.hid hr
  unfold Lg.val Oc.cells at hf
  unfold Lg.val
  have HF := Lib.hid hf
  have HIX := Lib.hid Try.ix_oc
  clear h hf hr
  go_enter Try.func12, Try.ntmps12
  go_wp2_with (first
    | (refine wpList_load_blk rfl 25 (.tmp 2) rfl w.heap.size rfl 25 [.int .i64 l.sq, .int .i64 l.tt, .slice A n c, .slice B m d] _ (by exact ((Blk.fresh rfl rfl : Blk (w.alloc (.cells #[.int .i64 l.sq, .int .i64 l.tt, .slice A n c, .slice B m d] 25)) w.heap.size 25 [.int .i64 l.sq, .int .i64 l.tt, .slice A n c, .slice B m d]).alloc _).alloc _) Try.underlying25 rfl (by kernel_rfl) ?_)
    | (go_at_call 16; (with_reducible refine (HF.out _ (((HI.out.alloc (.cells #[.int .i64 l.sq, .int .i64 l.tt, .slice A n c, .slice B m d] 25)).alloc (.cells #[.int .i64 x.cl, .int .i64 x.sp, .int .i64 x.rs] 30)).alloc (.cells #[.int .i64 0, .int .i64 0, .slice none 0 0, .slice none 0 0] 25))).mono ?_); rintro e w4 ⟨rfl, hb⟩; have HX4 : Hid (Below (w.heap.size + 3) (((w.alloc (.cells #[.int .i64 l.sq, .int .i64 l.tt, .slice A n c, .slice B m d] 25)).alloc (.cells #[.int .i64 x.cl, .int .i64 x.sp, .int .i64 x.rs] 30)).alloc (.cells #[.int .i64 0, .int .i64 0, .slice none 0 0, .slice none 0 0] 25)) (w4.alloc (.cells #[.int .i64 f.cl, .int .i64 f.sp, .int .i64 f.rs] 30))) := Lib.hid ((hb.mono (by simp)).alloc (by have := hb.size; simp at this; omega) _); have H1 : Hid (Blk (w4.alloc (.cells #[.int .i64 f.cl, .int .i64 f.sp, .int .i64 f.rs] 30)) w.heap.size 25 [.int .i64 l.sq, .int .i64 l.tt, .slice A n c, .slice B m d]) := Lib.hid (((((Blk.fresh rfl rfl : Blk (w.alloc (.cells #[.int .i64 l.sq, .int .i64 l.tt, .slice A n c, .slice B m d] 25)) w.heap.size 25 [.int .i64 l.sq, .int .i64 l.tt, .slice A n c, .slice B m d]).alloc (.cells #[.int .i64 x.cl, .int .i64 x.sp, .int .i64 x.rs] 30)).alloc (.cells #[.int .i64 0, .int .i64 0, .slice none 0 0, .slice none 0 0] 25)).through hb).alloc _); have H2 : Hid (Blk (w4.alloc (.cells #[.int .i64 f.cl, .int .i64 f.sp, .int .i64 f.rs] 30)) (w.heap.size + 1) 30 [.int .i64 x.cl, .int .i64 x.sp, .int .i64 x.rs]) := Lib.hid ((((Blk.fresh (by simp) rfl : Blk ((w.alloc (.cells #[.int .i64 l.sq, .int .i64 l.tt, .slice A n c, .slice B m d] 25)).alloc (.cells #[.int .i64 x.cl, .int .i64 x.sp, .int .i64 x.rs] 30)) (w.heap.size + 1) 30 [.int .i64 x.cl, .int .i64 x.sp, .int .i64 x.rs]).alloc (.cells #[.int .i64 0, .int .i64 0, .slice none 0 0, .slice none 0 0] 25)).through hb).alloc _); have H3 : Hid (Blk (w4.alloc (.cells #[.int .i64 f.cl, .int .i64 f.sp, .int .i64 f.rs] 30)) (w.heap.size + 2) 25 [.int .i64 0, .int .i64 0, .slice none 0 0, .slice none 0 0]) := Lib.hid (((Blk.fresh (by simp) rfl : Blk (((w.alloc (.cells #[.int .i64 l.sq, .int .i64 l.tt, .slice A n c, .slice B m d] 25)).alloc (.cells #[.int .i64 x.cl, .int .i64 x.sp, .int .i64 x.rs] 30)).alloc (.cells #[.int .i64 0, .int .i64 0, .slice none 0 0, .slice none 0 0] 25)) (w.heap.size + 2) 25 [.int .i64 0, .int .i64 0, .slice none 0 0, .slice none 0 0]).through hb).alloc _); have hs4 : w.heap.size + 3 ≤ w4.heap.size := (by have := hb.size; simp at this; omega); have l2 := H1.out.cellAt (i := 3) rfl; clear hb))
  go_loopw [5, 8, 21] (fun ov pv iv wr => ∃ (i : Nat) (xs : List Oc) (p : Bool), i ≤ m ∧ iv = .int .i64 i ∧ pv = .bool p ∧ Os wr (w4.heap.size + 1) 30 3 ov (xs.map Oc.cells) ∧ xs ++ (if p then l.os.drop i else putO th x (l.os.drop i)) = r ∧ Below (w4.heap.size + 1) (w4.alloc (.cells #[.int .i64 f.cl, .int .i64 f.sp, .int .i64 f.rs] 30)) wr) (fun _ _ iv _ => m - (intOf iv).toNat)
  case atStart => exact ⟨0, [], false, Nat.zero_le _, rfl, rfl, Os.nil _ _ _ _, HR.out, Below.refl _ _⟩
  case round =>
    obtain ⟨i, xs, p, hi, rfl, rfl, ho, hp, hx⟩ := hrel
    have hxl : xs.length ≤ m + 1 := Nat.le_trans (by rw [← hp]; simp) hlen
    have hszr : w4.heap.size + 1 ≤ wr.heap.size := by have := hx.size; simpa using this
    have HX := Lib.hid hx
    have HO := Lib.hid ho
    clear hx ho
    by_cases hlt : i < m
    · obtain ⟨g, o, y, rfl, _, _, hd, hrg⟩ := ((HI.out.alloc (.cells #[.int .i64 l.sq, .int .i64 l.tt, .slice A n c, .slice B m d] 25)).alloc (.cells #[.int .i64 x.cl, .int .i64 x.sp, .int .i64 x.rs] 30) |>.alloc (.cells #[.int .i64 0, .int .i64 0, .slice none 0 0, .slice none 0 0] 25) |>.through (HX4.out.mono (by simp)) |>.through (HX.out.mono (by have := hs4; simp))).oc_at hlt
      rw [hd] at hp
      have HRg := Lib.hid hrg
      have x0 := ((H2.out.below HX.out (by have := hs4; simp; omega)).alloc (.cells #[.int .i64 y.cl, .int .i64 y.sp, .int .i64 y.rs] 30)).cellAt (i := 0) rfl
      have hix := HIX.out wr g o m d i hlt
      clear hrg hd
      cases p
      · simp only [Bool.false_eq_true, if_false, putO] at hp
        cases th
        · simp only [Bool.false_eq_true, if_false] at hp
          by_cases hq : x.cl < y.cl
          · rw [if_pos hq] at hp
            have hb2 : decide (x.cl < y.cl) = true := by simpa using hq
            skip
            have HP := Lib.hid hp
            clear hp
            go_wp2_with (first
              | (refine wpList_load_mid rfl 30 (.tmp 23) rfl g (o + i * 3) rfl [.int .i64 y.cl, .int .i64 y.sp, .int .i64 y.rs] _ HRg.out Try.underlying30 rfl (by kernel_rfl) ?_)
              | (refine wpList_load_blk rfl 30 (.tmp 3) rfl (w.heap.size + 1) rfl 30 [.int .i64 x.cl, .int .i64 x.sp, .int .i64 x.rs] _ (by exact (H2.out.below HX.out (by have := hs4; simp; omega)).alloc _) Try.underlying30 rfl (by kernel_rfl) ?_)
              | (refine wpList_build_el rfl Try.el_oc (.tmp 49) rfl [.int .i64 x.cl, .int .i64 x.sp, .int .i64 x.rs] rfl rfl ?_)
              | (at_builtin; refine wpList_append_el rfl Try.el_oc (.tmp 48) (.tmp 50) rfl (w4.heap.size + 1) _ (xs.map Oc.cells) rfl ((HO.out.alloc (.cells #[.int .i64 y.cl, .int .i64 y.sp, .int .i64 y.rs] 30)).alloc _) _ [.int .i64 x.cl, .int .i64 x.sp, .int .i64 x.rs] rfl (Blk.fresh (by simp) rfl) rfl (fun u hu => by simp at hu; rcases hu with rfl | rfl | rfl <;> rfl) (by (try simp); omega) (by (try simp); omega) ?_; intro v6 w6 ho6 hg6; have HO6 := Lib.hid ho6; have HX6 : Hid (Below (w4.heap.size + 1) (w4.alloc (.cells #[.int .i64 f.cl, .int .i64 f.sp, .int .i64 f.rs] 30)) w6) := Lib.hid (((HX.out.alloc hszr (.cells #[.int .i64 y.cl, .int .i64 y.sp, .int .i64 y.rs] 30)).alloc (by (try simp); omega) _).grown hg6 (by (try simp); omega) (fun b hb => ((HO.out.alloc (.cells #[.int .i64 y.cl, .int .i64 y.sp, .int .i64 y.rs] 30)).lt b hb).1)); have HY6 : Hid (Blk w6 wr.heap.size 30 [.int .i64 y.cl, .int .i64 y.sp, .int .i64 y.rs]) := Lib.hid (((Blk.fresh rfl rfl : Blk (wr.alloc (.cells #[.int .i64 y.cl, .int .i64 y.sp, .int .i64 y.rs] 30)) wr.heap.size 30 [.int .i64 y.cl, .int .i64 y.sp, .int .i64 y.rs]).alloc _).grown hg6 (fun e => by have := (HO.out.lt _ e.symm).2; omega)); have hsz6 : w4.heap.size + 1 ≤ w6.heap.size := (by have := HX6.out.size; simpa using this); clear ho6 hg6)
              | (refine wpList_load_blk rfl 30 (.tmp 10) rfl wr.heap.size rfl 30 [.int .i64 y.cl, .int .i64 y.sp, .int .i64 y.rs] _ HY6.out Try.underlying30 rfl (by kernel_rfl) ?_)
              | (refine wpList_build_el rfl Try.el_oc (.tmp 54) rfl [.int .i64 y.cl, .int .i64 y.sp, .int .i64 y.rs] rfl rfl ?_)
              | (at_builtin; refine wpList_append_el rfl Try.el_oc (.tmp 53) (.tmp 55) rfl (w4.heap.size + 1) _ (xs.map Oc.cells ++ [Oc.cells x]) rfl (HO6.out.alloc _) _ [.int .i64 y.cl, .int .i64 y.sp, .int .i64 y.rs] rfl (Blk.fresh (by simp) rfl) rfl (fun u hu => by simp at hu; rcases hu with rfl | rfl | rfl <;> rfl) (by (try simp); omega) (by (try simp); omega) ?_; intro v7 w7 ho7 hg7; have HO7 := Lib.hid ho7; have HX7 : Hid (Below (w4.heap.size + 1) (w4.alloc (.cells #[.int .i64 f.cl, .int .i64 f.sp, .int .i64 f.rs] 30)) w7) := Lib.hid ((HX6.out.alloc (by (try simp); omega) _).grown hg7 (by (try simp); omega) (fun b hb => (HO6.out.lt b hb).1)); have hsz7 : w4.heap.size + 1 ≤ w7.heap.size := (by have := HX7.out.size; simpa using this); clear ho7 hg7))
            go_roundw
            case rel => exact ⟨i + 1, xs ++ [x] ++ [y], true, by omega, by go_num, rfl, by (repeat rw [List.map_append]); exact HO7.out, by simpa using HP.out, HX7.out⟩
            case measure => simp [intOf]; omega
          · rw [if_neg hq] at hp
            have hb2 : decide (x.cl < y.cl) = false := by simpa using hq
            have HP := Lib.hid hp
            clear hp
            go_wp2_with (first
              | (refine wpList_load_mid rfl 30 (.tmp 23) rfl g (o + i * 3) rfl [.int .i64 y.cl, .int .i64 y.sp, .int .i64 y.rs] _ HRg.out Try.underlying30 rfl (by kernel_rfl) ?_)
              | (refine wpList_build_el rfl Try.el_oc (.tmp 54) rfl [.int .i64 y.cl, .int .i64 y.sp, .int .i64 y.rs] rfl rfl ?_)
              | (at_builtin; refine wpList_append_el rfl Try.el_oc (.tmp 53) (.tmp 55) rfl (w4.heap.size + 1) _ (xs.map Oc.cells) rfl ((HO.out.alloc (.cells #[.int .i64 y.cl, .int .i64 y.sp, .int .i64 y.rs] 30)).alloc _) _ [.int .i64 y.cl, .int .i64 y.sp, .int .i64 y.rs] rfl (Blk.fresh (by simp) rfl) rfl (fun u hu => by simp at hu; rcases hu with rfl | rfl | rfl <;> rfl) (by (try simp); omega) (by (try simp); omega) ?_; intro v6 w6 ho6 hg6; have HO6 := Lib.hid ho6; have HX6 : Hid (Below (w4.heap.size + 1) (w4.alloc (.cells #[.int .i64 f.cl, .int .i64 f.sp, .int .i64 f.rs] 30)) w6) := Lib.hid (((HX.out.alloc hszr (.cells #[.int .i64 y.cl, .int .i64 y.sp, .int .i64 y.rs] 30)).alloc (by (try simp); omega) _).grown hg6 (by (try simp); omega) (fun b hb => ((HO.out.alloc (.cells #[.int .i64 y.cl, .int .i64 y.sp, .int .i64 y.rs] 30)).lt b hb).1)); have hsz6 : w4.heap.size + 1 ≤ w6.heap.size := (by have := HX6.out.size; simpa using this); clear ho6 hg6))
            go_roundw
            case rel => exact ⟨i + 1, xs ++ [y], false, by omega, by go_num, rfl, by (repeat rw [List.map_append]); exact HO6.out, by simpa using HP.out, HX6.out⟩
            case measure => simp [intOf]; omega
        · simp only [if_true] at hp
          by_cases hq : y.cl = x.cl
          · rw [if_pos hq] at hp
            have hb1 : (y.cl == x.cl) = true := by simpa using hq
            have HP := Lib.hid hp
            clear hp hq
            go_wp2_with (first
              | (refine wpList_load_mid rfl 30 (.tmp 23) rfl g (o + i * 3) rfl [.int .i64 y.cl, .int .i64 y.sp, .int .i64 y.rs] _ HRg.out Try.underlying30 rfl (by kernel_rfl) ?_)
              | (refine wpList_load_blk rfl 30 (.tmp 3) rfl (w.heap.size + 1) rfl 30 [.int .i64 x.cl, .int .i64 x.sp, .int .i64 x.rs] _ (by exact (H2.out.below HX.out (by have := hs4; simp; omega)).alloc _) Try.underlying30 rfl (by kernel_rfl) ?_)
              | (refine wpList_build_el rfl Try.el_oc (.tmp 49) rfl [.int .i64 x.cl, .int .i64 x.sp, .int .i64 x.rs] rfl rfl ?_)
              | (at_builtin; refine wpList_append_el rfl Try.el_oc (.tmp 48) (.tmp 50) rfl (w4.heap.size + 1) _ (xs.map Oc.cells) rfl ((HO.out.alloc (.cells #[.int .i64 y.cl, .int .i64 y.sp, .int .i64 y.rs] 30)).alloc _) _ [.int .i64 x.cl, .int .i64 x.sp, .int .i64 x.rs] rfl (Blk.fresh (by simp) rfl) rfl (fun u hu => by simp at hu; rcases hu with rfl | rfl | rfl <;> rfl) (by (try simp); omega) (by (try simp); omega) ?_; intro v6 w6 ho6 hg6; have HO6 := Lib.hid ho6; have HX6 : Hid (Below (w4.heap.size + 1) (w4.alloc (.cells #[.int .i64 f.cl, .int .i64 f.sp, .int .i64 f.rs] 30)) w6) := Lib.hid (((HX.out.alloc hszr (.cells #[.int .i64 y.cl, .int .i64 y.sp, .int .i64 y.rs] 30)).alloc (by (try simp); omega) _).grown hg6 (by (try simp); omega) (fun b hb => ((HO.out.alloc (.cells #[.int .i64 y.cl, .int .i64 y.sp, .int .i64 y.rs] 30)).lt b hb).1)); have HY6 : Hid (Blk w6 wr.heap.size 30 [.int .i64 y.cl, .int .i64 y.sp, .int .i64 y.rs]) := Lib.hid (((Blk.fresh rfl rfl : Blk (wr.alloc (.cells #[.int .i64 y.cl, .int .i64 y.sp, .int .i64 y.rs] 30)) wr.heap.size 30 [.int .i64 y.cl, .int .i64 y.sp, .int .i64 y.rs]).alloc _).grown hg6 (fun e => by have := (HO.out.lt _ e.symm).2; omega)); have hsz6 : w4.heap.size + 1 ≤ w6.heap.size := (by have := HX6.out.size; simpa using this); clear ho6 hg6))
            go_roundw
            case rel => exact ⟨i + 1, xs ++ [x], true, by omega, by go_num, rfl, by (repeat rw [List.map_append]); exact HO6.out, by simpa using HP.out, HX6.out⟩
            case measure => simp [intOf]; omega
          · rw [if_neg hq] at hp
            have hb1 : (y.cl == x.cl) = false := by simpa using hq
            have HP := Lib.hid hp
            clear hp hq
            go_wp2_with (first
              | (refine wpList_load_mid rfl 30 (.tmp 23) rfl g (o + i * 3) rfl [.int .i64 y.cl, .int .i64 y.sp, .int .i64 y.rs] _ HRg.out Try.underlying30 rfl (by kernel_rfl) ?_)
              | (refine wpList_build_el rfl Try.el_oc (.tmp 54) rfl [.int .i64 y.cl, .int .i64 y.sp, .int .i64 y.rs] rfl rfl ?_)
              | (at_builtin; refine wpList_append_el rfl Try.el_oc (.tmp 53) (.tmp 55) rfl (w4.heap.size + 1) _ (xs.map Oc.cells) rfl ((HO.out.alloc (.cells #[.int .i64 y.cl, .int .i64 y.sp, .int .i64 y.rs] 30)).alloc _) _ [.int .i64 y.cl, .int .i64 y.sp, .int .i64 y.rs] rfl (Blk.fresh (by simp) rfl) rfl (fun u hu => by simp at hu; rcases hu with rfl | rfl | rfl <;> rfl) (by (try simp); omega) (by (try simp); omega) ?_; intro v6 w6 ho6 hg6; have HO6 := Lib.hid ho6; have HX6 : Hid (Below (w4.heap.size + 1) (w4.alloc (.cells #[.int .i64 f.cl, .int .i64 f.sp, .int .i64 f.rs] 30)) w6) := Lib.hid (((HX.out.alloc hszr (.cells #[.int .i64 y.cl, .int .i64 y.sp, .int .i64 y.rs] 30)).alloc (by (try simp); omega) _).grown hg6 (by (try simp); omega) (fun b hb => ((HO.out.alloc (.cells #[.int .i64 y.cl, .int .i64 y.sp, .int .i64 y.rs] 30)).lt b hb).1)); have hsz6 : w4.heap.size + 1 ≤ w6.heap.size := (by have := HX6.out.size; simpa using this); clear ho6 hg6))
            go_roundw
            case rel => exact ⟨i + 1, xs ++ [y], false, by omega, by go_num, rfl, by (repeat rw [List.map_append]); exact HO6.out, by simpa using HP.out, HX6.out⟩
            case measure => simp [intOf]; omega
      · simp only [if_true] at hp
        have HP := Lib.hid hp
        clear hp
        go_wp2_with (first
          | (refine wpList_load_mid rfl 30 (.tmp 23) rfl g (o + i * 3) rfl [.int .i64 y.cl, .int .i64 y.sp, .int .i64 y.rs] _ HRg.out Try.underlying30 rfl (by kernel_rfl) ?_)
          | (refine wpList_build_el rfl Try.el_oc (.tmp 54) rfl [.int .i64 y.cl, .int .i64 y.sp, .int .i64 y.rs] rfl rfl ?_)
          | (at_builtin; refine wpList_append_el rfl Try.el_oc (.tmp 53) (.tmp 55) rfl (w4.heap.size + 1) _ (xs.map Oc.cells) rfl ((HO.out.alloc (.cells #[.int .i64 y.cl, .int .i64 y.sp, .int .i64 y.rs] 30)).alloc _) _ [.int .i64 y.cl, .int .i64 y.sp, .int .i64 y.rs] rfl (Blk.fresh (by simp) rfl) rfl (fun u hu => by simp at hu; rcases hu with rfl | rfl | rfl <;> rfl) (by (try simp); omega) (by (try simp); omega) ?_; intro v6 w6 ho6 hg6; have HO6 := Lib.hid ho6; have HX6 : Hid (Below (w4.heap.size + 1) (w4.alloc (.cells #[.int .i64 f.cl, .int .i64 f.sp, .int .i64 f.rs] 30)) w6) := Lib.hid (((HX.out.alloc hszr (.cells #[.int .i64 y.cl, .int .i64 y.sp, .int .i64 y.rs] 30)).alloc (by (try simp); omega) _).grown hg6 (by (try simp); omega) (fun b hb => ((HO.out.alloc (.cells #[.int .i64 y.cl, .int .i64 y.sp, .int .i64 y.rs] 30)).lt b hb).1)); have hsz6 : w4.heap.size + 1 ≤ w6.heap.size := (by have := HX6.out.size; simpa using this); clear ho6 hg6))
        go_roundw
        case rel => exact ⟨i + 1, xs ++ [y], true, by omega, by go_num, rfl, by (repeat rw [List.map_append]); exact HO6.out, by simpa using HP.out, HX6.out⟩
        case measure => simp [intOf]; omega
    · have hl : l.os.drop i = [] := List.drop_of_length_le (by have := HI.out.len; omega)
      rw [hl] at hp
      clear hl
      have HWr : Hid (Below w.heap.size w wr) := Lib.hid (((below3 w (.cells #[.int .i64 l.sq, .int .i64 l.tt, .slice A n c, .slice B m d] 25) (.cells #[.int .i64 x.cl, .int .i64 x.sp, .int .i64 x.rs] 30) (.cells #[.int .i64 0, .int .i64 0, .slice none 0 0, .slice none 0 0] 25)).trans (HX4.out.mono (by omega))).trans (HX.out.mono (by have := hs4; omega)))
      have HOr := HO
      have HXr := HX
      cases p
      · have hq : xs ++ [x] = r := by simpa [putO] using hp
        have HQ := Lib.hid hq
        clear hp hq
        go_wp2_with (first
          | (refine wpList_load_blk rfl 30 (.tmp 3) rfl (w.heap.size + 1) rfl 30 [.int .i64 x.cl, .int .i64 x.sp, .int .i64 x.rs] _ (H2.out.below HX.out (by have := hs4; simp; omega)) Try.underlying30 rfl (by kernel_rfl) ?_)
          | (refine wpList_build_el rfl Try.el_oc (.tmp 61) rfl [.int .i64 x.cl, .int .i64 x.sp, .int .i64 x.rs] rfl rfl ?_)
          | (at_builtin; refine wpList_append_el rfl Try.el_oc (.tmp 60) (.tmp 62) rfl (w4.heap.size + 1) _ (xs.map Oc.cells) rfl (HO.out.alloc _) _ [.int .i64 x.cl, .int .i64 x.sp, .int .i64 x.rs] rfl (Blk.fresh (by simp) rfl) rfl (fun u hu => by simp at hu; rcases hu with rfl | rfl | rfl <;> rfl) (by simp; omega) (by simp; omega) ?_; intro v6 w6 ho6 hg6; have HX6 : Hid (Below (w4.heap.size + 1) (w4.alloc (.cells #[.int .i64 f.cl, .int .i64 f.sp, .int .i64 f.rs] 30)) w6) := Lib.hid ((HX.out.alloc hszr _).grown hg6 (by simp; omega) (fun b hb => (HO.out.lt b hb).1)); have HW6 : Hid (Below w.heap.size w w6) := Lib.hid (((below3 w (.cells #[.int .i64 l.sq, .int .i64 l.tt, .slice A n c, .slice B m d] 25) (.cells #[.int .i64 x.cl, .int .i64 x.sp, .int .i64 x.rs] 30) (.cells #[.int .i64 0, .int .i64 0, .slice none 0 0, .slice none 0 0] 25)).trans (HX4.out.mono (by omega))).trans (HX6.out.mono (by have := hs4; omega))); have hfm := ho6.out'; obtain ⟨A6, n6, c6, rfl, hn6⟩ := hfm; have HO6 := Lib.hid ho6; have HN6 := Lib.hid hn6; clear hn6; clear ho6 hg6)
          | (refine wpList_store_cell rfl 23 (.tmp 65) (.tmp 64) rfl w.heap.size 3 rfl (.slice A6 n6 c6) rfl rfl rfl (fun w => by kernel_rfl) 25 [.int .i64 l.sq, .int .i64 l.tt, .slice A n c, .slice B m d] (H1.out.below HX6.out (by have := hs4; simp; omega)) (by simp) ?_; intro wc hbc hgc; have H1c : Hid (Blk wc w.heap.size 25 [.int .i64 l.sq, .int .i64 l.tt, .slice A n c, .slice A6 n6 c6]) := Lib.hid hbc; have H3c := Lib.hid ((H3.out.below HX6.out (by have := hs4; simp; omega)).grown hgc (by simp)); have HXc : Hid (Below w.heap.size w wc) := Lib.hid (HW6.out.grown hgc HW6.out.size (fun k hk => by have := Option.some.inj hk; omega)); have HOc := Lib.hid (HO6.out.far hgc (by have := hs4; simp; omega)); clear hbc hgc)
          | (refine wpList_load_blk rfl 25 (.tmp 2) rfl w.heap.size rfl 25 [.int .i64 l.sq, .int .i64 l.tt, .slice A n c, .slice A6 n6 c6] _ H1c.out Try.underlying25 rfl (by kernel_rfl) ?_)
          | (refine wpList_store_blk rfl 25 (.tmp 4) (.tmp 66) rfl (w.heap.size + 2) [.int .i64 l.sq, .int .i64 l.tt, .slice A n c, .slice A6 n6 c6] rfl rfl 25 [.int .i64 0, .int .i64 0, .slice none 0 0, .slice none 0 0] H3c.out (by kernel_rfl) rfl (one4 _ _ _ _ _ _ _ _) ?_; intro wd hbd hgd; have HRd := Lib.hid hbd; have HXd : Hid (Below w.heap.size w wd) := Lib.hid (HXc.out.grown hgd HXc.out.size (fun k hk => by have := Option.some.inj hk; omega)); have HOd := Lib.hid (HOc.out.far hgd (by have := hs4; simp; omega)); clear hbd hgd))
        (try simp only [Exit.inBlock, Exit.then]); refine bodyPost_ret (results_cell_row_0 rfl _ _ (w.heap.size + 2) 25 _ (0, 0) _ rfl HRd.out Try.underlying25 rfl (by kernel_rfl)) rfl ?_
        have hS := HOd.out.sl rfl
        have hS2 : Sl wd 3 A6 n6 (r.map Oc.cells) := by rw [← HQ.out, List.map_append]; exact hS
        exact ⟨A, n, c, A6, n6, c6, rfl, ⟨(HI.out.through HXd.out).1, hS2⟩, HXd.out⟩
      · have hq : xs = r := by simpa using hp
        subst hq
        obtain ⟨A6, n6, c6, rfl, hn6⟩ := HO.out.out'
        have HN6 := Lib.hid hn6
        clear hp hn6
        go_wp2_with (first
          | (refine wpList_store_cell rfl 23 (.tmp 65) (.tmp 64) rfl w.heap.size 3 rfl (.slice A6 n6 c6) rfl rfl rfl (fun w => by kernel_rfl) 25 [.int .i64 l.sq, .int .i64 l.tt, .slice A n c, .slice B m d] (H1.out.below HXr.out (by have := hs4; simp; omega)) (by simp) ?_; intro wc hbc hgc; have H1c : Hid (Blk wc w.heap.size 25 [.int .i64 l.sq, .int .i64 l.tt, .slice A n c, .slice A6 n6 c6]) := Lib.hid hbc; have H3c := Lib.hid ((H3.out.below HXr.out (by have := hs4; simp; omega)).grown hgc (by simp)); have HXc : Hid (Below w.heap.size w wc) := Lib.hid (HWr.out.grown hgc HWr.out.size (fun k hk => by have := Option.some.inj hk; omega)); have HOc := Lib.hid (HOr.out.far hgc (by have := hs4; simp; omega)); clear hbc hgc)
          | (refine wpList_load_blk rfl 25 (.tmp 2) rfl w.heap.size rfl 25 [.int .i64 l.sq, .int .i64 l.tt, .slice A n c, .slice A6 n6 c6] _ H1c.out Try.underlying25 rfl (by kernel_rfl) ?_)
          | (refine wpList_store_blk rfl 25 (.tmp 4) (.tmp 66) rfl (w.heap.size + 2) [.int .i64 l.sq, .int .i64 l.tt, .slice A n c, .slice A6 n6 c6] rfl rfl 25 [.int .i64 0, .int .i64 0, .slice none 0 0, .slice none 0 0] H3c.out (by kernel_rfl) rfl (one4 _ _ _ _ _ _ _ _) ?_; intro wd hbd hgd; have HRd := Lib.hid hbd; have HXd : Hid (Below w.heap.size w wd) := Lib.hid (HXc.out.grown hgd HXc.out.size (fun k hk => by have := Option.some.inj hk; omega)); have HOd := Lib.hid (HOc.out.far hgd (by have := hs4; simp; omega)); clear hbd hgd))
        (try simp only [Exit.inBlock, Exit.then]); refine bodyPost_ret (results_cell_row_0 rfl _ _ (w.heap.size + 2) 25 _ (0, 0) _ rfl HRd.out Try.underlying25 rfl (by kernel_rfl)) rfl ?_
        have hS := HOd.out.sl rfl
        exact ⟨A, n, c, A6, n6, c6, rfl, ⟨(HI.out.through HXd.out).1, hS⟩, HXd.out⟩

end Go.Proofs.Ytkbeodlihmmdbaa
