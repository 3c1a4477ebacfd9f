/-
  LetterLives, walked.
-/
import Derived.Test.YtjdglfjbfejcdaaDoorLL
namespace Go.Proofs.YtjdglfjbfejcdaaDoor
open Go.RowKit

theorem Led.only {w w' : World} {g : Nat} (h : Led w) (hg : w.grownBy w' (some g)) (hne : 0 ≠ g) : Led w' := fun i hi => hg.cell (h i hi) (by simpa using hne)
set_option maxHeartbeats 16000000 in
set_option maxRecDepth 100000 in
theorem llives_any (L : Option Addr) (m cl : Nat) (w : World) (hs : Sts w L m) (hl : Led w) : Calls Tryd.prog 4 #[.slice L m cl] w fun e w' => e = .returned (.bool true) ∧ Below w.heap.size w w' := by
  have HL := Lib.hid hl
  have HS := Lib.hid hs
  have hsz := ba_size
  have hli := ba_list
  clear hl hs
  by_cases hm : 200 < m
  · have hd : decide (200 < (m : Int)) = true := by simp; omega
    go_enter Tryd.func4, Tryd.ntmps4
    go_wp2_with (go_at_call 5; (with_reducible refine (fixed_any _ HL.out).mono ?_); rintro e w1 ⟨rfl, hb⟩; have HX1 := Lib.hid hb; have HL1 := Lib.hid (HL.out.through hb); clear hb)
    go_ret
    exact ⟨rfl, HX1.out⟩
  have hd : decide (200 < (m : Int)) = false := by simp; omega
  have hix := Tryd.run_index_st
  have hbx := Tryd.build_x
  have hbn := Tryd.build_no
  have hz := Tryd.zero_lt
  have hn110 : (⟨#[110]⟩ : ByteArray) = ba [110] := rfl
  have HIX := Lib.hid hix
  clear hix
  go_enter Tryd.func4, Tryd.ntmps4
  go_wp2_with (go_at_call 5; (with_reducible refine (fixed_any _ HL.out).mono ?_); rintro e w1 ⟨rfl, hb⟩; have HX1 := Lib.hid hb; have HL1 := Lib.hid (HL.out.through hb); clear hb)
  go_loopw [16] (fun iv wr => ∃ (i : Nat) (x : Lt), i ≤ m ∧ iv = .int .i64 i ∧ Good x ∧ Blk wr w1.heap.size 23 [.string (ba x.nm), .int .i64 x.st, .int .i64 x.am, .int .i64 x.du, .string (ba x.po), .string (ba x.pa)] ∧ Led wr ∧ Below w.heap.size w wr) (fun iv _ => m - (intOf iv).toNat)
  case atStart => exact ⟨0, ⟨[110], 0, 0, 0, [], []⟩, Nat.zero_le _, rfl, good_first, Blk.fresh rfl rfl, HL1.out.alloc _, HX1.out.alloc HX1.out.size _⟩
  case round =>
    obtain ⟨i, x, hi, rfl, hg, hb, hlr, hx⟩ := hrel
    have HX := Lib.hid hx
    have HB := Lib.hid hb
    have HLr := Lib.hid hlr
    have HG := Lib.hid hg
    clear hx hb hlr hg
    by_cases hlt : i < m
    · obtain ⟨g, o, rfl, hc⟩ := (HS.out.through HX.out) (by omega)
      obtain ⟨op, a, b, t, hc⟩ := hc i hlt
      have HC := Lib.hid hc
      have hix := HIX.out wr g o m cl i hlt
      clear hc
      by_cases hlen : 500 < t.length
      · go_wp2_with (first
          | (refine wpList_load_mid rfl 33 (.tmp 18) rfl g (o + i * 4) rfl [.int .i64 op, .int .i64 a, .int .i64 b, .string (ba t)] _ HC.out Tryd.underlying33 rfl (by kernel_rfl) ?_))
        go_ret
        exact ⟨rfl, HX.out.alloc HX.out.size _⟩
      have hp : ∀ W, Led W → Calls Tryd.prog 6 #[x.val, .int .i64 op, .int .i64 a, .int .i64 b, .string (ba t)] W fun e w' => e = .returned (ltE (stepL x op a b t)) ∧ Below W.heap.size W w' := fun W h => step_any x op a b t W h
      have ho : ∀ W, Led W → Calls Tryd.prog 11 #[.int .i64 x.st] W fun e w' => e = .returned (.bool (overL x.st)) ∧ w' = W := fun W h => over_any x.st W h
      have hk : ∀ W, Led W → Calls Tryd.prog 10 #[.int .i64 x.st, .int .i64 op] W fun e w' => e = .returned (.bool (!(nextL x.st op == 0))) ∧ w' = W := fun W h => can_any x.st op W h
      by_cases he : (stepL x op a b t).2 = 0
      · have hov : overL x.st = false := by
          cases h : overL x.st
          · rfl
          · exact absurd he (step_over h)
        obtain ⟨g1, g2, g3, g4, g5, g6⟩ := step_good HG.out he
        unfold ltE at hp
        rw [he] at hp
        rw [hov] at ho
        generalize (stepL x op a b t).1 = y at *
        obtain ⟨ynm, yst, yam, ydu, ypo, ypa⟩ := y
        simp only at g1 g2 g3 g4 g5 g6
        subst g1
        unfold Lt.val at hp
        simp only at hp
        have f1 : decide (yam < 1) = false := by simp; omega
        have f2 : decide (1099511627776 < yam) = false := by simp; omega
        have f3 : decide (yst < 1) = false := by simp; omega
        have f4 : decide (7 < yst) = false := by simp; omega
        have f5 : decide (ydu < 0) = false := by simp; omega
        have HP := Lib.hid hp
        have HO := Lib.hid ho
        clear hp ho hk he hov
        go_wp2_with (first
          | (refine wpList_load_mid rfl 33 (.tmp 18) rfl g (o + i * 4) rfl [.int .i64 op, .int .i64 a, .int .i64 b, .string (ba t)] _ HC.out Tryd.underlying33 rfl (by kernel_rfl) ?_)
          | (refine wpList_load_blk rfl 23 (.tmp 3) rfl w1.heap.size rfl 23 [.string (ba x.nm), .int .i64 x.st, .int .i64 x.am, .int .i64 x.du, .string (ba x.po), .string (ba x.pa)] _ (HB.out.alloc _) Tryd.underlying23 rfl (by kernel_rfl) ?_)
          | (go_at_call 6; (with_reducible refine (HP.out _ (HLr.out.alloc (.cells #[.int .i64 op, .int .i64 a, .int .i64 b, .string (ba t)] 33))).mono ?_); rintro e w2 ⟨rfl, hb⟩; have HX2 := Lib.hid ((below_step (HX.out.alloc HX.out.size (.cells #[.int .i64 op, .int .i64 a, .int .i64 b, .string (ba t)] 33)) hb).alloc (below_step (HX.out.alloc HX.out.size (.cells #[.int .i64 op, .int .i64 a, .int .i64 b, .string (ba t)] 33)) hb).size (.cells #[.string (ba [110]), .int .i64 yst, .int .i64 yam, .int .i64 ydu, .string (ba ypo), .string (ba ypa)] 23)); have HL2 := Lib.hid (((HLr.out.alloc (.cells #[.int .i64 op, .int .i64 a, .int .i64 b, .string (ba t)] 33)).through hb).alloc (.cells #[.string (ba [110]), .int .i64 yst, .int .i64 yam, .int .i64 ydu, .string (ba ypo), .string (ba ypa)] 23)); have HB2 := Lib.hid (((HB.out.alloc (.cells #[.int .i64 op, .int .i64 a, .int .i64 b, .string (ba t)] 33)).through hb).alloc (.cells #[.string (ba [110]), .int .i64 yst, .int .i64 yam, .int .i64 ydu, .string (ba ypo), .string (ba ypa)] 23)); have HS2 : Hid (Blk (w2.alloc (.cells #[.string (ba [110]), .int .i64 yst, .int .i64 yam, .int .i64 ydu, .string (ba ypo), .string (ba ypa)] 23)) wr.heap.size 33 [.int .i64 op, .int .i64 a, .int .i64 b, .string (ba t)]) := Lib.hid (((Blk.fresh rfl rfl : Blk (wr.alloc (.cells #[.int .i64 op, .int .i64 a, .int .i64 b, .string (ba t)] 33)) wr.heap.size 33 [.int .i64 op, .int .i64 a, .int .i64 b, .string (ba t)]).through hb).alloc (.cells #[.string (ba [110]), .int .i64 yst, .int .i64 yam, .int .i64 ydu, .string (ba ypo), .string (ba ypa)] 23)); have x1 := HB2.out.cellAt (i := 1) rfl; have s0 := HS2.out.cellAt (i := 0) rfl; clear hb)
          | (go_at_call 11; (with_reducible refine (HO.out _ HL2.out).mono ?_); rintro e w3 ⟨rfl, rfl⟩)
          | (refine wpList_store_blk rfl 23 (.tmp 3) (.tmp 84) rfl w1.heap.size [.string (ba [110]), .int .i64 yst, .int .i64 yam, .int .i64 ydu, .string (ba ypo), .string (ba ypa)] rfl rfl 23 [.string (ba x.nm), .int .i64 x.st, .int .i64 x.am, .int .i64 x.du, .string (ba x.po), .string (ba x.pa)] HB2.out (by kernel_rfl) rfl (one6 _ _ _ _ _ _) ?_; intro wb hbb hgb; have HBb := Lib.hid hbb; have HXb : Hid (Below w.heap.size w wb) := Lib.hid (HX2.out.grown hgb HX2.out.size (fun k hk => by have := Option.some.inj hk; have := HX1.out.size; omega)); have HLb : Hid (Led wb) := Lib.hid (HL2.out.only hgb (by have := HL1.out.lt; omega)); clear hbb hgb))
        go_roundw
        case rel => exact ⟨i + 1, ⟨[110], yst, yam, ydu, ypo, ypa⟩, by omega, by go_num, ⟨rfl, .inr ⟨g2, g3, g6⟩⟩, HBb.out, HLb.out, HXb.out⟩
        case measure => simp [intOf]; omega
      · unfold ltE at hp
        rw [step_no he] at hp
        have heb := beq_nope he
        generalize (stepL x op a b t).2 = e at *
        unfold Lt.val Lt.no at hp
        simp only at hp
        have HP := Lib.hid hp
        clear hp he
        cases hov : overL x.st <;> rw [hov] at ho
        · have HO := Lib.hid ho
          clear ho hk hov
          go_wp2_with (first
            | (refine wpList_load_mid rfl 33 (.tmp 18) rfl g (o + i * 4) rfl [.int .i64 op, .int .i64 a, .int .i64 b, .string (ba t)] _ HC.out Tryd.underlying33 rfl (by kernel_rfl) ?_)
            | (refine wpList_load_blk rfl 23 (.tmp 3) rfl w1.heap.size rfl 23 [.string (ba x.nm), .int .i64 x.st, .int .i64 x.am, .int .i64 x.du, .string (ba x.po), .string (ba x.pa)] _ (HB.out.alloc _) Tryd.underlying23 rfl (by kernel_rfl) ?_)
            | (go_at_call 6; (with_reducible refine (HP.out _ (HLr.out.alloc (.cells #[.int .i64 op, .int .i64 a, .int .i64 b, .string (ba t)] 33))).mono ?_); rintro e w2 ⟨rfl, hb⟩; have HX2 := Lib.hid ((below_step (HX.out.alloc HX.out.size (.cells #[.int .i64 op, .int .i64 a, .int .i64 b, .string (ba t)] 33)) hb).alloc (below_step (HX.out.alloc HX.out.size (.cells #[.int .i64 op, .int .i64 a, .int .i64 b, .string (ba t)] 33)) hb).size (.cells #[.string (ba []), .int .i64 0, .int .i64 0, .int .i64 0, .string (ba []), .string (ba [])] 23)); have HL2 := Lib.hid (((HLr.out.alloc (.cells #[.int .i64 op, .int .i64 a, .int .i64 b, .string (ba t)] 33)).through hb).alloc (.cells #[.string (ba []), .int .i64 0, .int .i64 0, .int .i64 0, .string (ba []), .string (ba [])] 23)); have HB2 := Lib.hid (((HB.out.alloc (.cells #[.int .i64 op, .int .i64 a, .int .i64 b, .string (ba t)] 33)).through hb).alloc (.cells #[.string (ba []), .int .i64 0, .int .i64 0, .int .i64 0, .string (ba []), .string (ba [])] 23)); have HS2 : Hid (Blk (w2.alloc (.cells #[.string (ba []), .int .i64 0, .int .i64 0, .int .i64 0, .string (ba []), .string (ba [])] 23)) wr.heap.size 33 [.int .i64 op, .int .i64 a, .int .i64 b, .string (ba t)]) := Lib.hid (((Blk.fresh rfl rfl : Blk (wr.alloc (.cells #[.int .i64 op, .int .i64 a, .int .i64 b, .string (ba t)] 33)) wr.heap.size 33 [.int .i64 op, .int .i64 a, .int .i64 b, .string (ba t)]).through hb).alloc (.cells #[.string (ba []), .int .i64 0, .int .i64 0, .int .i64 0, .string (ba []), .string (ba [])] 23)); have x1 := HB2.out.cellAt (i := 1) rfl; have s0 := HS2.out.cellAt (i := 0) rfl; clear hb)
            | (go_at_call 11; (with_reducible refine (HO.out _ HL2.out).mono ?_); rintro e w3 ⟨rfl, rfl⟩))
          go_roundw
          case rel => exact ⟨i + 1, x, by omega, by go_num, HG.out, HB2.out, HL2.out, HX2.out⟩
          case measure => simp [intOf]; omega
        · rw [over_next op hov] at hk
          have HO := Lib.hid ho
          have HK := Lib.hid hk
          clear ho hk hov
          go_wp2_with (first
            | (refine wpList_load_mid rfl 33 (.tmp 18) rfl g (o + i * 4) rfl [.int .i64 op, .int .i64 a, .int .i64 b, .string (ba t)] _ HC.out Tryd.underlying33 rfl (by kernel_rfl) ?_)
            | (refine wpList_load_blk rfl 23 (.tmp 3) rfl w1.heap.size rfl 23 [.string (ba x.nm), .int .i64 x.st, .int .i64 x.am, .int .i64 x.du, .string (ba x.po), .string (ba x.pa)] _ (HB.out.alloc _) Tryd.underlying23 rfl (by kernel_rfl) ?_)
            | (go_at_call 6; (with_reducible refine (HP.out _ (HLr.out.alloc (.cells #[.int .i64 op, .int .i64 a, .int .i64 b, .string (ba t)] 33))).mono ?_); rintro e w2 ⟨rfl, hb⟩; have HX2 := Lib.hid ((below_step (HX.out.alloc HX.out.size (.cells #[.int .i64 op, .int .i64 a, .int .i64 b, .string (ba t)] 33)) hb).alloc (below_step (HX.out.alloc HX.out.size (.cells #[.int .i64 op, .int .i64 a, .int .i64 b, .string (ba t)] 33)) hb).size (.cells #[.string (ba []), .int .i64 0, .int .i64 0, .int .i64 0, .string (ba []), .string (ba [])] 23)); have HL2 := Lib.hid (((HLr.out.alloc (.cells #[.int .i64 op, .int .i64 a, .int .i64 b, .string (ba t)] 33)).through hb).alloc (.cells #[.string (ba []), .int .i64 0, .int .i64 0, .int .i64 0, .string (ba []), .string (ba [])] 23)); have HB2 := Lib.hid (((HB.out.alloc (.cells #[.int .i64 op, .int .i64 a, .int .i64 b, .string (ba t)] 33)).through hb).alloc (.cells #[.string (ba []), .int .i64 0, .int .i64 0, .int .i64 0, .string (ba []), .string (ba [])] 23)); have HS2 : Hid (Blk (w2.alloc (.cells #[.string (ba []), .int .i64 0, .int .i64 0, .int .i64 0, .string (ba []), .string (ba [])] 23)) wr.heap.size 33 [.int .i64 op, .int .i64 a, .int .i64 b, .string (ba t)]) := Lib.hid (((Blk.fresh rfl rfl : Blk (wr.alloc (.cells #[.int .i64 op, .int .i64 a, .int .i64 b, .string (ba t)] 33)) wr.heap.size 33 [.int .i64 op, .int .i64 a, .int .i64 b, .string (ba t)]).through hb).alloc (.cells #[.string (ba []), .int .i64 0, .int .i64 0, .int .i64 0, .string (ba []), .string (ba [])] 23)); have x1 := HB2.out.cellAt (i := 1) rfl; have s0 := HS2.out.cellAt (i := 0) rfl; clear hb)
            | (go_at_call 11; (with_reducible refine (HO.out _ HL2.out).mono ?_); rintro e w3 ⟨rfl, rfl⟩)
            | (go_at_call 10; (with_reducible refine (HK.out _ HL2.out).mono ?_); rintro e w3 ⟨rfl, rfl⟩))
          go_roundw
          case rel => exact ⟨i + 1, x, by omega, by go_num, HG.out, HB2.out, HL2.out, HX2.out⟩
          case measure => simp [intOf]; omega
    · go_wp2
      go_ret
      exact ⟨rfl, HX.out⟩

end Go.Proofs.YtjdglfjbfejcdaaDoor
