/-
  The program's Same: a closure that calls itself through slices.EqualFunc.
-/
import Derived.Test.YtkildlonenjmaaaF11
namespace Go.Proofs.Ytkildlonenjmaaa
open Go.RowKit

/-- What the closure does with a policy of these, whatever it is held against. -/
def Same1 (k : Fm) : Prop := ∀ (g : Fm) (x : Int) (p q : Nat) (A B : Option Addr) (n c m e' : Nat) (w : World), (k.size : Int) ≤ x → x ≤ 65536 → p ≠ q → k.In w (· ≠ p) A n → g.In w (· ≠ p) B m → Blk w p 3 [.int .i64 x] → Blk w q 46 [.func (.func 49) #[] #[.pointer (some ⟨p, 0, none⟩), .pointer (some ⟨q, 0, none⟩)]] →
    Calls Try.prog 49 #[k.val A n c, g.val B m e', .pointer (some ⟨p, 0, none⟩), .pointer (some ⟨q, 0, none⟩)] w fun e w' => ∃ x' : Int, e = .returned (.bool (k.same g)) ∧ Blk w' p 3 [.int .i64 x'] ∧ x - (k.size : Int) ≤ x' ∧ x' ≤ x ∧ w.grownBy w' (some p)

set_option maxHeartbeats 4000000 in
set_option maxRecDepth 100000 in
theorem eqf_any (ks ls : List Fm) (IH : ∀ k, k ∈ ks → Same1 k) (o a o' a' : Int) (x : Int) (p q : Nat) (A B : Option Addr) (n c m e' : Nat) (w : World) (hx0 : (Fm.sizes ks : Int) ≤ x) (hx1 : x ≤ 65536) (hpq : p ≠ q) (h : (Fm.mk o a ks).In w (· ≠ p) A n) (h' : (Fm.mk o' a' ls).In w (· ≠ p) B m) (hp : Blk w p 3 [.int .i64 x]) (hq : Blk w q 46 [.func (.func 49) #[] #[.pointer (some ⟨p, 0, none⟩), .pointer (some ⟨q, 0, none⟩)]]) :
    Calls Try.prog 50 #[.slice A n c, .slice B m e', .func (.func 49) #[] #[.pointer (some ⟨p, 0, none⟩), .pointer (some ⟨q, 0, none⟩)]] w fun e w' => ∃ x' : Int, e = .returned (.bool (Fm.sames ks ls)) ∧ Blk w' p 3 [.int .i64 x'] ∧ x - (Fm.sizes ks : Int) ≤ x' ∧ x' ≤ x ∧ w.grownBy w' (some p) := by
  have hl1 := h.len
  have hl2 := h'.len
  have hmax := h.2.1
  unfold maxLen at hmax
  obtain ⟨v, hv⟩ : ∃ v, v = Fm.sames ks ls := ⟨_, rfl⟩
  rw [← hv]
  have HV := Lib.hid hv
  clear hv
  have HI := Lib.hid IH
  have HF := Lib.hid h
  have HG := Lib.hid h'
  have HP0 := Lib.hid hp
  have HQ0 := Lib.hid hq
  have hpl := hp.lt
  have hql := hq.lt
  clear h h' hp hq IH
  by_cases hnm : n = m
  case neg =>
    have h6 : ((n : Int) != (m : Int)) = true := by simp; omega
    have hs : Fm.sames ks ls = false := by
      cases hb : Fm.sames ks ls
      · rfl
      · exact absurd (Fm.sames_len hb) (by omega)
    have HS := Lib.hid hs
    clear hs
    go_enter Try.func50, Try.ntmps50
    go_wp2
    go_ret
    exact ⟨x, ret_bool (by rw [HV.out, HS.out]), HP0.out, by omega, Int.le_refl _, World.grownBy.refl _ _⟩
  subst hnm
  go_enter Try.func50, Try.ntmps50
  go_wp2
  go_loopw [17] (fun iv wr => ∃ (i : Nat) (y : Int), i ≤ n ∧ iv = .int .i64 i ∧ Blk wr p 3 [.int .i64 y] ∧ Blk wr q 46 [.func (.func 49) #[] #[.pointer (some ⟨p, 0, none⟩), .pointer (some ⟨q, 0, none⟩)]] ∧ w.grownBy wr (some p) ∧ (y ≤ x ∧ x - (Fm.sizes ks : Int) ≤ y - (Fm.sizes (ks.drop i) : Int)) ∧ Fm.sames ks ls = Fm.sames (ks.drop i) (ls.drop i)) (fun iv _ => n - (intOf iv).toNat)
  case atStart => exact ⟨0, x, Nat.zero_le _, rfl, HP0.out, HQ0.out, World.grownBy.refl _ _, ⟨Int.le_refl _, by simp⟩, rfl⟩
  case round =>
    obtain ⟨i, y, hi, rfl, hp, hq, hg, hy, hs⟩ := hrel
    have HP := Lib.hid hp
    have HQ := Lib.hid hq
    have HGr := Lib.hid hg
    clear hp hq hg
    by_cases hlt : i < n
    · obtain ⟨k, g1, b1, A1, n1, c1, hk1, hk2, hk3, rfl, _, hr1, hkk⟩ := (HF.out.only HGr.out).kid hlt
      obtain ⟨l, g2, b2, A2, n2, c2, hl1', hl2', hl3, rfl, _, hr2, hll⟩ := (HG.out.only HGr.out).kid hlt
      rw [hk3, hl3, Fm.sames_cons] at hs
      rw [hk3, show Fm.sizes (k :: ks.drop (i + 1)) = k.size + Fm.sizes (ks.drop (i + 1)) from rfl] at hy
      have HR1 := Lib.hid hr1
      have HR2 : Hid ((wr.alloc (.cells #[.int .i64 k.org, .int .i64 k.nd, .slice A1 n1 c1] 33)).rangeAt g2 (b2 + i * 3) [.int .i64 l.org, .int .i64 l.nd, .slice A2 n2 c2]) := Lib.hid (range_keep hr2 (Below.heap_alloc wr _ g2 (World.block_lt_of_cell? wr ⟨g2, b2 + i * 3 + 0, none⟩ (hr2 0 _ rfl))))
      have HK1 := Lib.hid hkk
      have HK2 := Lib.hid hll
      have hyk : (k.size : Int) ≤ y := by omega
      have hcall : ∀ W, k.In W (· ≠ p) A1 n1 → l.In W (· ≠ p) A2 n2 → Blk W p 3 [.int .i64 y] → Blk W q 46 [.func (.func 49) #[] #[.pointer (some ⟨p, 0, none⟩), .pointer (some ⟨q, 0, none⟩)]] → Calls Try.prog 49 #[.agg #[.int .i64 k.org, .int .i64 k.nd, .slice A1 n1 c1], .agg #[.int .i64 l.org, .int .i64 l.nd, .slice A2 n2 c2], .pointer (some ⟨p, 0, none⟩), .pointer (some ⟨q, 0, none⟩)] W fun e w' => ∃ x' : Int, e = .returned (.bool (k.same l)) ∧ Blk w' p 3 [.int .i64 x'] ∧ y - (k.size : Int) ≤ x' ∧ x' ≤ y ∧ W.grownBy w' (some p) := fun W h1 h2 h3 h4 => HI.out k hk2 l y p q A1 A2 n1 c1 n2 c2 W hyk (by omega) hpq h1 h2 h3 h4
      have HY := Lib.hid hy
      clear hr1 hr2 hkk hll hk1 hk3 hl1' hl3 hy hyk
      cases hkl : k.same l <;> rw [hkl] at hcall hs <;> have HC := Lib.hid hcall <;> have HS := Lib.hid hs <;> clear hcall hs hkl
      all_goals
        go_wp2_with (first
          | (refine wpList_load_mid rfl 33 (.tmp 20) rfl g1 (b1 + i * 3) (by simp [Act.eval]) [.int .i64 k.org, .int .i64 k.nd, .slice A1 n1 c1] _ HR1.out Try.underlying33 rfl (by kernel_rfl) ?_)
          | (refine wpList_load_mid rfl 33 (.tmp 24) rfl g2 (b2 + i * 3) (by simp [Act.eval]) [.int .i64 l.org, .int .i64 l.nd, .slice A2 n2 c2] _ HR2.out Try.underlying33 rfl (by kernel_rfl) ?_)
          | (go_at_call 49; (with_reducible refine (HC.out _ ((HK1.out.alloc _).alloc _) ((HK2.out.alloc _).alloc _) ((HP.out.alloc _).alloc _) ((HQ.out.alloc _).alloc _)).mono ?_); rintro ee w5 ⟨y', rfl, hp5, hy5, hy6, hg5⟩; have HP5 := Lib.hid hp5; have hq5 := (((HQ.out.alloc _).alloc _).grown hg5 (by simp; omega)); have HQ5 := Lib.hid hq5; have HY5 := Lib.hid hy5; have HY6 := Lib.hid hy6; have HG5 := Lib.hid (only_trans HGr.out (only_trans (World.grownBy_alloc wr _ (some p)) (only_trans (World.grownBy_alloc _ _ (some p)) hg5))); clear hp5 hq5 hy5 hy6 hg5))
      · go_ret
        have h1 := HY5.out
        have h2 := HY6.out
        have h3 := HY.out
        exact ⟨y', ret_bool (by rw [HV.out, HS.out]; rfl), HP5.out, by omega, by omega, HG5.out⟩
      · go_roundw
        case rel => exact ⟨i + 1, y', by omega, by go_num, HP5.out, HQ5.out, HG5.out, by have h1 := HY5.out; have h2 := HY6.out; have h3 := HY.out; exact ⟨by omega, by omega⟩, by have := HS.out; simpa using this⟩
        case measure => simp [intOf]; omega
    · obtain rfl : i = n := by omega
      rw [List.drop_of_length_le (by omega), List.drop_of_length_le (by omega)] at hs
      have HS := Lib.hid hs
      have HY := Lib.hid hy
      clear hs hy
      go_wp2
      go_ret
      have h3 := HY.out
      exact ⟨y, ret_bool (by rw [HV.out, HS.out]; rfl), HP.out, by omega, by omega, HGr.out⟩

set_option maxHeartbeats 4000000 in
set_option maxRecDepth 100000 in
theorem same1_any (f : Fm) : Same1 f := by
  induction f using Fm.ind with
  | h o a ks ih =>
    intro g x p q A B n c m e' w hz hx1 hpq h h' hp hq
    obtain ⟨o', a', ls⟩ := g
    rw [Fm.same_eq]
    have hzs : (Fm.mk o a ks).size = 1 + Fm.sizes ks := rfl
    rw [hzs] at hz ⊢
    clear hzs
    obtain ⟨v, hv⟩ : ∃ v, v = (decide (o = o') && decide (a = a') && Fm.sames ks ls) := ⟨_, rfl⟩
    rw [← hv]
    have hcall : ∀ W, (Fm.mk o a ks).In W (· ≠ p) A n → (Fm.mk o' a' ls).In W (· ≠ p) B m → Blk W p 3 [.int .i64 (x - 1)] → Blk W q 46 [.func (.func 49) #[] #[.pointer (some ⟨p, 0, none⟩), .pointer (some ⟨q, 0, none⟩)]] → Calls Try.prog 50 #[.slice A n c, .slice B m e', .func (.func 49) #[] #[.pointer (some ⟨p, 0, none⟩), .pointer (some ⟨q, 0, none⟩)]] W fun e w' => ∃ x' : Int, e = .returned (.bool (Fm.sames ks ls)) ∧ Blk w' p 3 [.int .i64 x'] ∧ x - 1 - (Fm.sizes ks : Int) ≤ x' ∧ x' ≤ x - 1 ∧ W.grownBy w' (some p) := fun W h1 h2 h3 h4 => eqf_any ks ls ih o a o' a' (x - 1) p q A B n c m e' W (by omega) (by omega) hpq h1 h2 h3 h4
    have HF := Lib.hid h
    have HG := Lib.hid h'
    unfold Fm.val
    simp only [Fm.org, Fm.nd]
    have hX0 : w.grownBy ((w.alloc (.cells #[.int .i64 o, .int .i64 a, .slice A n c] 33)).alloc (.cells #[.int .i64 o', .int .i64 a', .slice B m e'] 33)) (some p) := only_trans (World.grownBy_alloc w _ (some p)) (World.grownBy_alloc _ _ (some p))
    have hP0 : Blk ((w.alloc (.cells #[.int .i64 o, .int .i64 a, .slice A n c] 33)).alloc (.cells #[.int .i64 o', .int .i64 a', .slice B m e'] 33)) p 3 [.int .i64 x] := (hp.alloc _).alloc _
    have hB0 : Blk ((w.alloc (.cells #[.int .i64 o, .int .i64 a, .slice A n c] 33)).alloc (.cells #[.int .i64 o', .int .i64 a', .slice B m e'] 33)) w.heap.size 33 [.int .i64 o, .int .i64 a, .slice A n c] := (Blk.fresh rfl rfl).alloc _
    have hG0 : Blk ((w.alloc (.cells #[.int .i64 o, .int .i64 a, .slice A n c] 33)).alloc (.cells #[.int .i64 o', .int .i64 a', .slice B m e'] 33)) (w.heap.size + 1) 33 [.int .i64 o', .int .i64 a', .slice B m e'] := Blk.fresh (by simp) rfl
    have c0 := hP0.cellAt (i := 0) rfl
    have hpl := hp.lt
    have hql := hq.lt
    have HX0 := Lib.hid hX0
    have HP0 := Lib.hid hP0
    have HB0 := Lib.hid hB0
    have HG0 := Lib.hid hG0
    have HQ0 := Lib.hid hq
    have HC := Lib.hid hcall
    clear h h' hp hq hX0 hP0 hB0 hG0 hcall ih
    have hsz : (0 : Int) ≤ Fm.sizes ks := by omega
    have hx2 : 1 ≤ x := by omega
    by_cases ho : o = o'
    case neg =>
      have h4 : (o == o') = false := by simpa using ho
      have HV := Lib.hid hv
      have HO := Lib.hid ho
      clear hv ho
      go_enter Try.func49, Try.ntmps49
      go_wp2_with (refine wpList_store_cell rfl 3 (.tmp 2) (.tmp 8) rfl p 0 rfl (.int .i64 (x - 1)) rfl rfl rfl Try.size_int 3 [.int .i64 x] HP0.out (by simp) ?_; intro w1 hb1 hg1; have HP1 : Hid (Blk w1 p 3 [.int .i64 (x - 1)]) := Lib.hid hb1; have HX1 := Lib.hid (only_trans HX0.out hg1); have B1 := Lib.hid (HB0.out.grown hg1 (by simp; omega)); have G1 := Lib.hid (HG0.out.grown hg1 (by simp; omega)); have HQ1 := Lib.hid (HQ0.out.grown HX1.out (by simp; omega)); have d0 := HP1.out.cellAt (i := 0) rfl; have f0 := B1.out.cellAt (i := 0) rfl; have f1 := B1.out.cellAt (i := 1) rfl; have f2 := B1.out.cellAt (i := 2) rfl; have g0 := G1.out.cellAt (i := 0) rfl; have g1 := G1.out.cellAt (i := 1) rfl; have g2 := G1.out.cellAt (i := 2) rfl; have q0 := HQ1.out.cellAt (i := 0) rfl; clear hb1 hg1)
      go_ret
      exact ⟨ret_bool (by rw [HV.out]; simp [HO.out]), x - 1, HP1.out, by omega, by omega, HX1.out⟩
    by_cases ha : a = a'
    case neg =>
      have h4 : (o == o') = true := by simpa using ho
      have h5 : (a == a') = false := by simpa using ha
      have HV := Lib.hid hv
      have HO := Lib.hid ha
      clear hv ho ha
      go_enter Try.func49, Try.ntmps49
      go_wp2_with (refine wpList_store_cell rfl 3 (.tmp 2) (.tmp 8) rfl p 0 rfl (.int .i64 (x - 1)) rfl rfl rfl Try.size_int 3 [.int .i64 x] HP0.out (by simp) ?_; intro w1 hb1 hg1; have HP1 : Hid (Blk w1 p 3 [.int .i64 (x - 1)]) := Lib.hid hb1; have HX1 := Lib.hid (only_trans HX0.out hg1); have B1 := Lib.hid (HB0.out.grown hg1 (by simp; omega)); have G1 := Lib.hid (HG0.out.grown hg1 (by simp; omega)); have HQ1 := Lib.hid (HQ0.out.grown HX1.out (by simp; omega)); have d0 := HP1.out.cellAt (i := 0) rfl; have f0 := B1.out.cellAt (i := 0) rfl; have f1 := B1.out.cellAt (i := 1) rfl; have f2 := B1.out.cellAt (i := 2) rfl; have g0 := G1.out.cellAt (i := 0) rfl; have g1 := G1.out.cellAt (i := 1) rfl; have g2 := G1.out.cellAt (i := 2) rfl; have q0 := HQ1.out.cellAt (i := 0) rfl; clear hb1 hg1)
      go_ret
      exact ⟨ret_bool (by rw [HV.out]; simp [HO.out]), x - 1, HP1.out, by omega, by omega, HX1.out⟩
    subst ho ha
    have HV : Hid (v = Fm.sames ks ls) := Lib.hid (by rw [hv]; simp)
    clear hv
    generalize Fm.sames ks ls = v' at *
    go_enter Try.func49, Try.ntmps49
    go_wp2_with (first
      | (refine wpList_store_cell rfl 3 (.tmp 2) (.tmp 8) rfl p 0 rfl (.int .i64 (x - 1)) rfl rfl rfl Try.size_int 3 [.int .i64 x] HP0.out (by simp) ?_; intro w1 hb1 hg1; have HP1 : Hid (Blk w1 p 3 [.int .i64 (x - 1)]) := Lib.hid hb1; have HX1 := Lib.hid (only_trans HX0.out hg1); have B1 := Lib.hid (HB0.out.grown hg1 (by simp; omega)); have G1 := Lib.hid (HG0.out.grown hg1 (by simp; omega)); have HQ1 := Lib.hid (HQ0.out.grown HX1.out (by simp; omega)); have d0 := HP1.out.cellAt (i := 0) rfl; have f0 := B1.out.cellAt (i := 0) rfl; have f1 := B1.out.cellAt (i := 1) rfl; have f2 := B1.out.cellAt (i := 2) rfl; have g0 := G1.out.cellAt (i := 0) rfl; have g1 := G1.out.cellAt (i := 1) rfl; have g2 := G1.out.cellAt (i := 2) rfl; have q0 := HQ1.out.cellAt (i := 0) rfl; clear hb1 hg1)
      | (go_at_call 50; (with_reducible refine (HC.out _ (HF.out.only HX1.out) (HG.out.only HX1.out) HP1.out HQ1.out).mono ?_); rintro ee w5 ⟨x', rfl, hp5, hy5, hy6, hg5⟩; have HP5 := Lib.hid hp5; have HY5 := Lib.hid hy5; have HY6 := Lib.hid hy6; have HX5 := Lib.hid (only_trans HX1.out hg5); clear hp5 hy5 hy6 hg5))
    go_ret
    have h1 := HY5.out
    have h2 := HY6.out
    exact ⟨x', ret_bool (by rw [HV.out]), HP5.out, by omega, by omega, HX5.out⟩

end Go.Proofs.Ytkildlonenjmaaa
