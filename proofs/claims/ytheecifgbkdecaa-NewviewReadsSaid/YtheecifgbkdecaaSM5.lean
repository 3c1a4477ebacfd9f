/-
  O3
-/
import Derived.Test.YtheecifgbkdecaaSM4
namespace Go.Proofs.Ytheecifgbkdecaa
open Go.RowKit

variable {Q : Nat → Prop}

abbrev tQ : TypeId := 88

theorem RS.marked {w : World} {g : Nat} {A : Option Addr} {n c : Nat} {er : Int} (h : w.heap[g]? = some (.cells #[.slice A n c, .int .i64 er] tQ (0, 0))) (hn : n ≤ c) (hm : c ≤ maxLen) (xs : List UInt8) (k : Int) (hk : k ≠ 0) :
  RS Q (w.setCell ⟨g, 1, none⟩ (.int .i64 k)) g tQ xs k ∧ w.grownBy (w.setCell ⟨g, 1, none⟩ (.int .i64 k)) (some g) :=
 ⟨⟨A, n, c, by rw [heap_set h 1 _]; rfl, hn, hm, fun h0 => absurd h0 hk⟩, only_set w g 1 _⟩

set_option maxHeartbeats 1000000 in
set_option maxRecDepth 100000 in
theorem rfixed_bad (g : Nat) (xs : List UInt8) (er k : Int) (he : er ≠ 0) (w : World) (h : RS Q w g tQ xs er) :
  Calls Try.prog 97 #[.pointer (some ⟨g, 0, none⟩), .int .i64 k] w (Gave Q w g tQ [] xs er) := by
 obtain ⟨A, n, c, hw, hn, hm, hy⟩ := id h
 have h1 : w.cell? ⟨g, 1, none⟩ = some (.int .i64 er) := by rw [cell_of_row w g 1 _ _ _ hw]; rfl
 have e1 : (er == 0) = false := by simpa using he
 have e2 : (er != 0) = true := by simpa using he
 have H := Lib.hid h
 clear hw h hy
 go_enter Try.func97, Try.ntmps97
 go_wp2
 go_ret
 exact ⟨none, 0, 0, rfl, Nat.le_refl _, By.none_, H.out, only_refl _ _⟩

set_option maxHeartbeats 1000000 in
set_option maxRecDepth 100000 in
theorem rfixed_out (g : Nat) (xs : List UInt8) (k : Int) (hk : ¬ (0 ≤ k ∧ k ≤ xs.length)) (w : World) (h : RS Q w g tQ xs 0) :
  Calls Try.prog 97 #[.pointer (some ⟨g, 0, none⟩), .int .i64 k] w (Gave Q w g tQ [] [] 2) := by
 obtain ⟨A, n, c, hw, hn, hm, hy⟩ := h
 have hl := (hy rfl).len
 have h0 : w.cell? ⟨g, 0, none⟩ = some (.slice A n c) := by rw [cell_of_row w g 0 _ _ _ hw]; rfl
 have h1 : w.cell? ⟨g, 1, none⟩ = some (.int .i64 0) := by rw [cell_of_row w g 1 _ _ _ hw]; rfl
 have f1 : w.frozen? ⟨g, 1, none⟩ = false := frozen_of_row w g 1 _ _ hw
 have HW := Lib.hid hw
 clear hw hy
 by_cases hneg : k < 0
 ·clear hk
  go_enter Try.func97, Try.ntmps97
  go_wp2
  go_ret
  exact ⟨none, 0, 0, rfl, Nat.le_refl _, By.none_, RS.marked (Q := Q) HW.out hn hm [] 2 (by decide)⟩
 ·have hgt : (n : Int) < k := by omega
  have hge : 0 ≤ k := by omega
  clear hk hneg hl
  go_enter Try.func97, Try.ntmps97
  go_wp2
  go_ret
  exact ⟨none, 0, 0, rfl, Nat.le_refl _, By.none_, RS.marked (Q := Q) HW.out hn hm [] 2 (by decide)⟩

theorem rfix_keep {w : World} {g k : Nat} {A : Option Addr} {n c : Nat} {B : Option Addr} {ys : List UInt8} {Q : Nat → Prop} (hw : w.heap[g]? = some (.cells #[.slice A n c, .int .i64 0] tQ (0, 0))) (h : By w Q B k ys) (u : Value) :
  By (w.setCell ⟨g, 0, none⟩ u) (fun _ => True) B k ys :=
 (h.weak fun _ _ => trivial).only (only_set w g 0 u) hw

set_option maxHeartbeats 1000000 in
set_option maxRecDepth 100000 in
theorem rfixed_in (g : Nat) (xs : List UInt8) (k : Nat) (hk : k ≤ xs.length) (hx : xs.length ≤ 1099511627776) (w : World) (h : RS Q w g tQ xs 0) :
  Calls Try.prog 97 #[.pointer (some ⟨g, 0, none⟩), .int .i64 k] w (Gave Q w g tQ (xs.take k) (xs.drop k) 0) := by
 obtain ⟨i0, hi, hz0, hz1, hz2⟩ := info_parts Try.info_u8
 obtain ⟨A, n, c, hw, hn, hm, hy⟩ := h
 have HY := Lib.hid (hy rfl)
 have hl : k ≤ n := by rw [← HY.out.len]; exact hk
 have hn40 : n ≤ 1099511627776 := by rw [← HY.out.len]; exact hx
 have h0 : w.cell? ⟨g, 0, none⟩ = some (.slice A n c) := by rw [cell_of_row w g 0 _ _ _ hw]; rfl
 have h1 : w.cell? ⟨g, 1, none⟩ = some (.int .i64 0) := by rw [cell_of_row w g 1 _ _ _ hw]; rfl
 have HW := Lib.hid hw
 have hglt : g < w.heap.size := (Array.getElem?_eq_some_iff.1 hw).1
 have hge : ¬ ((n : Int) < k) := by omega
 have h0a : ∀ o, (w.alloc o).cell? ⟨g, 0, none⟩ = some (.slice A n c) := fun o => (World.cell?_alloc_lt w o ⟨g, 0, none⟩ hglt).trans h0
 clear hw hy hk
 go_enter Try.func97, Try.ntmps97
 go_wp2_with (at_builtin; refine wpList_append_by _ rfl (.tmp 32) (.tmp 38) 28 rfl w.heap.size i0 Try.underlying28 hi hz0 hz1 hz2 _ 0 [] rfl (World.ownsRow_made w #[] 0 (Nat.le_refl _) (Nat.zero_le _) rfl) Q A k c (xs.take k) rfl ((HY.out.take hl).alloc _) (by omega) (by simp) ?_; intro v2 w2 hown2 hgrow2 _; simp only [Nat.zero_add, List.nil_append] at hown2; have hb2 : Below w.heap.size w w2 := ((Below.refl _ w).alloc (Nat.le_refl _) _).grown hgrow2 (by simp) (by intro k hk; simp [Act.eval, Value.ownBlock] at hk; omega); clear hgrow2; have hw2 := (hb2.block g hglt).trans HW.out; have h02 : w2.cell? ⟨g, 0, none⟩ = some (.slice A n c) := (by rw [cell_of_row w2 g 0 _ _ _ hw2]; rfl); have f02 := frozen_of_row w2 g 0 _ _ hw2; obtain ⟨B, cB, rfl, hcB, _⟩ := own_form hown2; have O2 := Lib.hid hown2; have HW2 := Lib.hid hw2; clear hown2 hw2; have HY2 := Lib.hid (HY.out.through hb2))
 ·have ec : c = k := by assumption
  go_ret
  have T := took (k := k) (t := tQ) (by decide) HW2.out HY2.out hl hn hm (A' := A) (by rw [if_pos ec])
  have e0 : c - k = 0 := by omega
  rw [e0] at T
  exact ⟨B, k, cB, rfl, hcB, rfix_keep (g := g) HW2.out (By.of_own O2.out) _, T.2.1, only_trans (only_below hb2) T.2.2⟩
 ·go_ret
  have T := took (k := k) (t := tQ) (by decide) HW2.out HY2.out hl hn hm (A' := Option.map (fun x => x.add k) A) (by rw [if_neg ‹_›])
  exact ⟨B, k, cB, rfl, hcB, rfix_keep (g := g) HW2.out (By.of_own O2.out) _, T.2.1, only_trans (only_below hb2) T.2.2⟩

theorem rfixed_any (g : Nat) (xs : List UInt8) (er k : Int) (hx : xs.length ≤ 1099511627776) (w : World) (h : RS Q w g tQ xs er) :
  Calls Try.prog 97 #[.pointer (some ⟨g, 0, none⟩), .int .i64 k] w (Gave Q w g tQ (takeY xs er k) (takeX xs er k) (takeE xs er k)) := by
 unfold takeY takeX takeE
 by_cases he : er = 0
 ·subst he
  by_cases hk : 0 ≤ k ∧ k ≤ xs.length
  ·obtain ⟨j, rfl⟩ := Int.eq_ofNat_of_zero_le hk.1
   simp only [if_true, hk, and_self]
   exact rfixed_in g xs j (by omega) hx w h
  ·simp only [true_and, if_true, if_neg hk]
   exact rfixed_out g xs k hk w h
 ·simp only [he, false_and, if_false]
  exact rfixed_bad g xs er k he w h

set_option maxHeartbeats 1000000 in
set_option maxRecDepth 100000 in
theorem rnumber_yes (g : Nat) (xs : List UInt8) (er : Int) (k : Nat) (hk : wid k = true) (hx : xs.length ≤ 1099511627776) (w : World) (h : RS Q w g tQ xs er) :
  Calls Try.prog 55 #[.pointer (some ⟨g, 0, none⟩), .int .i64 k] w
   (GaveV Q w g tQ (.int .u64 (beN (takeY xs er k))) (takeX xs er k) (takeE xs er k)) := by
 have k8 : k ≤ 8 := by have := wid_iff.1 hk; omega
 obtain ⟨A, n, c, hw, _, _, _⟩ := id h
 have h1 : w.cell? ⟨g, 1, none⟩ = some (.int .i64 er) := by rw [cell_of_row w g 1 _ _ _ hw]; rfl
 have H := Lib.hid h
 clear h hw
 have hlen : (takeY xs er k).length ≤ k := by unfold takeY; split <;> simp; omega
 by_cases he : (er == 0) = true
 all_goals (try simp only [Bool.not_eq_true] at he)
 all_goals go_enter Try.func55, Try.ntmps55
 all_goals go_wp2_with (first
  | (go_at_call 87; refine (size_any _ _).mono ?_; rintro e w' ⟨rfl, rfl⟩)
  | (go_at_call 97; refine (rfixed_any g xs er k hx _ H.out).mono ?_; rintro e w1 ⟨B, m, c, rfl, hmc, hy, hr, ho⟩; have HY := Lib.hid hy; have HR := Lib.hid hr; have HO := Lib.hid ho; clear hy hr ho))
 all_goals
  have hm : m ≤ 8 := by
   have := HY.out.len
   omega
  clear he h1 hlen
  generalize takeY xs er k = ys at *
  have hml : ys.length = m := HY.out.len
  have HL := Lib.hid hml
  clear hml
  go_loop [5, 25] (fun v i => ∃ j : Nat, j ≤ m ∧ i = .int .i64 j ∧ v = .int .u64 (beN (ys.take j))) (fun _ i => m - (intOf i).toNat)
  case atStart => exact ⟨0, Nat.zero_le _, rfl, rfl⟩
  case round =>
   obtain ⟨j, hj, rfl, rfl⟩ := hrel
   by_cases hlt : j < m
   ·obtain ⟨gb, o, rfl, hc⟩ := HY.out.cell j (by rw [HL.out]; exact hlt)
    unfold u8 at hc
    have hjl : j < ys.length := by rw [HL.out]; exact hlt
    have hb1 := beN_small ys (j + 1) 8 (by omega)
    rw [beN_take ys j hjl] at hb1
    have h8 : (256 : Nat) ^ 8 = 18446744073709551616 := by decide
    rw [h8] at hb1
    clear h8
    have hbt := ys[j].toNat_lt
    go_wp2
    go_round
    case rel =>
     refine ⟨j + 1, by omega, by go_num, ?_⟩
     rw [beN_take ys j hjl]
     simp
    case measure => simp [intOf]; omega
   ·go_wp2
    go_ret
    have e : ys.take j = ys := List.take_of_length_le (by rw [HL.out]; omega)
    exact ⟨by rw [e]; rfl, HR.out, HO.out⟩

set_option maxHeartbeats 1000000 in
set_option maxRecDepth 100000 in
theorem rnumber_no (g : Nat) (xs : List UInt8) (er : Int) (k : Int) (hk : wid k = false) (w : World) (h : RS Q w g tQ xs er) :
  Calls Try.prog 55 #[.pointer (some ⟨g, 0, none⟩), .int .i64 k] w (GaveV Q w g tQ (.int .u64 0) (failX xs er) (failE er 2)) := by
 obtain ⟨A, n, c, hw, hn, hm, hy⟩ := id h
 have h1 : w.cell? ⟨g, 1, none⟩ = some (.int .i64 er) := by rw [cell_of_row w g 1 _ _ _ hw]; rfl
 have f1 : w.frozen? ⟨g, 1, none⟩ = false := frozen_of_row w g 1 _ _ hw
 have HW := Lib.hid hw
 have H := Lib.hid h
 clear hw h hy
 by_cases he : er = 0
 ·subst he
  have hM := RS.marked (Q := Q) HW.out hn hm [] 2 (by decide)
  have M1 := Lib.hid hM.1
  have M2 := Lib.hid hM.2
  clear hM
  go_enter Try.func55, Try.ntmps55
  go_wp2_with (first
   | (go_at_call 87; refine (size_any _ _).mono ?_; rintro e w' ⟨rfl, rfl⟩)
   | (go_at_call 97; refine (rfixed_bad g [] 2 k (by decide) _ M1.out).mono ?_; rintro e w1 ⟨B, m, c, rfl, hmc, hy, hr, ho⟩; obtain rfl : m = 0 := hy.len.symm; have HR := Lib.hid hr; have HO := Lib.hid ho; clear hy hr ho))
  go_rounds 1
  go_ret
  exact ⟨rfl, HR.out, only_trans M2.out HO.out⟩
 ·have hx : failX xs er = xs := if_neg he
  have hf : failE er 2 = er := if_neg he
  have e1 : (er == 0) = false := by simpa using he
  rw [hx, hf]
  clear hx hf
  go_enter Try.func55, Try.ntmps55
  go_wp2_with (first
   | (go_at_call 87; refine (size_any _ _).mono ?_; rintro e w' ⟨rfl, rfl⟩)
   | (go_at_call 97; refine (rfixed_bad g xs er k he _ H.out).mono ?_; rintro e w1 ⟨B, m, c, rfl, hmc, hy, hr, ho⟩; obtain rfl : m = 0 := hy.len.symm; have HR := Lib.hid hr; have HO := Lib.hid ho; clear hy hr ho))
  go_rounds 1
  go_ret
  exact ⟨rfl, HR.out, HO.out⟩

theorem rnumber_any (g : Nat) (xs : List UInt8) (er k : Int) (hx : xs.length ≤ 1099511627776) (w : World) (h : RS Q w g tQ xs er) :
  Calls Try.prog 55 #[.pointer (some ⟨g, 0, none⟩), .int .i64 k] w (GaveV Q w g tQ (.int .u64 (numV xs er k)) (numX xs er k) (numE xs er k)) := by
 unfold numV numX numE
 cases hk : wid k with
 | false => exact rnumber_no g xs er k hk w h
 | true =>
  have h0 : 0 ≤ k := by have := wid_iff.1 hk; omega
  obtain ⟨j, rfl⟩ := Int.eq_ofNat_of_zero_le h0
  exact rnumber_yes g xs er j hk hx w h

/-- What End answers. -/
theorem rend_any (g : Nat) (xs : List UInt8) (er : Int) (w : World) (h : RS Q w g tQ xs er) :
  Calls Try.prog 59 #[.pointer (some ⟨g, 0, none⟩)] w fun e w' => e = .returned (.int .i64 (endV xs er)) ∧ w = w' := by
 obtain ⟨A, n, c, hw, hn, hm, hy⟩ := h
 have h0 : w.cell? ⟨g, 0, none⟩ = some (.slice A n c) := by rw [cell_of_row w g 0 _ _ _ hw]; rfl
 have h1 : w.cell? ⟨g, 1, none⟩ = some (.int .i64 er) := by rw [cell_of_row w g 1 _ _ _ hw]; rfl
 unfold endV
 by_cases he : er = 0
 ·have hl := (hy he).len
  subst he
  clear hw hy
  by_cases hn0 : n = 0
  ·subst hn0
   obtain rfl : xs = [] := List.eq_nil_of_length_eq_zero hl
   clear hl
   go_enter Try.func59, Try.ntmps59
   go_wp2
   go_ret
   exact ⟨rfl, rfl⟩
  ·have hpos : 0 < n := by omega
   have hne : xs ≠ [] := by rintro rfl; simp at hl; omega
   simp only [if_true, if_neg hne]
   clear hl hn0 hne
   go_enter Try.func59, Try.ntmps59
   go_wp2
   go_ret
   exact ⟨rfl, rfl⟩
 ·simp only [if_neg he]
  have hb : (er == 0) = false := by simpa using he
  clear hw hy
  go_enter Try.func59, Try.ntmps59
  go_wp2
  go_ret
  exact ⟨rfl, rfl⟩

set_option maxHeartbeats 1000000 in
set_option maxRecDepth 100000 in
theorem rrow_bad (g : Nat) (xs : List UInt8) (er most : Int) (hx : xs.length ≤ 1099511627776) (w : World) (h : RS Q w g tQ xs er) (hE : numE xs er 4 ≠ 0) :
  Calls Try.prog 74 #[.pointer (some ⟨g, 0, none⟩), .int .i64 most] w (Gave Q w g tQ [] (numX xs er 4) (numE xs er 4)) := by
 have hcon := rnumber_any g xs er 4 hx w h
 have e1 : (numE xs er 4 == 0) = false := by simpa using hE
 have e2 : (numE xs er 4 != 0) = true := by simpa using hE
 generalize numV xs er 4 = V at *
 generalize numX xs er 4 = X at *
 generalize numE xs er 4 = E at *
 clear h hE
 go_enter Try.func74, Try.ntmps74
 go_wp2_with (first
  | (go_at_call 55; refine hcon.mono ?_; rintro e w1 ⟨rfl, hr, ho⟩; obtain ⟨A, n, c, hw1, hn, hm, _⟩ := id hr; have k1 : w1.cell? ⟨g, 1, none⟩ = some (.int .i64 E) := (by rw [cell_of_row w1 g 1 _ _ _ hw1]; rfl); have HR := Lib.hid hr; have HO := Lib.hid ho; clear hr ho hw1))
 go_ret
 exact ⟨none, 0, 0, rfl, Nat.le_refl _, By.none_, HR.out, HO.out⟩

set_option maxHeartbeats 1000000 in
set_option maxRecDepth 100000 in
theorem rrow_over (g : Nat) (xs : List UInt8) (er most : Int) (hm1 : most ≤ 9223372036854775807) (hx : xs.length ≤ 1099511627776) (w : World) (h : RS Q w g tQ xs er) (hE : numE xs er 4 = 0) (hV : most < numV xs er 4) :
  Calls Try.prog 74 #[.pointer (some ⟨g, 0, none⟩), .int .i64 most] w (Gave Q w g tQ [] [] 3) := by
 have hcon := rnumber_any g xs er 4 hx w h
 rw [hE] at hcon
 generalize numV xs er 4 = V at *
 generalize numX xs er 4 = X at *
 clear h hE
 by_cases hneg : most < 0
 ·clear hV hm1
  go_enter Try.func74, Try.ntmps74
  go_wp2_with (first
   | (go_at_call 55; refine hcon.mono ?_; rintro e w1 ⟨rfl, hr, ho⟩; obtain ⟨A, n, c, hw1, hn, hm, _⟩ := id hr; have k1 : w1.cell? ⟨g, 1, none⟩ = some (.int .i64 0) := (by rw [cell_of_row w1 g 1 _ _ _ hw1]; rfl); have f1 := frozen_of_row w1 g 1 _ _ hw1; have HW := Lib.hid hw1; have HO := Lib.hid ho; clear hr ho hw1))
  go_ret
  exact ⟨none, 0, 0, rfl, Nat.le_refl _, By.none_, (RS.marked (Q := Q) HW.out hn hm [] 3 (by decide)).1, only_trans HO.out (RS.marked (Q := Q) HW.out hn hm [] 3 (by decide)).2⟩
 ·have hpos : 0 ≤ most := by omega
  clear hneg
  go_enter Try.func74, Try.ntmps74
  go_wp2_with (first
   | (go_at_call 55; refine hcon.mono ?_; rintro e w1 ⟨rfl, hr, ho⟩; obtain ⟨A, n, c, hw1, hn, hm, _⟩ := id hr; have k1 : w1.cell? ⟨g, 1, none⟩ = some (.int .i64 0) := (by rw [cell_of_row w1 g 1 _ _ _ hw1]; rfl); have f1 := frozen_of_row w1 g 1 _ _ hw1; have HW := Lib.hid hw1; have HO := Lib.hid ho; clear hr ho hw1))
  go_ret
  exact ⟨none, 0, 0, rfl, Nat.le_refl _, By.none_, (RS.marked (Q := Q) HW.out hn hm [] 3 (by decide)).1, only_trans HO.out (RS.marked (Q := Q) HW.out hn hm [] 3 (by decide)).2⟩

set_option maxHeartbeats 1000000 in
set_option maxRecDepth 100000 in
theorem rrow_ok (g : Nat) (xs : List UInt8) (er most : Int) (hm1 : most ≤ 9223372036854775807) (hx : xs.length ≤ 1099511627776) (w : World) (h : RS Q w g tQ xs er) (hE : numE xs er 4 = 0) (hV : (numV xs er 4 : Int) ≤ most) (hV4 : numV xs er 4 < 4294967296) :
  Calls Try.prog 74 #[.pointer (some ⟨g, 0, none⟩), .int .i64 most] w (Gave Q w g tQ (takeY (numX xs er 4) 0 (numV xs er 4)) (takeX (numX xs er 4) 0 (numV xs er 4)) (takeE (numX xs er 4) 0 (numV xs er 4))) := by
 have hcon := rnumber_any g xs er 4 hx w h
 have hxl := Nat.le_trans (numX_le xs er 4) hx
 rw [hE] at hcon
 generalize numV xs er 4 = V at *
 generalize numX xs er 4 = X at *
 clear h hE
 have hge : ¬ most < (V : Int) := by omega
 have hpos : 0 ≤ most := by omega
 clear hV
 go_enter Try.func74, Try.ntmps74
 go_wp2_with (first
  | (go_at_call 55; refine hcon.mono ?_; rintro e w1 ⟨rfl, hr, ho⟩; obtain ⟨A, n, c, hw1, hn, hm, _⟩ := id hr; have k1 : w1.cell? ⟨g, 1, none⟩ = some (.int .i64 0) := (by rw [cell_of_row w1 g 1 _ _ _ hw1]; rfl); have HR := Lib.hid hr; have HO := Lib.hid ho; clear hr ho hw1)
  | (go_at_call 97; refine (rfixed_any g X 0 V hxl _ HR.out).mono ?_; rintro e w2 ⟨B, m, c, rfl, hmc, hy, hr, ho⟩))
 go_ret
 exact ⟨B, m, c, rfl, hmc, hy, hr, only_trans HO.out ho⟩

theorem rrowm_any (g : Nat) (xs : List UInt8) (er most : Int) (hm1 : most ≤ 9223372036854775807) (hx : xs.length ≤ 1099511627776) (w : World) (h : RS Q w g tQ xs er) :
  Calls Try.prog 74 #[.pointer (some ⟨g, 0, none⟩), .int .i64 most] w (Gave Q w g tQ (rowY xs er most) (rowX xs er most) (rowE xs er most)) := by
 unfold rowY rowX rowE
 by_cases hE : numE xs er 4 = 0
 ·by_cases hV : most < numV xs er 4
  ·have := rrow_over g xs er most hm1 hx w h hE hV
   rw [hE]
   simp only [upX, upE, upV, if_pos hV, failX, failE, if_true]
   exact this
  ·have := rrow_ok g xs er most hm1 hx w h hE (by omega) (numV_lt4 xs er)
   rw [hE]
   simp only [upX, upE, upV, if_neg hV]
   exact this
 ·have := rrow_bad g xs er most hx w h hE
  rw [numV_of_bad hE]
  have eX : upX (numX xs er 4) (numE xs er 4) 0 most = numX xs er 4 := by unfold upX failX; rw [if_neg hE]; split <;> rfl
  have eE : upE (numE xs er 4) 0 most 3 = numE xs er 4 := by unfold upE failE; rw [if_neg hE]; split <;> rfl
  have eV : upV 0 most = 0 := by unfold upV; split <;> rfl
  rw [eX, eE, eV]
  have y0 : takeY (numX xs er 4) (numE xs er 4) 0 = [] := by unfold takeY; rw [if_neg (by simp [hE])]
  have x0 : takeX (numX xs er 4) (numE xs er 4) 0 = numX xs er 4 := by unfold takeX; rw [if_neg hE]
  have z0 : takeE (numX xs er 4) (numE xs er 4) 0 = numE xs er 4 := by unfold takeE; rw [if_neg hE]
  rw [y0, x0, z0]
  exact this

set_option maxHeartbeats 1000000 in
set_option maxRecDepth 100000 in
theorem rcount_bad (g : Nat) (xs : List UInt8) (er most : Int) (hx : xs.length ≤ 1099511627776) (w : World) (h : RS Q w g tQ xs er) (hE : numE xs er 2 ≠ 0) :
  Calls Try.prog 56 #[.pointer (some ⟨g, 0, none⟩), .int .i64 most] w (GaveV Q w g tQ (.int .i64 0) (numX xs er 2) (numE xs er 2)) := by
 have hcon := rnumber_any g xs er 2 hx w h
 have e1 : (numE xs er 2 == 0) = false := by simpa using hE
 have e2 : (numE xs er 2 != 0) = true := by simpa using hE
 generalize numV xs er 2 = V at *
 generalize numX xs er 2 = X at *
 generalize numE xs er 2 = E at *
 clear h hE
 go_enter Try.func56, Try.ntmps56
 go_wp2_with (first
  | (go_at_call 55; refine hcon.mono ?_; rintro e w1 ⟨rfl, hr, ho⟩; obtain ⟨A, n, c, hw1, hn, hm, _⟩ := id hr; have k1 : w1.cell? ⟨g, 1, none⟩ = some (.int .i64 E) := (by rw [cell_of_row w1 g 1 _ _ _ hw1]; rfl); have HR := Lib.hid hr; have HO := Lib.hid ho; clear hr ho hw1))
 go_ret
 exact ⟨rfl, HR.out, HO.out⟩

set_option maxHeartbeats 1000000 in
set_option maxRecDepth 100000 in
theorem rcount_ok (g : Nat) (xs : List UInt8) (er most : Int) (hx : xs.length ≤ 1099511627776) (w : World) (h : RS Q w g tQ xs er) (hE : numE xs er 2 = 0) (hV2 : numV xs er 2 < 65536) :
  Calls Try.prog 56 #[.pointer (some ⟨g, 0, none⟩), .int .i64 most] w
   (GaveV Q w g tQ (.int .i64 (upV (numV xs er 2) most)) (upX (numX xs er 2) 0 (numV xs er 2) most) (upE 0 (numV xs er 2) most 4)) := by
 have hcon := rnumber_any g xs er 2 hx w h
 rw [hE] at hcon
 generalize numV xs er 2 = V at *
 generalize numX xs er 2 = X at *
 clear h hE
 unfold upV upX upE
 by_cases hlt : most < V
 ·simp only [if_pos hlt]
  go_enter Try.func56, Try.ntmps56
  go_wp2_with (first
   | (go_at_call 55; refine hcon.mono ?_; rintro e w1 ⟨rfl, hr, ho⟩; obtain ⟨A, n, c, hw1, hn, hm, _⟩ := id hr; have k1 : w1.cell? ⟨g, 1, none⟩ = some (.int .i64 0) := (by rw [cell_of_row w1 g 1 _ _ _ hw1]; rfl); have f1 := frozen_of_row w1 g 1 _ _ hw1; have HW := Lib.hid hw1; have HO := Lib.hid ho; clear hr ho hw1))
  go_ret
  exact ⟨rfl, (RS.marked (Q := Q) HW.out hn hm (failX X 0) 4 (by decide)).1, only_trans HO.out (RS.marked (Q := Q) HW.out hn hm [] 4 (by decide)).2⟩
 ·simp only [if_neg hlt]
  go_enter Try.func56, Try.ntmps56
  go_wp2_with (first
   | (go_at_call 55; refine hcon.mono ?_; rintro e w1 ⟨rfl, hr, ho⟩; obtain ⟨A, n, c, hw1, hn, hm, _⟩ := id hr; have k1 : w1.cell? ⟨g, 1, none⟩ = some (.int .i64 0) := (by rw [cell_of_row w1 g 1 _ _ _ hw1]; rfl); have HR := Lib.hid hr; have HO := Lib.hid ho; clear hr ho hw1))
  go_ret
  exact ⟨rfl, HR.out, HO.out⟩

theorem rcount_any (g : Nat) (xs : List UInt8) (er most : Int) (hx : xs.length ≤ 1099511627776) (w : World) (h : RS Q w g tQ xs er) :
  Calls Try.prog 56 #[.pointer (some ⟨g, 0, none⟩), .int .i64 most] w
   (GaveV Q w g tQ (.int .i64 (upV (numV xs er 2) most)) (upX (numX xs er 2) (numE xs er 2) (numV xs er 2) most) (upE (numE xs er 2) (numV xs er 2) most 4)) := by
 by_cases hE : numE xs er 2 = 0
 ·have hV2 : numV xs er 2 < 65536 := by
   rcases numV_lt xs er 2 with h | h
   ·have e : (256 : Nat) ^ ((2 : Int)).toNat = 65536 := by decide
    rw [e] at h
    exact h
   ·omega
  have := rcount_ok g xs er most hx w h hE hV2
  rw [hE]
  exact this
 ·have := rcount_bad g xs er most hx w h hE
  rw [numV_of_bad hE]
  have eX : upX (numX xs er 2) (numE xs er 2) 0 most = numX xs er 2 := by unfold upX failX; rw [if_neg hE]; split <;> rfl
  have eE : upE (numE xs er 2) 0 most 4 = numE xs er 2 := by unfold upE failE; rw [if_neg hE]; split <;> rfl
  have eV : upV 0 most = 0 := by unfold upV; split <;> rfl
  rw [eX, eE, eV]
  exact this

end Go.Proofs.Ytheecifgbkdecaa
