/-
  RqDf
-/
import Derived.Test.YtheecifgbkdecaaSM8
namespace Go.Proofs.Ytheecifgbkdecaa
open Go.RowKit

variable {Q : Nat → Prop}
/-- A call on a reader that hands back bytes of its own. -/
def GaveF (Q : Nat → Prop) (w : World) (g : Nat) (t : TypeId) (ys xs' : List UInt8) (er' : Int) (e : Ending) (w' : World) : Prop :=
 ∃ B m c, e = .returned (.slice B m c) ∧ (m ≤ c ∧ c ≤ maxLen) ∧ By w' (fun b => w.heap.size ≤ b) B m ys ∧ RS Q w' g t xs' er' ∧ w.grownBy w' (some g)

set_option maxHeartbeats 1000000 in
set_option maxRecDepth 100000 in
theorem rfixed_badF (g : Nat) (xs : List UInt8) (er k : Int) (he : er ≠ 0) (w : World) (h : RS Q w g tQ xs er) :
  Calls Try.prog 97 #[.pointer (some ⟨g, 0, none⟩), .int .i64 k] w (GaveF Q w g tQ [] xs er) := by
 obtain ⟨A, n, c, hw, hn, hm, hy⟩ := id h
 have h1 : w.cell? ⟨g, 1, none⟩ = some (.int .i64 er) := by rw [cell_of_row w g 1 _ _ _ hw]; rfl
 have e1 : (er == 0) = false := by simpa using he
 have e2 : (er != 0) = true := by simpa using he
 have H := Lib.hid h
 clear hw h hy
 go_enter Try.func97, Try.ntmps97
 go_wp2
 go_ret
 exact ⟨none, 0, 0, rfl, ⟨Nat.le_refl _, by simp [maxLen]⟩, By.none_, H.out, only_refl _ _⟩

set_option maxHeartbeats 1000000 in
set_option maxRecDepth 100000 in
theorem rfixed_outF (g : Nat) (xs : List UInt8) (k : Int) (hk : ¬ (0 ≤ k ∧ k ≤ xs.length)) (w : World) (h : RS Q w g tQ xs 0) :
  Calls Try.prog 97 #[.pointer (some ⟨g, 0, none⟩), .int .i64 k] w (GaveF Q w g tQ [] [] 2) := by
 obtain ⟨A, n, c, hw, hn, hm, hy⟩ := h
 have hl := (hy rfl).len
 have h0 : w.cell? ⟨g, 0, none⟩ = some (.slice A n c) := by rw [cell_of_row w g 0 _ _ _ hw]; rfl
 have h1 : w.cell? ⟨g, 1, none⟩ = some (.int .i64 0) := by rw [cell_of_row w g 1 _ _ _ hw]; rfl
 have f1 : w.frozen? ⟨g, 1, none⟩ = false := frozen_of_row w g 1 _ _ hw
 have HW := Lib.hid hw
 clear hw hy
 by_cases hneg : k < 0
 ·clear hk
  go_enter Try.func97, Try.ntmps97
  go_wp2
  go_ret
  exact ⟨none, 0, 0, rfl, ⟨Nat.le_refl _, by simp [maxLen]⟩, By.none_, RS.marked (Q := Q) HW.out hn hm [] 2 (by decide)⟩
 ·have hgt : (n : Int) < k := by omega
  have hge : 0 ≤ k := by omega
  clear hk hneg hl
  go_enter Try.func97, Try.ntmps97
  go_wp2
  go_ret
  exact ⟨none, 0, 0, rfl, ⟨Nat.le_refl _, by simp [maxLen]⟩, By.none_, RS.marked (Q := Q) HW.out hn hm [] 2 (by decide)⟩

theorem rfix_keepF {w : World} {g k b0 : Nat} {A : Option Addr} {n c : Nat} {B : Option Addr} {ys : List UInt8} {P : Nat → Prop} (hw : w.heap[g]? = some (.cells #[.slice A n c, .int .i64 0] tQ (0, 0))) (h : By w (fun g => b0 ≤ g ∧ P g) B k ys) (u : Value) :
  By (w.setCell ⟨g, 0, none⟩ u) (fun b => b0 ≤ b) B k ys :=
 (h.weak fun _ h => h.1).only (only_set w g 0 u) hw

set_option maxHeartbeats 1000000 in
set_option maxRecDepth 100000 in
theorem rfixed_inF (g : Nat) (xs : List UInt8) (k : Nat) (hk : k ≤ xs.length) (hx : xs.length ≤ 1099511627776) (w : World) (h : RS Q w g tQ xs 0) :
  Calls Try.prog 97 #[.pointer (some ⟨g, 0, none⟩), .int .i64 k] w (GaveF Q w g tQ (xs.take k) (xs.drop k) 0) := by
 obtain ⟨i0, hi, hz0, hz1, hz2⟩ := info_parts Try.info_u8
 obtain ⟨A, n, c, hw, hn, hm, hy⟩ := h
 have HY := Lib.hid (hy rfl)
 have hl : k ≤ n := by rw [← HY.out.len]; exact hk
 have hn40 : n ≤ 1099511627776 := by rw [← HY.out.len]; exact hx
 have h0 : w.cell? ⟨g, 0, none⟩ = some (.slice A n c) := by rw [cell_of_row w g 0 _ _ _ hw]; rfl
 have h1 : w.cell? ⟨g, 1, none⟩ = some (.int .i64 0) := by rw [cell_of_row w g 1 _ _ _ hw]; rfl
 have HW := Lib.hid hw
 have hglt : g < w.heap.size := (Array.getElem?_eq_some_iff.1 hw).1
 have hge : ¬ ((n : Int) < k) := by omega
 have h0a : ∀ o, (w.alloc o).cell? ⟨g, 0, none⟩ = some (.slice A n c) := fun o => (World.cell?_alloc_lt w o ⟨g, 0, none⟩ hglt).trans h0
 clear hw hy hk
 go_enter Try.func97, Try.ntmps97
 go_wp2_with (at_builtin; refine wpList_append_by _ rfl (.tmp 32) (.tmp 38) 28 rfl w.heap.size i0 Try.underlying28 hi hz0 hz1 hz2 _ 0 [] rfl (World.ownsRow_made w #[] 0 (Nat.le_refl _) (Nat.zero_le _) rfl) Q A k c (xs.take k) rfl ((HY.out.take hl).alloc _) (by omega) (by simp) ?_; intro v2 w2 hown2 hgrow2 _; simp only [Nat.zero_add, List.nil_append] at hown2; have hb2 : Below w.heap.size w w2 := ((Below.refl _ w).alloc (Nat.le_refl _) _).grown hgrow2 (by simp) (by intro k hk; simp [Act.eval, Value.ownBlock] at hk; omega); clear hgrow2; have hw2 := (hb2.block g hglt).trans HW.out; have h02 : w2.cell? ⟨g, 0, none⟩ = some (.slice A n c) := (by rw [cell_of_row w2 g 0 _ _ _ hw2]; rfl); have f02 := frozen_of_row w2 g 0 _ _ hw2; obtain ⟨B, cB, rfl, hcB, hcM, _⟩ := own_form hown2; have O2 := Lib.hid hown2; have HW2 := Lib.hid hw2; clear hown2 hw2; have HY2 := Lib.hid (HY.out.through hb2))
 ·have ec : c = k := by assumption
  go_ret
  have T := took (k := k) (t := tQ) (by decide) HW2.out HY2.out hl hn hm (A' := A) (by rw [if_pos ec])
  have e0 : c - k = 0 := by omega
  rw [e0] at T
  exact ⟨B, k, cB, rfl, ⟨hcB, hcM⟩, rfix_keepF (g := g) HW2.out (By.of_own O2.out) _, T.2.1, only_trans (only_below hb2) T.2.2⟩
 ·go_ret
  have T := took (k := k) (t := tQ) (by decide) HW2.out HY2.out hl hn hm (A' := Option.map (fun x => x.add k) A) (by rw [if_neg ‹_›])
  exact ⟨B, k, cB, rfl, ⟨hcB, hcM⟩, rfix_keepF (g := g) HW2.out (By.of_own O2.out) _, T.2.1, only_trans (only_below hb2) T.2.2⟩

theorem rfixed_anyF (g : Nat) (xs : List UInt8) (er k : Int) (hx : xs.length ≤ 1099511627776) (w : World) (h : RS Q w g tQ xs er) :
  Calls Try.prog 97 #[.pointer (some ⟨g, 0, none⟩), .int .i64 k] w (GaveF Q w g tQ (takeY xs er k) (takeX xs er k) (takeE xs er k)) := by
 unfold takeY takeX takeE
 by_cases he : er = 0
 ·subst he
  by_cases hk : 0 ≤ k ∧ k ≤ xs.length
  ·obtain ⟨j, rfl⟩ := Int.eq_ofNat_of_zero_le hk.1
   simp only [if_true, hk, and_self]
   exact rfixed_inF g xs j (by omega) hx w h
  ·simp only [true_and, if_true, if_neg hk]
   exact rfixed_outF g xs k hk w h
 ·simp only [he, false_and, if_false]
  exact rfixed_badF g xs er k he w h

set_option maxHeartbeats 1000000 in
set_option maxRecDepth 100000 in
theorem rrow_badF (g : Nat) (xs : List UInt8) (er most : Int) (hx : xs.length ≤ 1099511627776) (w : World) (h : RS Q w g tQ xs er) (hE : numE xs er 4 ≠ 0) :
  Calls Try.prog 74 #[.pointer (some ⟨g, 0, none⟩), .int .i64 most] w (GaveF Q w g tQ [] (numX xs er 4) (numE xs er 4)) := by
 have hcon := rnumber_any g xs er 4 hx w h
 have e1 : (numE xs er 4 == 0) = false := by simpa using hE
 have e2 : (numE xs er 4 != 0) = true := by simpa using hE
 generalize numV xs er 4 = V at *
 generalize numX xs er 4 = X at *
 generalize numE xs er 4 = E at *
 clear h hE
 go_enter Try.func74, Try.ntmps74
 go_wp2_with (first
  | (go_at_call 55; refine hcon.mono ?_; rintro e w1 ⟨rfl, hr, ho⟩; obtain ⟨A, n, c, hw1, hn, hm, _⟩ := id hr; have k1 : w1.cell? ⟨g, 1, none⟩ = some (.int .i64 E) := (by rw [cell_of_row w1 g 1 _ _ _ hw1]; rfl); have HR := Lib.hid hr; have HO := Lib.hid ho; clear hr ho hw1))
 go_ret
 exact ⟨none, 0, 0, rfl, ⟨Nat.le_refl _, by simp [maxLen]⟩, By.none_, HR.out, HO.out⟩

set_option maxHeartbeats 1000000 in
set_option maxRecDepth 100000 in
theorem rrow_overF (g : Nat) (xs : List UInt8) (er most : Int) (hm1 : most ≤ 9223372036854775807) (hx : xs.length ≤ 1099511627776) (w : World) (h : RS Q w g tQ xs er) (hE : numE xs er 4 = 0) (hV : most < numV xs er 4) :
  Calls Try.prog 74 #[.pointer (some ⟨g, 0, none⟩), .int .i64 most] w (GaveF Q w g tQ [] [] 3) := by
 have hcon := rnumber_any g xs er 4 hx w h
 rw [hE] at hcon
 generalize numV xs er 4 = V at *
 generalize numX xs er 4 = X at *
 clear h hE
 by_cases hneg : most < 0
 ·clear hV hm1
  go_enter Try.func74, Try.ntmps74
  go_wp2_with (first
   | (go_at_call 55; refine hcon.mono ?_; rintro e w1 ⟨rfl, hr, ho⟩; obtain ⟨A, n, c, hw1, hn, hm, _⟩ := id hr; have k1 : w1.cell? ⟨g, 1, none⟩ = some (.int .i64 0) := (by rw [cell_of_row w1 g 1 _ _ _ hw1]; rfl); have f1 := frozen_of_row w1 g 1 _ _ hw1; have HW := Lib.hid hw1; have HO := Lib.hid ho; clear hr ho hw1))
  go_ret
  exact ⟨none, 0, 0, rfl, ⟨Nat.le_refl _, by simp [maxLen]⟩, By.none_, (RS.marked (Q := Q) HW.out hn hm [] 3 (by decide)).1, only_trans HO.out (RS.marked (Q := Q) HW.out hn hm [] 3 (by decide)).2⟩
 ·have hpos : 0 ≤ most := by omega
  clear hneg
  go_enter Try.func74, Try.ntmps74
  go_wp2_with (first
   | (go_at_call 55; refine hcon.mono ?_; rintro e w1 ⟨rfl, hr, ho⟩; obtain ⟨A, n, c, hw1, hn, hm, _⟩ := id hr; have k1 : w1.cell? ⟨g, 1, none⟩ = some (.int .i64 0) := (by rw [cell_of_row w1 g 1 _ _ _ hw1]; rfl); have f1 := frozen_of_row w1 g 1 _ _ hw1; have HW := Lib.hid hw1; have HO := Lib.hid ho; clear hr ho hw1))
  go_ret
  exact ⟨none, 0, 0, rfl, ⟨Nat.le_refl _, by simp [maxLen]⟩, By.none_, (RS.marked (Q := Q) HW.out hn hm [] 3 (by decide)).1, only_trans HO.out (RS.marked (Q := Q) HW.out hn hm [] 3 (by decide)).2⟩

set_option maxHeartbeats 1000000 in
set_option maxRecDepth 100000 in
theorem rrow_okF (g : Nat) (xs : List UInt8) (er most : Int) (hm1 : most ≤ 9223372036854775807) (hx : xs.length ≤ 1099511627776) (w : World) (h : RS Q w g tQ xs er) (hE : numE xs er 4 = 0) (hV : (numV xs er 4 : Int) ≤ most) (hV4 : numV xs er 4 < 4294967296) :
  Calls Try.prog 74 #[.pointer (some ⟨g, 0, none⟩), .int .i64 most] w (GaveF Q w g tQ (takeY (numX xs er 4) 0 (numV xs er 4)) (takeX (numX xs er 4) 0 (numV xs er 4)) (takeE (numX xs er 4) 0 (numV xs er 4))) := by
 have hcon := rnumber_any g xs er 4 hx w h
 have hxl := Nat.le_trans (numX_le xs er 4) hx
 rw [hE] at hcon
 generalize numV xs er 4 = V at *
 generalize numX xs er 4 = X at *
 clear h hE
 have hge : ¬ most < (V : Int) := by omega
 have hpos : 0 ≤ most := by omega
 clear hV
 go_enter Try.func74, Try.ntmps74
 go_wp2_with (first
  | (go_at_call 55; refine hcon.mono ?_; rintro e w1 ⟨rfl, hr, ho⟩; obtain ⟨A, n, c, hw1, hn, hm, _⟩ := id hr; have k1 : w1.cell? ⟨g, 1, none⟩ = some (.int .i64 0) := (by rw [cell_of_row w1 g 1 _ _ _ hw1]; rfl); have HR := Lib.hid hr; have HO := Lib.hid ho; clear hr ho hw1)
  | (go_at_call 97; refine (rfixed_anyF g X 0 V hxl _ HR.out).mono ?_; rintro e w2 ⟨B, m, c, rfl, hmc, hy, hr, ho⟩))
 go_ret
 exact ⟨B, m, c, rfl, hmc, hy.weak (fun b hb => Nat.le_trans HO.out.size hb), hr, only_trans HO.out ho⟩

theorem rrowm_anyF (g : Nat) (xs : List UInt8) (er most : Int) (hm1 : most ≤ 9223372036854775807) (hx : xs.length ≤ 1099511627776) (w : World) (h : RS Q w g tQ xs er) :
  Calls Try.prog 74 #[.pointer (some ⟨g, 0, none⟩), .int .i64 most] w (GaveF Q w g tQ (rowY xs er most) (rowX xs er most) (rowE xs er most)) := by
 unfold rowY rowX rowE
 by_cases hE : numE xs er 4 = 0
 ·by_cases hV : most < numV xs er 4
  ·have := rrow_overF g xs er most hm1 hx w h hE hV
   rw [hE]
   simp only [upX, upE, upV, if_pos hV, failX, failE, if_true]
   exact this
  ·have := rrow_okF g xs er most hm1 hx w h hE (by omega) (numV_lt4 xs er)
   rw [hE]
   simp only [upX, upE, upV, if_neg hV]
   exact this
 ·have := rrow_badF g xs er most hx w h hE
  rw [numV_of_bad hE]
  have eX : upX (numX xs er 4) (numE xs er 4) 0 most = numX xs er 4 := by unfold upX failX; rw [if_neg hE]; split <;> rfl
  have eE : upE (numE xs er 4) 0 most 3 = numE xs er 4 := by unfold upE failE; rw [if_neg hE]; split <;> rfl
  have eV : upV 0 most = 0 := by unfold upV; split <;> rfl
  rw [eX, eE, eV]
  have y0 : takeY (numX xs er 4) (numE xs er 4) 0 = [] := by unfold takeY; rw [if_neg (by simp [hE])]
  have x0 : takeX (numX xs er 4) (numE xs er 4) 0 = numX xs er 4 := by unfold takeX; rw [if_neg hE]
  have z0 : takeE (numX xs er 4) (numE xs er 4) 0 = numE xs er 4 := by unfold takeE; rw [if_neg hE]
  rw [y0, x0, z0]
  exact this


theorem rfixed_rsF {g : Nat} {st : Option (List UInt8)} {w : World} (h : Rs Q w g tQ st) (k : Nat) : Calls Try.prog 97 #[.pointer (some ⟨g, 0, none⟩), .int .i64 k] w fun e w' => ∃ B m c, e = .returned (.slice B m c) ∧ By w' (fun b => w.heap.size ≤ b) B m (tval k st) ∧ Rs Q w' g tQ (nnext k st) ∧ w.grownBy w' (some g) := by
 obtain ⟨xs, er, h, hs, hl⟩ := h
 obtain ⟨h1, h2⟩ := take_st hs k
 rw [← h1]
 exact (rfixed_anyF g xs er k hl w h).mono fun e w' ⟨B, m, c, he, hm, hy, hr, hg⟩ => ⟨B, m, c, he, hy, ⟨_, _, hr, h2, Nat.le_trans (takeX_le _ _ _) hl⟩, hg⟩
theorem rrow_rsF {g : Nat} {st : Option (List UInt8)} {w : World} (h : Rs Q w g tQ st) (most : Nat) (hm : most ≤ 1099511627776) : Calls Try.prog 74 #[.pointer (some ⟨g, 0, none⟩), .int .i64 most] w fun e w' => ∃ B m c, e = .returned (.slice B m c) ∧ (m ≤ c ∧ c ≤ maxLen) ∧ By w' (fun b => w.heap.size ≤ b) B m (rval most st) ∧ Rs Q w' g tQ (rnext most st) ∧ w.grownBy w' (some g) := by
 obtain ⟨xs, er, h, hs, hl⟩ := h
 obtain ⟨h1, h2⟩ := row_st hs most
 rw [← h1]
 exact (rrowm_anyF g xs er most (by omega) hl w h).mono fun e w' ⟨B, m, c, he, hm, hy, hr, hg⟩ => ⟨B, m, c, he, hm, hy, ⟨_, _, hr, h2, Nat.le_trans (rowX_le _ _ _) hl⟩, hg⟩

end Go.Proofs.Ytheecifgbkdecaa
