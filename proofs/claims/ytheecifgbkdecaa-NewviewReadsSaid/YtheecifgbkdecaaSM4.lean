/-
  O2
-/
import Derived.Test.YtheecifgbkdecaaSM2
import Derived.Test.YtheecifgbkdecaaSM1
namespace Go.Proofs.Ytheecifgbkdecaa
open Go.RowKit

variable {Q : Nat → Prop}

/-- Block g is a reader of type t: what is left reads as xs (as long as nothing failed), the failure is er. -/
def RS (Q : Nat → Prop) (w : World) (g : Nat) (t : TypeId) (xs : List UInt8) (er : Int) : Prop :=
 ∃ A n c, w.heap[g]? = some (.cells #[.slice A n c, .int .i64 er] t (0, 0)) ∧ n ≤ c ∧ c ≤ maxLen ∧ (er = 0 → By w Q A n xs)

section
variable {Q : Nat → Prop} {w w' : World} {g : Nat} {t : TypeId} {xs : List UInt8} {er : Int}
/-- Bytes don't lie in a reader's block: they stay as they are when it is turned. -/
theorem By.only {A A0 : Option Addr} {n n0 c0 : Nat} {e0 : Int} {fz : Nat × Nat} (h : By w Q A n xs) (hg : w.grownBy w' (some g)) (hw : w.heap[g]? = some (.cells #[.slice A0 n0 c0, .int .i64 e0] t fz)) : By w' Q A n xs :=
 ⟨h.1, fun hn => by
  obtain ⟨b, o, e, hq, hc⟩ := h.2 hn
  refine ⟨b, o, e, hq, fun j u hu => hg.cell (hc j u hu) (fun e2 => ?_)⟩
  have e3 : b = g := Option.some.inj e2
  subst e3
  have h1 := hc j u hu
  rw [cell_of_row w b (o + j) _ t fz hw] at h1
  match hj : o + j with
  | 0 => rw [hj] at h1; simp [u8] at h1
  | 1 => rw [hj] at h1; simp [u8] at h1
  | j' + 2 => rw [hj] at h1; simp at h1⟩
theorem RS.lt (h : RS Q w g t xs er) : g < w.heap.size := by
 obtain ⟨A, n, c, hc, _⟩ := h
 exact (Array.getElem?_eq_some_iff.1 hc).1
/-- Another block is turned, that isn't bytes of its own: a reader's. -/
theorem RS.keep {g' : Nat} {ys : List UInt8} {e' : Int} {t' : TypeId} {Q' : Nat → Prop} (h : RS Q w g t xs er) (hg : w.grownBy w' (some g')) (h' : RS Q' w g' t' ys e') (hne : g ≠ g') : RS Q w' g t xs er := by
 obtain ⟨A, n, c, hc, hn, hm, hb⟩ := h
 obtain ⟨A', n', c', hc', _⟩ := h'
 exact ⟨A, n, c, (hg.block g (Array.getElem?_eq_some_iff.1 hc).1 (fun e => hne (Option.some.inj e))).trans hc, hn, hm, fun h0 => (hb h0).only hg hc'⟩
/-- Behind a call that makes memory alone. -/
theorem RS.below (h : RS Q w g t xs er) (hb : Below w.heap.size w w') : RS Q w' g t xs er := by
 obtain ⟨A, n, c, hc, hn, hm, hy⟩ := h
 exact ⟨A, n, c, (hb.block g (Array.getElem?_eq_some_iff.1 hc).1).trans hc, hn, hm, fun h0 => (hy h0).through hb⟩
/-- A block is turned that isn't the reader's, and none of the bytes'. -/
theorem RS.other {row : Option Nat} (h : RS Q w g t xs er) (hg : w.grownBy w' row) (hr : ∀ b, row = some b → b ≠ g ∧ ¬ Q b) : RS Q w' g t xs er := by
 obtain ⟨A, n, c, hc, hn, hm, hb⟩ := h
 refine ⟨A, n, c, (hg.block g (Array.getElem?_eq_some_iff.1 hc).1 (fun e => (hr g e.symm).1 rfl)).trans hc, hn, hm, fun h0 => ⟨(hb h0).1, fun hn => ?_⟩⟩
 obtain ⟨b, o, e, hq, hc1⟩ := (hb h0).2 hn
 exact ⟨b, o, e, hq, fun j u hu => hg.cell (hc1 j u hu) (fun e2 => (hr b e2.symm).2 hq)⟩
theorem RS.block (h : RS Q w g t xs er) : ∃ cs, w.heap[g]? = some (.cells cs t (0, 0)) := by
 obtain ⟨A, n, c, hc, _⟩ := h
 exact ⟨_, hc⟩
/-- Both cells of a reader, written. -/
theorem heap_set {w : World} {g : Nat} {t : TypeId} {cs : Array Value} (h : w.heap[g]? = some (.cells cs t (0, 0))) (i : Nat) (u : Value) : (w.setCell ⟨g, i, none⟩ u).heap[g]? = some (.cells (cs.setIfInBounds i u) t (0, 0)) := by
 simp [World.setCell, Array.getElem?_modify, h]
end


/-- A call on a reader that hands back bytes. -/
def Gave (Q : Nat → Prop) (w : World) (g : Nat) (t : TypeId) (ys xs' : List UInt8) (er' : Int) (e : Ending) (w' : World) : Prop :=
 ∃ B m c, e = .returned (.slice B m c) ∧ m ≤ c ∧ By w' (fun _ => True) B m ys ∧ RS Q w' g t xs' er' ∧ w.grownBy w' (some g)

/-- A call on a reader that hands back v. -/
def GaveV (Q : Nat → Prop) (w : World) (g : Nat) (t : TypeId) (v : Value) (xs' : List UInt8) (er' : Int) (e : Ending) (w' : World) : Prop :=
 e = .returned v ∧ RS Q w' g t xs' er' ∧ w.grownBy w' (some g)

abbrev tR : TypeId := 123

set_option maxHeartbeats 400000 in
theorem failed_any (g : Nat) (x : Value) (er : Int) (w : World) (hw : w.heap[g]? = some (.cells #[x, .int .i64 er] tR (0, 0))) :
  Calls Try.prog 110 #[.pointer (some ⟨g, 0, none⟩)] w fun e w' => e = .returned (.bool (bad er)) ∧ w = w' := by
 have h1 : w.cell? ⟨g, 1, none⟩ = some (.int .i64 er) := by rw [cell_of_row w g 1 _ _ _ hw]; rfl
 clear hw
 go_enter Try.func110, Try.ntmps110
 go_wp2
 go_ret
 exact ⟨rfl, rfl⟩

set_option maxHeartbeats 400000 in
theorem fail_yes (g : Nat) (x : Value) (er k : Int) (he : er ≠ 0) (w : World) (hw : w.heap[g]? = some (.cells #[x, .int .i64 er] tR (0, 0))) :
  Calls Try.prog 103 #[.pointer (some ⟨g, 0, none⟩), .int .i64 k] w fun e w' => e = .returned (.tuple #[]) ∧ w = w' := by
 have hb : bad er = true := by simpa [bad] using he
 have H := Lib.hid hw
 clear hw
 go_enter Try.func103, Try.ntmps103
 go_wp2_with (go_at_call 110; refine (failed_any g x er _ H.out).mono ?_; rintro e w' ⟨rfl, rfl⟩)
 refine bodyPost_ret (results_none rfl _ _ _) rfl ?_
 exact ⟨rfl, rfl⟩

set_option maxHeartbeats 400000 in
theorem fail_no (g : Nat) (x : Value) (k : Int) (w : World) (hw : w.heap[g]? = some (.cells #[x, .int .i64 0] tR (0, 0))) :
  Calls Try.prog 103 #[.pointer (some ⟨g, 0, none⟩), .int .i64 k] w fun e w' => e = .returned (.tuple #[]) ∧ w' = (w.setCell ⟨g, 1, none⟩ (.int .i64 k)).setCell ⟨g, 0, none⟩ (.slice none 0 0) := by
 have hb : bad 0 = false := rfl
 have h0 : w.cell? ⟨g, 0, none⟩ = some x := by rw [cell_of_row w g 0 _ _ _ hw]; rfl
 have h1 : w.cell? ⟨g, 1, none⟩ = some (.int .i64 0) := by rw [cell_of_row w g 1 _ _ _ hw]; rfl
 have f0 : w.frozen? ⟨g, 0, none⟩ = false := frozen_of_row w g 0 _ _ hw
 have f1 : w.frozen? ⟨g, 1, none⟩ = false := frozen_of_row w g 1 _ _ hw
 have H := Lib.hid hw
 clear hw
 go_enter Try.func103, Try.ntmps103
 go_wp2_with (go_at_call 110; refine (failed_any g x 0 _ H.out).mono ?_; rintro e w' ⟨rfl, rfl⟩)
 go_end0
 exact ⟨rfl, rfl⟩

theorem RS.failed {w : World} {g : Nat} {t : TypeId} {x y : Value} (h : w.heap[g]? = some (.cells #[x, y] t (0, 0))) (k : Int) (hk : k ≠ 0) :
  RS Q ((w.setCell ⟨g, 1, none⟩ (.int .i64 k)).setCell ⟨g, 0, none⟩ (.slice none 0 0)) g t [] k ∧ w.grownBy ((w.setCell ⟨g, 1, none⟩ (.int .i64 k)).setCell ⟨g, 0, none⟩ (.slice none 0 0)) (some g) :=
 ⟨⟨none, 0, 0, by rw [heap_set (heap_set h 1 _) 0 _]; rfl, Nat.le_refl _, Nat.zero_le _, fun h0 => absurd h0 hk⟩, only_trans (only_set w g 1 _) (only_set _ g 0 _)⟩

theorem took {w : World} {g n c k : Nat} {t : TypeId} (_ : t ≠ 5) {xs : List UInt8} {A A' : Option Addr} (hw : w.heap[g]? = some (.cells #[.slice A n c, .int .i64 0] t (0, 0))) (hy : By w Q A n xs) (hl : k ≤ n) (hn : n ≤ c) (hm : c ≤ maxLen)
  (hA : A' = if c = k then A else A.map (·.add k)) :
  By (w.setCell ⟨g, 0, none⟩ (.slice A' (n - k) (c - k))) (fun _ => True) A k (xs.take k) ∧
  RS Q (w.setCell ⟨g, 0, none⟩ (.slice A' (n - k) (c - k))) g t (xs.drop k) 0 ∧ w.grownBy (w.setCell ⟨g, 0, none⟩ (.slice A' (n - k) (c - k))) (some g) := by
 have hg := only_set w g 0 (.slice A' (n - k) (c - k))
 refine ⟨((hy.take hl).only hg hw).weak fun _ _ => trivial, ⟨A', n - k, c - k, by rw [heap_set hw]; rfl, by omega, by omega, fun _ => ?_⟩, hg⟩
 rw [hA]
 rw [hA] at hg
 exact (hy.drop hl hn).only hg hw

set_option maxHeartbeats 1000000 in
theorem take_bad (g : Nat) (xs : List UInt8) (er k : Int) (he : er ≠ 0) (w : World) (h : RS Q w g tR xs er) :
  Calls Try.prog 94 #[.pointer (some ⟨g, 0, none⟩), .int .i64 k] w (Gave Q w g tR [] xs er) := by
 obtain ⟨A, n, c, hw, hn, hm, hy⟩ := id h
 have hb : bad er = true := by simpa [bad] using he
 have HW := Lib.hid hw
 have H := Lib.hid h
 clear hw h hy
 go_enter Try.func94, Try.ntmps94
 go_wp2_with (first
  | (go_at_call 110; refine (failed_any g _ er _ HW.out).mono ?_; rintro e w' ⟨rfl, rfl⟩)
  | (go_at_call 103; refine (fail_yes g _ er 2 he _ HW.out).mono ?_; rintro e w' ⟨rfl, rfl⟩))
 go_ret
 exact ⟨none, 0, 0, rfl, Nat.le_refl _, By.none_, H.out, only_refl _ _⟩

set_option maxHeartbeats 1000000 in
theorem take_out (g : Nat) (xs : List UInt8) (k : Int) (hk : ¬ (0 ≤ k ∧ k ≤ xs.length)) (w : World) (h : RS Q w g tR xs 0) :
  Calls Try.prog 94 #[.pointer (some ⟨g, 0, none⟩), .int .i64 k] w (Gave Q w g tR [] [] 2) := by
 obtain ⟨A, n, c, hw, hn, hm, hy⟩ := h
 have hl := (hy rfl).len
 have hb : bad 0 = false := rfl
 have h0 : w.cell? ⟨g, 0, none⟩ = some (.slice A n c) := by rw [cell_of_row w g 0 _ _ _ hw]; rfl
 have HW := Lib.hid hw
 clear hw hy
 by_cases hneg : k < 0
 ·clear hk
  go_enter Try.func94, Try.ntmps94
  go_wp2_with (first
   | (go_at_call 110; refine (failed_any g _ 0 _ HW.out).mono ?_; rintro e w' ⟨rfl, rfl⟩)
   | (go_at_call 103; refine (fail_no g _ 2 _ HW.out).mono ?_; rintro e w' ⟨rfl, rfl⟩))
  go_ret
  exact ⟨none, 0, 0, rfl, Nat.le_refl _, By.none_, RS.failed (Q := Q) HW.out 2 (by decide)⟩
 ·have hgt : (n : Int) < k := by omega
  have hge : 0 ≤ k := by omega
  clear hk hneg hl
  go_enter Try.func94, Try.ntmps94
  go_wp2_with (first
   | (go_at_call 110; refine (failed_any g _ 0 _ HW.out).mono ?_; rintro e w' ⟨rfl, rfl⟩)
   | (go_at_call 103; refine (fail_no g _ 2 _ HW.out).mono ?_; rintro e w' ⟨rfl, rfl⟩))
  go_ret
  exact ⟨none, 0, 0, rfl, Nat.le_refl _, By.none_, RS.failed (Q := Q) HW.out 2 (by decide)⟩

set_option maxHeartbeats 1000000 in
theorem take_in (g : Nat) (xs : List UInt8) (k : Nat) (hk : k ≤ xs.length) (w : World) (h : RS Q w g tR xs 0) :
  Calls Try.prog 94 #[.pointer (some ⟨g, 0, none⟩), .int .i64 k] w (Gave Q w g tR (xs.take k) (xs.drop k) 0) := by
 obtain ⟨A, n, c, hw, hn, hm, hy⟩ := h
 have HY := Lib.hid (hy rfl)
 have hl : k ≤ n := by rw [← HY.out.len]; exact hk
 have hb : bad 0 = false := rfl
 have h0 : w.cell? ⟨g, 0, none⟩ = some (.slice A n c) := by rw [cell_of_row w g 0 _ _ _ hw]; rfl
 have f0 : w.frozen? ⟨g, 0, none⟩ = false := frozen_of_row w g 0 _ _ hw
 have HW := Lib.hid hw
 clear hw hy hk
 go_enter Try.func94, Try.ntmps94
 go_wp2_with (first
  | (go_at_call 110; refine (failed_any g _ 0 _ HW.out).mono ?_; rintro e w' ⟨rfl, rfl⟩))
 ·have ec : c = k := by assumption
  go_ret
  have T := took (k := k) (t := tR) (by decide) HW.out HY.out hl hn hm (A' := A) (by rw [if_pos ec])
  have e0 : c - k = 0 := by omega
  rw [e0] at T
  exact ⟨A, k, k, rfl, Nat.le_refl _, T⟩
 ·go_ret
  exact ⟨A, k, c, rfl, by omega, took (t := tR) (by decide) HW.out HY.out hl hn hm (by rw [if_neg ‹_›])⟩

/-- TAKE, OF WHATEVER READER AND NUMBER. -/
theorem take_any (g : Nat) (xs : List UInt8) (er k : Int) (w : World) (h : RS Q w g tR xs er) :
  Calls Try.prog 94 #[.pointer (some ⟨g, 0, none⟩), .int .i64 k] w (Gave Q w g tR (takeY xs er k) (takeX xs er k) (takeE xs er k)) := by
 unfold takeY takeX takeE
 by_cases he : er = 0
 ·subst he
  by_cases hk : 0 ≤ k ∧ k ≤ xs.length
  ·obtain ⟨j, rfl⟩ := Int.eq_ofNat_of_zero_le hk.1
   simp only [if_true, hk, and_self]
   exact take_in g xs j (by omega) w h
  ·simp only [true_and, if_true, if_neg hk]
   exact take_out g xs k hk w h
 ·simp only [he, false_and, if_false]
  exact take_bad g xs er k he w h

theorem or_step (x : Nat) (b : UInt8) (hx : x * 256 + b.toNat < 256 ^ 8) :
  bits .or .u64 (IntKind.u64.wrap ((x : Int) * 256)) (IntKind.u64.wrap (b.toNat : Int)) = ((x * 256 + b.toNat : Nat) : Int) := by
 have hb := b.toNat_lt
 have h8 : (256 : Nat) ^ 8 = 18446744073709551616 := by decide
 rw [h8] at hx
 have e1 : IntKind.u64.wrap ((x : Int) * 256) = ((2 ^ 8 * x : Nat) : Int) := by
  rw [IntWalk.u64_in _ (by omega)]; omega
 have e2 : IntKind.u64.wrap (b.toNat : Int) = (b.toNat : Int) := IntWalk.u64_in _ (by omega)
 rw [e1, e2, u64_or_nat _ _ (by omega) (by omega), ← Nat.two_pow_add_eq_or_of_lt (by omega)]
 congr 1
 omega

set_option maxHeartbeats 1000000 in
theorem number_yes (g : Nat) (xs : List UInt8) (er : Int) (k : Nat) (hk : wid k = true) (w : World) (h : RS Q w g tR xs er) :
  Calls Try.prog 72 #[.pointer (some ⟨g, 0, none⟩), .int .i64 k] w
   (GaveV Q w g tR (.int .u64 (beN (takeY xs er k))) (takeX xs er k) (takeE xs er k)) := by
 have k8 : k ≤ 8 := by have := wid_iff.1 hk; omega
 have H := Lib.hid h
 clear h
 go_enter Try.func72, Try.ntmps72
 go_wp2_with (first
  | (go_at_call 102; refine (isWidth_any _ _).mono ?_; rintro e w' ⟨rfl, rfl⟩)
  | (go_at_call 94; refine (take_any g xs er k _ H.out).mono ?_; rintro e w1 ⟨B, m, c, rfl, hmc, hy, hr, ho⟩))
 have HY := Lib.hid hy
 have HR := Lib.hid hr
 have HO := Lib.hid ho
 have hm : m ≤ 8 := by
  have := hy.len
  have e : (takeY xs er k).length ≤ k := by unfold takeY; split <;> simp; omega
  omega
 clear hy hr ho
 generalize takeY xs er k = ys at *
 have hml : ys.length = m := HY.out.len
 have HL := Lib.hid hml
 clear hml
 go_loop [5, 17] (fun v i => ∃ j : Nat, j ≤ m ∧ i = .int .i64 j ∧ v = .int .u64 (beN (ys.take j))) (fun _ i => m - (intOf i).toNat)
 case atStart => exact ⟨0, Nat.zero_le _, rfl, rfl⟩
 case round =>
  obtain ⟨j, hj, rfl, rfl⟩ := hrel
  by_cases hlt : j < m
  ·obtain ⟨gb, o, rfl, hc⟩ := HY.out.cell j (by rw [HL.out]; exact hlt)
   unfold u8 at hc
   go_wp2
   go_round
   case rel =>
    refine ⟨j + 1, by omega, by go_num, ?_⟩
    have hb1 := beN_small ys (j + 1) 8 (by omega)
    have hjl : j < ys.length := by rw [HL.out]; exact hlt
    rw [beN_take ys j hjl] at hb1 ⊢
    rw [or_step _ _ (by omega)]
   case measure => simp [intOf]; omega
  ·go_wp2
   go_ret
   have e : ys.take j = ys := List.take_of_length_le (by rw [HL.out]; omega)
   exact ⟨by rw [e]; rfl, HR.out, HO.out⟩

set_option maxHeartbeats 1000000 in
theorem number_no (g : Nat) (xs : List UInt8) (er : Int) (k : Int) (hk : wid k = false) (w : World) (h : RS Q w g tR xs er) :
  Calls Try.prog 72 #[.pointer (some ⟨g, 0, none⟩), .int .i64 k] w (GaveV Q w g tR (.int .u64 0) (failX xs er) (failE er 2)) := by
 obtain ⟨A, n, c, hw, hn, hm, hy⟩ := id h
 have HW := Lib.hid hw
 have H := Lib.hid h
 clear hw h hy
 by_cases he : er = 0
 ·subst he
  go_enter Try.func72, Try.ntmps72
  go_wp2_with (first
   | (go_at_call 102; refine (isWidth_any _ _).mono ?_; rintro e w' ⟨rfl, rfl⟩)
   | (go_at_call 103; refine (fail_no g _ 2 _ HW.out).mono ?_; rintro e w' ⟨rfl, rfl⟩))
  go_ret
  exact ⟨rfl, RS.failed (Q := Q) HW.out 2 (by decide)⟩
 ·have hx : failX xs er = xs := by simp [failX, he]
  have hf : failE er 2 = er := by simp [failE, he]
  rw [hx, hf]
  clear hx hf
  go_enter Try.func72, Try.ntmps72
  go_wp2_with (first
   | (go_at_call 102; refine (isWidth_any _ _).mono ?_; rintro e w' ⟨rfl, rfl⟩)
   | (go_at_call 103; refine (fail_yes g _ er 2 he _ HW.out).mono ?_; rintro e w' ⟨rfl, rfl⟩))
  go_ret
  exact ⟨rfl, H.out, only_refl _ _⟩

/-- NUMBER, OF WHATEVER READER, WHATEVER WIDTH. -/
theorem number_any (g : Nat) (xs : List UInt8) (er k : Int) (w : World) (h : RS Q w g tR xs er) :
  Calls Try.prog 72 #[.pointer (some ⟨g, 0, none⟩), .int .i64 k] w (GaveV Q w g tR (.int .u64 (numV xs er k)) (numX xs er k) (numE xs er k)) := by
 unfold numV numX numE
 cases hk : wid k with
 | false => exact number_no g xs er k hk w h
 | true =>
  have h0 : 0 ≤ k := by have := wid_iff.1 hk; omega
  obtain ⟨j, rfl⟩ := Int.eq_ofNat_of_zero_le h0
  exact number_yes g xs er j hk w h

theorem fail_any (g : Nat) (xs : List UInt8) (er k : Int) (hk : k ≠ 0) (w : World) (h : RS Q w g tR xs er) :
  Calls Try.prog 103 #[.pointer (some ⟨g, 0, none⟩), .int .i64 k] w fun e w' => e = .returned (.tuple #[]) ∧ RS Q w' g tR (failX xs er) (failE er k) ∧ w.grownBy w' (some g) := by
 obtain ⟨A, n, c, hw, hn, hm, hy⟩ := id h
 by_cases he : er = 0
 ·subst he
  refine (fail_no g _ k w hw).mono ?_
  rintro e w' ⟨rfl, rfl⟩
  exact ⟨rfl, RS.failed (Q := Q) hw k hk⟩
 ·refine (fail_yes g _ er k he w hw).mono ?_
  rintro e w' ⟨rfl, rfl⟩
  have e1 : failX xs er = xs := if_neg he
  have e2 : failE er k = er := if_neg he
  rw [e1, e2]
  exact ⟨rfl, h, only_refl _ _⟩

theorem Gave.of_made {w w1 : World} {g : Nat} {xs xs' : List UInt8} {er' : Int} {n : Nat} {v : Value} {w2 : World} (ho : w.grownBy w1 (some g)) (hr : RS Q w1 g tR xs' er') (hown : w2.ownsRow w1.heap.size 5 1 v n (vs xs)) (hb : Below w1.heap.size w1 w2) :
  Gave Q w g tR xs xs' er' (.returned v) w2 := by
 obtain ⟨A, c, rfl, hc, _⟩ := own_form hown
 exact ⟨A, n, c, rfl, hc, (By.of_own hown).weak fun _ _ => trivial, hr.below hb, only_trans ho (only_below hb)⟩

set_option maxHeartbeats 1000000 in
theorem upTo_any (g : Nat) (xs : List UInt8) (er k most b : Int) (hk : k = 2 ∨ k = 4) (hb : b ≠ 0) (w : World) (h : RS Q w g tR xs er) :
  Calls Try.prog 93 #[.pointer (some ⟨g, 0, none⟩), .int .i64 k, .int .i64 most, .int .i64 b] w
   (GaveV Q w g tR (.int .i64 (upV (numV xs er k) most)) (upX (numX xs er k) (numE xs er k) (numV xs er k) most) (upE (numE xs er k) (numV xs er k) most b)) := by
 have hV : numV xs er k < 4294967296 := by
  rcases numV_lt xs er k with h | h
  ·rcases hk with rfl | rfl
   ·have e : (256 : Nat) ^ ((2 : Int)).toNat = 65536 := by decide
    omega
   ·have e : (256 : Nat) ^ ((4 : Int)).toNat = 4294967296 := by decide
    omega
  ·omega
 have hcon := number_any g xs er k w h
 generalize numV xs er k = V at *
 generalize numX xs er k = X at *
 generalize numE xs er k = E at *
 unfold upV upX upE
 clear h hk
 by_cases hlt : most < V
 ·simp only [if_pos hlt]
  go_enter Try.func93, Try.ntmps93
  go_wp2_with (first
   | (go_at_call 72; refine hcon.mono ?_; rintro e w1 ⟨rfl, hr, ho⟩; have HR := Lib.hid hr; have HO := Lib.hid ho; clear hr ho)
   | (go_at_call 103; refine (fail_any g X E b hb _ HR.out).mono ?_; rintro e w2 ⟨rfl, hr2, ho2⟩))
  go_ret
  exact ⟨rfl, hr2, only_trans HO.out ho2⟩
 ·simp only [if_neg hlt]
  go_enter Try.func93, Try.ntmps93
  go_wp2_with (first
   | (go_at_call 72; refine hcon.mono ?_; rintro e w1 ⟨rfl, hr, ho⟩; have HR := Lib.hid hr; have HO := Lib.hid ho; clear hr ho))
  go_ret
  exact ⟨rfl, HR.out, HO.out⟩

set_option maxHeartbeats 1000000 in
theorem rowm_any (g : Nat) (xs : List UInt8) (er most : Int) (hx : xs.length ≤ 1099511627776) (w : World) (h : RS Q w g tR xs er) :
  Calls Try.prog 48 #[.pointer (some ⟨g, 0, none⟩), .int .i64 most] w (Gave Q w g tR (rowY xs er most) (rowX xs er most) (rowE xs er most)) := by
 unfold rowY rowX rowE
 have hcon := upTo_any g xs er 4 most 3 (.inr rfl) (by decide) w h
 have hl := Nat.le_trans (upX_le (numX xs er 4) (numE xs er 4) (numV xs er 4) most) (Nat.le_trans (numX_le xs er 4) hx)
 generalize upX (numX xs er 4) (numE xs er 4) (numV xs er 4) most = X at *
 generalize upE (numE xs er 4) (numV xs er 4) most 3 = E at *
 generalize upV (numV xs er 4) most = V at *
 have hl2 := Nat.le_trans (takeY_le X E V) hl
 clear h
 go_enter Try.func48, Try.ntmps48
 go_wp2_with (first
  | (go_at_call 93; refine hcon.mono ?_; rintro e w0 ⟨rfl, hr, ho⟩; have HR0 := Lib.hid hr; have HO0 := Lib.hid ho; clear hr ho)
  | (go_at_call 94; refine (take_any g X E V _ HR0.out).mono ?_; rintro e w1 ⟨B, m, c, rfl, hmc, hy, hr, ho⟩; have HY := Lib.hid hy; have HR := Lib.hid hr; have HO := Lib.hid ho; clear hy hr ho)
  | (go_at_call 89; refine (clone_any _ B m c _ _ HY.out (by have := HY.out.len; omega)).mono ?_; rintro e w2 ⟨v2, rfl, hown, hb⟩))
 go_ret
 exact Gave.of_made (only_trans HO0.out HO.out) HR.out hown hb

set_option maxHeartbeats 1000000 in
theorem count_any (g : Nat) (xs : List UInt8) (er most : Int) (w : World) (h : RS Q w g tR xs er) :
  Calls Try.prog 73 #[.pointer (some ⟨g, 0, none⟩), .int .i64 most] w
   (GaveV Q w g tR (.int .i64 (upV (numV xs er 2) most)) (upX (numX xs er 2) (numE xs er 2) (numV xs er 2) most) (upE (numE xs er 2) (numV xs er 2) most 4)) := by
 have hcon := upTo_any g xs er 2 most 4 (.inl rfl) (by decide) w h
 clear h
 go_enter Try.func73, Try.ntmps73
 go_wp2_with (go_at_call 93; refine hcon.mono ?_; rintro e w0 ⟨rfl, hr, ho⟩; have HR0 := Lib.hid hr; have HO0 := Lib.hid ho; clear hr ho)
 go_ret
 exact ⟨rfl, HR0.out, HO0.out⟩

set_option maxHeartbeats 1000000 in
theorem end_any (g : Nat) (xs : List UInt8) (er : Int) (w : World) (h : RS Q w g tR xs er) :
  Calls Try.prog 53 #[.pointer (some ⟨g, 0, none⟩)] w fun e w' => e = .returned (.int .i64 (endV xs er)) ∧ w = w' := by
 obtain ⟨A, n, c, hw, hn, hm, hy⟩ := h
 have h0 : w.cell? ⟨g, 0, none⟩ = some (.slice A n c) := by rw [cell_of_row w g 0 _ _ _ hw]; rfl
 have h1 : w.cell? ⟨g, 1, none⟩ = some (.int .i64 er) := by rw [cell_of_row w g 1 _ _ _ hw]; rfl
 unfold endV
 by_cases he : er = 0
 ·have hl := (hy he).len
  subst he
  clear hw hy
  by_cases hn0 : n = 0
  ·subst hn0
   obtain rfl : xs = [] := List.eq_nil_of_length_eq_zero hl
   clear hl
   go_enter Try.func53, Try.ntmps53
   go_wp2
   go_ret
   exact ⟨rfl, rfl⟩
  ·have hpos : 0 < n := by omega
   have hne : xs ≠ [] := by rintro rfl; simp at hl; omega
   simp only [if_true, if_neg hne]
   clear hl hn0 hne
   go_enter Try.func53, Try.ntmps53
   go_wp2
   go_ret
   exact ⟨rfl, rfl⟩
 ·simp only [if_neg he]
  have hb : (er != 0) = true := by simpa using he
  clear hw hy
  go_enter Try.func53, Try.ntmps53
  go_wp2
  go_ret
  exact ⟨rfl, rfl⟩

theorem RS.new {w : World} {base n c : Nat} {B : Option Addr} {xs : List UInt8} (t : TypeId) (h : w.ownsRow base 5 1 (.slice B n c) n (vs xs)) :
  RS (fun b => base ≤ b) (w.alloc (.cells #[.slice B n c, .int .i64 0] t)) w.heap.size t xs 0 := by
 obtain ⟨B', c', e, hn, hm, _⟩ := own_form h
 injection e with _ _ ec
 subst ec
 exact ⟨B, n, c, heap_alloc_new w _, hn, hm, fun _ => ((By.of_own h).alloc _).weak fun _ hb => hb.1⟩

set_option maxHeartbeats 1000000 in
theorem read_any (Q : Nat → Prop) (A : Option Addr) (n c : Nat) (xs : List UInt8) (w : World) (h : By w Q A n xs) (hn : n ≤ 1099511627776) :
  Calls Try.prog 44 #[.slice A n c] w fun e w' => ∃ g, e = .returned (.pointer (some ⟨g, 0, none⟩)) ∧ RS (fun b => w.heap.size ≤ b) w' g tR xs 0 ∧ Below w.heap.size w w' ∧ w.heap.size ≤ g := by
 have H := Lib.hid h
 clear h
 go_enter Try.func44, Try.ntmps44
 go_wp2_with (go_at_call 89; refine (clone_any Q A n c _ _ H.out (by omega)).mono ?_; rintro e w1 ⟨v1, rfl, hown, hb⟩; obtain ⟨B, cc, rfl, hcc, hmx, _⟩ := own_form hown; have O := Lib.hid hown; clear hown)
 go_ret
 exact ⟨w1.heap.size, rfl, RS.new tR O.out, hb.alloc hb.size _, hb.size⟩

end Go.Proofs.Ytheecifgbkdecaa
