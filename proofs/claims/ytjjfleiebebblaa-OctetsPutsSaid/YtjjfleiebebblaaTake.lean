/-
  (*Reader).take: of a reader of the program: k bytes, or a failure.
-/
import Derived.Test.YtjjfleiebebblaaRd
namespace Go.Proofs.Ytjjfleiebebblaa
open Go.RowKit

theorem RS.failed {w : World} {g : Nat} {t : TypeId} {x y : Value} (h : w.heap[g]? = some (.cells #[x, y] t (0, 0))) (k : Int) (hk : k ≠ 0) :
    RS ((w.setCell ⟨g, 1, none⟩ (.int .i64 k)).setCell ⟨g, 0, none⟩ (.slice none 0 0)) g t [] k ∧ w.grownBy ((w.setCell ⟨g, 1, none⟩ (.int .i64 k)).setCell ⟨g, 0, none⟩ (.slice none 0 0)) (some g) :=
  ⟨⟨none, 0, 0, by rw [heap_set (heap_set h 1 _) 0 _]; rfl, Nat.le_refl _, Nat.zero_le _, fun h0 => absurd h0 hk⟩, only_trans (only_set w g 1 _) (only_set _ g 0 _)⟩

theorem took {w : World} {g n c k : Nat} {t : TypeId} (ht : t ≠ 5) {xs : List UInt8} {A A' : Option Addr} (hw : w.heap[g]? = some (.cells #[.slice A n c, .int .i64 0] t (0, 0))) (hy : By w (Bk w) A n xs) (hl : k ≤ n) (hn : n ≤ c) (hm : c ≤ maxLen)
    (hA : A' = if c = k then A else A.map (·.add k)) :
    By (w.setCell ⟨g, 0, none⟩ (.slice A' (n - k) (c - k))) (Bk (w.setCell ⟨g, 0, none⟩ (.slice A' (n - k) (c - k)))) A k (xs.take k) ∧
    RS (w.setCell ⟨g, 0, none⟩ (.slice A' (n - k) (c - k))) g t (xs.drop k) 0 ∧ w.grownBy (w.setCell ⟨g, 0, none⟩ (.slice A' (n - k) (c - k))) (some g) := by
  have hg := only_set w g 0 (.slice A' (n - k) (c - k))
  have hr : ∀ k, some g = some k → ∃ cs t, w.heap[k]? = some (.cells cs t (0, 0)) ∧ t ≠ 5 := fun k hk => by injection hk with hk; subst hk; exact ⟨_, _, hw, ht⟩
  refine ⟨(hy.take hl).keepBk hg hr, ⟨A', n - k, c - k, by rw [heap_set hw]; rfl, by omega, by omega, fun _ => ?_⟩, hg⟩
  rw [hA]
  rw [hA] at hg
  exact (hy.drop hl hn).keepBk hg hr

set_option maxHeartbeats 1000000 in
theorem take_bad (g : Nat) (xs : List UInt8) (er k : Int) (he : er ≠ 0) (w : World) (h : RS w g tR xs er) :
    Calls Try.prog 27 #[.pointer (some ⟨g, 0, none⟩), .int .i64 k] w (Gave w g tR [] xs er) := by
  obtain ⟨A, n, c, hw, hn, hm, hy⟩ := id h
  have hb : bad er = true := by simpa [bad] using he
  have HW := Lib.hid hw
  have H := Lib.hid h
  clear hw h hy
  go_enter Try.func27, Try.ntmps27
  go_wp2_with (first
    | (go_at_call 29; refine (failed_any g _ er _ HW.out).mono ?_; rintro e w' ⟨rfl, rfl⟩)
    | (go_at_call 26; refine (fail_yes g _ er 2 he _ HW.out).mono ?_; rintro e w' ⟨rfl, rfl⟩))
  go_ret
  exact ⟨none, 0, 0, rfl, Nat.le_refl _, By.none_, H.out, only_refl _ _⟩

set_option maxHeartbeats 1000000 in
theorem take_out (g : Nat) (xs : List UInt8) (k : Int) (hk : ¬ (0 ≤ k ∧ k ≤ xs.length)) (w : World) (h : RS w g tR xs 0) :
    Calls Try.prog 27 #[.pointer (some ⟨g, 0, none⟩), .int .i64 k] w (Gave w g tR [] [] 2) := by
  obtain ⟨A, n, c, hw, hn, hm, hy⟩ := h
  have hl := (hy rfl).len
  have hb : bad 0 = false := rfl
  have h0 : w.cell? ⟨g, 0, none⟩ = some (.slice A n c) := by rw [cell_of_row w g 0 _ _ _ hw]; rfl
  have HW := Lib.hid hw
  clear hw hy
  by_cases hneg : k < 0
  · clear hk
    go_enter Try.func27, Try.ntmps27
    go_wp2_with (first
      | (go_at_call 29; refine (failed_any g _ 0 _ HW.out).mono ?_; rintro e w' ⟨rfl, rfl⟩)
      | (go_at_call 26; refine (fail_no g _ 2 _ HW.out).mono ?_; rintro e w' ⟨rfl, rfl⟩))
    go_ret
    exact ⟨none, 0, 0, rfl, Nat.le_refl _, By.none_, RS.failed HW.out 2 (by decide)⟩
  · have hgt : (n : Int) < k := by omega
    have hge : 0 ≤ k := by omega
    clear hk hneg hl
    go_enter Try.func27, Try.ntmps27
    go_wp2_with (first
      | (go_at_call 29; refine (failed_any g _ 0 _ HW.out).mono ?_; rintro e w' ⟨rfl, rfl⟩)
      | (go_at_call 26; refine (fail_no g _ 2 _ HW.out).mono ?_; rintro e w' ⟨rfl, rfl⟩))
    go_ret
    exact ⟨none, 0, 0, rfl, Nat.le_refl _, By.none_, RS.failed HW.out 2 (by decide)⟩

set_option maxHeartbeats 1000000 in
theorem take_in (g : Nat) (xs : List UInt8) (k : Nat) (hk : k ≤ xs.length) (w : World) (h : RS w g tR xs 0) :
    Calls Try.prog 27 #[.pointer (some ⟨g, 0, none⟩), .int .i64 k] w (Gave w g tR (xs.take k) (xs.drop k) 0) := by
  obtain ⟨A, n, c, hw, hn, hm, hy⟩ := h
  have HY := Lib.hid (hy rfl)
  have hl : k ≤ n := by rw [← HY.out.len]; exact hk
  have hb : bad 0 = false := rfl
  have h0 : w.cell? ⟨g, 0, none⟩ = some (.slice A n c) := by rw [cell_of_row w g 0 _ _ _ hw]; rfl
  have f0 : w.frozen? ⟨g, 0, none⟩ = false := frozen_of_row w g 0 _ _ hw
  have HW := Lib.hid hw
  clear hw hy hk
  go_enter Try.func27, Try.ntmps27
  go_wp2_with (first
    | (go_at_call 29; refine (failed_any g _ 0 _ HW.out).mono ?_; rintro e w' ⟨rfl, rfl⟩))
  · have ec : c = k := by assumption
    go_ret
    have T := took (k := k) (t := tR) (by decide) HW.out HY.out hl hn hm (A' := A) (by rw [if_pos ec])
    have e0 : c - k = 0 := by omega
    rw [e0] at T
    exact ⟨A, k, k, rfl, Nat.le_refl _, T⟩
  · go_ret
    exact ⟨A, k, c, rfl, by omega, took (t := tR) (by decide) HW.out HY.out hl hn hm (by rw [if_neg ‹_›])⟩

/-- TAKE, OF WHATEVER READER AND NUMBER. -/
theorem take_any (g : Nat) (xs : List UInt8) (er k : Int) (w : World) (h : RS w g tR xs er) :
    Calls Try.prog 27 #[.pointer (some ⟨g, 0, none⟩), .int .i64 k] w (Gave w g tR (takeY xs er k) (takeX xs er k) (takeE xs er k)) := by
  unfold takeY takeX takeE
  by_cases he : er = 0
  · subst he
    by_cases hk : 0 ≤ k ∧ k ≤ xs.length
    · obtain ⟨j, rfl⟩ := Int.eq_ofNat_of_zero_le hk.1
      simp only [if_true, hk, and_self]
      exact take_in g xs j (by omega) w h
    · simp only [true_and, if_true, if_neg hk]
      exact take_out g xs k hk w h
  · simp only [he, false_and, if_false]
    exact take_bad g xs er k he w h

end Go.Proofs.Ytjjfleiebebblaa
