/-
  Range of whatever reader and width; and a nil reader: it has failed.
-/
import Derived.Test.YtjjfleiebebblaaRange
namespace Go.Proofs.Ytjjfleiebebblaa
open Go.RowKit

/-- What Range answers, leaves, and fails with. -/
def rngV (xs : List UInt8) (er k lo hi : Int) : Int := if numE xs er k = 0 ∧ lo ≤ sx k (numV xs er k) ∧ sx k (numV xs er k) ≤ hi then sx k (numV xs er k) else 0
def rngX (xs : List UInt8) (er k lo hi : Int) : List UInt8 := if numE xs er k = 0 then (if lo ≤ sx k (numV xs er k) ∧ sx k (numV xs er k) ≤ hi then numX xs er k else []) else numX xs er k
def rngE (xs : List UInt8) (er k lo hi : Int) : Int := if numE xs er k = 0 then (if lo ≤ sx k (numV xs er k) ∧ sx k (numV xs er k) ≤ hi then 0 else 5) else numE xs er k

theorem wid_of_ok {xs : List UInt8} {er k : Int} (h : numE xs er k = 0) : wid k = true := by
  cases hk : wid k with
  | true => rfl
  | false =>
    unfold numE at h
    rw [hk] at h
    simp [failE] at h
    split at h
    · cases h
    · contradiction

set_option maxHeartbeats 1000000 in
theorem range_bad (g : Nat) (xs : List UInt8) (er k lo hi : Int) (w : World) (h : RS w g tR xs er) (hE : numE xs er k ≠ 0) :
    Calls Try.prog 10 #[.pointer (some ⟨g, 0, none⟩), .int .i64 k, .int .i64 lo, .int .i64 hi] w
      (GaveV w g tR (.int .i64 0) (numX xs er k) (numE xs er k)) := by
  have hcon := number_any g xs er k w h
  have hb : bad (numE xs er k) = true := by simpa [bad] using hE
  generalize numV xs er k = V at *
  generalize numX xs er k = X at *
  generalize numE xs er k = E at *
  clear h hE
  go_enter Try.func10, Try.ntmps10
  go_wp2_with (first
    | (go_at_call 8; refine hcon.mono ?_; rintro e w1 ⟨rfl, hr, ho⟩; obtain ⟨A, n, c, hw1, _⟩ := id hr; have HW := Lib.hid hw1; have HR := Lib.hid hr; have HO := Lib.hid ho; clear hr ho hw1)
    | (go_at_call 29; refine (failed_any g _ E _ HW.out).mono ?_; rintro e w' ⟨rfl, rfl⟩))
  go_ret
  exact ⟨rfl, HR.out, HO.out⟩

/-- RANGE, OF WHATEVER READER, WIDTH AND BOUNDS. -/
theorem range_any (g : Nat) (xs : List UInt8) (er k lo hi : Int) (w : World) (h : RS w g tR xs er) :
    Calls Try.prog 10 #[.pointer (some ⟨g, 0, none⟩), .int .i64 k, .int .i64 lo, .int .i64 hi] w
      (GaveV w g tR (.int .i64 (rngV xs er k lo hi)) (rngX xs er k lo hi) (rngE xs er k lo hi)) := by
  unfold rngV rngX rngE
  by_cases hE : numE xs er k = 0
  · have hk := wid_of_ok hE
    have all : Calls Try.prog 10 #[.pointer (some ⟨g, 0, none⟩), .int .i64 k, .int .i64 lo, .int .i64 hi] w (RangeP w g tR (numX xs er k) (sx k (numV xs er k)) lo hi) := by
      rcases wid_iff.1 hk with rfl | rfl | rfl | rfl
      · exact range_1 g xs er lo hi w h hE
      · exact range_2 g xs er lo hi w h hE
      · exact range_4 g xs er lo hi w h hE
      · exact range_8 g xs er lo hi w h hE
    refine all.mono fun e w' hp => ?_
    by_cases hin : lo ≤ sx k (numV xs er k) ∧ sx k (numV xs er k) ≤ hi
    · simp only [hE, hin, and_self, if_true]
      exact hp.1 hin
    · simp only [hE, hin, true_and, if_true, if_false]
      exact hp.2 hin
  · simp only [hE, false_and, if_false]
    exact range_bad g xs er k lo hi w h hE

set_option maxHeartbeats 400000 in
theorem fail_nil (k : Int) (w : World) :
    Calls Try.prog 26 #[.pointer none, .int .i64 k] w fun e w' => e = .returned (.tuple #[]) ∧ w = w' := by
  go_enter Try.func26, Try.ntmps26
  go_wp2_with (go_at_call 29; refine (failed_nil _).mono ?_; rintro e w' ⟨rfl, rfl⟩)
  refine bodyPost_ret (results_none rfl _ _ _) rfl ?_
  exact ⟨rfl, rfl⟩

set_option maxHeartbeats 400000 in
theorem take_nil (k : Int) (w : World) :
    Calls Try.prog 27 #[.pointer none, .int .i64 k] w fun e w' => e = .returned (.slice none 0 0) ∧ w = w' := by
  go_enter Try.func27, Try.ntmps27
  go_wp2_with (first
    | (go_at_call 29; refine (failed_nil _).mono ?_; rintro e w' ⟨rfl, rfl⟩)
    | (go_at_call 26; refine (fail_nil _ _).mono ?_; rintro e w' ⟨rfl, rfl⟩))
  go_ret
  exact ⟨rfl, rfl⟩

set_option maxHeartbeats 400000 in
theorem number_nil (k : Int) (hk : wid k = true) (w : World) :
    Calls Try.prog 8 #[.pointer none, .int .i64 k] w fun e w' => e = .returned (.int .u64 0) ∧ w = w' := by
  go_enter Try.func8, Try.ntmps8
  go_wp2_with (first
    | (go_at_call 25; refine (isWidth_any _ _).mono ?_; rintro e w' ⟨rfl, rfl⟩)
    | (go_at_call 27; refine (take_nil k _).mono ?_; rintro e w' ⟨rfl, rfl⟩))
  go_rounds 1
  go_ret
  exact ⟨rfl, rfl⟩

set_option maxHeartbeats 400000 in
theorem upTo_nil (k most b : Int) (hk : wid k = true) (hm : 0 ≤ most) (w : World) :
    Calls Try.prog 30 #[.pointer none, .int .i64 k, .int .i64 most, .int .i64 b] w fun e w' => e = .returned (.int .i64 0) ∧ w = w' := by
  go_enter Try.func30, Try.ntmps30
  go_wp2_with (go_at_call 8; refine (number_nil k hk _).mono ?_; rintro e w' ⟨rfl, rfl⟩)
  go_ret
  exact ⟨rfl, rfl⟩

set_option maxHeartbeats 400000 in
theorem count_nil (most : Int) (hm : 0 ≤ most) (w : World) :
    Calls Try.prog 16 #[.pointer none, .int .i64 most] w fun e w' => e = .returned (.int .i64 0) ∧ w = w' := by
  go_enter Try.func16, Try.ntmps16
  go_wp2_with (go_at_call 30; refine (upTo_nil 2 most 4 rfl hm _).mono ?_; rintro e w' ⟨rfl, rfl⟩)
  go_ret
  exact ⟨rfl, rfl⟩

set_option maxHeartbeats 400000 in
theorem clone_nil (w : World) :
    Calls Try.prog 24 #[.slice none 0 0] w fun e w' => e = .returned (.slice none 0 0) ∧ w = w' := by
  have q22 : ∀ (w : World) (a : Option Addr) (n c n' c' : Nat), (binOp .eql 22 (.slice a n c) (.slice none n' c')).run Try.prog w = .ok (.bool a.isNone) w := fun w a n c n' c' => Lib.run_eql_slice_nil w _ _ a n c n' c' Try.underlying22
  go_enter Try.func24, Try.ntmps24
  go_wp2
  go_ret
  exact ⟨rfl, rfl⟩

set_option maxHeartbeats 400000 in
theorem row_nil (most : Int) (hm : 0 ≤ most) (w : World) :
    Calls Try.prog 12 #[.pointer none, .int .i64 most] w fun e w' => e = .returned (.slice none 0 0) ∧ w = w' := by
  go_enter Try.func12, Try.ntmps12
  go_wp2_with (first
    | (go_at_call 30; refine (upTo_nil 4 most 3 rfl hm _).mono ?_; rintro e w' ⟨rfl, rfl⟩)
    | (go_at_call 27; refine (take_nil 0 _).mono ?_; rintro e w' ⟨rfl, rfl⟩)
    | (go_at_call 24; refine (clone_nil _).mono ?_; rintro e w' ⟨rfl, rfl⟩))
  go_ret
  exact ⟨rfl, rfl⟩

set_option maxHeartbeats 400000 in
theorem end_nil (w : World) :
    Calls Try.prog 18 #[.pointer none] w fun e w' => e = .returned (.int .i64 1) ∧ w = w' := by
  go_enter Try.func18, Try.ntmps18
  go_wp2
  go_ret
  exact ⟨rfl, rfl⟩

end Go.Proofs.Ytjjfleiebebblaa
