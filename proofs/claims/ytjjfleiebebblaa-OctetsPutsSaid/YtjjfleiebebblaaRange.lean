/-
  (*Reader).Range: of a reader of the program: a number with its sign, within bounds.
-/
import Derived.Test.YtjjfleiebebblaaRd2
namespace Go.Proofs.Ytjjfleiebebblaa
open Go.RowKit

/-- A number of k bytes, with its sign. -/
def sx (k : Int) (V : Nat) : Int := if k = 1 then (if V < 128 then V else V - 256) else if k = 2 then (if V < 32768 then V else V - 65536) else if k = 4 then (if V < 2147483648 then V else V - 4294967296) else if V < 9223372036854775808 then V else V - 18446744073709551616

/-- What Range does behind Number: a number S, and bounds. -/
def RangeP (w : World) (g : Nat) (t : TypeId) (X : List UInt8) (S lo hi : Int) (e : Ending) (w' : World) : Prop :=
  (lo ≤ S ∧ S ≤ hi → GaveV w g t (.int .i64 S) X 0 e w') ∧ (¬ (lo ≤ S ∧ S ≤ hi) → GaveV w g t (.int .i64 0) [] 5 e w')

theorem sx_1 (V : Nat) (hV : V < 256) : wrap64 ((V : Int) * 72057594037927936) / 72057594037927936 = sx 1 V := by
  have e : sx 1 V = if V < 128 then (V : Int) else V - 256 := by simp [sx]
  rw [e]
  unfold wrap64
  split <;> omega

set_option maxHeartbeats 1000000 in
theorem range_1 (g : Nat) (xs : List UInt8) (er : Int) (lo hi : Int) (w : World) (h : RS w g tR xs er) (hE : numE xs er 1 = 0) :
    Calls Try.prog 10 #[.pointer (some ⟨g, 0, none⟩), .int .i64 1, .int .i64 lo, .int .i64 hi] w
      (RangeP w g tR (numX xs er 1) (sx 1 (numV xs er 1)) lo hi) := by
  have hcon := number_any g xs er 1 w h
  have hV : numV xs er 1 < 256 := by
    rcases numV_lt xs er 1 with h | h
    · have e : (256 : Nat) ^ ((1 : Int)).toNat = 256 := by decide
      rw [e] at h
      exact h
    · rw [h]; decide
  have ES := Lib.hid (sx_1 _ hV)
  have hb : bad 0 = false := rfl
  rw [hE] at hcon
  generalize numV xs er 1 = V at *
  generalize numX xs er 1 = X at *
  clear h hE
  go_enter Try.func10, Try.ntmps10
  go_wp2_with (first
    | (go_at_call 8; refine hcon.mono ?_; rintro e w1 ⟨rfl, hr, ho⟩; obtain ⟨A, n, c, hw1, _⟩ := id hr; have HW := Lib.hid hw1; have HR := Lib.hid hr; have HO := Lib.hid ho; clear hr ho hw1)
    | (go_at_call 29; refine (failed_any g _ 0 _ HW.out).mono ?_; rintro e w' ⟨rfl, rfl⟩)
    | (go_at_call 26; refine (fail_any g X 0 5 (by decide) _ HR.out).mono ?_; rintro e w2 ⟨rfl, hr2, ho2⟩))
  all_goals go_ret
  all_goals refine ⟨fun h => ?_, fun h => ?_⟩
  all_goals rw [← ES.out] at h
  all_goals (try rw [← ES.out])
  all_goals first
    | (exfalso; omega)
    | exact ⟨rfl, HR.out, HO.out⟩
    | exact ⟨rfl, hr2, only_trans HO.out ho2⟩

theorem sx_2 (V : Nat) (hV : V < 65536) : wrap64 ((V : Int) * 281474976710656) / 281474976710656 = sx 2 V := by
  have e : sx 2 V = if V < 32768 then (V : Int) else V - 65536 := by simp [sx]
  rw [e]
  unfold wrap64
  split <;> omega

set_option maxHeartbeats 1000000 in
theorem range_2 (g : Nat) (xs : List UInt8) (er : Int) (lo hi : Int) (w : World) (h : RS w g tR xs er) (hE : numE xs er 2 = 0) :
    Calls Try.prog 10 #[.pointer (some ⟨g, 0, none⟩), .int .i64 2, .int .i64 lo, .int .i64 hi] w
      (RangeP w g tR (numX xs er 2) (sx 2 (numV xs er 2)) lo hi) := by
  have hcon := number_any g xs er 2 w h
  have hV : numV xs er 2 < 65536 := by
    rcases numV_lt xs er 2 with h | h
    · have e : (256 : Nat) ^ ((2 : Int)).toNat = 65536 := by decide
      rw [e] at h
      exact h
    · rw [h]; decide
  have ES := Lib.hid (sx_2 _ hV)
  have hb : bad 0 = false := rfl
  rw [hE] at hcon
  generalize numV xs er 2 = V at *
  generalize numX xs er 2 = X at *
  clear h hE
  go_enter Try.func10, Try.ntmps10
  go_wp2_with (first
    | (go_at_call 8; refine hcon.mono ?_; rintro e w1 ⟨rfl, hr, ho⟩; obtain ⟨A, n, c, hw1, _⟩ := id hr; have HW := Lib.hid hw1; have HR := Lib.hid hr; have HO := Lib.hid ho; clear hr ho hw1)
    | (go_at_call 29; refine (failed_any g _ 0 _ HW.out).mono ?_; rintro e w' ⟨rfl, rfl⟩)
    | (go_at_call 26; refine (fail_any g X 0 5 (by decide) _ HR.out).mono ?_; rintro e w2 ⟨rfl, hr2, ho2⟩))
  all_goals go_ret
  all_goals refine ⟨fun h => ?_, fun h => ?_⟩
  all_goals rw [← ES.out] at h
  all_goals (try rw [← ES.out])
  all_goals first
    | (exfalso; omega)
    | exact ⟨rfl, HR.out, HO.out⟩
    | exact ⟨rfl, hr2, only_trans HO.out ho2⟩

theorem sx_4 (V : Nat) (hV : V < 4294967296) : wrap64 ((V : Int) * 4294967296) / 4294967296 = sx 4 V := by
  have e : sx 4 V = if V < 2147483648 then (V : Int) else V - 4294967296 := by simp [sx]
  rw [e]
  unfold wrap64
  split <;> omega

set_option maxHeartbeats 1000000 in
theorem range_4 (g : Nat) (xs : List UInt8) (er : Int) (lo hi : Int) (w : World) (h : RS w g tR xs er) (hE : numE xs er 4 = 0) :
    Calls Try.prog 10 #[.pointer (some ⟨g, 0, none⟩), .int .i64 4, .int .i64 lo, .int .i64 hi] w
      (RangeP w g tR (numX xs er 4) (sx 4 (numV xs er 4)) lo hi) := by
  have hcon := number_any g xs er 4 w h
  have hV : numV xs er 4 < 4294967296 := by
    rcases numV_lt xs er 4 with h | h
    · have e : (256 : Nat) ^ ((4 : Int)).toNat = 4294967296 := by decide
      rw [e] at h
      exact h
    · rw [h]; decide
  have ES := Lib.hid (sx_4 _ hV)
  have hb : bad 0 = false := rfl
  rw [hE] at hcon
  generalize numV xs er 4 = V at *
  generalize numX xs er 4 = X at *
  clear h hE
  go_enter Try.func10, Try.ntmps10
  go_wp2_with (first
    | (go_at_call 8; refine hcon.mono ?_; rintro e w1 ⟨rfl, hr, ho⟩; obtain ⟨A, n, c, hw1, _⟩ := id hr; have HW := Lib.hid hw1; have HR := Lib.hid hr; have HO := Lib.hid ho; clear hr ho hw1)
    | (go_at_call 29; refine (failed_any g _ 0 _ HW.out).mono ?_; rintro e w' ⟨rfl, rfl⟩)
    | (go_at_call 26; refine (fail_any g X 0 5 (by decide) _ HR.out).mono ?_; rintro e w2 ⟨rfl, hr2, ho2⟩))
  all_goals go_ret
  all_goals refine ⟨fun h => ?_, fun h => ?_⟩
  all_goals rw [← ES.out] at h
  all_goals (try rw [← ES.out])
  all_goals first
    | (exfalso; omega)
    | exact ⟨rfl, HR.out, HO.out⟩
    | exact ⟨rfl, hr2, only_trans HO.out ho2⟩

theorem sx_8 (V : Nat) (hV : V < 18446744073709551616) : wrap64 (V : Int) = sx 8 V := by
  have e : sx 8 V = if V < 9223372036854775808 then (V : Int) else V - 18446744073709551616 := by simp [sx]
  rw [e]
  unfold wrap64
  split <;> omega

set_option maxHeartbeats 1000000 in
theorem range_8 (g : Nat) (xs : List UInt8) (er : Int) (lo hi : Int) (w : World) (h : RS w g tR xs er) (hE : numE xs er 8 = 0) :
    Calls Try.prog 10 #[.pointer (some ⟨g, 0, none⟩), .int .i64 8, .int .i64 lo, .int .i64 hi] w
      (RangeP w g tR (numX xs er 8) (sx 8 (numV xs er 8)) lo hi) := by
  have hcon := number_any g xs er 8 w h
  have hV : numV xs er 8 < 18446744073709551616 := by
    rcases numV_lt xs er 8 with h | h
    · have e : (256 : Nat) ^ ((8 : Int)).toNat = 18446744073709551616 := by decide
      rw [e] at h
      exact h
    · rw [h]; decide
  have ES := Lib.hid (sx_8 _ hV)
  have hb : bad 0 = false := rfl
  rw [hE] at hcon
  generalize numV xs er 8 = V at *
  generalize numX xs er 8 = X at *
  clear h hE
  go_enter Try.func10, Try.ntmps10
  go_wp2_with (first
    | (go_at_call 8; refine hcon.mono ?_; rintro e w1 ⟨rfl, hr, ho⟩; obtain ⟨A, n, c, hw1, _⟩ := id hr; have HW := Lib.hid hw1; have HR := Lib.hid hr; have HO := Lib.hid ho; clear hr ho hw1)
    | (go_at_call 29; refine (failed_any g _ 0 _ HW.out).mono ?_; rintro e w' ⟨rfl, rfl⟩)
    | (go_at_call 26; refine (fail_any g X 0 5 (by decide) _ HR.out).mono ?_; rintro e w2 ⟨rfl, hr2, ho2⟩))
  all_goals go_ret
  all_goals refine ⟨fun h => ?_, fun h => ?_⟩
  all_goals rw [← ES.out] at h
  all_goals (try rw [← ES.out])
  all_goals first
    | (exfalso; omega)
    | exact ⟨rfl, HR.out, HO.out⟩
    | exact ⟨rfl, hr2, only_trans HO.out ho2⟩

end Go.Proofs.Ytjjfleiebebblaa
