/-
  The document's reader: Range.
-/
import Derived.Test.YtjjfleiebebblaaRNum
namespace Go.Proofs.Ytjjfleiebebblaa
open Go.RowKit

theorem rsx_1 (V : Nat) (hV : V < 256) : wrap64 (IntKind.i8.wrap (V : Int)) = sx 1 V := by
  have e : sx 1 V = if V < 128 then (V : Int) else V - 256 := by simp [sx]
  rw [e]
  simp only [wrap64, IntKind.wrap, IntKind.bits, IntKind.signed]
  simp
  split <;> omega

set_option maxHeartbeats 1000000 in
theorem rrange_1 (g : Nat) (xs : List UInt8) (er : Int) (lo hi : Int) (hx : xs.length ≤ 1099511627776) (w : World) (h : RS w g tQ xs er) (hE : numE xs er 1 = 0) :
    Calls Try.prog 11 #[.pointer (some ⟨g, 0, none⟩), .int .i64 1, .int .i64 lo, .int .i64 hi] w
      (RangeP w g tQ (numX xs er 1) (sx 1 (numV xs er 1)) lo hi) := by
  have hcon := rnumber_any g xs er 1 hx w h
  have hV : numV xs er 1 < 256 := by
    rcases numV_lt xs er 1 with h | h
    · have e : (256 : Nat) ^ ((1 : Int)).toNat = 256 := by decide
      rw [e] at h
      exact h
    · rw [h]; decide
  have ES := Lib.hid (rsx_1 _ hV)
  rw [hE] at hcon
  generalize numV xs er 1 = V at *
  generalize numX xs er 1 = X at *
  clear h hE
  go_enter Try.func11, Try.ntmps11
  go_wp2_with (first
    | (go_at_call 9; refine hcon.mono ?_; rintro e w1 ⟨rfl, hr, ho⟩; obtain ⟨A, n, c, hw1, hn, hm, _⟩ := id hr; have k1 : w1.cell? ⟨g, 1, none⟩ = some (.int .i64 0) := (by rw [cell_of_row w1 g 1 _ _ _ hw1]; rfl); have f1 := frozen_of_row w1 g 1 _ _ hw1; have HW := Lib.hid hw1; have HR := Lib.hid hr; have HO := Lib.hid ho; clear hr ho hw1))
  all_goals go_ret
  all_goals refine ⟨fun h => ?_, fun h => ?_⟩
  all_goals rw [← ES.out] at h
  all_goals (try rw [← ES.out])
  all_goals first
    | (exfalso; omega)
    | exact ⟨rfl, HR.out, HO.out⟩
    | exact ⟨rfl, (RS.marked HW.out hn hm [] 5 (by decide)).1, only_trans HO.out (RS.marked HW.out hn hm [] 5 (by decide)).2⟩

theorem rsx_2 (V : Nat) (hV : V < 65536) : wrap64 (IntKind.i16.wrap (V : Int)) = sx 2 V := by
  have e : sx 2 V = if V < 32768 then (V : Int) else V - 65536 := by simp [sx]
  rw [e]
  simp only [wrap64, IntKind.wrap, IntKind.bits, IntKind.signed]
  simp
  split <;> omega

set_option maxHeartbeats 1000000 in
theorem rrange_2 (g : Nat) (xs : List UInt8) (er : Int) (lo hi : Int) (hx : xs.length ≤ 1099511627776) (w : World) (h : RS w g tQ xs er) (hE : numE xs er 2 = 0) :
    Calls Try.prog 11 #[.pointer (some ⟨g, 0, none⟩), .int .i64 2, .int .i64 lo, .int .i64 hi] w
      (RangeP w g tQ (numX xs er 2) (sx 2 (numV xs er 2)) lo hi) := by
  have hcon := rnumber_any g xs er 2 hx w h
  have hV : numV xs er 2 < 65536 := by
    rcases numV_lt xs er 2 with h | h
    · have e : (256 : Nat) ^ ((2 : Int)).toNat = 65536 := by decide
      rw [e] at h
      exact h
    · rw [h]; decide
  have ES := Lib.hid (rsx_2 _ hV)
  rw [hE] at hcon
  generalize numV xs er 2 = V at *
  generalize numX xs er 2 = X at *
  clear h hE
  go_enter Try.func11, Try.ntmps11
  go_wp2_with (first
    | (go_at_call 9; refine hcon.mono ?_; rintro e w1 ⟨rfl, hr, ho⟩; obtain ⟨A, n, c, hw1, hn, hm, _⟩ := id hr; have k1 : w1.cell? ⟨g, 1, none⟩ = some (.int .i64 0) := (by rw [cell_of_row w1 g 1 _ _ _ hw1]; rfl); have f1 := frozen_of_row w1 g 1 _ _ hw1; have HW := Lib.hid hw1; have HR := Lib.hid hr; have HO := Lib.hid ho; clear hr ho hw1))
  all_goals go_ret
  all_goals refine ⟨fun h => ?_, fun h => ?_⟩
  all_goals rw [← ES.out] at h
  all_goals (try rw [← ES.out])
  all_goals first
    | (exfalso; omega)
    | exact ⟨rfl, HR.out, HO.out⟩
    | exact ⟨rfl, (RS.marked HW.out hn hm [] 5 (by decide)).1, only_trans HO.out (RS.marked HW.out hn hm [] 5 (by decide)).2⟩

theorem rsx_4 (V : Nat) (hV : V < 4294967296) : wrap64 (wrap32 (V : Int)) = sx 4 V := by
  have e : sx 4 V = if V < 2147483648 then (V : Int) else V - 4294967296 := by simp [sx]
  rw [e]
  unfold wrap64 wrap32
  split <;> omega

set_option maxHeartbeats 1000000 in
theorem rrange_4 (g : Nat) (xs : List UInt8) (er : Int) (lo hi : Int) (hx : xs.length ≤ 1099511627776) (w : World) (h : RS w g tQ xs er) (hE : numE xs er 4 = 0) :
    Calls Try.prog 11 #[.pointer (some ⟨g, 0, none⟩), .int .i64 4, .int .i64 lo, .int .i64 hi] w
      (RangeP w g tQ (numX xs er 4) (sx 4 (numV xs er 4)) lo hi) := by
  have hcon := rnumber_any g xs er 4 hx w h
  have hV : numV xs er 4 < 4294967296 := by
    rcases numV_lt xs er 4 with h | h
    · have e : (256 : Nat) ^ ((4 : Int)).toNat = 4294967296 := by decide
      rw [e] at h
      exact h
    · rw [h]; decide
  have ES := Lib.hid (rsx_4 _ hV)
  rw [hE] at hcon
  generalize numV xs er 4 = V at *
  generalize numX xs er 4 = X at *
  clear h hE
  go_enter Try.func11, Try.ntmps11
  go_wp2_with (first
    | (go_at_call 9; refine hcon.mono ?_; rintro e w1 ⟨rfl, hr, ho⟩; obtain ⟨A, n, c, hw1, hn, hm, _⟩ := id hr; have k1 : w1.cell? ⟨g, 1, none⟩ = some (.int .i64 0) := (by rw [cell_of_row w1 g 1 _ _ _ hw1]; rfl); have f1 := frozen_of_row w1 g 1 _ _ hw1; have HW := Lib.hid hw1; have HR := Lib.hid hr; have HO := Lib.hid ho; clear hr ho hw1))
  all_goals go_ret
  all_goals refine ⟨fun h => ?_, fun h => ?_⟩
  all_goals rw [← ES.out] at h
  all_goals (try rw [← ES.out])
  all_goals first
    | (exfalso; omega)
    | exact ⟨rfl, HR.out, HO.out⟩
    | exact ⟨rfl, (RS.marked HW.out hn hm [] 5 (by decide)).1, only_trans HO.out (RS.marked HW.out hn hm [] 5 (by decide)).2⟩

theorem rsx_8 (V : Nat) (hV : V < 18446744073709551616) : wrap64 (V : Int) = sx 8 V := sx_8 V hV

set_option maxHeartbeats 1000000 in
theorem rrange_8 (g : Nat) (xs : List UInt8) (er : Int) (lo hi : Int) (hx : xs.length ≤ 1099511627776) (w : World) (h : RS w g tQ xs er) (hE : numE xs er 8 = 0) :
    Calls Try.prog 11 #[.pointer (some ⟨g, 0, none⟩), .int .i64 8, .int .i64 lo, .int .i64 hi] w
      (RangeP w g tQ (numX xs er 8) (sx 8 (numV xs er 8)) lo hi) := by
  have hcon := rnumber_any g xs er 8 hx w h
  have hV : numV xs er 8 < 18446744073709551616 := by
    rcases numV_lt xs er 8 with h | h
    · have e : (256 : Nat) ^ ((8 : Int)).toNat = 18446744073709551616 := by decide
      rw [e] at h
      exact h
    · rw [h]; decide
  have ES := Lib.hid (rsx_8 _ hV)
  rw [hE] at hcon
  generalize numV xs er 8 = V at *
  generalize numX xs er 8 = X at *
  clear h hE
  go_enter Try.func11, Try.ntmps11
  go_wp2_with (first
    | (go_at_call 9; refine hcon.mono ?_; rintro e w1 ⟨rfl, hr, ho⟩; obtain ⟨A, n, c, hw1, hn, hm, _⟩ := id hr; have k1 : w1.cell? ⟨g, 1, none⟩ = some (.int .i64 0) := (by rw [cell_of_row w1 g 1 _ _ _ hw1]; rfl); have f1 := frozen_of_row w1 g 1 _ _ hw1; have HW := Lib.hid hw1; have HR := Lib.hid hr; have HO := Lib.hid ho; clear hr ho hw1))
  all_goals go_ret
  all_goals refine ⟨fun h => ?_, fun h => ?_⟩
  all_goals rw [← ES.out] at h
  all_goals (try rw [← ES.out])
  all_goals first
    | (exfalso; omega)
    | exact ⟨rfl, HR.out, HO.out⟩
    | exact ⟨rfl, (RS.marked HW.out hn hm [] 5 (by decide)).1, only_trans HO.out (RS.marked HW.out hn hm [] 5 (by decide)).2⟩

set_option maxHeartbeats 1000000 in
theorem rrange_bad (g : Nat) (xs : List UInt8) (er k lo hi : Int) (hx : xs.length ≤ 1099511627776) (w : World) (h : RS w g tQ xs er) (hE : numE xs er k ≠ 0) :
    Calls Try.prog 11 #[.pointer (some ⟨g, 0, none⟩), .int .i64 k, .int .i64 lo, .int .i64 hi] w
      (GaveV w g tQ (.int .i64 0) (numX xs er k) (numE xs er k)) := by
  have hcon := rnumber_any g xs er k hx w h
  have e1 : (numE xs er k == 0) = false := by simpa using hE
  have e2 : (numE xs er k != 0) = true := by simpa using hE
  generalize numV xs er k = V at *
  generalize numX xs er k = X at *
  generalize numE xs er k = E at *
  clear h hE
  go_enter Try.func11, Try.ntmps11
  go_wp2_with (first
    | (go_at_call 9; refine hcon.mono ?_; rintro e w1 ⟨rfl, hr, ho⟩; obtain ⟨A, n, c, hw1, hn, hm, _⟩ := id hr; have k1 : w1.cell? ⟨g, 1, none⟩ = some (.int .i64 E) := (by rw [cell_of_row w1 g 1 _ _ _ hw1]; rfl); have HR := Lib.hid hr; have HO := Lib.hid ho; clear hr ho hw1))
  all_goals go_ret
  all_goals exact ⟨rfl, HR.out, HO.out⟩

theorem rrange_any (g : Nat) (xs : List UInt8) (er k lo hi : Int) (hx : xs.length ≤ 1099511627776) (w : World) (h : RS w g tQ xs er) :
    Calls Try.prog 11 #[.pointer (some ⟨g, 0, none⟩), .int .i64 k, .int .i64 lo, .int .i64 hi] w
      (GaveV w g tQ (.int .i64 (rngV xs er k lo hi)) (rngX xs er k lo hi) (rngE xs er k lo hi)) := by
  unfold rngV rngX rngE
  by_cases hE : numE xs er k = 0
  · have hk := wid_of_ok hE
    have all : Calls Try.prog 11 #[.pointer (some ⟨g, 0, none⟩), .int .i64 k, .int .i64 lo, .int .i64 hi] w (RangeP w g tQ (numX xs er k) (sx k (numV xs er k)) lo hi) := by
      rcases wid_iff.1 hk with rfl | rfl | rfl | rfl
      · exact rrange_1 g xs er lo hi hx w h hE
      · exact rrange_2 g xs er lo hi hx w h hE
      · exact rrange_4 g xs er lo hi hx w h hE
      · exact rrange_8 g xs er lo hi hx w h hE
    refine all.mono fun e w' hp => ?_
    by_cases hin : lo ≤ sx k (numV xs er k) ∧ sx k (numV xs er k) ≤ hi
    · simp only [hE, hin, and_self, if_true]
      exact hp.1 hin
    · simp only [hE, hin, true_and, if_true, if_false]
      exact hp.2 hin
  · simp only [hE, false_and, if_false]
    exact rrange_bad g xs er k lo hi hx w h hE

end Go.Proofs.Ytjjfleiebebblaa
