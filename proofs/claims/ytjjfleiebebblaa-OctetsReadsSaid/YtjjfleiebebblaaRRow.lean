/-
  The document's reader: Row, Count.
-/
import Derived.Test.YtjjfleiebebblaaRRange
namespace Go.Proofs.Ytjjfleiebebblaa
open Go.RowKit

theorem numV_of_bad {xs : List UInt8} {er k : Int} (h : numE xs er k ≠ 0) : numV xs er k = 0 := by
  unfold numE at h
  unfold numV
  cases hk : wid k with
  | false => rfl
  | true =>
    rw [hk] at h
    simp only [if_true] at h ⊢
    have : takeY xs er k = [] := by
      unfold takeE at h
      unfold takeY
      split at h
      · split at h
        · exact absurd rfl h
        · rw [if_neg (by simp_all)]
      · rw [if_neg (by simp_all)]
    rw [this]
    rfl

set_option maxHeartbeats 1000000 in
theorem rrow_bad (g : Nat) (xs : List UInt8) (er most : Int) (hx : xs.length ≤ 1099511627776) (w : World) (h : RS w g tQ xs er) (hE : numE xs er 4 ≠ 0) :
    Calls Try.prog 13 #[.pointer (some ⟨g, 0, none⟩), .int .i64 most] w (Gave w g tQ [] (numX xs er 4) (numE xs er 4)) := by
  have hcon := rnumber_any g xs er 4 hx w h
  have e1 : (numE xs er 4 == 0) = false := by simpa using hE
  have e2 : (numE xs er 4 != 0) = true := by simpa using hE
  generalize numV xs er 4 = V at *
  generalize numX xs er 4 = X at *
  generalize numE xs er 4 = E at *
  clear h hE
  go_enter Try.func13, Try.ntmps13
  go_wp2_with (first
    | (go_at_call 9; refine hcon.mono ?_; rintro e w1 ⟨rfl, hr, ho⟩; obtain ⟨A, n, c, hw1, hn, hm, _⟩ := id hr; have k1 : w1.cell? ⟨g, 1, none⟩ = some (.int .i64 E) := (by rw [cell_of_row w1 g 1 _ _ _ hw1]; rfl); have HR := Lib.hid hr; have HO := Lib.hid ho; clear hr ho hw1))
  go_ret
  exact ⟨none, 0, 0, rfl, Nat.le_refl _, By.none_, HR.out, HO.out⟩

set_option maxHeartbeats 1000000 in
theorem rrow_over (g : Nat) (xs : List UInt8) (er most : Int) (hm1 : most ≤ 9223372036854775807) (hx : xs.length ≤ 1099511627776) (w : World) (h : RS w g tQ xs er) (hE : numE xs er 4 = 0) (hV : most < numV xs er 4) :
    Calls Try.prog 13 #[.pointer (some ⟨g, 0, none⟩), .int .i64 most] w (Gave w g tQ [] [] 3) := by
  have hcon := rnumber_any g xs er 4 hx w h
  rw [hE] at hcon
  generalize numV xs er 4 = V at *
  generalize numX xs er 4 = X at *
  clear h hE
  by_cases hneg : most < 0
  · clear hV hm1
    go_enter Try.func13, Try.ntmps13
    go_wp2_with (first
      | (go_at_call 9; refine hcon.mono ?_; rintro e w1 ⟨rfl, hr, ho⟩; obtain ⟨A, n, c, hw1, hn, hm, _⟩ := id hr; have k1 : w1.cell? ⟨g, 1, none⟩ = some (.int .i64 0) := (by rw [cell_of_row w1 g 1 _ _ _ hw1]; rfl); have f1 := frozen_of_row w1 g 1 _ _ hw1; have HW := Lib.hid hw1; have HO := Lib.hid ho; clear hr ho hw1))
    go_ret
    exact ⟨none, 0, 0, rfl, Nat.le_refl _, By.none_, (RS.marked HW.out hn hm [] 3 (by decide)).1, only_trans HO.out (RS.marked HW.out hn hm [] 3 (by decide)).2⟩
  · have hpos : 0 ≤ most := by omega
    clear hneg
    go_enter Try.func13, Try.ntmps13
    go_wp2_with (first
      | (go_at_call 9; refine hcon.mono ?_; rintro e w1 ⟨rfl, hr, ho⟩; obtain ⟨A, n, c, hw1, hn, hm, _⟩ := id hr; have k1 : w1.cell? ⟨g, 1, none⟩ = some (.int .i64 0) := (by rw [cell_of_row w1 g 1 _ _ _ hw1]; rfl); have f1 := frozen_of_row w1 g 1 _ _ hw1; have HW := Lib.hid hw1; have HO := Lib.hid ho; clear hr ho hw1))
    go_ret
    exact ⟨none, 0, 0, rfl, Nat.le_refl _, By.none_, (RS.marked HW.out hn hm [] 3 (by decide)).1, only_trans HO.out (RS.marked HW.out hn hm [] 3 (by decide)).2⟩

set_option maxHeartbeats 1000000 in
theorem rrow_ok (g : Nat) (xs : List UInt8) (er most : Int) (hm1 : most ≤ 9223372036854775807) (hx : xs.length ≤ 1099511627776) (w : World) (h : RS w g tQ xs er) (hE : numE xs er 4 = 0) (hV : (numV xs er 4 : Int) ≤ most) (hV4 : numV xs er 4 < 4294967296) :
    Calls Try.prog 13 #[.pointer (some ⟨g, 0, none⟩), .int .i64 most] w (Gave w g tQ (takeY (numX xs er 4) 0 (numV xs er 4)) (takeX (numX xs er 4) 0 (numV xs er 4)) (takeE (numX xs er 4) 0 (numV xs er 4))) := by
  have hcon := rnumber_any g xs er 4 hx w h
  have hxl := Nat.le_trans (numX_le xs er 4) hx
  rw [hE] at hcon
  generalize numV xs er 4 = V at *
  generalize numX xs er 4 = X at *
  clear h hE
  have hge : ¬ most < (V : Int) := by omega
  have hpos : 0 ≤ most := by omega
  clear hV
  go_enter Try.func13, Try.ntmps13
  go_wp2_with (first
    | (go_at_call 9; refine hcon.mono ?_; rintro e w1 ⟨rfl, hr, ho⟩; obtain ⟨A, n, c, hw1, hn, hm, _⟩ := id hr; have k1 : w1.cell? ⟨g, 1, none⟩ = some (.int .i64 0) := (by rw [cell_of_row w1 g 1 _ _ _ hw1]; rfl); have HR := Lib.hid hr; have HO := Lib.hid ho; clear hr ho hw1)
    | (go_at_call 15; refine (rfixed_any g X 0 V hxl _ HR.out).mono ?_; rintro e w2 ⟨B, m, c, rfl, hmc, hy, hr, ho⟩))
  go_ret
  exact ⟨B, m, c, rfl, hmc, hy, hr, only_trans HO.out ho⟩

theorem numV_lt4 (xs : List UInt8) (er : Int) : numV xs er 4 < 4294967296 := by
  rcases numV_lt xs er 4 with h | h
  · have e : (256 : Nat) ^ ((4 : Int)).toNat = 4294967296 := by decide
    rw [e] at h
    exact h
  · omega

theorem rrowm_any (g : Nat) (xs : List UInt8) (er most : Int) (hm1 : most ≤ 9223372036854775807) (hx : xs.length ≤ 1099511627776) (w : World) (h : RS w g tQ xs er) :
    Calls Try.prog 13 #[.pointer (some ⟨g, 0, none⟩), .int .i64 most] w (Gave w g tQ (rowY xs er most) (rowX xs er most) (rowE xs er most)) := by
  unfold rowY rowX rowE
  by_cases hE : numE xs er 4 = 0
  · by_cases hV : most < numV xs er 4
    · have := rrow_over g xs er most hm1 hx w h hE hV
      rw [hE]
      simp only [upX, upE, upV, if_pos hV, failX, failE, if_true]
      exact this
    · have := rrow_ok g xs er most hm1 hx w h hE (by omega) (numV_lt4 xs er)
      rw [hE]
      simp only [upX, upE, upV, if_neg hV]
      exact this
  · have := rrow_bad g xs er most hx w h hE
    rw [numV_of_bad hE]
    have eX : upX (numX xs er 4) (numE xs er 4) 0 most = numX xs er 4 := by unfold upX failX; rw [if_neg hE]; split <;> rfl
    have eE : upE (numE xs er 4) 0 most 3 = numE xs er 4 := by unfold upE failE; rw [if_neg hE]; split <;> rfl
    have eV : upV 0 most = 0 := by unfold upV; split <;> rfl
    rw [eX, eE, eV]
    have y0 : takeY (numX xs er 4) (numE xs er 4) 0 = [] := by unfold takeY; rw [if_neg (by simp [hE])]
    have x0 : takeX (numX xs er 4) (numE xs er 4) 0 = numX xs er 4 := by unfold takeX; rw [if_neg hE]
    have z0 : takeE (numX xs er 4) (numE xs er 4) 0 = numE xs er 4 := by unfold takeE; rw [if_neg hE]
    rw [y0, x0, z0]
    exact this

set_option maxHeartbeats 1000000 in
theorem rcount_bad (g : Nat) (xs : List UInt8) (er most : Int) (hx : xs.length ≤ 1099511627776) (w : World) (h : RS w g tQ xs er) (hE : numE xs er 2 ≠ 0) :
    Calls Try.prog 17 #[.pointer (some ⟨g, 0, none⟩), .int .i64 most] w (GaveV w g tQ (.int .i64 0) (numX xs er 2) (numE xs er 2)) := by
  have hcon := rnumber_any g xs er 2 hx w h
  have e1 : (numE xs er 2 == 0) = false := by simpa using hE
  have e2 : (numE xs er 2 != 0) = true := by simpa using hE
  generalize numV xs er 2 = V at *
  generalize numX xs er 2 = X at *
  generalize numE xs er 2 = E at *
  clear h hE
  go_enter Try.func17, Try.ntmps17
  go_wp2_with (first
    | (go_at_call 9; refine hcon.mono ?_; rintro e w1 ⟨rfl, hr, ho⟩; obtain ⟨A, n, c, hw1, hn, hm, _⟩ := id hr; have k1 : w1.cell? ⟨g, 1, none⟩ = some (.int .i64 E) := (by rw [cell_of_row w1 g 1 _ _ _ hw1]; rfl); have HR := Lib.hid hr; have HO := Lib.hid ho; clear hr ho hw1))
  go_ret
  exact ⟨rfl, HR.out, HO.out⟩

set_option maxHeartbeats 1000000 in
theorem rcount_ok (g : Nat) (xs : List UInt8) (er most : Int) (hx : xs.length ≤ 1099511627776) (w : World) (h : RS w g tQ xs er) (hE : numE xs er 2 = 0) (hV2 : numV xs er 2 < 65536) :
    Calls Try.prog 17 #[.pointer (some ⟨g, 0, none⟩), .int .i64 most] w
      (GaveV w g tQ (.int .i64 (upV (numV xs er 2) most)) (upX (numX xs er 2) 0 (numV xs er 2) most) (upE 0 (numV xs er 2) most 4)) := by
  have hcon := rnumber_any g xs er 2 hx w h
  rw [hE] at hcon
  generalize numV xs er 2 = V at *
  generalize numX xs er 2 = X at *
  clear h hE
  unfold upV upX upE
  by_cases hlt : most < V
  · simp only [if_pos hlt]
    go_enter Try.func17, Try.ntmps17
    go_wp2_with (first
      | (go_at_call 9; refine hcon.mono ?_; rintro e w1 ⟨rfl, hr, ho⟩; obtain ⟨A, n, c, hw1, hn, hm, _⟩ := id hr; have k1 : w1.cell? ⟨g, 1, none⟩ = some (.int .i64 0) := (by rw [cell_of_row w1 g 1 _ _ _ hw1]; rfl); have f1 := frozen_of_row w1 g 1 _ _ hw1; have HW := Lib.hid hw1; have HO := Lib.hid ho; clear hr ho hw1))
    go_ret
    exact ⟨rfl, (RS.marked HW.out hn hm (failX X 0) 4 (by decide)).1, only_trans HO.out (RS.marked HW.out hn hm [] 4 (by decide)).2⟩
  · simp only [if_neg hlt]
    go_enter Try.func17, Try.ntmps17
    go_wp2_with (first
      | (go_at_call 9; refine hcon.mono ?_; rintro e w1 ⟨rfl, hr, ho⟩; obtain ⟨A, n, c, hw1, hn, hm, _⟩ := id hr; have k1 : w1.cell? ⟨g, 1, none⟩ = some (.int .i64 0) := (by rw [cell_of_row w1 g 1 _ _ _ hw1]; rfl); have HR := Lib.hid hr; have HO := Lib.hid ho; clear hr ho hw1))
    go_ret
    exact ⟨rfl, HR.out, HO.out⟩

theorem rcount_any (g : Nat) (xs : List UInt8) (er most : Int) (hx : xs.length ≤ 1099511627776) (w : World) (h : RS w g tQ xs er) :
    Calls Try.prog 17 #[.pointer (some ⟨g, 0, none⟩), .int .i64 most] w
      (GaveV w g tQ (.int .i64 (upV (numV xs er 2) most)) (upX (numX xs er 2) (numE xs er 2) (numV xs er 2) most) (upE (numE xs er 2) (numV xs er 2) most 4)) := by
  by_cases hE : numE xs er 2 = 0
  · have hV2 : numV xs er 2 < 65536 := by
      rcases numV_lt xs er 2 with h | h
      · have e : (256 : Nat) ^ ((2 : Int)).toNat = 65536 := by decide
        rw [e] at h
        exact h
      · omega
    have := rcount_ok g xs er most hx w h hE hV2
    rw [hE]
    exact this
  · have := rcount_bad g xs er most hx w h hE
    rw [numV_of_bad hE]
    have eX : upX (numX xs er 2) (numE xs er 2) 0 most = numX xs er 2 := by unfold upX failX; rw [if_neg hE]; split <;> rfl
    have eE : upE (numE xs er 2) 0 most 4 = numE xs er 2 := by unfold upE failE; rw [if_neg hE]; split <;> rfl
    have eV : upV 0 most = 0 := by unfold upV; split <;> rfl
    rw [eX, eE, eV]
    exact this

end Go.Proofs.Ytjjfleiebebblaa
