/-
  The laws MoneyTells and MoneySums, walked.
-/
import Derived.Test.YtkildlonenjmaaaMon
namespace Go.Proofs.Ytkildlonenjmaaa
open Go.RowKit

set_option maxHeartbeats 4000000 in
set_option maxRecDepth 100000 in
theorem tells_any (a b : Int) (w : World) : Calls Try.prog 3 #[.int .i64 a, .int .i64 b] w fun e w' => e = .returned (.bool true) ∧ w' = w := by
  have h0 := mfixed_any w
  have h1 := add_any a b w
  have h2 := radd_any a b w
  have h3 := sub_any a b w
  have h4 := rsub_any a b w
  have h5 := chg_any a b w
  have h6 := rchg_any a b w
  have h7 := is_any a w
  have h8 := ris_any a w
  have h9 := ris_any (addM a b).1 w
  have h10 := ris_any (subM a b).1 w
  have h11 := ris_any (chgM a b).1 w
  rw [isM_add] at h9
  rw [isM_sub] at h10
  rw [isM_chg] at h11
  unfold two at h1 h2 h3 h4 h5 h6
  generalize (addM a b).1 = x1 at *
  generalize (addM a b).2 = y1 at *
  generalize (subM a b).1 = x2 at *
  generalize (subM a b).2 = y2 at *
  generalize (chgM a b).1 = x3 at *
  generalize (chgM a b).2 = y3 at *
  generalize isM a = m at *
  go_enter Try.func3, Try.ntmps3
  go_wp2_with (first
    | (go_at_call 9; (with_reducible refine h0.mono ?_); rintro e w1 ⟨rfl, rfl⟩)
    | (go_at_call 10; (with_reducible refine h1.mono ?_); rintro e w1 ⟨rfl, rfl⟩)
    | (go_at_call 11; (with_reducible refine h2.mono ?_); rintro e w1 ⟨rfl, rfl⟩)
    | (go_at_call 12; (with_reducible refine h3.mono ?_); rintro e w1 ⟨rfl, rfl⟩)
    | (go_at_call 13; (with_reducible refine h4.mono ?_); rintro e w1 ⟨rfl, rfl⟩)
    | (go_at_call 14; (with_reducible refine h5.mono ?_); rintro e w1 ⟨rfl, rfl⟩)
    | (go_at_call 15; (with_reducible refine h6.mono ?_); rintro e w1 ⟨rfl, rfl⟩)
    | (go_at_call 16; (with_reducible refine h7.mono ?_); rintro e w1 ⟨rfl, rfl⟩)
    | (go_at_call 17; (with_reducible refine h8.mono ?_); rintro e w1 ⟨rfl, rfl⟩)
    | (go_at_call 17; (with_reducible refine h9.mono ?_); rintro e w1 ⟨rfl, rfl⟩)
    | (go_at_call 17; (with_reducible refine h10.mono ?_); rintro e w1 ⟨rfl, rfl⟩)
    | (go_at_call 17; (with_reducible refine h11.mono ?_); rintro e w1 ⟨rfl, rfl⟩))
  go_ret
  exact ⟨rfl, rfl⟩

/-- The slice '.slice A n _' reads, in w, as the numbers xs. -/
def Lv (w : World) (A : Option Addr) (n : Nat) (xs : List Int) : Prop :=
  xs.length = n ∧ (0 < n → ∃ g o, A = some ⟨g, o, none⟩ ∧ ∀ (j : Nat) (u : Int), xs[j]? = some u → w.cell? ⟨g, o + j, none⟩ = some (.int .i64 u))

/-- The sum of all, from s on. -/
def sumM (s : Int) : List Int → Int × Int
  | [] => (s, 0)
  | x :: xs => if (addM s x).2 = 0 then sumM (addM s x).1 xs else (0, (addM s x).2)
theorem sumM_cons (s x : Int) (xs : List Int) : sumM s (x :: xs) = if (addM s x).2 = 0 then sumM (addM s x).1 xs else (0, (addM s x).2) := rfl

set_option maxHeartbeats 2000000 in
theorem sum_any (xs : List Int) (A : Option Addr) (n c : Nat) (w : World) (h : Lv w A n xs) (hn : n ≤ 300) :
    Calls Try.prog 18 #[.slice A n c] w fun e w' => e = .returned (two (sumM 0 xs)) ∧ w' = w := by
  have H := Lib.hid h
  have hl := h.1
  clear h
  go_enter Try.func18, Try.ntmps18
  go_wp2
  go_loopw [4, 11] (fun sv iv wr => ∃ (i : Nat) (s : Int), i ≤ n ∧ iv = .int .i64 i ∧ sv = .int .i64 s ∧ sumM 0 xs = sumM s (xs.drop i) ∧ wr = w) (fun _ iv _ => n - (intOf iv).toNat)
  case atStart => exact ⟨0, 0, Nat.zero_le _, rfl, rfl, by simp, rfl⟩
  case round =>
    obtain ⟨i, s, hi, rfl, rfl, hs, rfl⟩ := hrel
    by_cases hlt : i < n
    · obtain ⟨g, o, rfl, hc⟩ := H.out.2 (by omega)
      have hx := hc i xs[i] (List.getElem?_eq_getElem (by omega))
      have hd : xs.drop i = xs[i] :: xs.drop (i + 1) := List.drop_eq_getElem_cons (by omega)
      have ha := add_any s xs[i] wr
      rw [hd, sumM_cons] at hs
      generalize xs[i] = x at hx ha hs
      unfold two at ha
      clear hc hd
      by_cases hz : (addM s x).2 = 0
      · rw [if_pos hz] at hs
        rw [hz] at ha
        clear hz
        generalize (addM s x).1 = s' at ha hs
        go_wp2_with (go_at_call 10; (with_reducible refine ha.mono ?_); rintro e w1 ⟨rfl, rfl⟩)
        go_roundw
        case rel => exact ⟨i + 1, s', by omega, by go_num, rfl, hs, trivial⟩
        case measure => simp [intOf]; omega
      · rw [if_neg hz] at hs
        generalize (addM s x).2 = y at ha hs hz
        generalize (addM s x).1 = s' at ha
        go_wp2_with (go_at_call 10; (with_reducible refine ha.mono ?_); rintro e w1 ⟨rfl, rfl⟩)
        go_ret2
        rw [hs]
        exact ⟨rfl, rfl⟩
    · obtain rfl : i = n := by omega
      go_wp2
      go_ret2
      rw [hs, List.drop_of_length_le (by omega)]
      exact ⟨rfl, rfl⟩

set_option maxHeartbeats 2000000 in
theorem rsum_any (xs : List Int) (A : Option Addr) (n c : Nat) (w : World) (h : Lv w A n xs) (hn : n ≤ 300) :
    Calls Try.prog 19 #[.slice A n c] w fun e w' => e = .returned (two (sumM 0 xs)) ∧ w' = w := by
  have H := Lib.hid h
  have hl := h.1
  clear h
  go_enter Try.func19, Try.ntmps19
  go_wp2
  go_loopw [4, 11] (fun sv iv wr => ∃ (i : Nat) (s : Int), i ≤ n ∧ iv = .int .i64 i ∧ sv = .int .i64 s ∧ sumM 0 xs = sumM s (xs.drop i) ∧ wr = w) (fun _ iv _ => n - (intOf iv).toNat)
  case atStart => exact ⟨0, 0, Nat.zero_le _, rfl, rfl, by simp, rfl⟩
  case round =>
    obtain ⟨i, s, hi, rfl, rfl, hs, rfl⟩ := hrel
    by_cases hlt : i < n
    · obtain ⟨g, o, rfl, hc⟩ := H.out.2 (by omega)
      have hx := hc i xs[i] (List.getElem?_eq_getElem (by omega))
      have hd : xs.drop i = xs[i] :: xs.drop (i + 1) := List.drop_eq_getElem_cons (by omega)
      have ha := radd_any s xs[i] wr
      rw [hd, sumM_cons] at hs
      generalize xs[i] = x at hx ha hs
      unfold two at ha
      clear hc hd
      by_cases hz : (addM s x).2 = 0
      · rw [if_pos hz] at hs
        rw [hz] at ha
        clear hz
        generalize (addM s x).1 = s' at ha hs
        go_wp2_with (go_at_call 11; (with_reducible refine ha.mono ?_); rintro e w1 ⟨rfl, rfl⟩)
        go_roundw
        case rel => exact ⟨i + 1, s', by omega, by go_num, rfl, hs, trivial⟩
        case measure => simp [intOf]; omega
      · rw [if_neg hz] at hs
        generalize (addM s x).2 = y at ha hs hz
        generalize (addM s x).1 = s' at ha
        go_wp2_with (go_at_call 11; (with_reducible refine ha.mono ?_); rintro e w1 ⟨rfl, rfl⟩)
        go_ret2
        rw [hs]
        exact ⟨rfl, rfl⟩
    · obtain rfl : i = n := by omega
      go_wp2
      go_ret2
      rw [hs, List.drop_of_length_le (by omega)]
      exact ⟨rfl, rfl⟩

set_option maxHeartbeats 2000000 in
theorem sums_any (xs : List Int) (A : Option Addr) (n c : Nat) (w : World) (h : Lv w A n xs) : Calls Try.prog 4 #[.slice A n c] w fun e w' => e = .returned (.bool true) ∧ w' = w := by
  have h0 := mfixed_any w
  by_cases hn : n ≤ 300
  · have h1 := sum_any xs A n c w h hn
    have h2 := rsum_any xs A n c w h hn
    have hd : decide (300 < (n : Int)) = false := by simp; omega
    unfold two at h1 h2
    generalize (sumM 0 xs).1 = x1 at *
    generalize (sumM 0 xs).2 = y1 at *
    clear h
    go_enter Try.func4, Try.ntmps4
    go_wp2_with (first
      | (go_at_call 9; (with_reducible refine h0.mono ?_); rintro e w1 ⟨rfl, rfl⟩)
      | (go_at_call 18; (with_reducible refine h1.mono ?_); rintro e w1 ⟨rfl, rfl⟩)
      | (go_at_call 19; (with_reducible refine h2.mono ?_); rintro e w1 ⟨rfl, rfl⟩))
    go_ret
    exact ⟨rfl, rfl⟩
  · have hd : decide (300 < (n : Int)) = true := by simp; omega
    go_enter Try.func4, Try.ntmps4
    go_wp2_with (go_at_call 9; (with_reducible refine h0.mono ?_); rintro e w1 ⟨rfl, rfl⟩)
    go_ret
    exact ⟨rfl, rfl⟩

end Go.Proofs.Ytkildlonenjmaaa
