/-
  The document's reader: Number, End.
-/
import Derived.Test.YtjjfleiebebblaaRFix
namespace Go.Proofs.Ytjjfleiebebblaa
open Go.RowKit

set_option maxHeartbeats 1000000 in
theorem rnumber_yes (g : Nat) (xs : List UInt8) (er : Int) (k : Nat) (hk : wid k = true) (hx : xs.length ≤ 1099511627776) (w : World) (h : RS w g tQ xs er) :
    Calls Try.prog 9 #[.pointer (some ⟨g, 0, none⟩), .int .i64 k] w
      (GaveV w g tQ (.int .u64 (beN (takeY xs er k))) (takeX xs er k) (takeE xs er k)) := by
  have k8 : k ≤ 8 := by have := wid_iff.1 hk; omega
  obtain ⟨A, n, c, hw, _, _, _⟩ := id h
  have h1 : w.cell? ⟨g, 1, none⟩ = some (.int .i64 er) := by rw [cell_of_row w g 1 _ _ _ hw]; rfl
  have H := Lib.hid h
  clear h hw
  have hlen : (takeY xs er k).length ≤ k := by unfold takeY; split <;> simp; omega
  by_cases he : (er == 0) = true
  all_goals (try simp only [Bool.not_eq_true] at he)
  all_goals go_enter Try.func9, Try.ntmps9
  all_goals go_wp2_with (first
    | (go_at_call 28; refine (size_any _ _).mono ?_; rintro e w' ⟨rfl, rfl⟩)
    | (go_at_call 15; refine (rfixed_any g xs er k hx _ H.out).mono ?_; rintro e w1 ⟨B, m, c, rfl, hmc, hy, hr, ho⟩; have HY := Lib.hid hy; have HR := Lib.hid hr; have HO := Lib.hid ho; clear hy hr ho))
  all_goals
    have hm : m ≤ 8 := by
      have := HY.out.len
      omega
    clear he h1 hlen
    generalize takeY xs er k = ys at *
    have hml : ys.length = m := HY.out.len
    have HL := Lib.hid hml
    clear hml
    go_loop [5, 25] (fun v i => ∃ j : Nat, j ≤ m ∧ i = .int .i64 j ∧ v = .int .u64 (beN (ys.take j))) (fun _ i => m - (intOf i).toNat)
    case atStart => exact ⟨0, Nat.zero_le _, rfl, rfl⟩
    case round =>
      obtain ⟨j, hj, rfl, rfl⟩ := hrel
      by_cases hlt : j < m
      · obtain ⟨gb, o, rfl, hc⟩ := HY.out.cell j (by rw [HL.out]; exact hlt)
        unfold u8 at hc
        have hjl : j < ys.length := by rw [HL.out]; exact hlt
        have hb1 := beN_small ys (j + 1) 8 (by omega)
        rw [beN_take ys j hjl] at hb1
        have h8 : (256 : Nat) ^ 8 = 18446744073709551616 := by decide
        rw [h8] at hb1
        clear h8
        have hbt := ys[j].toNat_lt
        go_wp2
        go_round
        case rel =>
          refine ⟨j + 1, by omega, by go_num, ?_⟩
          rw [beN_take ys j hjl]
          simp
        case measure => simp [intOf]; omega
      · go_wp2
        go_ret
        have e : ys.take j = ys := List.take_of_length_le (by rw [HL.out]; omega)
        exact ⟨by rw [e]; rfl, HR.out, HO.out⟩

set_option maxHeartbeats 1000000 in
theorem rnumber_no (g : Nat) (xs : List UInt8) (er : Int) (k : Int) (hk : wid k = false) (w : World) (h : RS w g tQ xs er) :
    Calls Try.prog 9 #[.pointer (some ⟨g, 0, none⟩), .int .i64 k] w (GaveV w g tQ (.int .u64 0) (failX xs er) (failE er 2)) := by
  obtain ⟨A, n, c, hw, hn, hm, hy⟩ := id h
  have h1 : w.cell? ⟨g, 1, none⟩ = some (.int .i64 er) := by rw [cell_of_row w g 1 _ _ _ hw]; rfl
  have f1 : w.frozen? ⟨g, 1, none⟩ = false := frozen_of_row w g 1 _ _ hw
  have HW := Lib.hid hw
  have H := Lib.hid h
  clear hw h hy
  by_cases he : er = 0
  · subst he
    have hM := RS.marked HW.out hn hm [] 2 (by decide)
    have M1 := Lib.hid hM.1
    have M2 := Lib.hid hM.2
    clear hM
    go_enter Try.func9, Try.ntmps9
    go_wp2_with (first
      | (go_at_call 28; refine (size_any _ _).mono ?_; rintro e w' ⟨rfl, rfl⟩)
      | (go_at_call 15; refine (rfixed_bad g [] 2 k (by decide) _ M1.out).mono ?_; rintro e w1 ⟨B, m, c, rfl, hmc, hy, hr, ho⟩; obtain rfl : m = 0 := hy.len.symm; have HR := Lib.hid hr; have HO := Lib.hid ho; clear hy hr ho))
    go_rounds 1
    go_ret
    exact ⟨rfl, HR.out, only_trans M2.out HO.out⟩
  · have hx : failX xs er = xs := if_neg he
    have hf : failE er 2 = er := if_neg he
    have e1 : (er == 0) = false := by simpa using he
    rw [hx, hf]
    clear hx hf
    go_enter Try.func9, Try.ntmps9
    go_wp2_with (first
      | (go_at_call 28; refine (size_any _ _).mono ?_; rintro e w' ⟨rfl, rfl⟩)
      | (go_at_call 15; refine (rfixed_bad g xs er k he _ H.out).mono ?_; rintro e w1 ⟨B, m, c, rfl, hmc, hy, hr, ho⟩; obtain rfl : m = 0 := hy.len.symm; have HR := Lib.hid hr; have HO := Lib.hid ho; clear hy hr ho))
    go_rounds 1
    go_ret
    exact ⟨rfl, HR.out, HO.out⟩

theorem rnumber_any (g : Nat) (xs : List UInt8) (er k : Int) (hx : xs.length ≤ 1099511627776) (w : World) (h : RS w g tQ xs er) :
    Calls Try.prog 9 #[.pointer (some ⟨g, 0, none⟩), .int .i64 k] w (GaveV w g tQ (.int .u64 (numV xs er k)) (numX xs er k) (numE xs er k)) := by
  unfold numV numX numE
  cases hk : wid k with
  | false => exact rnumber_no g xs er k hk w h
  | true =>
    have h0 : 0 ≤ k := by have := wid_iff.1 hk; omega
    obtain ⟨j, rfl⟩ := Int.eq_ofNat_of_zero_le h0
    exact rnumber_yes g xs er j hk hx w h

/-- What End answers. -/
theorem rend_any (g : Nat) (xs : List UInt8) (er : Int) (w : World) (h : RS w g tQ xs er) :
    Calls Try.prog 19 #[.pointer (some ⟨g, 0, none⟩)] w fun e w' => e = .returned (.int .i64 (endV xs er)) ∧ w = w' := by
  obtain ⟨A, n, c, hw, hn, hm, hy⟩ := h
  have h0 : w.cell? ⟨g, 0, none⟩ = some (.slice A n c) := by rw [cell_of_row w g 0 _ _ _ hw]; rfl
  have h1 : w.cell? ⟨g, 1, none⟩ = some (.int .i64 er) := by rw [cell_of_row w g 1 _ _ _ hw]; rfl
  unfold endV
  by_cases he : er = 0
  · have hl := (hy he).len
    subst he
    clear hw hy
    by_cases hn0 : n = 0
    · subst hn0
      obtain rfl : xs = [] := List.eq_nil_of_length_eq_zero hl
      clear hl
      go_enter Try.func19, Try.ntmps19
      go_wp2
      go_ret
      exact ⟨rfl, rfl⟩
    · have hpos : 0 < n := by omega
      have hne : xs ≠ [] := by rintro rfl; simp at hl; omega
      simp only [if_true, if_neg hne]
      clear hl hn0 hne
      go_enter Try.func19, Try.ntmps19
      go_wp2
      go_ret
      exact ⟨rfl, rfl⟩
  · simp only [if_neg he]
    have hb : (er == 0) = false := by simpa using he
    clear hw hy
    go_enter Try.func19, Try.ntmps19
    go_wp2
    go_ret
    exact ⟨rfl, rfl⟩

end Go.Proofs.Ytjjfleiebebblaa
