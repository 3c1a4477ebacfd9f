/-
  The document's reader: Number, End.
-/
import Derived.Test.YtolildehdibpbaaDoorRFixB
namespace Go.Proofs.YtolildehdibpbaaDoor
open Go.RowKit

set_option maxHeartbeats 1000000 in
theorem rnumber_yes (g : Nat) (xs : List UInt8) (er : Int) (k : Nat) (hk : wid k = true) (hx : xs.length ≤ 1099511627776) (w : World) (h : RS w g tQ xs er) :
    Calls Tryd.prog 48 #[.pointer (some ⟨g, 0, none⟩), .int .i64 k] w
      (GaveV w g tQ (.int .u64 (beN (takeY xs er k))) (takeX xs er k) (takeE xs er k)) := by
  have k8 : k ≤ 8 := by have := wid_iff.1 hk; omega
  obtain ⟨A, n, c, hw, _, _, _⟩ := id h
  have h1 : w.cell? ⟨g, 1, none⟩ = some (.int .i64 er) := by rw [cell_of_row w g 1 _ _ _ hw]; rfl
  have H := Lib.hid h
  clear h hw
  have hlen : (takeY xs er k).length ≤ k := by unfold takeY; split <;> simp; omega
  by_cases he : (er == 0) = true
  all_goals (try simp only [Bool.not_eq_true] at he)
  all_goals go_enter Tryd.func48, Tryd.ntmps48
  all_goals go_wp2_with (first
    | (go_at_call 47; refine (size_any _ _).mono ?_; rintro e w' ⟨rfl, rfl⟩)
    | (go_at_call 53; refine (rfixed_any g xs er k hx _ H.out).mono ?_; rintro e w1 ⟨B, m, c, rfl, hmc, hy, hr, ho⟩; have HY := Lib.hid hy; have HR := Lib.hid hr; have HO := Lib.hid ho; clear hy hr ho))
  all_goals
    have hm : m ≤ 8 := by
      have := HY.out.len
      omega
    clear he h1 hlen
    generalize takeY xs er k = ys at *
    have hml : ys.length = m := HY.out.len
    have HL := Lib.hid hml
    clear hml
    go_loop [5, 25] (fun v i => ∃ j : Nat, j ≤ m ∧ i = .int .i64 j ∧ v = .int .u64 (beN (ys.take j))) (fun _ i => m - (intOf i).toNat)
    case atStart => exact ⟨0, Nat.zero_le _, rfl, rfl⟩
    case round =>
      obtain ⟨j, hj, rfl, rfl⟩ := hrel
      by_cases hlt : j < m
      · obtain ⟨gb, o, rfl, hc⟩ := HY.out.cell j (by rw [HL.out]; exact hlt)
        unfold u8 at hc
        have hjl : j < ys.length := by rw [HL.out]; exact hlt
        have hb1 := beN_small ys (j + 1) 8 (by omega)
        rw [beN_take ys j hjl] at hb1
        have h8 : (256 : Nat) ^ 8 = 18446744073709551616 := by decide
        rw [h8] at hb1
        clear h8
        have hbt := ys[j].toNat_lt
        go_wp2
        go_round
        case rel =>
          refine ⟨j + 1, by omega, by go_num, ?_⟩
          rw [beN_take ys j hjl]
          simp
        case measure => simp [intOf]; omega
      · go_wp2
        go_ret
        have e : ys.take j = ys := List.take_of_length_le (by rw [HL.out]; omega)
        exact ⟨by rw [e]; rfl, HR.out, HO.out⟩

set_option maxHeartbeats 1000000 in
theorem rnumber_no (g : Nat) (xs : List UInt8) (er : Int) (k : Int) (hk : wid k = false) (w : World) (h : RS w g tQ xs er) :
    Calls Tryd.prog 48 #[.pointer (some ⟨g, 0, none⟩), .int .i64 k] w (GaveV w g tQ (.int .u64 0) (failX xs er) (failE er 2)) := by
  obtain ⟨A, n, c, hw, hn, hm, hy⟩ := id h
  have h1 : w.cell? ⟨g, 1, none⟩ = some (.int .i64 er) := by rw [cell_of_row w g 1 _ _ _ hw]; rfl
  have f1 : w.frozen? ⟨g, 1, none⟩ = false := frozen_of_row w g 1 _ _ hw
  have HW := Lib.hid hw
  have H := Lib.hid h
  clear hw h hy
  by_cases he : er = 0
  · subst he
    have hM := RS.marked HW.out hn hm [] 2 (by decide)
    have M1 := Lib.hid hM.1
    have M2 := Lib.hid hM.2
    clear hM
    go_enter Tryd.func48, Tryd.ntmps48
    go_wp2_with (first
      | (go_at_call 47; refine (size_any _ _).mono ?_; rintro e w' ⟨rfl, rfl⟩)
      | (go_at_call 53; refine (rfixed_bad g [] 2 k (by decide) _ M1.out).mono ?_; rintro e w1 ⟨B, m, c, rfl, hmc, hy, hr, ho⟩; obtain rfl : m = 0 := hy.len.symm; have HR := Lib.hid hr; have HO := Lib.hid ho; clear hy hr ho))
    go_rounds 1
    go_ret
    exact ⟨rfl, HR.out, only_trans M2.out HO.out⟩
  · have hx : failX xs er = xs := if_neg he
    have hf : failE er 2 = er := if_neg he
    have e1 : (er == 0) = false := by simpa using he
    rw [hx, hf]
    clear hx hf
    go_enter Tryd.func48, Tryd.ntmps48
    go_wp2_with (first
      | (go_at_call 47; refine (size_any _ _).mono ?_; rintro e w' ⟨rfl, rfl⟩)
      | (go_at_call 53; refine (rfixed_bad g xs er k he _ H.out).mono ?_; rintro e w1 ⟨B, m, c, rfl, hmc, hy, hr, ho⟩; obtain rfl : m = 0 := hy.len.symm; have HR := Lib.hid hr; have HO := Lib.hid ho; clear hy hr ho))
    go_rounds 1
    go_ret
    exact ⟨rfl, HR.out, HO.out⟩

end Go.Proofs.YtolildehdibpbaaDoor
