/-
  (*Reader).Number: of a reader of the program.
-/
import Derived.Test.YtjjfleiebebblaaTake
namespace Go.Proofs.Ytjjfleiebebblaa
open Go.RowKit

/-- The number of which these are the bytes, the highest first. -/
def beN (xs : List UInt8) : Nat := xs.foldl (fun v x => v * 256 + x.toNat) 0
theorem beN_snoc (xs : List UInt8) (b : UInt8) : beN (xs ++ [b]) = beN xs * 256 + b.toNat := by simp [beN]
theorem beN_take (xs : List UInt8) (j : Nat) (h : j < xs.length) : beN (xs.take (j + 1)) = beN (xs.take j) * 256 + xs[j].toNat := by
  rw [List.take_succ_eq_append_getElem h, beN_snoc]
theorem beN_lt (xs : List UInt8) (j : Nat) : beN (xs.take j) < 256 ^ (xs.take j).length := by
  induction j with
  | zero => simp [beN]
  | succ j ih =>
    rcases Nat.lt_or_ge j xs.length with h | h
    · rw [beN_take xs j h]
      have e : (xs.take (j + 1)).length = (xs.take j).length + 1 := by simp; omega
      rw [e, Nat.pow_succ]
      have hb := xs[j].toNat_lt
      omega
    · rw [List.take_of_length_le (by omega)]
      rw [List.take_of_length_le h] at ih
      exact ih
theorem beN_small (xs : List UInt8) (j m : Nat) (hj : j ≤ m) : beN (xs.take j) < 256 ^ m := by
  have h := beN_lt xs j
  have hl : (xs.take j).length ≤ m := by simp; omega
  exact Nat.lt_of_lt_of_le h (Nat.pow_le_pow_right (by decide) hl)

theorem or_step (x : Nat) (b : UInt8) (hx : x * 256 + b.toNat < 256 ^ 8) :
    bits .or .u64 (IntKind.u64.wrap ((x : Int) * 256)) (IntKind.u64.wrap (b.toNat : Int)) = ((x * 256 + b.toNat : Nat) : Int) := by
  have hb := b.toNat_lt
  have h8 : (256 : Nat) ^ 8 = 18446744073709551616 := by decide
  rw [h8] at hx
  have e1 : IntKind.u64.wrap ((x : Int) * 256) = ((2 ^ 8 * x : Nat) : Int) := by
    rw [IntWalk.u64_in _ (by omega)]; omega
  have e2 : IntKind.u64.wrap (b.toNat : Int) = (b.toNat : Int) := IntWalk.u64_in _ (by omega)
  rw [e1, e2, u64_or_nat _ _ (by omega) (by omega), ← Nat.two_pow_add_eq_or_of_lt (by omega)]
  congr 1
  omega

set_option maxHeartbeats 1000000 in
theorem number_yes (g : Nat) (xs : List UInt8) (er : Int) (k : Nat) (hk : wid k = true) (w : World) (h : RS w g tR xs er) :
    Calls Try.prog 8 #[.pointer (some ⟨g, 0, none⟩), .int .i64 k] w
      (GaveV w g tR (.int .u64 (beN (takeY xs er k))) (takeX xs er k) (takeE xs er k)) := by
  have k8 : k ≤ 8 := by have := wid_iff.1 hk; omega
  have H := Lib.hid h
  clear h
  go_enter Try.func8, Try.ntmps8
  go_wp2_with (first
    | (go_at_call 25; refine (isWidth_any _ _).mono ?_; rintro e w' ⟨rfl, rfl⟩)
    | (go_at_call 27; refine (take_any g xs er k _ H.out).mono ?_; rintro e w1 ⟨B, m, c, rfl, hmc, hy, hr, ho⟩))
  have HY := Lib.hid hy
  have HR := Lib.hid hr
  have HO := Lib.hid ho
  have hm : m ≤ 8 := by
    have := hy.len
    have e : (takeY xs er k).length ≤ k := by unfold takeY; split <;> simp; omega
    omega
  clear hy hr ho
  generalize takeY xs er k = ys at *
  have hml : ys.length = m := HY.out.len
  have HL := Lib.hid hml
  clear hml
  go_loop [5, 17] (fun v i => ∃ j : Nat, j ≤ m ∧ i = .int .i64 j ∧ v = .int .u64 (beN (ys.take j))) (fun _ i => m - (intOf i).toNat)
  case atStart => exact ⟨0, Nat.zero_le _, rfl, rfl⟩
  case round =>
    obtain ⟨j, hj, rfl, rfl⟩ := hrel
    by_cases hlt : j < m
    · obtain ⟨gb, o, rfl, hc⟩ := HY.out.cell j (by rw [HL.out]; exact hlt)
      unfold u8 at hc
      go_wp2
      go_round
      case rel =>
        refine ⟨j + 1, by omega, by go_num, ?_⟩
        have hb1 := beN_small ys (j + 1) 8 (by omega)
        have hjl : j < ys.length := by rw [HL.out]; exact hlt
        rw [beN_take ys j hjl] at hb1 ⊢
        rw [or_step _ _ (by omega)]
      case measure => simp [intOf]; omega
    · go_wp2
      go_ret
      have e : ys.take j = ys := List.take_of_length_le (by rw [HL.out]; omega)
      exact ⟨by rw [e]; rfl, HR.out, HO.out⟩

set_option maxHeartbeats 1000000 in
theorem number_no (g : Nat) (xs : List UInt8) (er : Int) (k : Int) (hk : wid k = false) (w : World) (h : RS w g tR xs er) :
    Calls Try.prog 8 #[.pointer (some ⟨g, 0, none⟩), .int .i64 k] w (GaveV w g tR (.int .u64 0) (failX xs er) (failE er 2)) := by
  obtain ⟨A, n, c, hw, hn, hm, hy⟩ := id h
  have HW := Lib.hid hw
  have H := Lib.hid h
  clear hw h hy
  by_cases he : er = 0
  · subst he
    go_enter Try.func8, Try.ntmps8
    go_wp2_with (first
      | (go_at_call 25; refine (isWidth_any _ _).mono ?_; rintro e w' ⟨rfl, rfl⟩)
      | (go_at_call 26; refine (fail_no g _ 2 _ HW.out).mono ?_; rintro e w' ⟨rfl, rfl⟩))
    go_ret
    exact ⟨rfl, RS.failed HW.out 2 (by decide)⟩
  · have hx : failX xs er = xs := by simp [failX, he]
    have hf : failE er 2 = er := by simp [failE, he]
    rw [hx, hf]
    clear hx hf
    go_enter Try.func8, Try.ntmps8
    go_wp2_with (first
      | (go_at_call 25; refine (isWidth_any _ _).mono ?_; rintro e w' ⟨rfl, rfl⟩)
      | (go_at_call 26; refine (fail_yes g _ er 2 he _ HW.out).mono ?_; rintro e w' ⟨rfl, rfl⟩))
    go_ret
    exact ⟨rfl, H.out, only_refl _ _⟩

/-- What Number answers, leaves, and fails with. -/
def numV (xs : List UInt8) (er k : Int) : Nat := if wid k then beN (takeY xs er k) else 0
def numX (xs : List UInt8) (er k : Int) : List UInt8 := if wid k then takeX xs er k else failX xs er
def numE (xs : List UInt8) (er k : Int) : Int := if wid k then takeE xs er k else failE er 2

/-- NUMBER, OF WHATEVER READER, WHATEVER WIDTH. -/
theorem number_any (g : Nat) (xs : List UInt8) (er k : Int) (w : World) (h : RS w g tR xs er) :
    Calls Try.prog 8 #[.pointer (some ⟨g, 0, none⟩), .int .i64 k] w (GaveV w g tR (.int .u64 (numV xs er k)) (numX xs er k) (numE xs er k)) := by
  unfold numV numX numE
  cases hk : wid k with
  | false => exact number_no g xs er k hk w h
  | true =>
    have h0 : 0 ≤ k := by have := wid_iff.1 hk; omega
    obtain ⟨j, rfl⟩ := Int.eq_ofNat_of_zero_le h0
    exact number_yes g xs er j hk w h

end Go.Proofs.Ytjjfleiebebblaa
