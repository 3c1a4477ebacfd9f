/-
  The document's constants: primes, and the fractions of roots, by bisection.
-/
import Derived.Test.YtolildehdibpbaaDoorSha
import Derived.Shelf.Bits.Mul64
import Derived.Outline
namespace Go.Proofs.YtolildehdibpbaaDoor
open Go.RowKit

set_option maxHeartbeats 1000000 in
theorem mul64_any (x y : Nat) (hx : x < 18446744073709551616) (hy : y < 18446744073709551616) (w : World) :
    Calls Tryd.prog 55 #[.int .u64 x, .int .u64 y] w fun e w' => e = .returned (.tuple #[.int .u64 ((x * y / 18446744073709551616 : Nat) : Int), .int .u64 ((x * y % 18446744073709551616 : Nat) : Int)]) ∧ w = w' := by
  obtain ⟨bd, bt, bw, hhi⟩ := Lib.mul64_hi x y hx hy
  have ba := Lib.half_mul_le (a := x / 4294967296) (b := y / 4294967296) (by omega) (by omega)
  have bb := Lib.half_mul_le (a := x / 4294967296) (b := y % 4294967296) (by omega) (by omega)
  have bc := Lib.half_mul_le (a := x % 4294967296) (b := y / 4294967296) (by omega) (by omega)
  have ba' : x / 4294967296 * (y / 4294967296) < 18446744073709551616 := by omega
  have bb' : x / 4294967296 * (y % 4294967296) < 18446744073709551616 := by omega
  have bc' : x % 4294967296 * (y / 4294967296) < 18446744073709551616 := by omega
  have bh1 : x / 4294967296 * (y / 4294967296) + (x / 4294967296 * (y % 4294967296) + x % 4294967296 * (y % 4294967296) / 4294967296) / 4294967296 < 18446744073709551616 := by omega
  have bh : x / 4294967296 * (y / 4294967296) + (x / 4294967296 * (y % 4294967296) + x % 4294967296 * (y % 4294967296) / 4294967296) / 4294967296 + ((x / 4294967296 * (y % 4294967296) + x % 4294967296 * (y % 4294967296) / 4294967296) % 4294967296 + x % 4294967296 * (y / 4294967296)) / 4294967296 < 18446744073709551616 := by omega
  go_enter Tryd.func55, Tryd.ntmps55
  go_wp2
  simp only [Mul64.maskN x hx, Mul64.maskN y hy, Mul64.divN, Mul64.mulN, Mul64.addN, Mul64.wrapN _ bd, Mul64.wrapN _ bb', Mul64.wrapN _ bt, Mul64.maskN _ bt, Mul64.wrapN _ bc', Mul64.wrapN _ bw, Mul64.wrapN _ ba', Mul64.wrapN _ bh1, Mul64.wrapN _ bh, Mul64.wrapM (x * y)]
  rw [hhi]
  go_ret2
  exact ⟨rfl, rfl⟩

/-- is x, in 2^-32, to the power of two or three, above p? -/
def aboveF (x p : Nat) (cube : Bool) : Bool :=
  if cube then
    (decide (p * 4294967296 < x * x / 18446744073709551616 * x + x * x % 18446744073709551616 * x / 18446744073709551616) ||
      (x * x / 18446744073709551616 * x + x * x % 18446744073709551616 * x / 18446744073709551616 == p * 4294967296 && decide (0 < x * x % 18446744073709551616 * x % 18446744073709551616)))
  else (decide (p < x * x / 18446744073709551616) || (x * x / 18446744073709551616 == p && decide (0 < x * x % 18446744073709551616)))

theorem sq_bound (x : Nat) (hx : x < 68719476736) : x * x / 18446744073709551616 < 256 := by
  apply Nat.div_lt_of_lt_mul
  have h : x * x ≤ 68719476735 * 68719476735 := Nat.mul_le_mul (by omega) (by omega)
  omega
theorem cu_bound (l x : Nat) (hl : l < 18446744073709551616) (hx : x < 68719476736) : l * x / 18446744073709551616 < 68719476736 := by
  apply Nat.div_lt_of_lt_mul
  have h : l * x ≤ 18446744073709551615 * 68719476735 := Nat.mul_le_mul (by omega) (by omega)
  omega

set_option maxHeartbeats 2000000 in
theorem above_sq (x p : Nat) (hx : x < 68719476736) (w : World) :
    Calls Tryd.prog 52 #[.int .u64 x, .int .u64 p, .bool false] w fun e w' => e = .returned (.bool (aboveF x p false)) ∧ w = w' := by
  have hb := sq_bound x hx
  have hl := Nat.mod_lt (x * x) (y := 18446744073709551616) (by omega)
  have hm := fun w => mul64_any x x (by omega) (by omega) w
  have hv : aboveF x p false = (decide (p < x * x / 18446744073709551616) || (x * x / 18446744073709551616 == p && decide (0 < x * x % 18446744073709551616))) := rfl
  rw [hv]
  generalize x * x / 18446744073709551616 = H at *
  generalize x * x % 18446744073709551616 = L at *
  have HM := Lib.hid hm
  clear hm hv
  by_cases c1 : p < H
  · have g1 : decide ((p : Int) < H) = true := by simp; omega
    have e1 : decide (p < H) = true := by simp; omega
    rw [e1]
    go_enter Tryd.func52, Tryd.ntmps52
    go_wp2_with (go_at_call 55; refine (HM.out _).mono ?_; rintro e w' ⟨rfl, rfl⟩)
    go_ret
    exact ⟨rfl, rfl⟩
  · have g1 : decide ((p : Int) < H) = false := by simp; omega
    have e1 : decide (p < H) = false := by simp; omega
    by_cases c2 : H = p
    · have g3 : ((H : Int) == p) = true := by simp; omega
      have e3 : (H == p) = true := by simp; omega
      by_cases c3 : 0 < L
      · have g5 : decide (0 < (L : Int)) = true := by simp; omega
        have e5 : decide (0 < L) = true := by simp; omega
        rw [e1, e3, e5]
        go_enter Tryd.func52, Tryd.ntmps52
        go_wp2_with (go_at_call 55; refine (HM.out _).mono ?_; rintro e w' ⟨rfl, rfl⟩)
        go_ret
        exact ⟨rfl, rfl⟩
      · have g5 : decide (0 < (L : Int)) = false := by simp; omega
        have e5 : decide (0 < L) = false := by simp; omega
        rw [e1, e3, e5]
        go_enter Tryd.func52, Tryd.ntmps52
        go_wp2_with (go_at_call 55; refine (HM.out _).mono ?_; rintro e w' ⟨rfl, rfl⟩)
        go_ret
        exact ⟨rfl, rfl⟩
    · have g3 : ((H : Int) == p) = false := by simp; omega
      have e3 : (H == p) = false := by simp; omega
      rw [e1, e3]
      go_enter Tryd.func52, Tryd.ntmps52
      go_wp2_with (go_at_call 55; refine (HM.out _).mono ?_; rintro e w' ⟨rfl, rfl⟩)
      go_ret
      exact ⟨rfl, rfl⟩

set_option maxHeartbeats 2000000 in
theorem above_cu (x p : Nat) (hx : x < 68719476736) (hp : p ≤ 400) (w : World) :
    Calls Tryd.prog 52 #[.int .u64 x, .int .u64 p, .bool true] w fun e w' => e = .returned (.bool (aboveF x p true)) ∧ w = w' := by
  have hb := sq_bound x hx
  have hl := Nat.mod_lt (x * x) (y := 18446744073709551616) (by omega)
  have hm := fun w => mul64_any x x (by omega) (by omega) w
  have hv : aboveF x p true = (decide (p * 4294967296 < x * x / 18446744073709551616 * x + x * x % 18446744073709551616 * x / 18446744073709551616) ||
      (x * x / 18446744073709551616 * x + x * x % 18446744073709551616 * x / 18446744073709551616 == p * 4294967296 && decide (0 < x * x % 18446744073709551616 * x % 18446744073709551616))) := rfl
  rw [hv]
  generalize x * x / 18446744073709551616 = H at *
  generalize x * x % 18446744073709551616 = L at *
  have hc := cu_bound L x hl hx
  have hn := Nat.mod_lt (L * x) (y := 18446744073709551616) (by omega)
  have hm2 := fun w => mul64_any L x hl (by omega) w
  generalize L * x / 18446744073709551616 = M at *
  generalize L * x % 18446744073709551616 = N at *
  have hk : H * x < 17592186044416 := by
    have h : H * x ≤ 255 * 68719476735 := Nat.mul_le_mul (by omega) (by omega)
    omega
  have hmul : (H : Int) * (x : Int) = ((H * x : Nat) : Int) := (Int.natCast_mul H x).symm
  generalize H * x = K at *
  have HM := Lib.hid hm
  have HM2 := Lib.hid hm2
  clear hm hv hm2
  by_cases c1 : p * 4294967296 < K + M
  · have g1 : decide ((p : Int) * 4294967296 < (K : Int) + M) = true := by simp; omega
    have e1 : decide (p * 4294967296 < K + M) = true := by simp; omega
    rw [e1]
    go_enter Tryd.func52, Tryd.ntmps52
    go_wp2_with (first | (go_at_call 55; (with_reducible refine (HM.out _).mono ?_); rintro e w' ⟨rfl, rfl⟩) | (go_at_call 55; (with_reducible refine (HM2.out _).mono ?_); rintro e w' ⟨rfl, rfl⟩))
    go_ret
    exact ⟨rfl, rfl⟩
  · have g1 : decide ((p : Int) * 4294967296 < (K : Int) + M) = false := by simp; omega
    have e1 : decide (p * 4294967296 < K + M) = false := by simp; omega
    by_cases c2 : K + M = p * 4294967296
    · have g3 : (((K : Int) + M) == (p : Int) * 4294967296) = true := by simp; omega
      have e3 : (K + M == p * 4294967296) = true := by simp; omega
      by_cases c3 : 0 < N
      · have g5 : decide (0 < (N : Int)) = true := by simp; omega
        have e5 : decide (0 < N) = true := by simp; omega
        rw [e1, e3, e5]
        go_enter Tryd.func52, Tryd.ntmps52
        go_wp2_with (first | (go_at_call 55; (with_reducible refine (HM.out _).mono ?_); rintro e w' ⟨rfl, rfl⟩) | (go_at_call 55; (with_reducible refine (HM2.out _).mono ?_); rintro e w' ⟨rfl, rfl⟩))
        go_ret
        exact ⟨rfl, rfl⟩
      · have g5 : decide (0 < (N : Int)) = false := by simp; omega
        have e5 : decide (0 < N) = false := by simp; omega
        rw [e1, e3, e5]
        go_enter Tryd.func52, Tryd.ntmps52
        go_wp2_with (first | (go_at_call 55; (with_reducible refine (HM.out _).mono ?_); rintro e w' ⟨rfl, rfl⟩) | (go_at_call 55; (with_reducible refine (HM2.out _).mono ?_); rintro e w' ⟨rfl, rfl⟩))
        go_ret
        exact ⟨rfl, rfl⟩
    · have g3 : (((K : Int) + M) == (p : Int) * 4294967296) = false := by simp; omega
      have e3 : (K + M == p * 4294967296) = false := by simp; omega
      rw [e1, e3]
      go_enter Tryd.func52, Tryd.ntmps52
      go_wp2_with (first | (go_at_call 55; (with_reducible refine (HM.out _).mono ?_); rintro e w' ⟨rfl, rfl⟩) | (go_at_call 55; (with_reducible refine (HM2.out _).mono ?_); rintro e w' ⟨rfl, rfl⟩))
      go_ret
      exact ⟨rfl, rfl⟩

theorem above_any (x p : Nat) (cube : Bool) (hx : x < 68719476736) (hp : p ≤ 400) (w : World) :
    Calls Tryd.prog 52 #[.int .u64 x, .int .u64 p, .bool cube] w fun e w' => e = .returned (.bool (aboveF x p cube)) ∧ w = w' := by
  cases cube
  · exact above_sq x p hx w
  · exact above_cu x p hx hp w

end Go.Proofs.YtolildehdibpbaaDoor
