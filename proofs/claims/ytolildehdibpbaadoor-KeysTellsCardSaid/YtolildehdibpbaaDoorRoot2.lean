/-
  The document's constants: prime, root.
-/
import Derived.Test.YtolildehdibpbaaDoorRoot
namespace Go.Proofs.YtolildehdibpbaaDoor
open Go.RowKit

def rootGo (p : Nat) (cube : Bool) : Nat → Nat → Nat
  | 0, x => x
  | b + 1, x => rootGo p cube b (if b < 36 && !aboveF (x + 2 ^ b) p cube then x + 2 ^ b else x)
def rootF (p : Nat) (cube : Bool) : UInt32 := UInt32.ofNat (rootGo p cube 38 0 % 4294967296)

theorem or_pow (x j : Nat) (hx : x % 2 ^ (j + 1) = 0) : x ||| 2 ^ j = x + 2 ^ j :=
  nat_join (j + 1) x (2 ^ j) hx (Nat.pow_lt_pow_right (by omega) (by omega))

theorem pow_room (x j : Nat) (hj : j < 36) (hx : x < 68719476736) (hm : x % 2 ^ (j + 1) = 0) : x + 2 ^ j < 68719476736 := by
  have h36 : 2 ^ (j + 1) * 2 ^ (35 - j) = 68719476736 := by rw [← Nat.pow_add, show j + 1 + (35 - j) = 36 from by omega]
  have hd := Nat.div_add_mod x (2 ^ (j + 1))
  rw [hm, Nat.add_zero] at hd
  have hq : x / 2 ^ (j + 1) < 2 ^ (35 - j) := Nat.div_lt_of_lt_mul (by rw [h36]; exact hx)
  have h1 : 2 ^ (j + 1) * (x / 2 ^ (j + 1) + 1) ≤ 2 ^ (j + 1) * 2 ^ (35 - j) := Nat.mul_le_mul_left _ hq
  rw [Nat.mul_add, hd, h36, Nat.mul_one, Nat.pow_succ] at h1
  have := Nat.two_pow_pos j
  omega
theorem mod_half (x j : Nat) (hm : x % 2 ^ (j + 1) = 0) : x % 2 ^ j = 0 := by
  have h : 2 ^ j ∣ x := Nat.dvd_trans ⟨2, by rw [Nat.pow_succ]⟩ (Nat.dvd_of_mod_eq_zero hm)
  exact Nat.mod_eq_zero_of_dvd h
theorem or_u64 (x j : Nat) (hj : j < 36) (hx : x < 68719476736) (hm : x % 2 ^ (j + 1) = 0) : bits .or .u64 (x : Int) (IntKind.u64.wrap (2 ^ j)) = ((x + 2 ^ j : Nat) : Int) := by
  have hp : 2 ^ j < 68719476736 := by have := pow_room x j hj hx hm; omega
  have e : ((2 : Int) ^ j) = ((2 ^ j : Nat) : Int) := by simp
  rw [e, IntKind.wrap_u64, ← or_pow x j hm]
  have e2 : (((2 ^ j : Nat) : Int) % 18446744073709551616) = ((2 ^ j : Nat) : Int) := by omega
  rw [e2, u64_or_nat x (2 ^ j) (by omega) (by omega)]

set_option maxHeartbeats 2000000 in
theorem root_any (p : Nat) (cube : Bool) (hp : p ≤ 400) (w : World) :
    Calls Tryd.prog 46 #[.int .u64 p, .bool cube] w fun e w' => e = .returned (.int .u32 (n32 (rootF p cube))) ∧ w = w' := by
  go_enter Tryd.func46, Tryd.ntmps46
  go_wp2
  go_loop [5, 6] (fun v i => ∃ (b x : Nat), b ≤ 38 ∧ i = .int .i64 ((b : Int) - 1) ∧ v = .int .u64 x ∧ x < 68719476736 ∧ x % 2 ^ b = 0 ∧ rootGo p cube b x = rootGo p cube 38 0) (fun _ i => (intOf i + 1).toNat)
  case atStart => exact ⟨38, 0, by omega, rfl, rfl, by omega, by simp, rfl⟩
  case round =>
    obtain ⟨b, x, hb, rfl, rfl, hx, hm, hgo⟩ := hrel
    rcases b with _ | j
    · have HG := Lib.hid hgo
      clear hgo hm
      go_wp2
      go_ret
      refine ⟨?_, rfl⟩
      have e : n32 (rootF p cube) = (x : Int) % 4294967296 := by
        rw [rootF, ← HG.out, rootGo, n32_ofNat _ (Nat.mod_lt _ (by omega))]
        omega
      rw [e]
      rfl
    · have hj : ((j + 1 : Nat) : Int) - 1 = (j : Int) := by omega
      rw [hj]
      clear hj
      have hm' := Lib.hid (mod_half x j hm)
      by_cases h36 : j < 36
      · have hor := or_u64 x j h36 hx hm
        have hroom := pow_room x j h36 hx hm
        have hm2 : (x + 2 ^ j) % 2 ^ j = 0 := by rw [Nat.add_mod_right]; exact hm'.out
        rw [rootGo] at hgo
        have hd : decide (j < 36) = true := by simpa using h36
        rw [hd, Bool.true_and] at hgo
        generalize x + 2 ^ j = y at hor hroom hm2 hgo
        have HA := Lib.hid (fun w => above_any y p cube hroom hp w)
        generalize aboveF y p cube = r at HA hgo
        have HM2 := Lib.hid hm2
        have HM := Lib.hid hm
        cases r
        · have HG := Lib.hid hgo
          clear hgo hm hm2 hd
          go_wp2_with (go_at_call 52; refine (HA.out _).mono ?_; rintro e w' ⟨rfl, rfl⟩)
          go_round
          case rel => exact ⟨j, y, by omega, rfl, rfl, hroom, HM2.out, HG.out⟩
          case measure => simp [intOf]
        · have HG := Lib.hid hgo
          clear hgo hm hm2 hd
          go_wp2_with (go_at_call 52; refine (HA.out _).mono ?_; rintro e w' ⟨rfl, rfl⟩)
          go_round
          case rel => exact ⟨j, x, by omega, rfl, rfl, hx, hm'.out, HG.out⟩
          case measure => simp [intOf]
      · rw [rootGo] at hgo
        have hd : decide (j < 36) = false := by simpa using h36
        rw [hd, Bool.false_and] at hgo
        have HG := Lib.hid hgo
        have HM := Lib.hid hm
        clear hgo hm hd
        go_wp2_with fail
        go_round
        case rel => exact ⟨j, x, by omega, rfl, rfl, hx, hm'.out, HG.out⟩
        case measure => simp [intOf]

def primeGo (p : Nat) : Nat → Nat → Bool
  | 0, _ => decide (1 < p)
  | f + 1, q => if q * q ≤ p then (if p % q = 0 then false else primeGo p f (q + 1)) else decide (1 < p)
def primeF (p : Nat) : Bool := primeGo p 20 2

set_option maxHeartbeats 1000000 in
theorem prime_any (p : Nat) (hp : p ≤ 400) (w : World) :
    Calls Tryd.prog 45 #[.int .u64 p] w fun e w' => e = .returned (.bool (primeF p)) ∧ w = w' := by
  go_enter Tryd.func45, Tryd.ntmps45
  go_wp2
  go_loop [3] (fun v => ∃ (q f : Nat), 2 ≤ q ∧ q + f = 22 ∧ v = .int .u64 q ∧ primeGo p f q = primeF p) (fun v => 22 - (intOf v).toNat)
  case atStart => exact ⟨2, 20, by omega, by omega, rfl, rfl⟩
  case round =>
    obtain ⟨q, f, hq, hf, rfl, hgo⟩ := hrel
    have hmul : (q : Int) * (q : Int) = ((q * q : Nat) : Int) := (Int.natCast_mul q q).symm
    have hqq : q * q ≤ 22 * 22 := Nat.mul_le_mul (by omega) (by omega)
    rcases f with _ | f
    · have h22 : q = 22 := by omega
      subst h22
      have HG := Lib.hid hgo
      have hle : ¬ (484 : Int) ≤ (p : Int) := by omega
      clear hgo hmul hqq hf hq
      go_wp2
      go_ret
      exact ⟨by rw [← HG.out, primeGo]; simp; omega, rfl⟩
    · rw [primeGo] at hgo
      by_cases hle : q * q ≤ p
      · rw [if_pos hle] at hgo
        generalize hQ : q * q = Q at *
        by_cases hdiv : p % q = 0
        · rw [if_pos hdiv] at hgo
          have h0 : (((p : Int) % (q : Int)) == 0) = true := by
            have : ((p % q : Nat) : Int) = 0 := by rw [hdiv]; rfl
            rw [Int.natCast_emod] at this
            simp [this]
          have HG := Lib.hid hgo
          clear hdiv hgo hQ
          go_wp2
          go_ret
          exact ⟨by rw [← HG.out]; rfl, rfl⟩
        · rw [if_neg hdiv] at hgo
          have h0 : (((p : Int) % (q : Int)) == 0) = false := by
            have : ((p % q : Nat) : Int) ≠ 0 := by omega
            rw [Int.natCast_emod] at this
            simpa using this
          have HG := Lib.hid hgo
          clear hdiv hgo hQ
          go_wp2
          go_round
          case rel => exact ⟨q + 1, f, by omega, by omega, by go_num, HG.out⟩
          case measure => simp [intOf]; omega
      · rw [if_neg hle] at hgo
        generalize hQ : q * q = Q at *
        have HG := Lib.hid hgo
        clear hgo hQ
        go_wp2
        go_ret
        exact ⟨by rw [← HG.out]; simp; omega, rfl⟩

end Go.Proofs.YtolildehdibpbaaDoor
