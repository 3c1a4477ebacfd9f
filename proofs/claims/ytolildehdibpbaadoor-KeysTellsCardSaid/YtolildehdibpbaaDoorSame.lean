/-
  The program's Same: whether bytes are the same.
-/
import Derived.Test.YtolildehdibpbaaDoorMacW
import Derived.RegionTactic
import Derived.ChangeAlike
import Derived.StillTailTactics
import Derived.Deep.QuietTactic
import Derived.BigQuiet
import Derived.Outline
namespace Go.Proofs.YtolildehdibpbaaDoor
open Go.RowKit

theorem same_step {xs ys : List UInt8} {i : Nat} {x y : UInt8} (hx : xs[i]? = some x) (hy : ys[i]? = some y) (u : Nat) (p : Prop) (h : u = 0 ↔ p ∧ xs.take i = ys.take i) :
    (u ||| (x ^^^ y).toNat = 0 ↔ p ∧ xs.take (i + 1) = ys.take (i + 1)) := by
  have hi := (List.getElem?_eq_some_iff.1 hx).1
  have hj := (List.getElem?_eq_some_iff.1 hy).1
  have e1 : xs[i] = x := (List.getElem?_eq_some_iff.1 hx).2
  have e2 : ys[i] = y := (List.getElem?_eq_some_iff.1 hy).2
  have hz : (x ^^^ y).toNat = 0 ↔ x = y := by
    rw [UInt8.toNat_xor]
    constructor
    · intro h0
      apply UInt8.toNat_inj.1
      have : x.toNat ^^^ y.toNat ^^^ y.toNat = y.toNat := by rw [h0, Nat.zero_xor]
      rwa [Nat.xor_assoc, Nat.xor_self, Nat.xor_zero] at this
    · rintro rfl
      rw [Nat.xor_self]
  rw [Nat.or_eq_zero_iff, h, hz, List.take_succ_eq_append_getElem hi, List.take_succ_eq_append_getElem hj, e1, e2]
  constructor
  · rintro ⟨⟨hp, ht⟩, rfl⟩
    exact ⟨hp, by rw [ht]⟩
  · rintro ⟨hp, ht⟩
    have hlen : (xs.take i).length = (ys.take i).length := by rw [List.length_take, List.length_take]; omega
    have := List.append_inj ht hlen
    exact ⟨⟨hp, this.1⟩, by simpa using this.2⟩
theorem same_end {xs ys : List UInt8} {u n n' : Nat} (hn : xs.length = n) (hn' : ys.length = n') (h : u = 0 ↔ n = n' ∧ xs.take (min n n') = ys.take (min n n')) : ((u : Int) == 0) = (xs == ys) := by
  rw [Bool.eq_iff_iff]
  simp only [beq_iff_eq]
  rw [show ((u : Int) = 0) ↔ u = 0 by omega, h]
  constructor
  · rintro ⟨e, ht⟩
    subst e
    rw [Nat.min_self, List.take_of_length_le (by omega), List.take_of_length_le (by omega)] at ht
    exact ht
  · rintro rfl
    exact ⟨by omega, rfl⟩
theorem xor_zero_iff (a b : Nat) : a ^^^ b = 0 ↔ a = b := by
  constructor
  · intro h0
    have : a ^^^ b ^^^ b = b := by rw [h0, Nat.zero_xor]
    rwa [Nat.xor_assoc, Nat.xor_self, Nat.xor_zero] at this
  · rintro rfl
    rw [Nat.xor_self]

set_option maxHeartbeats 4000000 in
theorem same_lt (Q Q' : Nat → Prop) (xs ys : List UInt8) (A A' : Option Addr) (n c n' c' : Nat) (w : World) (hby : By w Q A n xs) (hby' : By w Q' A' n' ys) (hmn : n' < n) (hn : n ≤ 1099511627776) (hn' : n' ≤ 1099511627776) :
    Calls Tryd.prog 16 #[.slice A n c, .slice A' n' c'] w fun e w' => e = .returned (.bool (xs == ys)) ∧ Below w.heap.size w w' := by
  have hl := hby.len
  have hl' := hby'.len
  have HL := Lib.hid hl
  have HL' := Lib.hid hl'
  have HBy := Lib.hid hby
  have HBy' := Lib.hid hby'
  have hxor := i64_xor_nat n n' (by omega) (by omega)
  obtain ⟨u0, hu0⟩ : ∃ u0, u0 = n ^^^ n' := ⟨_, rfl⟩
  have hu1 : u0 < 2 ^ 63 := by rw [hu0]; exact Nat.xor_lt_two_pow (by omega) (by omega)
  have hu2 : u0 = 0 ↔ n = n' := by rw [hu0]; exact xor_zero_iff n n'
  rw [← hu0] at hxor
  have HU1 := Lib.hid hu1
  have HU2 := Lib.hid hu2
  clear hl hl' hby hby' hu0 hu1 hu2
  go_enter Tryd.func16, Tryd.ntmps16
  go_wp2
  go_loopw [5, 17] (fun uv iv wr => ∃ (i u : Nat), i ≤ n' ∧ iv = .int .i64 i ∧ uv = .int .i64 u ∧ u < 2 ^ 63 ∧ (u = 0 ↔ n = n' ∧ xs.take i = ys.take i) ∧ Below w.heap.size w wr) (fun _ iv _ => n' - (intOf iv).toNat)
  case atStart => exact ⟨0, u0, by omega, rfl, rfl, HU1.out, by simpa using HU2.out, Below.refl _ _⟩
  case round =>
    obtain ⟨i, u, hi, rfl, rfl, hu, hiff, hx⟩ := hrel
    by_cases hlt : i < n'
    · as_aux_lemma =>
      have hi1 : i < n := by omega
      have hi2 : i < n' := by omega
      have hx1 : i < xs.length := by rw [HL.out]; exact hi1
      have hx2 : i < ys.length := by rw [HL'.out]; exact hi2
      obtain ⟨ga, oa, rfl, ha⟩ := (HBy.out.through hx).cell i hx1
      obtain ⟨gb, ob, rfl, hb⟩ := (HBy'.out.through hx).cell i hx2
      have hst := same_step (List.getElem?_eq_getElem hx1) (List.getElem?_eq_getElem hx2) u _ hiff
      generalize xs[i] = x at ha hst
      generalize ys[i] = y at hb hst
      unfold u8 at ha hb
      have hx8 := u8_xor_toNat x y
      have hzl := (x ^^^ y).toNat_lt
      have hor := i64_or_nat u (x ^^^ y).toNat (by omega) (by omega)
      have hv : u ||| (x ^^^ y).toNat < 2 ^ 63 := Nat.or_lt_two_pow (by omega) (by omega)
      generalize (x ^^^ y).toNat = z at hx8 hzl hor hst hv
      generalize u ||| z = v at hor hst hv
      have HSt := Lib.hid hst
      have HV := Lib.hid hv
      have HX := Lib.hid hx
      clear hst hv hx hiff hx1 hx2
      go_wp2
      go_quiet (fail)
      go_wp2
      refine ⟨⟨i + 1, v, by omega, by go_num, rfl, HV.out, HSt.out, below_drewN HX.out _⟩, ?_⟩
      simp [intOf]
      omega
    · as_aux_lemma =>
      have hm : i = min n n' := by rw [Nat.min_eq_right (Nat.le_of_lt hmn)]; omega
      rw [hm] at hiff
      have hfin := same_end HL.out HL'.out hiff
      have HX := Lib.hid hx
      clear hiff hx
      go_wp2
      go_ret
      exact ⟨rfl, HX.out⟩

set_option maxHeartbeats 4000000 in
theorem same_ge (Q Q' : Nat → Prop) (xs ys : List UInt8) (A A' : Option Addr) (n c n' c' : Nat) (w : World) (hby : By w Q A n xs) (hby' : By w Q' A' n' ys) (hmn : n ≤ n') (hn : n ≤ 1099511627776) (hn' : n' ≤ 1099511627776) :
    Calls Tryd.prog 16 #[.slice A n c, .slice A' n' c'] w fun e w' => e = .returned (.bool (xs == ys)) ∧ Below w.heap.size w w' := by
  have hl := hby.len
  have hl' := hby'.len
  have HL := Lib.hid hl
  have HL' := Lib.hid hl'
  have HBy := Lib.hid hby
  have HBy' := Lib.hid hby'
  have hxor := i64_xor_nat n n' (by omega) (by omega)
  obtain ⟨u0, hu0⟩ : ∃ u0, u0 = n ^^^ n' := ⟨_, rfl⟩
  have hu1 : u0 < 2 ^ 63 := by rw [hu0]; exact Nat.xor_lt_two_pow (by omega) (by omega)
  have hu2 : u0 = 0 ↔ n = n' := by rw [hu0]; exact xor_zero_iff n n'
  rw [← hu0] at hxor
  have HU1 := Lib.hid hu1
  have HU2 := Lib.hid hu2
  clear hl hl' hby hby' hu0 hu1 hu2
  go_enter Tryd.func16, Tryd.ntmps16
  go_wp2
  go_loopw [5, 17] (fun uv iv wr => ∃ (i u : Nat), i ≤ n ∧ iv = .int .i64 i ∧ uv = .int .i64 u ∧ u < 2 ^ 63 ∧ (u = 0 ↔ n = n' ∧ xs.take i = ys.take i) ∧ Below w.heap.size w wr) (fun _ iv _ => n - (intOf iv).toNat)
  case atStart => exact ⟨0, u0, by omega, rfl, rfl, HU1.out, by simpa using HU2.out, Below.refl _ _⟩
  case round =>
    obtain ⟨i, u, hi, rfl, rfl, hu, hiff, hx⟩ := hrel
    by_cases hlt : i < n
    · as_aux_lemma =>
      have hi1 : i < n := by omega
      have hi2 : i < n' := by omega
      have hx1 : i < xs.length := by rw [HL.out]; exact hi1
      have hx2 : i < ys.length := by rw [HL'.out]; exact hi2
      obtain ⟨ga, oa, rfl, ha⟩ := (HBy.out.through hx).cell i hx1
      obtain ⟨gb, ob, rfl, hb⟩ := (HBy'.out.through hx).cell i hx2
      have hst := same_step (List.getElem?_eq_getElem hx1) (List.getElem?_eq_getElem hx2) u _ hiff
      generalize xs[i] = x at ha hst
      generalize ys[i] = y at hb hst
      unfold u8 at ha hb
      have hx8 := u8_xor_toNat x y
      have hzl := (x ^^^ y).toNat_lt
      have hor := i64_or_nat u (x ^^^ y).toNat (by omega) (by omega)
      have hv : u ||| (x ^^^ y).toNat < 2 ^ 63 := Nat.or_lt_two_pow (by omega) (by omega)
      generalize (x ^^^ y).toNat = z at hx8 hzl hor hst hv
      generalize u ||| z = v at hor hst hv
      have HSt := Lib.hid hst
      have HV := Lib.hid hv
      have HX := Lib.hid hx
      clear hst hv hx hiff hx1 hx2
      go_wp2
      go_quiet (fail)
      go_wp2
      refine ⟨⟨i + 1, v, by omega, by go_num, rfl, HV.out, HSt.out, below_drewN HX.out _⟩, ?_⟩
      simp [intOf]
      omega
    · as_aux_lemma =>
      have hm : i = min n n' := by rw [Nat.min_eq_left hmn]; omega
      rw [hm] at hiff
      have hfin := same_end HL.out HL'.out hiff
      have HX := Lib.hid hx
      clear hiff hx
      go_wp2
      go_ret
      exact ⟨rfl, HX.out⟩


theorem same_any (Q Q' : Nat → Prop) (xs ys : List UInt8) (A A' : Option Addr) (n c n' c' : Nat) (w : World) (hby : By w Q A n xs) (hby' : By w Q' A' n' ys) (hn : n ≤ 1099511627776) (hn' : n' ≤ 1099511627776) :
    Calls Tryd.prog 16 #[.slice A n c, .slice A' n' c'] w fun e w' => e = .returned (.bool (xs == ys)) ∧ Below w.heap.size w w' := by
  rcases Nat.lt_or_ge n' n with h | h
  · exact same_lt Q Q' xs ys A A' n c n' c' w hby hby' h hn hn'
  · exact same_ge Q Q' xs ys A A' n c n' c' w hby hby' h hn hn'

end Go.Proofs.YtolildehdibpbaaDoor
