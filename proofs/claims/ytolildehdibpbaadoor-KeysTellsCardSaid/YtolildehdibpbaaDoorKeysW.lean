/-
  Keys, digests and tags AS PLAIN FUNCTIONS; the two numbers ahead of a text. (addressed is walked here.)
-/
import Derived.Test.YtolildehdibpbaaDoorMacW
import Derived.Test.YtolildehdibpbaaDoorPut
import Derived.Test.YtolildehdibpbaaDoorRPut
import Derived.Outline
namespace Go.Proofs.YtolildehdibpbaaDoor
open Go.RowKit

/-- a number's last two bytes -/
def a16 (a : Int) : Nat := (a % 65536).toNat
theorem a16_lt (a : Int) : a16 a < 65536 := by unfold a16; omega
def pair (x y : Nat) : List UInt8 := beB x 2 ++ beB y 2
def addr (a b : Int) (t : List UInt8) : List UInt8 := pair (a16 a) (a16 b) ++ t
/-- THE KEY OF TWO, THE LOWER ONE FIRST. -/
def keyB (seed : List UInt8) (x y : Nat) : List UInt8 := hmac seed (pair x y)
def keyAB (seed : List UInt8) (a b : Int) : List UInt8 := keyB seed (min (a16 a) (a16 b)) (max (a16 a) (a16 b))
def tagAB (seed : List UInt8) (a b : Int) (t : List UInt8) : List UInt8 := hmac (keyAB seed a b) (addr a b t)
def digK (k : Int) (t : List UInt8) : List UInt8 := sha (beB (k % 256).toNat 1 ++ t)
theorem pair_length (x y : Nat) : (pair x y).length = 4 := by simp [pair, beB_length]
theorem addr_length (a b : Int) (t : List UInt8) : (addr a b t).length = 4 + t.length := by simp [addr, pair_length]
theorem keyB_length (seed : List UInt8) (x y : Nat) : (keyB seed x y).length = 32 := hmac_length _ _
theorem keyAB_length (seed : List UInt8) (a b : Int) : (keyAB seed a b).length = 32 := hmac_length _ _
theorem tagAB_length (seed : List UInt8) (a b : Int) (t : List UInt8) : (tagAB seed a b t).length = 32 := hmac_length _ _
theorem keyAB_comm (seed : List UInt8) (a b : Int) : keyAB seed a b = keyAB seed b a := by
  unfold keyAB
  rw [Nat.min_comm, Nat.max_comm]
theorem ofNat_mod (v w : Nat) (h : v % 256 = w % 256) : UInt8.ofNat v = UInt8.ofNat w := by
  apply UInt8.toNat_inj.1
  rw [UInt8.toNat_ofNat', UInt8.toNat_ofNat']
  omega
theorem beB_mod2 (v w : Nat) (h : v % 65536 = w % 65536) : beB v 2 = beB w 2 := by
  simp only [beB, List.nil_append]
  rw [ofNat_mod v w (by omega), ofNat_mod (v / 256) (w / 256) (by omega)]
theorem beB_mod1 (v w : Nat) (h : v % 256 = w % 256) : beB v 1 = beB w 1 := by
  simp only [beB, List.nil_append]
  rw [ofNat_mod v w h]
theorem beB_a16 (a : Int) : beB (a % 18446744073709551616).toNat 2 = beB (a16 a) 2 := beB_mod2 _ _ (by unfold a16; omega)

theorem put2_any (Q : Nat → Prop) (A : Option Addr) (n c : Nat) (xs : List UInt8) (a : Int) (w : World) (h : By w Q A n xs) (hn : n ≤ 1000000) (hnc : n ≤ c) :
    Calls Tryd.prog 51 #[.slice A n c, .int .u64 (a % 18446744073709551616), .int .i64 2] w fun e w' => ∃ A' c', e = .returned (.slice A' (n + 2) c') ∧ w'.ownsRow w.heap.size 5 1 (.slice A' (n + 2) c') (n + 2) (vs (xs ++ beB (a16 a) 2)) ∧ n + 2 ≤ c' ∧ c' ≤ maxLen ∧ Below w.heap.size w w' := by
  refine (put_any Q A n c xs _ 2 (by omega) (by omega) w h (by omega) hnc).mono ?_
  rintro e w' ⟨v, rfl, ho, hb⟩
  have e1 : putN n 2 = n + 2 := rfl
  have e2 : putB xs (a % 18446744073709551616).toNat 2 = xs ++ beB (a16 a) 2 := by rw [← beB_a16]; rfl
  rw [e1, e2] at ho
  obtain ⟨A', c', rfl, h1, h2, _⟩ := own_form ho
  exact ⟨A', c', rfl, ho, h1, h2, hb⟩
theorem rput2_any (Q : Nat → Prop) (A : Option Addr) (n c : Nat) (xs : List UInt8) (a : Int) (w : World) (h : By w Q A n xs) (hn : n ≤ 1000000) :
    Calls Tryd.prog 30 #[.slice A n c, .int .u64 (a % 18446744073709551616), .int .i64 2] w fun e w' => ∃ A' c', e = .returned (.slice A' (n + 2) c') ∧ w'.ownsRow w.heap.size 5 1 (.slice A' (n + 2) c') (n + 2) (vs (xs ++ beB (a16 a) 2)) ∧ n + 2 ≤ c' ∧ c' ≤ maxLen ∧ Below w.heap.size w w' := by
  refine (rput_any Q A n c xs _ 2 (by omega) (by omega) w h (by omega)).mono ?_
  rintro e w' ⟨v, rfl, ho, hb⟩
  have e1 : putN n 2 = n + 2 := rfl
  have e2 : putB xs (a % 18446744073709551616).toNat 2 = xs ++ beB (a16 a) 2 := by rw [← beB_a16]; rfl
  rw [e1, e2] at ho
  obtain ⟨A', c', rfl, h1, h2, _⟩ := own_form ho
  exact ⟨A', c', rfl, ho, h1, h2, hb⟩

set_option maxHeartbeats 2000000 in
set_option maxRecDepth 100000 in
theorem addressed_any (Q : Nat → Prop) (a b : Int) (text : List UInt8) (A : Option Addr) (n c : Nat) (w : World) (hby : By w Q A n text) (hn : n ≤ 1000000) :
    Calls Tryd.prog 41 #[.int .i64 a, .int .i64 b, .slice A n c] w fun e w' => ∃ A' c', e = .returned (.slice A' (4 + n) c') ∧ w'.ownsRow w.heap.size 5 1 (.slice A' (4 + n) c') (4 + n) (vs (addr a b text)) ∧ 4 + n ≤ c' ∧ c' ≤ maxLen ∧ Below w.heap.size w w' := by
  obtain ⟨i0, hi, hz0, hz1, hz2⟩ := info_parts Tryd.info_u8
  have HBy := Lib.hid hby
  have hwa : IntKind.u64.wrap a = a % 18446744073709551616 := IntKind.wrap_u64 a
  have hwb : IntKind.u64.wrap b = b % 18446744073709551616 := IntKind.wrap_u64 b
  have hfin : ([] ++ beB (a16 a) 2 ++ beB (a16 b) 2) ++ text = addr a b text := by simp [addr, pair]
  have HF := Lib.hid hfin
  clear hby hfin
  go_enter Tryd.func41, Tryd.ntmps41
  go_wp2_with (first
    | (go_at_call 51; (with_reducible refine (put2_any (fun _ => True) none 0 0 [] a _ By.none_ (by omega) (by omega)).mono ?_); rintro e w1 ⟨A1, c1, rfl, ho1, hc1, _, hb1⟩; have HO1 := Lib.hid ho1; have HX1 := Lib.hid hb1; clear ho1 hb1)
    | (go_at_call 51; (with_reducible refine (put2_any _ A1 _ c1 _ b _ (By.of_own HO1.out) (by omega) (by omega)).mono ?_); rintro e w2 ⟨A2, c2, rfl, ho2, hc2, _, hb2⟩; have HX2 := Lib.hid (HX1.out.trans (hb2.mono HX1.out.size)); have HO2 := Lib.hid (own_weak ho2 HX1.out.size); clear ho2 hb2)
    | (at_builtin; refine wpList_append_by _ rfl (.tmp 15) (.tmp 16) 22 rfl w.heap.size i0 Tryd.underlying22 hi hz0 hz1 hz2 (.slice A2 4 c2) 4 (vs ([] ++ beB (a16 a) 2 ++ beB (a16 b) 2)) rfl HO2.out Q A n c text rfl (HBy.out.through HX2.out) (by omega) HX2.out.size ?_; intro v3 w3 ho3 hg3 _; rw [vs_append, HF.out] at ho3; obtain ⟨A3, c3, rfl, hc3, hm3, _⟩ := own_form ho3; have HO3 := Lib.hid ho3; have HX3 := Lib.hid (HX2.out.grown hg3 HX2.out.size (fun g hg => (HO2.out.lt g hg).1)); clear ho3 hg3))
  go_ret
  exact ⟨A3, c3, rfl, HO3.out, hc3, hm3, HX3.out⟩

end Go.Proofs.YtolildehdibpbaaDoor
