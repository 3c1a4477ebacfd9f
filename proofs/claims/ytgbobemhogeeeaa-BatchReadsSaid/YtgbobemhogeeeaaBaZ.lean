/-
  BatchReads.
-/
import Derived.Test.YtgbobemhogeeeaaBaL
import Derived.Test.YtgbobemhogeeeaaBaH
import Derived.Test.YtgbobemhogeeeaaBaS
namespace Go.Proofs.Ytgbobemhogeeeaa
open Go.RowKit

theorem docR_len (m : Nat) : ∀ (k : Nat) (b : Bool) (out : List Ey) (st : Option (List UInt8)), (docR m k b out st).1.length ≤ out.length + k
  | 0, _, _, _ => Nat.le_refl _
  | k + 1, b, out, none => by rw [docR_none]; exact Nat.le_add_right _ _
  | k + 1, b, out, some xs => by
    rw [docR_some]
    have := docR_len m k (b && decide ((rdCr m (some (rval m (some xs)))).2 = some [])) (out ++ [⟨(rdCr m (some (rval m (some xs)))).1, nval 1 (rnext m (some xs))⟩]) (nnext 1 (rnext m (some xs)))
    simp at this ⊢
    omega

set_option maxHeartbeats 8000000 in
set_option maxRecDepth 100000 in
theorem batchreads_any (xs : List UInt8) (N : Int) (A : Option Addr) (m d : Nat) (w : World) (h : By w (fun _ => True) A m xs) (hmd : m ≤ d) (hd : d ≤ maxLen) :
    Calls Try.prog 5 #[.slice A m d, .int .i64 N] w fun e w' => e = .returned (.bool true) ∧ Below w.heap.size w w' := by
  have HY := Lib.hid h
  by_cases h1 : 3000 < m
  · have d1 : decide ((3000 : Int) < (m : Int)) = true := by simp; omega
    clear h1 h
    go_enter Try.func5, Try.ntmps5
    go_wp2_with (first
      | (go_at_call 15; (with_reducible refine (fixed15_any _).mono ?_); rintro e w1 ⟨rfl, hb1⟩; have HX1 := Lib.hid hb1; have HY1 := Lib.hid (HY.out.through hb1); clear hb1))
    go_ret
    exact ⟨rfl, HX1.out⟩
  have d1 : decide ((3000 : Int) < (m : Int)) = false := by simp; omega
  have hxm : xs.length = m := h.len
  obtain ⟨es, er, hP⟩ : ∃ es er, parseB 1048576 xs N = (es, er) := ⟨_, _, rfl⟩
  have HP1 : Hid (∀ W : World, By W (fun _ => True) A m xs → Calls Try.prog 21 #[.slice A m d, .int .i64 N] W (EyOut W es er)) := Lib.hid (fun W hY => by
    have h9 := parseB_any xs N A m d W hY (by omega)
    rw [parseG_eq (m := 1048576) N (by omega), hP] at h9
    exact h9)
  have HP2 : Hid (∀ W : World, By W (fun _ => True) A m xs → Calls Try.prog 23 #[.slice A m d, .int .i64 N] W (EyOut W es er)) := Lib.hid (fun W hY => by
    have h9 := rparseB_any xs N A m d W hY hmd hd (by omega)
    rw [hP] at h9
    exact h9)
  have hle : es.length ≤ 65535 := by
    have h8 : (parseB 1048576 xs N).1.length ≤ 65535 := by
      have h7 := docR_len 1048576 (nval 2 (some xs)) true [] (nnext 2 (some xs))
      have h6 := nval_lt 2 (some xs)
      have e9 : (256 : Nat) ^ 2 = 65536 := by decide
      unfold parseB finB
      split
      · split
        · simp at h7 ⊢; omega
        · exact Nat.zero_le _
      · exact Nat.zero_le _
    rw [hP] at h8
    exact h8
  have HSm : Hid (∀ (W : World) (A1 : Option Addr) (n1 c1 : Nat) (A2 : Option Addr) (n2 c2 : Nat), EysIn W A1 n1 es → EysIn W A2 n2 es → Calls Try.prog 22 #[.slice A1 n1 c1, .slice A2 n2 c2] W fun e w' => e = .returned (.bool true) ∧ Below W.heap.size W w') := Lib.hid (fun W A1 n1 c1 A2 n2 c2 hE1 hE2 => by
    have h9 := rsame15_any es es A1 n1 c1 A2 n2 c2 W hE1 hE2 (by have := hE1.len; omega)
    rw [sameB_self] at h9
    exact h9)
  clear h1 h hxm hP hle
  go_enter Try.func5, Try.ntmps5
  go_wp2_with (first
    | (go_at_call 15; (with_reducible refine (fixed15_any _).mono ?_); rintro e w1 ⟨rfl, hb1⟩; have HX1 := Lib.hid hb1; have HY1 := Lib.hid (HY.out.through hb1); clear hb1)
    | (go_at_call 21; (with_reducible refine (HP1.out _ HY1.out).mono ?_); rintro e w2 ⟨A2, n2, c2, rfl, hi2, _, _, hb2, _⟩; have HI2 := Lib.hid hi2; have HX2 := Lib.hid (below_step HX1.out hb2); have HY2 := Lib.hid (HY1.out.through hb2); clear hi2 hb2)
    | (go_at_call 23; (with_reducible refine (HP2.out _ HY2.out).mono ?_); rintro e w3 ⟨A3, n3, c3, rfl, hi3, _, _, hb3, _⟩; have HJ3 := Lib.hid hi3; have HX3 := Lib.hid (below_step HX2.out hb3); have HI3 := Lib.hid (HI2.out.through hb3); clear hi3 hb3)
    | (go_at_call 22; (with_reducible refine (HSm.out _ _ _ _ _ _ _ HI3.out HJ3.out).mono ?_); rintro e w4 ⟨rfl, hb4⟩; have HX4 := Lib.hid (below_step HX3.out hb4); clear hb4))
  go_ret
  exact ⟨rfl, HX4.out⟩

end Go.Proofs.Ytgbobemhogeeeaa
