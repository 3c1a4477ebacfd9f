/-
  Joined: TpF.
-/
import Derived.Test.YtkpgjcahmpekbaaTU41
namespace Go.Proofs.Ytkpgjcahmpekbaa
open Go.RowKit

abbrev Ms : Type := List (Int × List UInt8)
theorem least_fix : leastT ([(1, [97]), (2, [97])] : Ms) [] 2 = some [97] := by
 unfold leastT
 rw [if_neg (by decide)]
 have h1 : (sKeys ([(1, [97]), (2, [97])] : Ms)).length = 2 := by rw [sKeys_len]; rfl
 cases h : sKeys ([(1, [97]), (2, [97])] : Ms) with
 | nil => rw [h] at h1; exact absurd h1 (by decide)
 | cons a r =>
  have h2 := sKeys_mem (a := a) (M := ([(1, [97]), (2, [97])] : Ms)) (by rw [h]; exact List.mem_cons_self ..)
  have h3 : a = 1 ∨ a = 2 := by simpa using h2
  unfold leastM
  rcases h3 with rfl | rfl
  ·rw [show (getM 1 ([(1, [97]), (2, [97])] : Ms)).getD [] = [97] from by decide, if_pos (by decide)]
  ·rw [show (getM 2 ([(1, [97]), (2, [97])] : Ms)).getD [] = [97] from by decide, if_pos (by decide)]
section
variable {w : World} {g gv gc : Nat}
theorem fx_a (h : TlR 100 encS (fun _ => True) w g gv gc []) : Calls Try.prog 24 #[(.pointer (some ⟨g, 0, none⟩)), .int .i64 1, (.string ⟨#[97]⟩)] w fun e w' => e = .returned (.bool true) ∧ TlR 100 encS (fun _ => True) w' g gv gc [(1, [97])] ∧ Ft (D3 g gv gc) w w' := add_S 1 [97] h (by decide)
theorem fx_b (h : TlR 100 encS (fun _ => True) w g gv gc [(1, [97])]) : Calls Try.prog 24 #[(.pointer (some ⟨g, 0, none⟩)), .int .i64 1, (.string ⟨#[98]⟩)] w fun e w' => e = .returned (.bool false) ∧ TlR 100 encS (fun _ => True) w' g gv gc [(1, [97])] ∧ Ft (D3 g gv gc) w w' := add_S 1 [98] h (by decide)
theorem fx_c (h : TlR 100 encS (fun _ => True) w g gv gc [(1, [97])]) : Calls Try.prog 24 #[(.pointer (some ⟨g, 0, none⟩)), .int .i64 2, (.string ⟨#[97]⟩)] w fun e w' => e = .returned (.bool true) ∧ TlR 100 encS (fun _ => True) w' g gv gc [(1, [97]), (2, [97])] ∧ Ft (D3 g gv gc) w w' := add_S 2 [97] h (by decide)
theorem fx_d (h : TlR 100 encS (fun _ => True) w g gv gc [(1, [97]), (2, [97])]) : Calls Try.prog 22 #[(.pointer (some ⟨g, 0, none⟩)), .int .i64 2] w fun e w' => e = .returned (.tuple #[(.string ⟨#[97]⟩), .bool true]) ∧ Below w.heap.size w w' := by
 have h1 := least_S 2 h (fun p hp => by
  have hp' : p = (1, [97]) ∨ p = (2, [97]) := by simpa using hp
  rcases hp' with rfl | rfl <;> (simp only [In64]; omega)) (by decide)
 rw [least_fix] at h1
 exact h1
theorem fx_e (h : TlR 100 encS (fun _ => True) w g gv gc [(1, [97]), (2, [97])]) : Calls Try.prog 26 #[(.pointer (some ⟨g, 0, none⟩)), (.string ⟨#[97]⟩)] w fun e w' => e = .returned (.int .i64 2) ∧ Below w.heap.size w w' := cnt_S [97] h
theorem fx_f (h : TlR 100 encS (fun _ => True) w g gv gc [(1, [97]), (2, [97])]) : Calls Try.prog 25 #[(.pointer (some ⟨g, 0, none⟩))] w fun e w' => e = .returned (.int .i64 2) ∧ w' = w := len_S h
end
set_option maxHeartbeats 16000000 in
set_option maxRecDepth 100000 in
theorem fixed20_of (w : World) : Calls Try.prog 7 #[] w fun e w' => e = .returned (.bool true) ∧ Below w.heap.size w w' := by
 go_enter Try.func7, Try.ntmps7
 go_wp2_with (first
  | (go_at_call 51; (with_reducible refine (new_S w).mono ?_); rintro e w1 ⟨g, gv, gc, rfl, ht9, hb9, hd9⟩; have HTw1 := Lib.hid ht9; have HXw1 := Lib.hid hb9; have HD := Lib.hid hd9; clear ht9 hb9 hd9)
  | (go_at_call 24; (with_reducible refine (fx_a HTw1.out).mono ?_); rintro e w2 ⟨rfl, ht9, hf9⟩; have HTw2 := Lib.hid ht9; have HXw2 : Hid (Below w.heap.size w w2) := Lib.hid (hf9.below HXw1.out HXw1.out.size HD.out); clear ht9 hf9)
  | (go_at_call 24; (with_reducible refine (fx_b HTw2.out).mono ?_); rintro e w3 ⟨rfl, ht9, hf9⟩; have HTw3 := Lib.hid ht9; have HXw3 : Hid (Below w.heap.size w w3) := Lib.hid (hf9.below HXw2.out HXw2.out.size HD.out); clear ht9 hf9)
  | (go_at_call 24; (with_reducible refine (fx_c HTw3.out).mono ?_); rintro e w4 ⟨rfl, ht9, hf9⟩; have HTw4 := Lib.hid ht9; have HXw4 : Hid (Below w.heap.size w w4) := Lib.hid (hf9.below HXw3.out HXw3.out.size HD.out); clear ht9 hf9)
  | (go_at_call 22; (with_reducible refine (fx_d HTw4.out).mono ?_); rintro e w5 ⟨rfl, hb9⟩; have HTw5 := Lib.hid (HTw4.out.through hb9); have HXw5 := Lib.hid (below_step HXw4.out hb9); clear hb9)
  | (go_at_call 26; (with_reducible refine (fx_e HTw5.out).mono ?_); rintro e w6 ⟨rfl, hb9⟩; have HTw6 := Lib.hid (HTw5.out.through hb9); have HXw6 := Lib.hid (below_step HXw5.out hb9); clear hb9)
  | (go_at_call 25; (with_reducible refine (fx_f HTw6.out).mono ?_); rintro e w9 ⟨rfl, hw9⟩; have hw8 := hw9.symm; clear hw9; subst hw8))
 go_ret
 exact ⟨rfl, HXw6.out⟩

end Go.Proofs.Ytkpgjcahmpekbaa
