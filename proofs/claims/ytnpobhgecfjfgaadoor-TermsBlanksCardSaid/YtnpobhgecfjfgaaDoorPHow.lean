/-
  The program's howMany.
-/
import Derived.Test.YtnpobhgecfjfgaaDoorPN
namespace Go.Proofs.YtnpobhgecfjfgaaDoor
open Go.RowKit

def HowOut (r : Option Nat) (e : Ending) : Prop :=
  match r with
  | none => ∃ v : Int, e = .returned (.tuple #[.int .i64 v, .bool false])
  | some a => e = .returned (.tuple #[.int .i64 (a : Int), .bool true])
theorem HowOut.mk_bad {r : Option Nat} {v : Int} (h : r = none) : HowOut r (.returned (.tuple #[.int .i64 v, .bool false])) := by
  subst h; exact ⟨v, rfl⟩
theorem HowOut.mk_good {r : Option Nat} {a : Nat} (h : r = some a) : HowOut r (.returned (.tuple #[.int .i64 (a : Int), .bool true])) := by
  subst h; exact rfl
theorem HowOut.bad {r : Option Nat} {e : Ending} (h : HowOut r e) (hr : r = none) : ∃ v : Int, e = .returned (.tuple #[.int .i64 v, .bool false]) := by
  subst hr; exact h
theorem HowOut.good {r : Option Nat} {e : Ending} {a : Nat} (h : HowOut r e) (hr : r = some a) : e = .returned (.tuple #[.int .i64 (a : Int), .bool true]) := by
  subst hr; exact h

set_option maxHeartbeats 4000000 in
set_option maxRecDepth 100000 in
theorem how_any (d u : List UInt8) (n : Nat) (hdg : ∀ x, x ∈ d → isDg x = true) (hl : d.length ≤ 1000) (w : World) (he : EV w) :
    Calls Tryd.prog 31 #[.string (ba d), .string (ba u), .int .i64 (n : Int)] w fun e w' => HowOut (howQ d u n) e ∧ Below w.heap.size w w' := by
  have hli := ba_list
  have c1 : (⟨#[111, 102]⟩ : ByteArray).toList = [111, 102] := ba_list _
  have c2 : (⟨#[97, 108, 108]⟩ : ByteArray).toList = [97, 108, 108] := ba_list _
  have c3 : (⟨#[97, 110, 121]⟩ : ByteArray).toList = [97, 110, 121] := ba_list _
  have c4 : (⟨#[]⟩ : ByteArray).toList = [] := ba_list _
  have hc := pnum_any d hdg hl w he
  by_cases h1 : u = [111, 102]
  · subst h1
    cases hn : numD d with
    | none =>
      have HQ := Lib.hid (show howQ d [111, 102] n = none by unfold howQ; rw [if_pos rfl, hn])
      have e1 : numDV d = 0 := by unfold numDV; rw [hn]
      rw [hn, e1] at hc
      have hc2 : Calls Tryd.prog 29 #[.string (ba d)] w fun e w' => e = .returned (.tuple #[.int .i64 0, .bool false]) ∧ Below w.heap.size w w' := hc
      have HC := Lib.hid hc2
      clear hc hc2 hn e1 hdg he
      go_enter Tryd.func31, Tryd.ntmps31
      go_wp2_with (go_at_call 29; (with_reducible refine (HC.out).mono ?_); rintro e w1 ⟨rfl, hb⟩; have HX1 := Lib.hid hb; clear hb)
      (try simp only [Exit.inBlock, Exit.then]); refine bodyPost_ret (results_tmp2 rfl _ _ _) rfl ?_
      exact ⟨HowOut.mk_bad HQ.out, HX1.out⟩
    | some v =>
      have hv9 := numD_lt hdg hn
      have e1 : numDV d = (v : Int) := by unfold numDV; rw [hn]
      rw [hn, e1] at hc
      have hc2 : Calls Tryd.prog 29 #[.string (ba d)] w fun e w' => e = .returned (.tuple #[.int .i64 (v : Int), .bool true]) ∧ Below w.heap.size w w' := hc
      have HC := Lib.hid hc2
      clear hc hc2 e1 hdg he
      by_cases hv1 : 1 ≤ v
      · by_cases hv2 : v ≤ 99
        · have HQ := Lib.hid (show howQ d [111, 102] n = some v by unfold howQ; rw [if_pos rfl, hn]; simp only; rw [if_pos ⟨hv1, hv2⟩])
          have hv5 : decide ((v : Int) ≤ 99) = true := by simp; omega
          clear hn
          go_enter Tryd.func31, Tryd.ntmps31
          go_wp2_with (go_at_call 29; (with_reducible refine (HC.out).mono ?_); rintro e w1 ⟨rfl, hb⟩; have HX1 := Lib.hid hb; clear hb)
          (try simp only [Exit.inBlock, Exit.then]); refine bodyPost_ret (results_tmp2 rfl _ _ _) rfl ?_
          exact ⟨HowOut.mk_good HQ.out, HX1.out⟩
        · have HQ := Lib.hid (show howQ d [111, 102] n = none by unfold howQ; rw [if_pos rfl, hn]; simp only; rw [if_neg (fun h => hv2 h.2)])
          have hv5 : decide ((v : Int) ≤ 99) = false := by simp; omega
          clear hn
          go_enter Tryd.func31, Tryd.ntmps31
          go_wp2_with (go_at_call 29; (with_reducible refine (HC.out).mono ?_); rintro e w1 ⟨rfl, hb⟩; have HX1 := Lib.hid hb; clear hb)
          (try simp only [Exit.inBlock, Exit.then]); refine bodyPost_ret (results_tmp2 rfl _ _ _) rfl ?_
          exact ⟨HowOut.mk_bad HQ.out, HX1.out⟩
      · have HQ := Lib.hid (show howQ d [111, 102] n = none by unfold howQ; rw [if_pos rfl, hn]; simp only; rw [if_neg (fun h => hv1 h.1)])
        clear hn
        go_enter Tryd.func31, Tryd.ntmps31
        go_wp2_with (go_at_call 29; (with_reducible refine (HC.out).mono ?_); rintro e w1 ⟨rfl, hb⟩; have HX1 := Lib.hid hb; clear hb)
        (try simp only [Exit.inBlock, Exit.then]); refine bodyPost_ret (results_tmp2 rfl _ _ _) rfl ?_
        exact ⟨HowOut.mk_bad HQ.out, HX1.out⟩
  · have b1 : (u == [111, 102]) = false := by rw [beq_eq_false_iff_ne]; exact h1
    clear hc
    cases d with
    | cons x d =>
      have HQ := Lib.hid (show howQ (x :: d) u n = none by unfold howQ; rw [if_neg h1, if_pos (by simp)])
      clear hdg he
      go_enter Tryd.func31, Tryd.ntmps31
      go_wp2
      (try simp only [Exit.inBlock, Exit.then]); refine bodyPost_ret (results_tmp2 rfl _ _ _) rfl ?_
      exact ⟨HowOut.mk_bad HQ.out, Below.refl _ _⟩
    | nil =>
      by_cases h2 : u = [97, 108, 108]
      · subst h2
        have HQ := Lib.hid (show howQ [] [97, 108, 108] n = some n by rfl)
        go_enter Tryd.func31, Tryd.ntmps31
        go_wp2
        (try simp only [Exit.inBlock, Exit.then]); refine bodyPost_ret (results_tmp2 rfl _ _ _) rfl ?_
        exact ⟨HowOut.mk_good HQ.out, Below.refl _ _⟩
      · have b2 : (u == [97, 108, 108]) = false := by rw [beq_eq_false_iff_ne]; exact h2
        by_cases h3 : u = [97, 110, 121]
        · subst h3
          have HQ := Lib.hid (show howQ [] [97, 110, 121] n = some 1 by rfl)
          go_enter Tryd.func31, Tryd.ntmps31
          go_wp2
          (try simp only [Exit.inBlock, Exit.then]); refine bodyPost_ret (results_tmp2 rfl _ _ _) rfl ?_
          exact ⟨HowOut.mk_good HQ.out, Below.refl _ _⟩
        · have b3 : (u == [97, 110, 121]) = false := by rw [beq_eq_false_iff_ne]; exact h3
          have HQ := Lib.hid (show howQ [] u n = none by unfold howQ; rw [if_neg h1, if_neg (by simp), if_neg h2, if_neg h3])
          go_enter Tryd.func31, Tryd.ntmps31
          go_wp2
          (try simp only [Exit.inBlock, Exit.then]); refine bodyPost_ret (results_tmp2 rfl _ _ _) rfl ?_
          exact ⟨HowOut.mk_bad HQ.out, Below.refl _ _⟩

end Go.Proofs.YtnpobhgecfjfgaaDoor
