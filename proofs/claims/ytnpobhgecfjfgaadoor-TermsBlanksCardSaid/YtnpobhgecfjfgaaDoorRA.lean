/-
  The document's bare, begins.
-/
import Derived.Test.YtnpobhgecfjfgaaDoorTm3
import Derived.Test.YtnpobhgecfjfgaaDoorTA
import Derived.Test.YtnpobhgecfjfgaaDoorStr
namespace Go.Proofs.YtnpobhgecfjfgaaDoor
open Go.RowKit

theorem bareP_cons (x : UInt8) (t : List UInt8) : bareP (x :: t) = if x = 32 then bareP t else x :: t := rfl

set_option maxHeartbeats 2000000 in
theorem bare_any (t : List UInt8) (w : World) :
    Calls Tryd.prog 18 #[.string (ba t)] w fun e w' => e = .returned (.string (ba (bareP t))) ∧ w = w' := by
  have hsz := ba_size
  go_enter Tryd.func18, Tryd.ntmps18
  go_wp2
  go_loop [0] (fun sv => ∃ u : List UInt8, sv = .string (ba u) ∧ u.length ≤ t.length ∧ Hid (bareP u = bareP t)) (fun sv => match sv with | .string b => b.size | _ => 0)
  case atStart => exact ⟨t, rfl, Nat.le_refl _, Lib.hid rfl⟩
  case round =>
    obtain ⟨u, rfl, hu, hb⟩ := hrel
    cases u with
    | nil =>
      go_wp2
      go_ret
      exact ⟨by rw [← hb.out]; rfl, rfl⟩
    | cons x u =>
      have hi := run_index_ba Tryd.underlying9 (x :: u) .i64 0 0 rfl x rfl
      have hs := run_from_ba Tryd.underlying9 (x :: u) .i64 1 1 rfl (by simp)
      rw [List.drop_succ_cons, List.drop_zero] at hs
      have hl : (x :: u).length = u.length + 1 := rfl
      rw [hl] at hu
      by_cases hx : x = 32
      · subst hx
        have hv : ((32 : UInt8).toNat : Int) = 32 := rfl
        go_wp2
        go_round
        case rel => exact ⟨u, rfl, by omega, Lib.hid hb.out⟩
        case measure => simp [ba_size]
      · have hv : ((x.toNat : Int) == 32) = false := by
          have : x.toNat ≠ 32 := fun e => hx (UInt8.toNat_inj.1 e)
          simp; omega
        go_wp2
        go_ret
        exact ⟨by rw [← hb.out, bareP_cons, if_neg hx]; rfl, rfl⟩

theorem begP_iff : ∀ (s t : List UInt8), begP s t = decide (s.length ≤ t.length ∧ t.take s.length = s)
  | [], t => by simp [begP]
  | x :: s, [] => by simp [begP]
  | x :: s, y :: t => by
    rw [begP_cons, begP_iff s t, Bool.eq_iff_iff]
    simp only [Bool.and_eq_true, decide_eq_true_eq, List.length_cons, List.take_succ_cons, List.cons.injEq]
    constructor
    · rintro ⟨rfl, h1, h2⟩
      exact ⟨by omega, rfl, h2⟩
    · rintro ⟨h1, h2, h3⟩
      exact ⟨h2.symm, by omega, h3⟩

set_option maxHeartbeats 2000000 in
theorem begins_any (t s : List UInt8) (w : World) :
    Calls Tryd.prog 35 #[.string (ba t), .string (ba s)] w fun e w' => e = .returned (.bool (begP s t)) ∧ w = w' := by
  have hsz := ba_size
  have hli := ba_list
  by_cases hl : s.length ≤ t.length
  · have hsl := run_to_ba Tryd.underlying9 t .i64 s.length s.length rfl hl
    obtain ⟨v, hv⟩ : ∃ v, (t.take s.length == s) = v := ⟨_, rfl⟩
    have hb : begP s t = v := by
      rw [← hv, begP_iff, Bool.eq_iff_iff]
      simp [hl]
    rw [hb]
    have HB := Lib.hid hb
    clear hb
    go_enter Tryd.func35, Tryd.ntmps35
    go_wp2
    go_ret
    exact ⟨rfl, rfl⟩
  · have hb : begP s t = false := by
      rw [begP_iff]
      simp [hl]
    rw [hb]
    have HB := Lib.hid hb
    clear hb
    go_enter Tryd.func35, Tryd.ntmps35
    go_wp2
    go_ret
    exact ⟨rfl, rfl⟩

end Go.Proofs.YtnpobhgecfjfgaaDoor
