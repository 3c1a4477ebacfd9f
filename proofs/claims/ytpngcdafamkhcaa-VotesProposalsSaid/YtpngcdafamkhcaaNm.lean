/-
  The document's IsName, walked (out of ledger's own text: here no type of the ledger is asked for).
-/
import Derived.Test.YtpngcdafamkhcaaKP
namespace Go.Proofs.Ytpngcdafamkhcaa
open Go.RowKit

theorem nmB_yes {x : UInt8} (h : 97 ≤ x.toNat ∧ x.toNat ≤ 122 ∨ 48 ≤ x.toNat ∧ x.toNat ≤ 57 ∨ x.toNat = 45) : nmB x = true := by
  simp only [nmB, Bool.or_eq_true, Bool.and_eq_true, decide_eq_true_eq, beq_iff_eq]
  omega
theorem nmB_no {x : UInt8} (h : ¬ (97 ≤ x.toNat ∧ x.toNat ≤ 122 ∨ 48 ≤ x.toNat ∧ x.toNat ≤ 57 ∨ x.toNat = 45)) : nmB x = false := by
  cases hb : nmB x
  · rfl
  · simp only [nmB, Bool.or_eq_true, Bool.and_eq_true, decide_eq_true_eq, beq_iff_eq] at hb
    omega
theorem isNm_eq (l : List UInt8) : isNm l = (l.all nmB && (decide (1 ≤ l.length) && decide (l.length ≤ 16))) := by unfold isNm; rw [Bool.and_assoc]
theorem ret_b {a b : Bool} (h : a = b) : Ending.returned (Value.bool a) = .returned (.bool b) := by rw [h]

set_option maxHeartbeats 4000000 in
theorem risname_any (l : List UInt8) (w : World) (hl : l.length ≤ 1000000) : Calls Try.prog 60 #[.string (ba l)] w fun e w' => e = .returned (.bool (isNm l)) ∧ w' = w := by
  have hsz := ba_size
  obtain ⟨bb, hbb⟩ : ∃ bb, isNm l = bb := ⟨_, rfl⟩
  rw [hbb]
  have HBB := Lib.hid hbb
  clear hbb
  go_enter Try.func60, Try.ntmps60
  go_wp2
  go_loopw [3] (fun iv wr => ∃ i : Nat, i ≤ l.length ∧ iv = .int .i64 i ∧ (l.take i).all nmB = true ∧ wr = w) (fun iv _ => l.length - (intOf iv).toNat)
  case atStart => exact ⟨0, Nat.zero_le _, rfl, rfl, rfl⟩
  case round =>
    obtain ⟨i, hi, rfl, ha, rfl⟩ := hrel
    by_cases hlt : i < l.length
    · obtain ⟨x, hx⟩ : ∃ x, l[i]? = some x := ⟨_, List.getElem?_eq_getElem hlt⟩
      have hix := run_index_ba Try.underlying9 l .i64 i i rfl x hx
      have hal : (l.take (i + 1)).all nmB = nmB x := by
        rw [List.take_add_one, hx]
        simp [ha]
      have hxl := x.toNat_lt
      have hall : nmB x = false → l.all nmB = false := fun h => by
        rw [← List.take_append_drop (i + 1) l, List.all_append, hal, h]
        rfl
      have HA := Lib.hid hal
      have HB := Lib.hid hall
      clear ha hal hall
      by_cases hy : 97 ≤ x.toNat ∧ x.toNat ≤ 122 ∨ 48 ≤ x.toNat ∧ x.toNat ≤ 57 ∨ x.toNat = 45
      · have HY := Lib.hid (nmB_yes hy)
        generalize x.toNat = v at *
        rcases hy with ⟨h, h'⟩ | ⟨h, h'⟩ | h
        all_goals
          go_wp2
          go_roundw
          case rel => exact ⟨i + 1, by omega, by go_num, HA.out.trans HY.out, trivial⟩
          case measure => simp [intOf]; omega
      · have HN := Lib.hid (HB.out (nmB_no hy))
        have hcases : x.toNat < 45 ∨ (45 < x.toNat ∧ x.toNat < 48) ∨ (57 < x.toNat ∧ x.toNat < 97) ∨ 122 < x.toNat := by omega
        clear HA HB hy
        generalize x.toNat = v at *
        have hne : ((v : Int) == 45) = false := by simp; omega
        rcases hcases with h | ⟨h, h'⟩ | ⟨h, h'⟩ | h
        · go_wp2
          go_ret
          exact ⟨ret_b (by rw [← HBB.out, isNm_eq, HN.out]; rfl), rfl⟩
        · go_wp2
          go_ret
          exact ⟨ret_b (by rw [← HBB.out, isNm_eq, HN.out]; rfl), rfl⟩
        · have b57 : decide ((v : Int) ≤ 57) = false := by simp; omega
          go_wp2
          go_ret
          exact ⟨ret_b (by rw [← HBB.out, isNm_eq, HN.out]; rfl), rfl⟩
        · have b57 : decide ((v : Int) ≤ 57) = false := by simp; omega
          have b122 : decide ((v : Int) ≤ 122) = false := by simp; omega
          go_wp2
          go_ret
          exact ⟨ret_b (by rw [← HBB.out, isNm_eq, HN.out]; rfl), rfl⟩
    · have e : l.take i = l := List.take_of_length_le (by omega)
      rw [e] at ha
      have HA := Lib.hid ha
      clear e ha
      by_cases h1 : 1 ≤ l.length
      · by_cases h16 : l.length ≤ 16
        · go_wp2
          go_ret
          exact ⟨ret_b (by rw [← HBB.out, isNm_eq, HA.out]; simp [h1, h16]; try omega), rfl⟩
        · go_wp2
          go_ret
          exact ⟨ret_b (by rw [← HBB.out, isNm_eq, HA.out]; simp [h1, h16]; try omega), rfl⟩
      · go_wp2
        go_ret
        exact ⟨ret_b (by rw [← HBB.out, isNm_eq, HA.out]; simp [h1]; try omega), rfl⟩

end Go.Proofs.Ytpngcdafamkhcaa
