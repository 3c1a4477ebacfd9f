/-
  first: steps are tried in order, up to the one that answers an error.
-/
import Derived.Test.YtfflkodgojiklaaGreatDoorCoF
namespace Go.Proofs.YtfflkodgojiklaaGreatDoor
open Go.RowKit

/-- the first error, of those behind the i-th -/
def firstF (er : Nat → Int) : Nat → Nat → Int
  | 0, _ => 0
  | k + 1, i => if er i ≠ 0 then er i else firstF er k (i + 1)
def fkL (i : Nat) : Nat := [19, 20, 21, 22, 23, 24].getD i 0
theorem Tryz.el_fn : El Tryz.prog 78 63 1 8 .nilFunc := ⟨Tryz.underlying78, by kernel_rfl, rfl, by omega, by omega, by omega⟩

set_option maxHeartbeats 8000000 in
set_option maxRecDepth 100000 in
theorem first_any (g gs : Nat) (er : Nat → Int) (P : Nat → World → Prop) (N : World → Prop) (w : World)
    (hP : P 0 w) (hrow : ∀ i W, i < 6 → P i W → W.cell? ⟨gs, i, none⟩ = some (.func (.func (fkL i)) #[.pointer (some ⟨g, 0, none⟩)] #[]))
    (hstep : ∀ i, i < 6 → ∀ W, P i W → Calls Tryz.prog (fkL i) #[.pointer (some ⟨g, 0, none⟩)] W fun e w' => e = .returned (.int .i64 (er i)) ∧ (er i = 0 → P (i + 1) w') ∧ (er i ≠ 0 → N w')) :
    Calls Tryz.prog 18 #[.slice (some ⟨gs, 0, none⟩) 6 6] w fun e w' => e = .returned (.int .i64 (firstF er 6 0)) ∧ (firstF er 6 0 = 0 → P 6 w') ∧ (firstF er 6 0 ≠ 0 → N w') := by
  have HR := Lib.hid hrow
  have HS := Lib.hid hstep
  have HP := Lib.hid hP
  obtain ⟨q, hq⟩ : ∃ q, firstF er 6 0 = q := ⟨_, rfl⟩
  rw [hq]
  have HQ := Lib.hid hq
  clear hP hrow hstep hq
  go_enter Tryz.func18, Tryz.ntmps18
  go_wp2
  go_loopw [8] (fun iv wr => ∃ i : Nat, i ≤ 6 ∧ iv = .int .i64 i ∧ q = firstF er (6 - i) i ∧ P i wr) (fun iv _ => 6 - (intOf iv).toNat)
  case atStart => exact ⟨0, by omega, rfl, HQ.out.symm, HP.out⟩
  case round =>
    obtain ⟨i, hi, rfl, hp, hx⟩ := hrel
    have HX := Lib.hid hx
    have HPq := Lib.hid hp
    clear hx hp
    by_cases hlt : i < 6
    · have hd1 : decide ((i : Int) < (6 : Int)) = true := by simp; omega
      have hwr : IntKind.i64.wrap ((i : Int) + 1) = (i : Int) + 1 := IntWalk.i64_in _ (by omega)
      have hix : ∀ W, (Instr.indexAt 78 (.slice (some ⟨gs, 0, none⟩) 6 6) (.int .i64 (i : Int))).run Tryz.prog W = .ok (.pointer (some ⟨gs, i, none⟩)) W := fun W => by
        have := Tryz.el_fn.index (by kernel_rfl) W gs 0 6 6 i hlt
        simpa using this
      have hc0 := HR.out i wr hlt HX.out
      have hs0 := HS.out i hlt wr HX.out
      have e6 : 6 - i = (6 - (i + 1)) + 1 := by omega
      have HLt := Lib.hid hlt
      have hj : i = 0 ∨ i = 1 ∨ i = 2 ∨ i = 3 ∨ i = 4 ∨ i = 5 := by omega
      clear hlt
      by_cases he : er i = 0
      · have hb : (er i != 0) = false := by simp [he]
        have HE := Lib.hid he
        have HN : Hid (q = firstF er (6 - (i + 1)) (i + 1)) := Lib.hid (by rw [HPq.out, e6]; show (if er i ≠ 0 then _ else _) = _; rw [if_neg (by simp [he])])
        clear he e6
        rcases hj with h | h | h | h | h | h
        · have hk : fkL i = 19 := by rw [h]; rfl
          rw [hk] at hc0 hs0
          have HC := Lib.hid hs0
          clear hs0 hk h
          go_wp2_with (first
            | (go_at_call 19; (with_reducible refine HC.out.mono ?_); rintro e w1 ⟨rfl, h0, h1⟩; have H0 := Lib.hid h0; have H1 := Lib.hid h1; clear h0 h1))
          go_roundw
          case rel => exact ⟨i + 1, by have := HLt.out; omega, by go_num, HN.out, H0.out HE.out⟩
          case measure => have := HLt.out; simp [intOf]; omega
        · have hk : fkL i = 20 := by rw [h]; rfl
          rw [hk] at hc0 hs0
          have HC := Lib.hid hs0
          clear hs0 hk h
          go_wp2_with (first
            | (go_at_call 20; (with_reducible refine HC.out.mono ?_); rintro e w1 ⟨rfl, h0, h1⟩; have H0 := Lib.hid h0; have H1 := Lib.hid h1; clear h0 h1))
          go_roundw
          case rel => exact ⟨i + 1, by have := HLt.out; omega, by go_num, HN.out, H0.out HE.out⟩
          case measure => have := HLt.out; simp [intOf]; omega
        · have hk : fkL i = 21 := by rw [h]; rfl
          rw [hk] at hc0 hs0
          have HC := Lib.hid hs0
          clear hs0 hk h
          go_wp2_with (first
            | (go_at_call 21; (with_reducible refine HC.out.mono ?_); rintro e w1 ⟨rfl, h0, h1⟩; have H0 := Lib.hid h0; have H1 := Lib.hid h1; clear h0 h1))
          go_roundw
          case rel => exact ⟨i + 1, by have := HLt.out; omega, by go_num, HN.out, H0.out HE.out⟩
          case measure => have := HLt.out; simp [intOf]; omega
        · have hk : fkL i = 22 := by rw [h]; rfl
          rw [hk] at hc0 hs0
          have HC := Lib.hid hs0
          clear hs0 hk h
          go_wp2_with (first
            | (go_at_call 22; (with_reducible refine HC.out.mono ?_); rintro e w1 ⟨rfl, h0, h1⟩; have H0 := Lib.hid h0; have H1 := Lib.hid h1; clear h0 h1))
          go_roundw
          case rel => exact ⟨i + 1, by have := HLt.out; omega, by go_num, HN.out, H0.out HE.out⟩
          case measure => have := HLt.out; simp [intOf]; omega
        · have hk : fkL i = 23 := by rw [h]; rfl
          rw [hk] at hc0 hs0
          have HC := Lib.hid hs0
          clear hs0 hk h
          go_wp2_with (first
            | (go_at_call 23; (with_reducible refine HC.out.mono ?_); rintro e w1 ⟨rfl, h0, h1⟩; have H0 := Lib.hid h0; have H1 := Lib.hid h1; clear h0 h1))
          go_roundw
          case rel => exact ⟨i + 1, by have := HLt.out; omega, by go_num, HN.out, H0.out HE.out⟩
          case measure => have := HLt.out; simp [intOf]; omega
        · have hk : fkL i = 24 := by rw [h]; rfl
          rw [hk] at hc0 hs0
          have HC := Lib.hid hs0
          clear hs0 hk h
          go_wp2_with (first
            | (go_at_call 24; (with_reducible refine HC.out.mono ?_); rintro e w1 ⟨rfl, h0, h1⟩; have H0 := Lib.hid h0; have H1 := Lib.hid h1; clear h0 h1))
          go_roundw
          case rel => exact ⟨i + 1, by have := HLt.out; omega, by go_num, HN.out, H0.out HE.out⟩
          case measure => have := HLt.out; simp [intOf]; omega
      · have hb : (er i != 0) = true := by simp [he]
        have HE := Lib.hid he
        have HN : Hid (q = er i) := Lib.hid (by rw [HPq.out, e6]; show (if er i ≠ 0 then _ else _) = _; rw [if_pos he])
        clear he e6
        rcases hj with h | h | h | h | h | h
        · have hk : fkL i = 19 := by rw [h]; rfl
          rw [hk] at hc0 hs0
          have HC := Lib.hid hs0
          clear hs0 hk h
          go_wp2_with (first
            | (go_at_call 19; (with_reducible refine HC.out.mono ?_); rintro e w1 ⟨rfl, h0, h1⟩; have H0 := Lib.hid h0; have H1 := Lib.hid h1; clear h0 h1))
          go_ret
          exact ⟨ret_i64 HN.out.symm, fun h => absurd (HN.out.symm.trans h) HE.out, fun _ => H1.out HE.out⟩
        · have hk : fkL i = 20 := by rw [h]; rfl
          rw [hk] at hc0 hs0
          have HC := Lib.hid hs0
          clear hs0 hk h
          go_wp2_with (first
            | (go_at_call 20; (with_reducible refine HC.out.mono ?_); rintro e w1 ⟨rfl, h0, h1⟩; have H0 := Lib.hid h0; have H1 := Lib.hid h1; clear h0 h1))
          go_ret
          exact ⟨ret_i64 HN.out.symm, fun h => absurd (HN.out.symm.trans h) HE.out, fun _ => H1.out HE.out⟩
        · have hk : fkL i = 21 := by rw [h]; rfl
          rw [hk] at hc0 hs0
          have HC := Lib.hid hs0
          clear hs0 hk h
          go_wp2_with (first
            | (go_at_call 21; (with_reducible refine HC.out.mono ?_); rintro e w1 ⟨rfl, h0, h1⟩; have H0 := Lib.hid h0; have H1 := Lib.hid h1; clear h0 h1))
          go_ret
          exact ⟨ret_i64 HN.out.symm, fun h => absurd (HN.out.symm.trans h) HE.out, fun _ => H1.out HE.out⟩
        · have hk : fkL i = 22 := by rw [h]; rfl
          rw [hk] at hc0 hs0
          have HC := Lib.hid hs0
          clear hs0 hk h
          go_wp2_with (first
            | (go_at_call 22; (with_reducible refine HC.out.mono ?_); rintro e w1 ⟨rfl, h0, h1⟩; have H0 := Lib.hid h0; have H1 := Lib.hid h1; clear h0 h1))
          go_ret
          exact ⟨ret_i64 HN.out.symm, fun h => absurd (HN.out.symm.trans h) HE.out, fun _ => H1.out HE.out⟩
        · have hk : fkL i = 23 := by rw [h]; rfl
          rw [hk] at hc0 hs0
          have HC := Lib.hid hs0
          clear hs0 hk h
          go_wp2_with (first
            | (go_at_call 23; (with_reducible refine HC.out.mono ?_); rintro e w1 ⟨rfl, h0, h1⟩; have H0 := Lib.hid h0; have H1 := Lib.hid h1; clear h0 h1))
          go_ret
          exact ⟨ret_i64 HN.out.symm, fun h => absurd (HN.out.symm.trans h) HE.out, fun _ => H1.out HE.out⟩
        · have hk : fkL i = 24 := by rw [h]; rfl
          rw [hk] at hc0 hs0
          have HC := Lib.hid hs0
          clear hs0 hk h
          go_wp2_with (first
            | (go_at_call 24; (with_reducible refine HC.out.mono ?_); rintro e w1 ⟨rfl, h0, h1⟩; have H0 := Lib.hid h0; have H1 := Lib.hid h1; clear h0 h1))
          go_ret
          exact ⟨ret_i64 HN.out.symm, fun h => absurd (HN.out.symm.trans h) HE.out, fun _ => H1.out HE.out⟩
    · have hd1 : decide ((i : Int) < (6 : Int)) = false := by simp; omega
      have e6 : i = 6 := by omega
      have HN : Hid (q = 0) := Lib.hid (by rw [HPq.out, e6]; rfl)
      have H6 : Hid (P 6 wr) := Lib.hid (e6 ▸ HX.out)
      clear e6
      go_wp2
      go_ret
      exact ⟨(by first | trivial | exact ret_i64 HN.out.symm), fun _ => H6.out, fun h => absurd HN.out h⟩

end Go.Proofs.YtfflkodgojiklaaGreatDoor
