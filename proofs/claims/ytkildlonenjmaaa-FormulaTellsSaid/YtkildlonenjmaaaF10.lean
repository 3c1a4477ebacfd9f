/-
  The document's Stops.
-/
import Derived.Test.YtkildlonenjmaaaF8
namespace Go.Proofs.Ytkildlonenjmaaa
open Go.RowKit

/-- whether of the first i none is in both sets -/
def apTo (s o : Nat) : Nat → Bool | 0 => true | i + 1 => apTo s o i && !(s.testBit i && o.testBit i)
theorem apTo_succ (s o i : Nat) : apTo s o (i + 1) = (apTo s o i && !(s.testBit i && o.testBit i)) := rfl
def ap7 (s o : Nat) : Bool := apTo s o 7
/-- whether it holds for none of the first sets that have nothing of o -/
def Fm.stp (f : Fm) (o : Nat) : Nat → Bool | 0 => true | s + 1 => f.stp o s && !(ap7 s o && f.hold s)
theorem Fm.stp_succ (f : Fm) (o s : Nat) : f.stp o (s + 1) = (f.stp o s && !(ap7 s o && f.hold s)) := rfl
theorem Fm.stp_iff (f : Fm) (o : Nat) : ∀ n, f.stp o n = true ↔ ∀ s, s < n → (ap7 s o && f.hold s) = false
  | 0 => by simp [Fm.stp]
  | n + 1 => by
    rw [Fm.stp_succ, Bool.and_eq_true, Fm.stp_iff f o n, Bool.not_eq_true']
    constructor
    · rintro ⟨h1, h2⟩ s hs
      rcases Nat.lt_or_eq_of_le (Nat.le_of_lt_succ hs) with h | rfl
      · exact h1 s h
      · exact h2
    · intro h
      exact ⟨fun s hs => h s (by omega), h n (by omega)⟩
def Fm.stops (f : Fm) (o : Nat) : Bool := f.stp o 128
theorem Fm.stops_iff (f : Fm) (o : Nat) : f.stops o = true ↔ ∀ s, s < 128 → (ap7 s o && f.hold s) = false := Fm.stp_iff f o 128
theorem Fm.stops_no {f : Fm} {o s : Nat} (hs : s < 128) (h : (ap7 s o && f.hold s) = true) : f.stops o = false := by
  cases hb : f.stops o
  · rfl
  · rw [(Fm.stops_iff f o).1 hb s hs] at h
    cases h

set_option maxHeartbeats 4000000 in
set_option maxRecDepth 100000 in
theorem rstops_any (o : Nat) (ho : o < 4294967296) (f : Fm) (A : Option Addr) (n c : Nat) (w : World) (hm : f.rng 7 = true) (h : f.In w (fun _ => True) A n) :
    Calls Try.prog 33 #[f.val A n c, .int .u32 (o : Int)] w fun e w' => e = .returned (.bool (f.stops o)) ∧ Below w.heap.size w w' := by
  obtain ⟨r, hr⟩ : ∃ r, r = f.stops o := ⟨_, rfl⟩
  rw [← hr]
  have HR := Lib.hid hr
  clear hr
  have HF := Lib.hid h
  have hh : ∀ (s : Nat) (W : World), s < 128 → f.In W (fun _ => True) A n → Calls Try.prog 31 #[f.val A n c, .int .u32 (s : Int)] W fun e w' => e = .returned (.bool (f.hold s)) ∧ Below W.heap.size W w' := fun s W hs h1 => rholds_any s (by omega) f A n c W hm h1
  have hhas : ∀ (s i : Nat) (W : World), s < 4294967296 → i < 7 → Calls Try.prog 29 #[.int .u32 (s : Int), .int .i64 (i : Int)] W fun e w' => e = .returned (.bool (s.testBit i)) ∧ w' = W := fun s i W hs hi => has_any s i hs (by omega) W
  have HHas := Lib.hid hhas
  unfold Fm.val at hh
  unfold Fm.val
  generalize f.org = fo at *
  generalize f.nd = fa at *
  have HH := Lib.hid hh
  clear h hm hh hhas
  have hB0 : Blk (w.alloc (.cells #[.int .i64 fo, .int .i64 fa, .slice A n c] 33)) w.heap.size 33 [.int .i64 fo, .int .i64 fa, .slice A n c] := Blk.fresh rfl rfl
  have HB0 := Lib.hid hB0
  have HX0 : Hid (Below w.heap.size w (w.alloc (.cells #[.int .i64 fo, .int .i64 fa, .slice A n c] 33))) := Lib.hid ((Below.refl _ w).alloc (Nat.le_refl _) _)
  clear hB0
  go_enter Try.func33, Try.ntmps33
  go_wp2
  go_loopw [5] (fun sv wr => ∃ s : Nat, s ≤ 128 ∧ sv = .int .u32 (s : Int) ∧ Below w.heap.size w wr ∧ Blk wr w.heap.size 33 [.int .i64 fo, .int .i64 fa, .slice A n c] ∧ f.stp o s = true) (fun sv _ => 128 - (intOf sv).toNat)
  case atStart => exact ⟨0, by omega, rfl, HX0.out, HB0.out, rfl⟩
  case round =>
    obtain ⟨s, hs, rfl, hx, hb, hp⟩ := hrel
    have HX := Lib.hid hx
    have HB := Lib.hid hb
    have HP := Lib.hid hp
    clear hx hb hp
    by_cases hlt : s < 128
    · have hd9 : decide ((s : Int) < 128) = true := by simp; omega
      go_wp2
      go_loopw [6, 7] (fun av iv w2 => ∃ (i : Nat) (b : Bool), i ≤ 7 ∧ iv = .int .i64 (i : Int) ∧ av = .bool b ∧ b = apTo s o i ∧ w2 = wr) (fun _ iv _ => 7 - (intOf iv).toNat)
      case atStart => exact ⟨0, true, by omega, rfl, rfl, rfl, rfl⟩
      case round =>
        obtain ⟨i, b, hi, rfl, rfl, hb, rfl⟩ := hrel
        by_cases hi7 : i < 7
        · have hc := apTo_succ s o i
          rw [← hb] at hc
          have h1 := fun W => HHas.out s i W (by omega) hi7
          have h2 := fun W => HHas.out o i W ho hi7
          cases hb1 : s.testBit i <;> cases hb2 : o.testBit i <;> cases b <;> rw [hb1, hb2] at hc <;> simp only [hb1] at h1 <;> simp only [hb2] at h2 <;> have HC := Lib.hid hc <;> have H1 := Lib.hid h1 <;> have H2 := Lib.hid h2 <;> clear hc h1 h2 hb hb1 hb2
          all_goals
            go_wp2_with (first
              | (go_at_call 29; (with_reducible refine (H1.out _).mono ?_); rintro e w1 ⟨rfl, rfl⟩)
              | (go_at_call 29; (with_reducible refine (H2.out _).mono ?_); rintro e w1 ⟨rfl, rfl⟩))
            go_roundw
            case rel => exact ⟨i + 1, _, by omega, by go_num, rfl, HC.out.symm, trivial⟩
            case measure => simp [intOf]; omega
        · obtain rfl : i = 7 := by omega
          have hb3 : b = ap7 s o := hb
          have hc := f.stp_succ o s
          rw [HP.out, ← hb3, Bool.true_and] at hc
          have hcall := fun W h => HH.out s W hlt h
          have hno : b = true → f.hold s = true → f.stops o = false := fun h1 h2 => Fm.stops_no hlt (by rw [← hb3, h1, h2]; rfl)
          cases b
          · have HC := Lib.hid hc
            clear hc hb hb3 hcall hno
            go_wp2
            go_roundw
            case rel => exact ⟨s + 1, by omega, by go_num, HX.out, HB.out, by rw [HC.out]; rfl⟩
            case measure => simp [intOf]; omega
          · cases hd : f.hold s <;> rw [hd] at hc hno <;> simp only [hd] at hcall <;> have HL := Lib.hid hcall <;> have HN := Lib.hid hno <;> have HC := Lib.hid hc <;> clear hc hb hb3 hcall hno hd
            · go_wp2_with (first
                | (refine wpList_load_blk_g 33 (.tmp 2) rfl (by kernel_rfl) w.heap.size rfl 33 [.int .i64 fo, .int .i64 fa, .slice A n c] _ HB.out Try.underlying33 rfl (by kernel_rfl) ?_)
                | (go_at_call 31; (with_reducible refine (HL.out _ (HF.out.through HX.out)).mono ?_); rintro e wb ⟨rfl, hb⟩; have HXb := Lib.hid (HX.out.trans (hb.mono HX.out.size)); have HBb := Lib.hid (HB.out.through hb); clear hb))
              go_roundw
              case rel => exact ⟨s + 1, by omega, by go_num, HXb.out, HBb.out, by rw [HC.out]; rfl⟩
              case measure => simp [intOf]; omega
            · go_wp2_with (first
                | (refine wpList_load_blk_g 33 (.tmp 2) rfl (by kernel_rfl) w.heap.size rfl 33 [.int .i64 fo, .int .i64 fa, .slice A n c] _ HB.out Try.underlying33 rfl (by kernel_rfl) ?_)
                | (go_at_call 31; (with_reducible refine (HL.out _ (HF.out.through HX.out)).mono ?_); rintro e wb ⟨rfl, hb⟩; have HXb := Lib.hid (HX.out.trans (hb.mono HX.out.size)); have HBb := Lib.hid (HB.out.through hb); clear hb))
              go_ret
              exact ⟨ret_bool (by rw [HR.out, HN.out (by trivial) (by trivial)]), HXb.out⟩
    · have hi8 : s = 128 := by omega
      have hv : r = true := by rw [HR.out]; unfold Fm.stops; rw [← hi8]; exact HP.out
      have HV := Lib.hid hv
      clear hv
      subst hi8
      go_wp2
      go_ret
      exact ⟨ret_bool HV.out.symm, HX.out⟩

end Go.Proofs.Ytkildlonenjmaaa
