/-
  The document's ranges, Check, Right; the law's few.
-/
import Derived.Test.YtkildlonenjmaaaF3
namespace Go.Proofs.Ytkildlonenjmaaa
open Go.RowKit

set_option maxHeartbeats 4000000 in
set_option maxRecDepth 100000 in
theorem ranges_any (x : Int) (f : Fm) : ∀ (A : Option Addr) (n c : Nat) (w : World), f.In w (fun _ => True) A n →
    Calls Try.prog 41 #[f.val A n c, .int .i64 x] w fun e w' => e = .returned (.bool (f.rng x)) ∧ Below w.heap.size w w' := by
  induction f using Fm.ind with
  | h o a ks ih =>
    intro A n c w h
    cases ks with
    | nil =>
      obtain rfl : 0 = n := h.len
      unfold Fm.val
      clear h ih
      simp only [Fm.org, Fm.nd]
      have hv : Fm.rng x (.mk o a []) = (decide (0 ≤ o) && decide (o < x) && decide (a = 0)) := rfl
      obtain ⟨v, hv2⟩ : ∃ v, v = Fm.rng x (.mk o a []) := ⟨_, rfl⟩
      rw [← hv2]
      rw [← hv2] at hv
      clear hv2
      have HV := Lib.hid hv
      clear hv
      rcases (show o < 0 ∨ (0 ≤ o ∧ x ≤ o) ∨ (0 ≤ o ∧ o < x ∧ a ≠ 0) ∨ (0 ≤ o ∧ o < x ∧ a = 0) by omega) with h | ⟨h, h2⟩ | ⟨h, h2, h3⟩ | ⟨h, h2, h3⟩
      case' inr.inr.inl => have h4 : (a == 0) = false := by simpa using h3
      case' inr.inr.inr => have h4 : (a == 0) = true := by simpa using h3
      all_goals
        go_enter Try.func41, Try.ntmps41
        go_wp2
        go_ret
        refine ⟨?_, (Below.refl _ w).alloc (Nat.le_refl _) _⟩
        rw [HV.out]
        congr 2
        simp
        try omega
    | cons k0 ks0 =>
      have hpos : 0 < n := by have := h.len; simp at this; omega
      have hd0 : decide ((n : Int) = 0) = false := by simp; omega
      have hbeq : ((n : Int) == 0) = false := by simp; omega
      have hv : Fm.rng x (.mk o a (k0 :: ks0)) = (Fm.rngs x (k0 :: ks0) && (decide (1 ≤ a) && decide (a ≤ (n : Int)) && decide (o = 0))) := by rw [← h.len]; rfl
      obtain ⟨v, hv2⟩ : ∃ v, v = Fm.rng x (.mk o a (k0 :: ks0)) := ⟨_, rfl⟩
      rw [← hv2]
      rw [← hv2] at hv
      clear hv2
      generalize hks : k0 :: ks0 = ks at *
      clear hks
      have HV := Lib.hid hv
      clear hv
      have hlen := h.len
      have hmax := h.2.1
      unfold maxLen at hmax
      have HF := Lib.hid h
      unfold Fm.val
      simp only [Fm.org, Fm.nd]
      have HX0 : Hid (Below w.heap.size w (w.alloc (.cells #[.int .i64 o, .int .i64 a, .slice A n c] 33))) := Lib.hid ((Below.refl _ w).alloc (Nat.le_refl _) _)
      have HB0 : Hid (Blk (w.alloc (.cells #[.int .i64 o, .int .i64 a, .slice A n c] 33)) w.heap.size 33 [.int .i64 o, .int .i64 a, .slice A n c]) := Lib.hid (Blk.fresh rfl rfl)
      have HI := Lib.hid ih
      clear h ih
      go_enter Try.func41, Try.ntmps41
      go_wp2
      go_loopw [28] (fun iv wr => ∃ i : Nat, i ≤ n ∧ iv = .int .i64 i ∧ Below w.heap.size w wr ∧ Blk wr w.heap.size 33 [.int .i64 o, .int .i64 a, .slice A n c] ∧ Fm.rngs x ks = Fm.rngs x (ks.drop i)) (fun iv _ => n - (intOf iv).toNat)
      case atStart => exact ⟨0, Nat.zero_le _, rfl, HX0.out, HB0.out, rfl⟩
      case round =>
        obtain ⟨i, hi, rfl, hx, hb, hs⟩ := hrel
        have HX := Lib.hid hx
        have HB := Lib.hid hb
        clear hx hb
        by_cases hlt : i < n
        · skip
          obtain ⟨k, g, b, A', n', c', hk1, hk2, hk3, rfl, _, hr, hk⟩ := (HF.out.through HX.out).kid hlt
          have HR := Lib.hid hr
          have HK := Lib.hid hk
          rw [hk3] at hs
          clear hr hk hk1 hk3
          have hcall : ∀ W, k.In W (fun _ => True) A' n' → Calls Try.prog 41 #[.agg #[.int .i64 k.org, .int .i64 k.nd, .slice A' n' c'], .int .i64 x] W fun e w' => e = .returned (.bool (k.rng x)) ∧ Below W.heap.size W w' := fun W h => HI.out k hk2 A' n' c' W h
          have hcons : Fm.rngs x (k :: ks.drop (i + 1)) = (k.rng x && Fm.rngs x (ks.drop (i + 1))) := rfl
          rw [hcons] at hs
          cases hkx : k.rng x <;> rw [hkx] at hcall hs <;> have HC := Lib.hid hcall <;> have HS := Lib.hid hs <;> clear hcall hkx hcons hs
          all_goals
            go_wp2_with (first
              | (refine wpList_load_mid rfl 33 (.tmp 30) rfl g (b + i * 3) (by simp [Act.eval]) [.int .i64 k.org, .int .i64 k.nd, .slice A' n' c'] _ HR.out Try.underlying33 rfl (by kernel_rfl) ?_)
              | (go_at_call 41; (with_reducible refine (HC.out _ (HK.out.alloc _)).mono ?_); rintro e w5 ⟨rfl, hb5⟩; have hx5 : Below wr.heap.size wr w5 := ((Below.refl _ wr).alloc (Nat.le_refl _) _).trans (hb5.mono (by simp)); have HX5 := Lib.hid (HX.out.trans (hx5.mono HX.out.size)); have HB5 := Lib.hid (HB.out.through hx5); clear hb5 hx5))
          · go_ret
            exact ⟨by rw [HV.out, HS.out]; rfl, HX5.out⟩
          · go_roundw
            case rel => exact ⟨i + 1, by omega, by go_num, HX5.out, HB5.out, by have := HS.out; simpa using this⟩
            case measure => simp [intOf]; omega
        · obtain rfl : i = n := by omega
          have hs2 : Fm.rngs x ks = true := by rw [hs, List.drop_of_length_le (by omega)]; rfl
          have HS := Lib.hid hs2
          clear hs hs2
          have c0 := HB.out.cellAt (i := 0) rfl
          have c1 := HB.out.cellAt (i := 1) rfl
          have c2 := HB.out.cellAt (i := 2) rfl
          rcases (show a < 1 ∨ (1 ≤ a ∧ (i : Int) < a) ∨ (1 ≤ a ∧ a ≤ (i : Int) ∧ o ≠ 0) ∨ (1 ≤ a ∧ a ≤ (i : Int) ∧ o = 0) by omega) with h | ⟨h, h2⟩ | ⟨h, h2, h3⟩ | ⟨h, h2, h3⟩
          case' inr.inr.inl => have h4 : (o == 0) = false := by simpa using h3
          case' inr.inr.inr => have h4 : (o == 0) = true := by simpa using h3
          all_goals
            go_wp2
            go_ret
            refine ⟨?_, HX.out⟩
            rw [HV.out, HS.out]
            congr 2
            simp
            try omega

mutual
/-- What few tells, for a policy that hangs so deep. -/
def fewP : Int → Fm → Int × Bool
  | d, .mk _ _ ks => fewPs d (wrap64 (d + 1)) 1 ks
def fewPs : Int → Int → Int → List Fm → Int × Bool
  | d, _, m, [] => (m, decide (d ≤ 50))
  | d, d', m, k :: ks => if (fewP d' k).2 = false ∨ 200 < wrap64 (m + (fewP d' k).1) then (wrap64 (m + (fewP d' k).1), false) else fewPs d d' (wrap64 (m + (fewP d' k).1)) ks
end
theorem fewPs_cons (d d' m : Int) (k : Fm) (ks : List Fm) : fewPs d d' m (k :: ks) = if (fewP d' k).2 = false ∨ 200 < wrap64 (m + (fewP d' k).1) then (wrap64 (m + (fewP d' k).1), false) else fewPs d d' (wrap64 (m + (fewP d' k).1)) ks := by rw [fewPs]

set_option maxHeartbeats 4000000 in
set_option maxRecDepth 100000 in
theorem few_walk (f : Fm) : ∀ (d : Int) (A : Option Addr) (n c : Nat) (w : World), f.In w (fun _ => True) A n →
    Calls Try.prog 21 #[f.val A n c, .int .i64 d] w fun e w' => e = .returned (.tuple #[.int .i64 (fewP d f).1, .bool (fewP d f).2]) ∧ Below w.heap.size w w' := by
  induction f using Fm.ind with
  | h o a ks ih =>
    intro d A n c w h
    have hf : fewP d (.mk o a ks) = fewPs d (wrap64 (d + 1)) 1 ks := by rw [fewP]
    rw [hf]
    clear hf
    obtain ⟨d', hd'⟩ : ∃ d', wrap64 (d + 1) = d' := ⟨_, rfl⟩
    rw [hd']
    obtain ⟨r, hr0⟩ : ∃ r, r = fewPs d d' 1 ks := ⟨_, rfl⟩
    rw [← hr0]
    have hlen := h.len
    have hmax := h.2.1
    unfold maxLen at hmax
    have HF := Lib.hid h
    unfold Fm.val
    simp only [Fm.org, Fm.nd]
    have HX0 : Hid (Below w.heap.size w (w.alloc (.cells #[.int .i64 o, .int .i64 a, .slice A n c] 33))) := Lib.hid ((Below.refl _ w).alloc (Nat.le_refl _) _)
    have HB0 : Hid (Blk (w.alloc (.cells #[.int .i64 o, .int .i64 a, .slice A n c] 33)) w.heap.size 33 [.int .i64 o, .int .i64 a, .slice A n c]) := Lib.hid (Blk.fresh rfl rfl)
    have HI := Lib.hid ih
    clear h ih
    go_enter Try.func21, Try.ntmps21
    go_wp2
    go_loopw [6, 14] (fun mv iv wr => ∃ (i : Nat) (m : Int), i ≤ n ∧ iv = .int .i64 i ∧ mv = .int .i64 m ∧ Below w.heap.size w wr ∧ Blk wr w.heap.size 33 [.int .i64 o, .int .i64 a, .slice A n c] ∧ r = fewPs d d' m (ks.drop i)) (fun _ iv _ => n - (intOf iv).toNat)
    case atStart => exact ⟨0, 1, Nat.zero_le _, rfl, rfl, HX0.out, HB0.out, hr0⟩
    case round =>
      obtain ⟨i, m, hi, rfl, rfl, hx, hb, hs⟩ := hrel
      have HX := Lib.hid hx
      have HB := Lib.hid hb
      clear hx hb hr0
      by_cases hlt : i < n
      · skip
        obtain ⟨k, g, b, A', n', c', hk1, hk2, hk3, rfl, _, hr, hk⟩ := (HF.out.through HX.out).kid hlt
        have HR := Lib.hid hr
        have HK := Lib.hid hk
        rw [hk3] at hs
        clear hr hk hk1 hk3
        have hcall : ∀ W, k.In W (fun _ => True) A' n' → Calls Try.prog 21 #[.agg #[.int .i64 k.org, .int .i64 k.nd, .slice A' n' c'], .int .i64 d'] W fun e w' => e = .returned (.tuple #[.int .i64 (fewP d' k).1, .bool (fewP d' k).2]) ∧ Below W.heap.size W w' := fun W h => HI.out k hk2 d' A' n' c' W h
        rw [fewPs_cons] at hs
        generalize (fewP d' k).1 = x at *
        cases hkx : (fewP d' k).2 <;> rw [hkx] at hcall hs <;> have HC := Lib.hid hcall <;> clear hcall hkx
        · rw [if_pos (Or.inl rfl)] at hs
          have HS := Lib.hid hs
          clear hs
          go_wp2_with (first
              | (refine wpList_load_mid rfl 33 (.tmp 16) rfl g (b + i * 3) (by simp [Act.eval]) [.int .i64 k.org, .int .i64 k.nd, .slice A' n' c'] _ HR.out Try.underlying33 rfl (by kernel_rfl) ?_)
              | (go_at_call 21; (with_reducible refine (HC.out _ (HK.out.alloc _)).mono ?_); rintro e w5 ⟨rfl, hb5⟩; have hx5 : Below wr.heap.size wr w5 := ((Below.refl _ wr).alloc (Nat.le_refl _) _).trans (hb5.mono (by simp)); have HX5 := Lib.hid (HX.out.trans (hx5.mono HX.out.size)); have HB5 := Lib.hid (HB.out.through hx5); clear hb5 hx5))
          go_ret2
          exact ⟨by rw [HS.out]; rfl, HX5.out⟩
        · obtain ⟨m', hm'⟩ : ∃ m', wrap64 (m + x) = m' := ⟨_, rfl⟩
          rw [hm'] at hs
          by_cases hb2 : 200 < m'
          · rw [if_pos (Or.inr hb2)] at hs
            have HS := Lib.hid hs
            clear hs
            have hdd : decide (200 < m') = true := by simpa using hb2
            go_wp2_with (first
              | (refine wpList_load_mid rfl 33 (.tmp 16) rfl g (b + i * 3) (by simp [Act.eval]) [.int .i64 k.org, .int .i64 k.nd, .slice A' n' c'] _ HR.out Try.underlying33 rfl (by kernel_rfl) ?_)
              | (go_at_call 21; (with_reducible refine (HC.out _ (HK.out.alloc _)).mono ?_); rintro e w5 ⟨rfl, hb5⟩; have hx5 : Below wr.heap.size wr w5 := ((Below.refl _ wr).alloc (Nat.le_refl _) _).trans (hb5.mono (by simp)); have HX5 := Lib.hid (HX.out.trans (hx5.mono HX.out.size)); have HB5 := Lib.hid (HB.out.through hx5); clear hb5 hx5))
            go_ret2
            exact ⟨by rw [HS.out, ← hm']; rfl, HX5.out⟩
          · rw [if_neg (by simp; omega)] at hs
            have HS := Lib.hid hs
            clear hs
            have hdd : decide (200 < m') = false := by simp; omega
            go_wp2_with (first
              | (refine wpList_load_mid rfl 33 (.tmp 16) rfl g (b + i * 3) (by simp [Act.eval]) [.int .i64 k.org, .int .i64 k.nd, .slice A' n' c'] _ HR.out Try.underlying33 rfl (by kernel_rfl) ?_)
              | (go_at_call 21; (with_reducible refine (HC.out _ (HK.out.alloc _)).mono ?_); rintro e w5 ⟨rfl, hb5⟩; have hx5 : Below wr.heap.size wr w5 := ((Below.refl _ wr).alloc (Nat.le_refl _) _).trans (hb5.mono (by simp)); have HX5 := Lib.hid (HX.out.trans (hx5.mono HX.out.size)); have HB5 := Lib.hid (HB.out.through hx5); clear hb5 hx5))
            go_roundw
            case rel => exact ⟨i + 1, m', by omega, by go_num, by rw [hm'], HX5.out, HB5.out, HS.out⟩
            case measure => simp [intOf]; omega
      · obtain rfl : i = n := by omega
        rw [List.drop_of_length_le (by omega), fewPs] at hs
        have HS := Lib.hid hs
        clear hs
        go_wp2
        go_ret2
        exact ⟨by rw [HS.out]; rfl, HX.out⟩

end Go.Proofs.Ytkildlonenjmaaa
