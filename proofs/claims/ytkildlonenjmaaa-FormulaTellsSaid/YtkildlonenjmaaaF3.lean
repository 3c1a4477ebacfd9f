/-
  The document's Has, Holds, Size, ranges; the law's few.
-/
import Derived.Test.YtkildlonenjmaaaF2
namespace Go.Proofs.Ytkildlonenjmaaa
open Go.RowKit

set_option maxHeartbeats 4000000 in
theorem has_any (s j : Nat) (hs : s < 4294967296) (hj : j ≤ 1000) (w : World) :
    Calls Try.prog 29 #[.int .u32 (s : Int), .int .i64 (j : Int)] w fun e w' => e = .returned (.bool (s.testBit j)) ∧ w' = w := by
  go_enter Try.func29, Try.ntmps29
  go_wp2
  go_loopw [0, 5] (fun sv iv wr => ∃ i x : Nat, i ≤ j ∧ iv = .int .i64 i ∧ sv = .int .u32 (x : Int) ∧ x = s / 2 ^ i ∧ wr = w) (fun _ iv _ => j - (intOf iv).toNat)
  case atStart => exact ⟨0, s, Nat.zero_le _, rfl, rfl, by simp, rfl⟩
  case round =>
    obtain ⟨i, x, hi, rfl, rfl, hx, rfl⟩ := hrel
    have hxl : x < 4294967296 := hx ▸ Nat.lt_of_le_of_lt (Nat.div_le_self _ _) hs
    have HX := Lib.hid hx
    clear hx
    by_cases hlt : i < j
    · go_wp2
      go_roundw
      case rel => exact ⟨i + 1, x / 2, by omega, by go_num, by go_num, by rw [HX.out, Nat.div_div_eq_div_mul, Nat.pow_succ], trivial⟩
      case measure => simp [intOf]; omega
    · obtain rfl : i = j := by omega
      have hb : s.testBit i = decide (x % 2 = 1) := by rw [Nat.testBit_eq_decide_div_mod_eq, HX.out]
      have HBt := Lib.hid hb
      clear hb
      rcases Nat.mod_two_eq_zero_or_one x with h2 | h2
      all_goals
        have h3 : (x : Int) % 2 = (x % 2 : Nat) := rfl
        rw [h2] at h3
        go_wp2
        go_ret
        exact ⟨by rw [HBt.out, h2]; rfl, rfl⟩

set_option maxHeartbeats 4000000 in
set_option maxRecDepth 100000 in
theorem rholds_any (s : Nat) (hs : s < 4294967296) (f : Fm) : ∀ (A : Option Addr) (n c : Nat) (w : World), f.rng 7 = true → f.In w (fun _ => True) A n →
    Calls Try.prog 31 #[f.val A n c, .int .u32 (s : Int)] w fun e w' => e = .returned (.bool (f.hold s)) ∧ Below w.heap.size w w' := by
  induction f using Fm.ind with
  | h o a ks ih =>
    intro A n c w hr h
    cases ks with
    | nil =>
      obtain rfl : 0 = n := h.len
      unfold Fm.val
      clear h ih
      have ho : 0 ≤ o ∧ o < 7 := by simp [Fm.rng] at hr; omega
      clear hr
      obtain ⟨j, rfl⟩ : ∃ j : Nat, o = (j : Int) := ⟨o.toNat, by omega⟩
      have hh : (Fm.mk (j : Int) a []).hold s = s.testBit j := rfl
      rw [hh]
      simp only [Fm.org, Fm.nd]
      have hhas := fun W => has_any s j hs (by omega) W
      generalize s.testBit j = x at *
      have HH := Lib.hid hhas
      clear hh ho hhas
      go_enter Try.func31, Try.ntmps31
      go_wp2_with (go_at_call 29; (with_reducible refine (HH.out _).mono ?_); rintro e w1 ⟨rfl, rfl⟩)
      go_ret
      exact ⟨rfl, (Below.refl _ w).alloc (Nat.le_refl _) _⟩
    | cons k0 ks0 =>
      have hpos : 0 < n := by have := h.len; simp at this; omega
      have hlen := h.len
      have hd0 : decide ((n : Int) = 0) = false := by simp; omega
      have hd1 : decide (n = 0) = false := by simp; omega
      have hbeq : ((n : Int) == 0) = false := by simp; omega
      have hst : (Fm.mk o a (k0 :: ks0)).hold s = decide (a ≤ (Fm.holds s (k0 :: ks0) : Int)) := rfl
      rw [hst]
      have hr2 : Fm.rngs 7 (k0 :: ks0) = true := by simp only [Fm.rng, Bool.and_eq_true] at hr; exact hr.1
      clear hst hr
      generalize hks : k0 :: ks0 = ks at *
      clear hks
      have hmax := h.2.1
      unfold maxLen at hmax
      have HF := Lib.hid h
      unfold Fm.val
      simp only [Fm.org, Fm.nd]
      have HX0 : Hid (Below w.heap.size w (w.alloc (.cells #[.int .i64 o, .int .i64 a, .slice A n c] 33))) := Lib.hid ((Below.refl _ w).alloc (Nat.le_refl _) _)
      have HB0 : Hid (Blk (w.alloc (.cells #[.int .i64 o, .int .i64 a, .slice A n c] 33)) w.heap.size 33 [.int .i64 o, .int .i64 a, .slice A n c]) := Lib.hid (Blk.fresh rfl rfl)
      have HI := Lib.hid ih
      have HR2 := Lib.hid hr2
      clear h ih hr2
      go_enter Try.func31, Try.ntmps31
      go_wp2
      go_loopw [5, 19] (fun cv iv wr => ∃ i m : Nat, i ≤ n ∧ iv = .int .i64 i ∧ cv = .int .i64 m ∧ m ≤ i ∧ Below w.heap.size w wr ∧ Blk wr w.heap.size 33 [.int .i64 o, .int .i64 a, .slice A n c] ∧ m + Fm.holds s (ks.drop i) = Fm.holds s ks) (fun _ iv _ => n - (intOf iv).toNat)
      case atStart => exact ⟨0, 0, Nat.zero_le _, rfl, rfl, Nat.le_refl _, HX0.out, HB0.out, Nat.zero_add _⟩
      case round =>
        obtain ⟨i, m, hi, rfl, rfl, hm, hx, hb, hs⟩ := hrel
        have HX := Lib.hid hx
        have HB := Lib.hid hb
        clear hx hb
        by_cases hlt : i < n
        · obtain ⟨k, g, b, A', n', c', hk1, hk2, hk3, rfl, _, hr, hk⟩ := (HF.out.through HX.out).kid hlt
          have HR := Lib.hid hr
          have HK := Lib.hid hk
          rw [hk3] at hs
          clear hr hk hk1 hk3
          have hcall : ∀ W, k.In W (fun _ => True) A' n' → Calls Try.prog 31 #[.agg #[.int .i64 k.org, .int .i64 k.nd, .slice A' n' c'], .int .u32 (s : Int)] W fun e w' => e = .returned (.bool (k.hold s)) ∧ Below W.heap.size W w' := fun W h => HI.out k hk2 A' n' c' W (Fm.rngs_mem HR2.out hk2) h
          have hcons : Fm.holds s (k :: ks.drop (i + 1)) = (if k.hold s then 1 else 0) + Fm.holds s (ks.drop (i + 1)) := rfl
          rw [hcons] at hs
          cases hkx : k.hold s <;> rw [hkx] at hcall hs <;> have HC := Lib.hid hcall <;> have HS := Lib.hid hs <;> clear hcall hkx hcons hs
          all_goals
            go_wp2_with (first
              | (refine wpList_load_mid rfl 33 (.tmp 21) rfl g (b + i * 3) (by simp [Act.eval]) [.int .i64 k.org, .int .i64 k.nd, .slice A' n' c'] _ HR.out Try.underlying33 rfl (by kernel_rfl) ?_)
              | (go_at_call 31; (with_reducible refine (HC.out _ (HK.out.alloc _)).mono ?_); rintro e w5 ⟨rfl, hb5⟩; have hx5 : Below wr.heap.size wr w5 := ((Below.refl _ wr).alloc (Nat.le_refl _) _).trans (hb5.mono (by simp)); have HX5 := Lib.hid (HX.out.trans (hx5.mono HX.out.size)); have HB5 := Lib.hid (HB.out.through hx5); clear hb5 hx5))
          · go_roundw
            case rel => exact ⟨i + 1, m, by omega, by go_num, rfl, by omega, HX5.out, HB5.out, by simpa using HS.out⟩
            case measure => simp [intOf]; omega
          · go_roundw
            case rel => exact ⟨i + 1, m + 1, by omega, by go_num, by go_num, by omega, HX5.out, HB5.out, by have := HS.out; simp at this; omega⟩
            case measure => simp [intOf]; omega
        · obtain rfl : i = n := by omega
          have c1 := HB.out.cellAt (i := 1) rfl
          have hs : m = Fm.holds s ks := by rw [← hs, List.drop_of_length_le (by omega)]; rfl
          rw [← hs]
          go_wp2
          go_ret
          exact ⟨rfl, HX.out⟩

set_option maxHeartbeats 4000000 in
set_option maxRecDepth 100000 in
theorem size_any (f : Fm) : ∀ (A : Option Addr) (n c : Nat) (w : World), f.size ≤ 200 → f.depth ≤ 50 → f.In w (fun _ => True) A n →
    Calls Try.prog 40 #[f.val A n c] w fun e w' => e = .returned (.tuple #[.int .i64 (f.size : Int), .int .i64 (f.depth : Int)]) ∧ Below w.heap.size w w' := by
  induction f using Fm.ind with
  | h o a ks ih =>
    intro A n c w hz hd h
    have hzs : (Fm.mk o a ks).size = 1 + Fm.sizes ks := rfl
    have hds : (Fm.mk o a ks).depth = Fm.depths ks + 1 := rfl
    rw [hzs] at hz ⊢
    rw [hds] at hd ⊢
    clear hzs hds
    have hlen := h.len
    have hmax := h.2.1
    unfold maxLen at hmax
    have HF := Lib.hid h
    unfold Fm.val
    simp only [Fm.org, Fm.nd]
    have HX0 : Hid (Below w.heap.size w (w.alloc (.cells #[.int .i64 o, .int .i64 a, .slice A n c] 33))) := Lib.hid ((Below.refl _ w).alloc (Nat.le_refl _) _)
    have HB0 : Hid (Blk (w.alloc (.cells #[.int .i64 o, .int .i64 a, .slice A n c] 33)) w.heap.size 33 [.int .i64 o, .int .i64 a, .slice A n c]) := Lib.hid (Blk.fresh rfl rfl)
    have HI := Lib.hid ih
    clear h ih
    go_enter Try.func40, Try.ntmps40
    go_wp2
    go_loopw [4, 5, 13] (fun mv dv iv wr => ∃ i m d : Nat, i ≤ n ∧ iv = .int .i64 i ∧ mv = .int .i64 m ∧ dv = .int .i64 d ∧ Below w.heap.size w wr ∧ Blk wr w.heap.size 33 [.int .i64 o, .int .i64 a, .slice A n c] ∧ (m + Fm.sizes (ks.drop i) = 1 + Fm.sizes ks ∧ max d (Fm.depths (ks.drop i)) = Fm.depths ks)) (fun _ _ iv _ => n - (intOf iv).toNat)
    case atStart => exact ⟨0, 1, 0, Nat.zero_le _, rfl, rfl, rfl, HX0.out, HB0.out, rfl, by simp⟩
    case round =>
      obtain ⟨i, m, d, hi, rfl, rfl, rfl, hx, hb, hs⟩ := hrel
      have HX := Lib.hid hx
      have HB := Lib.hid hb
      clear hx hb
      by_cases hlt : i < n
      · skip
        obtain ⟨k, g, b, A', n', c', hk1, hk2, hk3, rfl, _, hr, hk⟩ := (HF.out.through HX.out).kid hlt
        have HR := Lib.hid hr
        have HK := Lib.hid hk
        rw [hk3] at hs
        clear hr hk hk1 hk3
        have hz2 : k.size ≤ 200 := by have := Fm.sizes_mem hk2; omega
        have hd2 : k.depth ≤ 50 := by have := Fm.depths_mem hk2; omega
        have hcall : ∀ W, k.In W (fun _ => True) A' n' → Calls Try.prog 40 #[.agg #[.int .i64 k.org, .int .i64 k.nd, .slice A' n' c']] W fun e w' => e = .returned (.tuple #[.int .i64 (k.size : Int), .int .i64 (k.depth : Int)]) ∧ Below W.heap.size W w' := fun W h => HI.out k hk2 A' n' c' W hz2 hd2 h
        have hc1 : Fm.sizes (k :: ks.drop (i + 1)) = k.size + Fm.sizes (ks.drop (i + 1)) := rfl
        have hc2 : Fm.depths (k :: ks.drop (i + 1)) = max k.depth (Fm.depths (ks.drop (i + 1))) := rfl
        rw [hc1, hc2] at hs
        have hm2 : m + k.size ≤ 201 := by omega
        have HC := Lib.hid hcall
        have HS := Lib.hid hs
        clear hcall hc1 hc2 hs
        generalize k.size = z at *
        generalize k.depth = y at *
        rcases Nat.lt_trichotomy d y with hy | hy | hy
        all_goals
          go_wp2_with (first
              | (refine wpList_load_mid rfl 33 (.tmp 15) rfl g (b + i * 3) (by simp [Act.eval]) [.int .i64 k.org, .int .i64 k.nd, .slice A' n' c'] _ HR.out Try.underlying33 rfl (by kernel_rfl) ?_)
              | (go_at_call 40; (with_reducible refine (HC.out _ (HK.out.alloc _)).mono ?_); rintro e w5 ⟨rfl, hb5⟩; have hx5 : Below wr.heap.size wr w5 := ((Below.refl _ wr).alloc (Nat.le_refl _) _).trans (hb5.mono (by simp)); have HX5 := Lib.hid (HX.out.trans (hx5.mono HX.out.size)); have HB5 := Lib.hid (HB.out.through hx5); clear hb5 hx5))
          go_roundw
          case rel => exact ⟨i + 1, m + z, max d y, by omega, by go_num, by go_num, by (congr 1; omega), HX5.out, HB5.out, by have := HS.out; omega, by have := HS.out; omega⟩
          case measure => simp [intOf]; omega
      · obtain rfl : i = n := by omega
        rw [List.drop_of_length_le (by omega)] at hs
        have h1 : m = 1 + Fm.sizes ks := by rw [← hs.1]; rfl
        have h2 : d = Fm.depths ks := by have := hs.2; simpa [Fm.depths] using this
        have hd3 : d ≤ 49 := by omega
        have H1 := Lib.hid h1
        have H2 := Lib.hid h2
        clear hs h1 h2 hz hd
        go_wp2
        go_ret2
        have e1 : ((1 + Fm.sizes ks : Nat) : Int) = m := by rw [H1.out]
        have e2 : ((Fm.depths ks + 1 : Nat) : Int) = (d : Int) + 1 := by rw [H2.out]; rfl
        rw [e1, e2]
        exact ⟨rfl, HX.out⟩

end Go.Proofs.Ytkildlonenjmaaa
