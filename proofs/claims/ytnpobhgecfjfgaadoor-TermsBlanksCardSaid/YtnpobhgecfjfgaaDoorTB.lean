/-
  The program's each with each closure (out of formula).
-/
import Derived.Test.YtnpobhgecfjfgaaDoorTA
namespace Go.Proofs.YtnpobhgecfjfgaaDoor
open Go.RowKit

set_option maxHeartbeats 4000000 in
set_option maxRecDepth 100000 in
theorem each_many (f : Fm) : ∀ (s g : Nat) (d : Int) (A : Option Addr) (n c : Nat) (w : World), s + f.size ≤ 1000 → f.In w (· ≠ g) A n → Blk w g 3 [.int .i64 (s : Int)] →
    Calls Tryd.prog 43 #[f.val A n c, .int .i64 d, .func (.func 44) #[] #[.pointer (some ⟨g, 0, none⟩)]] w fun e w' => ∃ s' : Nat, e = .returned (.bool (decide (s + f.size ≤ 32))) ∧ Blk w' g 3 [.int .i64 (s' : Int)] ∧ (s + f.size ≤ 32 → s' = s + f.size) ∧ w.grownBy w' (some g) := by
  induction f using Fm.ind with
  | h o a ks ih =>
    intro s g d A n c w hz h hst
    have hzs : (Fm.mk o a ks).size = 1 + Fm.sizes ks := rfl
    rw [hzs] at hz ⊢
    clear hzs
    have hgl := hst.lt
    have HS0 := Lib.hid hst
    clear hst
    obtain ⟨v, hv⟩ : ∃ v, v = decide (s + (1 + Fm.sizes ks) ≤ 32) := ⟨_, rfl⟩
    rw [← hv]
    have HV := Lib.hid hv
    clear hv
    obtain ⟨d', hd'⟩ : ∃ d', wrap64 (d + 1) = d' := ⟨_, rfl⟩
    have hlen := h.len
    have hmax := h.2.1
    unfold maxLen at hmax
    have HF := Lib.hid h
    unfold Fm.val
    simp only [Fm.org, Fm.nd]
    have hB0 : Blk (w.alloc (.cells #[.int .i64 o, .int .i64 a, .slice A n c] 25)) w.heap.size 25 [.int .i64 o, .int .i64 a, .slice A n c] := Blk.fresh rfl rfl
    have HB0 := Lib.hid hB0
    have HI := Lib.hid ih
    clear h ih hB0
    by_cases h1 : s + 1 ≤ 32
    · have hd1 : decide (s + 1 ≤ 32) = true := by simpa using h1
      go_enter Tryd.func43, Tryd.ntmps43
      go_wp2_with (go_at_call 44; (with_reducible refine (many1_any o a d A n c s g _ (HS0.out.alloc _) (by omega)).mono ?_); rintro e w1 ⟨rfl, hs1, hg1⟩; have HS1 := Lib.hid hs1; have B1 := Lib.hid (HB0.out.grown hg1 (by simp; omega)); have HG1 := Lib.hid (only_trans (World.grownBy_alloc w _ (some g)) hg1); have b2 := B1.out.cellAt (i := 2) rfl; clear hs1 hg1)
      go_loopw [17] (fun iv wr => ∃ (i si : Nat), i ≤ n ∧ iv = .int .i64 i ∧ Blk wr g 3 [.int .i64 (si : Int)] ∧ w.grownBy wr (some g) ∧ Blk wr w.heap.size 25 [.int .i64 o, .int .i64 a, .slice A n c] ∧ (si ≤ 32 ∧ si + Fm.sizes (ks.drop i) = s + (1 + Fm.sizes ks))) (fun iv _ => n - (intOf iv).toNat)
      case atStart => exact ⟨0, s + 1, Nat.zero_le _, rfl, HS1.out, HG1.out, B1.out, h1, by simp; omega⟩
      case round =>
        obtain ⟨i, si, hi, rfl, hst, hg, hb, hs⟩ := hrel
        have HS := Lib.hid hst
        have HG := Lib.hid hg
        have HB := Lib.hid hb
        clear hst hg hb
        by_cases hlt : i < n
        · skip
          obtain ⟨k, g0, b, A', n', c', hk1, hk2, hk3, rfl, _, hr, hk⟩ := (HF.out.only HG.out).kid hlt
          have HR := Lib.hid hr
          have HK := Lib.hid hk
          rw [hk3] at hs
          clear hr hk hk1 hk3
          have hc1 : Fm.sizes (k :: ks.drop (i + 1)) = k.size + Fm.sizes (ks.drop (i + 1)) := rfl
          rw [hc1] at hs
          obtain ⟨hs0, hs⟩ := hs
          have hcall : ∀ W, k.In W (· ≠ g) A' n' → Blk W g 3 [.int .i64 (si : Int)] → Calls Tryd.prog 43 #[.agg #[.int .i64 k.org, .int .i64 k.nd, .slice A' n' c'], .int .i64 d', .func (.func 44) #[] #[.pointer (some ⟨g, 0, none⟩)]] W fun e w' => ∃ s' : Nat, e = .returned (.bool (decide (si + k.size ≤ 32))) ∧ Blk w' g 3 [.int .i64 (s' : Int)] ∧ (si + k.size ≤ 32 → s' = si + k.size) ∧ W.grownBy w' (some g) := fun W h1 h2 => HI.out k hk2 si g d' A' n' c' W (by omega) h1 h2
          have HS9 := Lib.hid hs
          by_cases hkx : si + k.size ≤ 32
          · rw [show decide (si + k.size ≤ 32) = true by simpa using hkx] at hcall
            have HC := Lib.hid hcall
            clear hcall hc1 hs
            go_wp2_with (first
              | (refine wpList_load_mid rfl 25 (.tmp 19) rfl g0 (b + i * 3) (by simp [Act.eval]) [.int .i64 k.org, .int .i64 k.nd, .slice A' n' c'] _ HR.out Tryd.underlying25 rfl (by kernel_rfl) ?_)
              | (go_at_call 43; (with_reducible refine (HC.out _ (HK.out.alloc _) (HS.out.alloc _)).mono ?_); rintro e w5 ⟨s', rfl, hs5, hn5, hg5⟩; have HS5 := Lib.hid hs5; have HN5 := Lib.hid (hn5 hkx); have hg6 := only_trans (World.grownBy_alloc wr _ (some g)) hg5; have HG5 := Lib.hid (only_trans HG.out hg6); have HB5 := Lib.hid ((HB.out).grown hg6 (by simp; omega)); clear hg5 hg6; clear hs5 hn5))
            go_roundw
            case rel => exact ⟨i + 1, s', by omega, by go_num, HS5.out, HG5.out, HB5.out, by have h7 := HN5.out; have h8 := HS9.out; exact ⟨by omega, by omega⟩⟩
            case measure => simp [intOf]; omega
          · rw [show decide (si + k.size ≤ 32) = false by simpa using hkx] at hcall
            have HC := Lib.hid hcall
            clear hcall hc1 hs
            go_wp2_with (first
              | (refine wpList_load_mid rfl 25 (.tmp 19) rfl g0 (b + i * 3) (by simp [Act.eval]) [.int .i64 k.org, .int .i64 k.nd, .slice A' n' c'] _ HR.out Tryd.underlying25 rfl (by kernel_rfl) ?_)
              | (go_at_call 43; (with_reducible refine (HC.out _ (HK.out.alloc _) (HS.out.alloc _)).mono ?_); rintro e w5 ⟨s', rfl, hs5, hn5, hg5⟩; have HS5 := Lib.hid hs5; have hg6 := only_trans (World.grownBy_alloc wr _ (some g)) hg5; have HG5 := Lib.hid (only_trans HG.out hg6); have HB5 := Lib.hid ((HB.out).grown hg6 (by simp; omega)); clear hg5 hg6; clear hs5 hn5))
            go_ret
            have h8 := HS9.out
            exact ⟨s', ret_bool (by rw [HV.out]; simp; omega), HS5.out, fun h => by omega, HG5.out⟩
        · obtain rfl : i = n := by omega
          rw [List.drop_of_length_le (by omega)] at hs
          have HS9 := Lib.hid hs
          clear hs
          go_wp2
          go_ret
          have h8 : si = s + (1 + Fm.sizes ks) := HS9.out.2
          have h9 := HS9.out.1
          exact ⟨si, ret_bool (by rw [HV.out]; simp; omega), HS.out, fun _ => h8, HG.out⟩
    · have hd1 : decide (s + 1 ≤ 32) = false := by simpa using h1
      go_enter Tryd.func43, Tryd.ntmps43
      go_wp2_with (go_at_call 44; (with_reducible refine (many1_any o a d A n c s g _ (HS0.out.alloc _) (by omega)).mono ?_); rintro e w1 ⟨rfl, hs1, hg1⟩; have HS1 := Lib.hid hs1; have B1 := Lib.hid (HB0.out.grown hg1 (by simp; omega)); have HG1 := Lib.hid (only_trans (World.grownBy_alloc w _ (some g)) hg1); have b2 := B1.out.cellAt (i := 2) rfl; clear hs1 hg1)
      go_ret
      exact ⟨s + 1, ret_bool (by rw [HV.out]; simp; omega), HS1.out, fun h => by omega, HG1.out⟩

set_option maxHeartbeats 4000000 in
set_option maxRecDepth 100000 in
theorem each_deep (f : Fm) : ∀ (d : Int) (A : Option Addr) (n c : Nat) (w : World), 0 ≤ d → d + f.depth ≤ 1000 → f.In w (fun _ => True) A n →
    Calls Tryd.prog 43 #[f.val A n c, .int .i64 d, .func (.func 45) #[] #[]] w fun e w' => e = .returned (.bool (decide (d + f.depth ≤ 6))) ∧ Below w.heap.size w w' := by
  induction f using Fm.ind with
  | h o a ks ih =>
    intro d A n c w hd0 hdz h
    have hzs : (Fm.mk o a ks).depth = Fm.depths ks + 1 := rfl
    rw [hzs] at hdz ⊢
    clear hzs
    obtain ⟨v, hv⟩ : ∃ v, v = decide (d + ((Fm.depths ks + 1 : Nat) : Int) ≤ 6) := ⟨_, rfl⟩
    rw [← hv]
    have HV := Lib.hid hv
    have HDZ := Lib.hid hdz
    have hdl : d ≤ 1000 := by omega
    clear hv hdz
    have hlen := h.len
    have hmax := h.2.1
    unfold maxLen at hmax
    have HF := Lib.hid h
    unfold Fm.val
    simp only [Fm.org, Fm.nd]
    have hB0 : Blk (w.alloc (.cells #[.int .i64 o, .int .i64 a, .slice A n c] 25)) w.heap.size 25 [.int .i64 o, .int .i64 a, .slice A n c] := Blk.fresh rfl rfl
    have HB0 := Lib.hid hB0
    have HI := Lib.hid ih
    clear h ih hB0
    by_cases h1 : d ≤ 5
    · have hd1 : decide (d ≤ 5) = true := by simpa using h1
      go_enter Tryd.func43, Tryd.ntmps43
      go_wp2_with (go_at_call 45; (with_reducible refine (deep1_any o a d A n c _).mono ?_); rintro e w1 ⟨rfl, hb1⟩; have HX1 : Hid (Below w.heap.size w w1) := Lib.hid (((Below.refl _ w).alloc (Nat.le_refl _) _).trans (hb1.mono (by simp))); have B1 := Lib.hid (HB0.out.through hb1); have b2 := B1.out.cellAt (i := 2) rfl; clear hb1)
      go_loopw [17] (fun iv wr => ∃ i : Nat, i ≤ n ∧ iv = .int .i64 i ∧ Below w.heap.size w wr ∧ Blk wr w.heap.size 25 [.int .i64 o, .int .i64 a, .slice A n c] ∧ (d + (Fm.depths ks : Int) ≤ 5 ↔ d + (Fm.depths (ks.drop i) : Int) ≤ 5)) (fun iv _ => n - (intOf iv).toNat)
      case atStart => exact ⟨0, Nat.zero_le _, rfl, HX1.out, B1.out, by simp⟩
      case round =>
        obtain ⟨i, hi, rfl, hx, hb, hs⟩ := hrel
        have HX := Lib.hid hx
        have HB := Lib.hid hb
        clear hx hb
        by_cases hlt : i < n
        · skip
          obtain ⟨k, g0, b, A', n', c', hk1, hk2, hk3, rfl, _, hr, hk⟩ := (HF.out.through HX.out).kid hlt
          have HR := Lib.hid hr
          have HK := Lib.hid hk
          rw [hk3] at hs
          clear hr hk hk1 hk3
          have hc1 : Fm.depths (k :: ks.drop (i + 1)) = max k.depth (Fm.depths (ks.drop (i + 1))) := rfl
          rw [hc1] at hs
          have hkd : d + 1 + (k.depth : Int) ≤ 1000 := by have h8 := Fm.depths_mem hk2; have h9 := HDZ.out; omega
          have hcall : ∀ W, k.In W (fun _ => True) A' n' → Calls Tryd.prog 43 #[.agg #[.int .i64 k.org, .int .i64 k.nd, .slice A' n' c'], .int .i64 (d + 1), .func (.func 45) #[] #[]] W fun e w' => e = .returned (.bool (decide (d + 1 + k.depth ≤ 6))) ∧ Below W.heap.size W w' := fun W h1 => HI.out k hk2 (d + 1) A' n' c' W (by omega) hkd h1
          have HS9 := Lib.hid hs
          have HKD := Lib.hid hkd
          by_cases hkx : d + 1 + (k.depth : Int) ≤ 6
          · rw [show decide (d + 1 + (k.depth : Int) ≤ 6) = true by simpa using hkx] at hcall
            have HC := Lib.hid hcall
            have HKX := Lib.hid hkx
            clear hcall hc1 hs hkd hkx
            go_wp2_with (first
              | (refine wpList_load_mid rfl 25 (.tmp 19) rfl g0 (b + i * 3) (by simp [Act.eval]) [.int .i64 k.org, .int .i64 k.nd, .slice A' n' c'] _ HR.out Tryd.underlying25 rfl (by kernel_rfl) ?_)
              | (go_at_call 43; (with_reducible refine (HC.out _ (HK.out.alloc _)).mono ?_); rintro e w5 ⟨rfl, hb5⟩; have hx5 : Below wr.heap.size wr w5 := ((Below.refl _ wr).alloc (Nat.le_refl _) _).trans (hb5.mono (by simp)); have HX5 := Lib.hid (HX.out.trans (hx5.mono HX.out.size)); have HB5 := Lib.hid (HB.out.through hx5); clear hb5 hx5))
            go_roundw
            case rel => exact ⟨i + 1, by omega, by go_num, HX5.out, HB5.out, by have h7 := HKX.out; have h8 := HS9.out; omega⟩
            case measure => simp [intOf]; omega
          · rw [show decide (d + 1 + (k.depth : Int) ≤ 6) = false by simpa using hkx] at hcall
            have HC := Lib.hid hcall
            have HKX := Lib.hid hkx
            clear hcall hc1 hs hkd hkx
            go_wp2_with (first
              | (refine wpList_load_mid rfl 25 (.tmp 19) rfl g0 (b + i * 3) (by simp [Act.eval]) [.int .i64 k.org, .int .i64 k.nd, .slice A' n' c'] _ HR.out Tryd.underlying25 rfl (by kernel_rfl) ?_)
              | (go_at_call 43; (with_reducible refine (HC.out _ (HK.out.alloc _)).mono ?_); rintro e w5 ⟨rfl, hb5⟩; have hx5 : Below wr.heap.size wr w5 := ((Below.refl _ wr).alloc (Nat.le_refl _) _).trans (hb5.mono (by simp)); have HX5 := Lib.hid (HX.out.trans (hx5.mono HX.out.size)); have HB5 := Lib.hid (HB.out.through hx5); clear hb5 hx5))
            go_ret
            have h7 := HKX.out
            have h8 := HS9.out
            exact ⟨ret_bool (by rw [HV.out]; simp; omega), HX5.out⟩
        · obtain rfl : i = n := by omega
          rw [List.drop_of_length_le (by omega)] at hs
          have hs2 := hs.2 (by simp [Fm.depths]; omega)
          have HS9 := Lib.hid hs2
          clear hs hs2
          go_wp2
          go_ret
          have h8 := HS9.out
          exact ⟨ret_bool (by rw [HV.out]; simp; omega), HX.out⟩
    · have hd1 : decide (d ≤ 5) = false := by simpa using h1
      go_enter Tryd.func43, Tryd.ntmps43
      go_wp2_with (go_at_call 45; (with_reducible refine (deep1_any o a d A n c _).mono ?_); rintro e w1 ⟨rfl, hb1⟩; have HX1 : Hid (Below w.heap.size w w1) := Lib.hid (((Below.refl _ w).alloc (Nat.le_refl _) _).trans (hb1.mono (by simp))); have B1 := Lib.hid (HB0.out.through hb1); have b2 := B1.out.cellAt (i := 2) rfl; clear hb1)
      go_ret
      exact ⟨ret_bool (by rw [HV.out]; simp; omega), HX1.out⟩

theorem Fm.rng_eq (x o a : Int) (ks : List Fm) : Fm.rng x (.mk o a ks) = (rng1 x o a ks.length && Fm.rngs x ks) := by
  cases ks with
  | nil => simp [Fm.rng, Fm.rngs, rng1]
  | cons k ks =>
    simp only [Fm.rng, rng1, List.length_cons]
    rw [if_neg (by omega), Bool.and_comm]
    congr 1
    rw [Bool.and_comm, Bool.and_assoc]

set_option maxHeartbeats 4000000 in
set_option maxRecDepth 100000 in
theorem each_within (x : Int) (f : Fm) : ∀ (g : Nat) (d : Int) (A : Option Addr) (n c : Nat) (w : World), f.In w (fun _ => True) A n → Blk w g 3 [.int .i64 x] →
    Calls Tryd.prog 43 #[f.val A n c, .int .i64 d, .func (.func 46) #[] #[.pointer (some ⟨g, 0, none⟩)]] w fun e w' => e = .returned (.bool (f.rng x)) ∧ Below w.heap.size w w' := by
  induction f using Fm.ind with
  | h o a ks ih =>
    intro g d A n c w h hst
    rw [Fm.rng_eq, h.len]
    have HS0 := Lib.hid hst
    clear hst
    obtain ⟨v, hv⟩ : ∃ v, v = (rng1 x o a n && Fm.rngs x ks) := ⟨_, rfl⟩
    rw [← hv]
    obtain ⟨d', hd'⟩ : ∃ d', wrap64 (d + 1) = d' := ⟨_, rfl⟩
    have hwin : ∀ W, Blk W g 3 [.int .i64 x] → Calls Tryd.prog 46 #[.agg #[.int .i64 o, .int .i64 a, .slice A n c], .int .i64 d, .pointer (some ⟨g, 0, none⟩)] W fun e w' => e = .returned (.bool (rng1 x o a n)) ∧ Below W.heap.size W w' := fun W h => within1_any x o a d A n c g W h
    have hlen := h.len
    have hmax := h.2.1
    unfold maxLen at hmax
    have HF := Lib.hid h
    unfold Fm.val
    simp only [Fm.org, Fm.nd]
    have hB0 : Blk (w.alloc (.cells #[.int .i64 o, .int .i64 a, .slice A n c] 25)) w.heap.size 25 [.int .i64 o, .int .i64 a, .slice A n c] := Blk.fresh rfl rfl
    have HB0 := Lib.hid hB0
    have HI := Lib.hid ih
    clear h ih hB0
    cases h1 : rng1 x o a n <;> rw [h1] at hwin hv <;> have HW := Lib.hid hwin <;> have HV := Lib.hid hv <;> clear hwin hv h1
    · go_enter Tryd.func43, Tryd.ntmps43
      go_wp2_with (go_at_call 46; (with_reducible refine (HW.out _ (HS0.out.alloc _)).mono ?_); rintro e w1 ⟨rfl, hb1⟩; have HS1 := Lib.hid ((HS0.out.alloc _).through hb1); have HX1 : Hid (Below w.heap.size w w1) := Lib.hid (((Below.refl _ w).alloc (Nat.le_refl _) _).trans (hb1.mono (by simp))); have B1 := Lib.hid (HB0.out.through hb1); have b2 := B1.out.cellAt (i := 2) rfl; clear hb1)
      go_ret
      exact ⟨ret_bool (by rw [HV.out]; rfl), HX1.out⟩
    · go_enter Tryd.func43, Tryd.ntmps43
      go_wp2_with (go_at_call 46; (with_reducible refine (HW.out _ (HS0.out.alloc _)).mono ?_); rintro e w1 ⟨rfl, hb1⟩; have HS1 := Lib.hid ((HS0.out.alloc _).through hb1); have HX1 : Hid (Below w.heap.size w w1) := Lib.hid (((Below.refl _ w).alloc (Nat.le_refl _) _).trans (hb1.mono (by simp))); have B1 := Lib.hid (HB0.out.through hb1); have b2 := B1.out.cellAt (i := 2) rfl; clear hb1)
      go_loopw [17] (fun iv wr => ∃ i : Nat, i ≤ n ∧ iv = .int .i64 i ∧ Blk wr g 3 [.int .i64 x] ∧ Below w.heap.size w wr ∧ Blk wr w.heap.size 25 [.int .i64 o, .int .i64 a, .slice A n c] ∧ Fm.rngs x ks = Fm.rngs x (ks.drop i)) (fun iv _ => n - (intOf iv).toNat)
      case atStart => exact ⟨0, Nat.zero_le _, rfl, HS1.out, HX1.out, B1.out, rfl⟩
      case round =>
        obtain ⟨i, hi, rfl, hst, hx, hb, hs⟩ := hrel
        have HS := Lib.hid hst
        have HX := Lib.hid hx
        have HB := Lib.hid hb
        clear hst hx hb
        by_cases hlt : i < n
        · skip
          obtain ⟨k, g0, b, A', n', c', hk1, hk2, hk3, rfl, _, hr, hk⟩ := (HF.out.through HX.out).kid hlt
          have HR := Lib.hid hr
          have HK := Lib.hid hk
          rw [hk3] at hs
          clear hr hk hk1 hk3
          have hcall : ∀ W, k.In W (fun _ => True) A' n' → Blk W g 3 [.int .i64 x] → Calls Tryd.prog 43 #[.agg #[.int .i64 k.org, .int .i64 k.nd, .slice A' n' c'], .int .i64 d', .func (.func 46) #[] #[.pointer (some ⟨g, 0, none⟩)]] W fun e w' => e = .returned (.bool (k.rng x)) ∧ Below W.heap.size W w' := fun W h1 h2 => HI.out k hk2 g d' A' n' c' W h1 h2
          have hcons : Fm.rngs x (k :: ks.drop (i + 1)) = (k.rng x && Fm.rngs x (ks.drop (i + 1))) := rfl
          rw [hcons] at hs
          cases hkx : k.rng x <;> rw [hkx] at hcall hs <;> have HC := Lib.hid hcall <;> have HS9 := Lib.hid hs <;> clear hcall hkx hcons hs
          all_goals
            go_wp2_with (first
              | (refine wpList_load_mid rfl 25 (.tmp 19) rfl g0 (b + i * 3) (by simp [Act.eval]) [.int .i64 k.org, .int .i64 k.nd, .slice A' n' c'] _ HR.out Tryd.underlying25 rfl (by kernel_rfl) ?_)
              | (go_at_call 43; (with_reducible refine (HC.out _ (HK.out.alloc _) (HS.out.alloc _)).mono ?_); rintro e w5 ⟨rfl, hb5⟩; have HS5 := Lib.hid ((HS.out.alloc _).through hb5); have hx5 : Below wr.heap.size wr w5 := ((Below.refl _ wr).alloc (Nat.le_refl _) _).trans (hb5.mono (by simp)); have HX5 := Lib.hid (HX.out.trans (hx5.mono HX.out.size)); have HB5 := Lib.hid (HB.out.through hx5); clear hb5 hx5))
          · go_ret
            exact ⟨ret_bool (by rw [HV.out, HS9.out]; rfl), HX5.out⟩
          · go_roundw
            case rel => exact ⟨i + 1, by omega, by go_num, HS5.out, HX5.out, HB5.out, by have := HS9.out; simpa using this⟩
            case measure => simp [intOf]; omega
        · obtain rfl : i = n := by omega
          rw [List.drop_of_length_le (by omega)] at hs
          have HS9 := Lib.hid hs
          clear hs
          go_wp2
          go_ret
          exact ⟨ret_bool (by rw [HV.out, HS9.out]; rfl), HX.out⟩

end Go.Proofs.YtnpobhgecfjfgaaDoor
