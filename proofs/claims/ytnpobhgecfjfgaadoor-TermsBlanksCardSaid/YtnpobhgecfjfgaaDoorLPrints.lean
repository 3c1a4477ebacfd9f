/-
  TermsPrints, walked.
-/
import Derived.Test.YtnpobhgecfjfgaaDoorLReads
import Derived.Test.YtnpobhgecfjfgaaDoorTF
namespace Go.Proofs.YtnpobhgecfjfgaaDoor
open Go.RowKit

mutual
theorem Fm.rng_mono {n k : Int} (h : n ≤ k) : ∀ f : Fm, f.rng n = true → f.rng k = true
  | .mk o a [], hr => by
    simp only [Fm.rng, Bool.and_eq_true, decide_eq_true_eq] at hr ⊢
    omega
  | .mk o a (x :: ks), hr => by
    simp only [Fm.rng, Bool.and_eq_true] at hr ⊢
    exact ⟨Fm.rngs_mono h (x :: ks) hr.1, hr.2⟩
theorem Fm.rngs_mono {n k : Int} (h : n ≤ k) : ∀ ks : List Fm, Fm.rngs n ks = true → Fm.rngs k ks = true
  | [], _ => rfl
  | x :: ks, hr => by
    simp only [Fm.rngs, Bool.and_eq_true] at hr ⊢
    exact ⟨Fm.rng_mono h x hr.1, Fm.rngs_mono h ks hr.2⟩
end
theorem Fm.check_mb {f : Fm} {n : Int} (h : f.check n = 0) : f.mb = true := by
  unfold Fm.check at h
  split at h
  · cases h
  · rename_i h1
    split at h
    · cases h
    · split at h
      · cases h
      · split at h
        · cases h
        · rename_i h2 h3 h4
          refine (Fm.mb_iff f).2 ⟨by omega, by omega, Fm.rng_mono (n := n) (by omega) f ?_⟩
          cases hr : f.rng n with
          | true => rfl
          | false => exact absurd hr h4
theorem parse_print {f : Fm} {n : Int} (h : f.check n = 0) (hl : (printO f).length ≤ 200) : parseP (printO f) n = (f, 0) := by
  have hm := Fm.check_mb h
  obtain ⟨h1, h2, h3⟩ := (Fm.mb_iff f).1 hm
  have e : printO f = printP f := by unfold printO; rw [if_pos hm]
  rw [e] at hl ⊢
  exact parse_sp (sp_print f) hl h3 h1 h2 h

set_option maxHeartbeats 8000000 in
set_option maxRecDepth 100000 in
theorem lprints_any (f : Fm) (n : Int) (A : Option Addr) (m c : Nat) (w : World) (h : f.In w (fun _ => True) A m) (he : EV w) :
    Calls Tryd.prog 4 #[f.val A m c, .int .i64 n] w fun e w' => e = .returned (.bool true) ∧ Below w.heap.size w w' := by
  have hsz := ba_size
  have hli := ba_list
  have hfw : ∀ W : World, f.In W (fun _ => True) A m → Calls Tryd.prog 10 #[.agg #[.int .i64 f.org, .int .i64 f.nd, .slice A m c], .int .i64 1] W fun e w' => e = .returned (.tuple #[.int .i64 (fewP 1 f).1, .bool (fewP 1 f).2]) ∧ Below W.heap.size W w' := fun W h => few_walk f 1 A m c W h
  have HX0 : Hid (Below w.heap.size w (w.alloc (.cells #[.int .i64 f.org, .int .i64 f.nd, .slice A m c] 25))) := Lib.hid ((Below.refl _ w).alloc (Nat.le_refl _) _)
  have HB0 : Hid (Blk (w.alloc (.cells #[.int .i64 f.org, .int .i64 f.nd, .slice A m c] 25)) w.heap.size 25 [.int .i64 f.org, .int .i64 f.nd, .slice A m c]) := Lib.hid (Blk.fresh rfl rfl)
  have HI0 := Lib.hid (h.alloc (.cells #[.int .i64 f.org, .int .i64 f.nd, .slice A m c] 25))
  have HE0 := Lib.hid (he.alloc (.cells #[.int .i64 f.org, .int .i64 f.nd, .slice A m c] 25))
  unfold Fm.val
  cases hok : (fewP 1 f).2 with
  | false =>
    rw [hok] at hfw
    have HW := Lib.hid hfw
    clear hfw h he hok
    go_enter Tryd.func4, Tryd.ntmps4
    go_wp2_with (first
      | (go_at_call 6; (with_reducible refine (fixed_any _ HE0.out).mono ?_); rintro e w1 ⟨rfl, hb⟩; have HX1 := Lib.hid (below_step HX0.out hb); have HB1 := Lib.hid (HB0.out.through hb); have HI1 := Lib.hid (HI0.out.through hb); have HE1 := Lib.hid (HE0.out.through hb); clear hb)
      | (refine wpList_load_blk rfl 25 (.tmp 2) rfl w.heap.size rfl 25 [.int .i64 f.org, .int .i64 f.nd, .slice A m c] _ HB1.out Tryd.underlying25 rfl (by kernel_rfl) ?_)
      | (go_at_call 10; (with_reducible refine (HW.out _ HI1.out).mono ?_); rintro e w2 ⟨rfl, hb⟩; have HX2 := Lib.hid (below_step HX1.out hb); have HB2 := Lib.hid (HB1.out.through hb); have HI2 := Lib.hid (HI1.out.through hb); have HE2 := Lib.hid (HE1.out.through hb); clear hb))
    go_ret
    exact ⟨rfl, HX2.out⟩
  | true =>
    have hz := few_ok hok
    have hpr : ∀ W : World, f.In W (fun _ => True) A m → Calls Tryd.prog 11 #[.agg #[.int .i64 f.org, .int .i64 f.nd, .slice A m c]] W fun e w' => e = .returned (.string (ba (printO f))) ∧ Below W.heap.size W w' := fun W h => pprint_any f A m c W hz h
    have hrp : ∀ W : World, f.In W (fun _ => True) A m → Calls Tryd.prog 12 #[.agg #[.int .i64 f.org, .int .i64 f.nd, .slice A m c]] W fun e w' => e = .returned (.string (ba (printO f))) ∧ Below W.heap.size W w' := fun W h => rprint_any f A m c W hz h
    have hck : ∀ W : World, f.In W (fun _ => True) A m → Calls Tryd.prog 13 #[.agg #[.int .i64 f.org, .int .i64 f.nd, .slice A m c], .int .i64 n] W fun e w' => e = .returned (.int .i64 (f.check n)) ∧ Below W.heap.size W w' := fun W h => rcheck_any f n A m c W hz h
    have hs : ∀ (B : Option Addr) (m' c' : Nat) (W : World), f.In W (fun _ => True) A m → f.In W (fun _ => True) B m' → Calls Tryd.prog 9 #[.agg #[.int .i64 f.org, .int .i64 f.nd, .slice A m c], .agg #[.int .i64 f.org, .int .i64 f.nd, .slice B m' c']] W fun e w' => e = .returned (.bool true) ∧ Below W.heap.size W w' := fun B m' c' W h1 h2 => by
      have := rsame_any f f A B m c m' c' W h1 h2
      rw [f.same_self] at this
      exact this
    have hpa : f.check n = 0 → (printO f).length ≤ 200 → ∀ W : World, EV W → Calls Tryd.prog 7 #[.string (ba (printO f)), .int .i64 n] W fun e w' => ∃ B m' c', e = .returned (.tuple #[.agg #[.int .i64 f.org, .int .i64 f.nd, .slice B m' c'], .int .i64 0]) ∧ f.In w' (fun _ => True) B m' ∧ Below W.heap.size W w' := fun h0 hl W he => (pparse_any (printO f) n W (by omega) he).mono fun e w' ⟨⟨B, m', c', h1, h2⟩, h3⟩ => by
      rw [parse_print h0 hl] at h1 h2
      exact ⟨B, m', c', h1, h2.any, h3⟩
    have hplen : (printO f).length ≤ 2000 := by
      unfold printO
      split
      · rename_i hm
        obtain ⟨h1, h2, h3⟩ := (Fm.mb_iff f).1 hm
        have := printP_len f h3 (by omega)
        omega
      · simp
    rw [hok] at hfw
    have HW := Lib.hid hfw
    have HP := Lib.hid hpr
    have HQ := Lib.hid hrp
    have HS := Lib.hid hs
    clear hfw h he hok hz hpr hrp hs
    obtain ⟨P, hP⟩ : ∃ P, printO f = P := ⟨_, rfl⟩
    rw [hP] at HP HQ hpa hplen
    have hPP : (P == P) = true := by simp
    clear hP
    by_cases hc : f.check n = 0
    · by_cases hl : P.length ≤ 200
      · have HPa := Lib.hid (hpa hc hl)
        rw [hc] at hck
        have HC := Lib.hid hck
        clear hpa hck hc
        go_enter Tryd.func4, Tryd.ntmps4
        go_wp2_with (first
          | (go_at_call 6; (with_reducible refine (fixed_any _ HE0.out).mono ?_); rintro e w1 ⟨rfl, hb⟩; have HX1 := Lib.hid (below_step HX0.out hb); have HB1 := Lib.hid (HB0.out.through hb); have HI1 := Lib.hid (HI0.out.through hb); have HE1 := Lib.hid (HE0.out.through hb); clear hb)
          | (refine wpList_load_blk rfl 25 (.tmp 2) rfl w.heap.size rfl 25 [.int .i64 f.org, .int .i64 f.nd, .slice A m c] _ HB1.out Tryd.underlying25 rfl (by kernel_rfl) ?_)
          | (go_at_call 10; (with_reducible refine (HW.out _ HI1.out).mono ?_); rintro e w2 ⟨rfl, hb⟩; have HX2 := Lib.hid (below_step HX1.out hb); have HB2 := Lib.hid (HB1.out.through hb); have HI2 := Lib.hid (HI1.out.through hb); have HE2 := Lib.hid (HE1.out.through hb); clear hb)
          | (refine wpList_load_blk rfl 25 (.tmp 2) rfl w.heap.size rfl 25 [.int .i64 f.org, .int .i64 f.nd, .slice A m c] _ HB2.out Tryd.underlying25 rfl (by kernel_rfl) ?_)
          | (go_at_call 11; (with_reducible refine (HP.out _ HI2.out).mono ?_); rintro e w3 ⟨rfl, hb⟩; have HX3 := Lib.hid (below_step HX2.out hb); have HB3 := Lib.hid (HB2.out.through hb); have HI3 := Lib.hid (HI2.out.through hb); have HE3 := Lib.hid (HE2.out.through hb); clear hb)
          | (refine wpList_load_blk rfl 25 (.tmp 2) rfl w.heap.size rfl 25 [.int .i64 f.org, .int .i64 f.nd, .slice A m c] _ HB3.out Tryd.underlying25 rfl (by kernel_rfl) ?_)
          | (go_at_call 12; (with_reducible refine (HQ.out _ HI3.out).mono ?_); rintro e w4 ⟨rfl, hb⟩; have HX4 := Lib.hid (below_step HX3.out hb); have HB4 := Lib.hid (HB3.out.through hb); have HI4 := Lib.hid (HI3.out.through hb); have HE4 := Lib.hid (HE3.out.through hb); clear hb)
          | (refine wpList_load_blk rfl 25 (.tmp 2) rfl w.heap.size rfl 25 [.int .i64 f.org, .int .i64 f.nd, .slice A m c] _ HB4.out Tryd.underlying25 rfl (by kernel_rfl) ?_)
          | (go_at_call 13; (with_reducible refine (HC.out _ HI4.out).mono ?_); rintro e w5 ⟨rfl, hb⟩; have HX5 := Lib.hid (below_step HX4.out hb); have HB5 := Lib.hid (HB4.out.through hb); have HI5 := Lib.hid (HI4.out.through hb); have HE5 := Lib.hid (HE4.out.through hb); clear hb)
          | (go_at_call 7; (with_reducible refine (HPa.out _ HE5.out).mono ?_); rintro e w6 ⟨B, m2, c2, rfl, hf, hb⟩; have HX6 := Lib.hid ((below_step HX5.out hb).alloc (below_step HX5.out hb).size (.cells #[.int .i64 f.org, .int .i64 f.nd, .slice B m2 c2] 25)); have HB6 := Lib.hid ((HB5.out.through hb).alloc (.cells #[.int .i64 f.org, .int .i64 f.nd, .slice B m2 c2] 25)); have HI6 := Lib.hid ((HI5.out.through hb).alloc (.cells #[.int .i64 f.org, .int .i64 f.nd, .slice B m2 c2] 25)); have HJ6 := Lib.hid (hf.alloc (.cells #[.int .i64 f.org, .int .i64 f.nd, .slice B m2 c2] 25)); have HC6 : Hid (Blk (w6.alloc (.cells #[.int .i64 f.org, .int .i64 f.nd, .slice B m2 c2] 25)) w6.heap.size 25 [.int .i64 f.org, .int .i64 f.nd, .slice B m2 c2]) := Lib.hid (Blk.fresh rfl rfl); clear hb hf)
          | (refine wpList_load_blk_g 25 (.tmp 2) rfl (by kernel_rfl) w.heap.size rfl 25 [.int .i64 f.org, .int .i64 f.nd, .slice A m c] _ HB6.out Tryd.underlying25 rfl (by kernel_rfl) ?_)
          | (refine wpList_load_blk_g 25 (.tmp 8) rfl (by kernel_rfl) w6.heap.size rfl 25 [.int .i64 f.org, .int .i64 f.nd, .slice B m2 c2] _ HC6.out Tryd.underlying25 rfl (by kernel_rfl) ?_)
          | (go_at_call 9; (with_reducible refine (HS.out _ _ _ _ HI6.out HJ6.out).mono ?_); rintro e w7 ⟨rfl, hb⟩; have HX7 := Lib.hid (below_step HX6.out hb); clear hb))
        go_ret
        exact ⟨rfl, HX7.out⟩
      · rw [hc] at hck
        have HC := Lib.hid hck
        clear hpa hck hc
        go_enter Tryd.func4, Tryd.ntmps4
        go_wp2_with (first
          | (go_at_call 6; (with_reducible refine (fixed_any _ HE0.out).mono ?_); rintro e w1 ⟨rfl, hb⟩; have HX1 := Lib.hid (below_step HX0.out hb); have HB1 := Lib.hid (HB0.out.through hb); have HI1 := Lib.hid (HI0.out.through hb); have HE1 := Lib.hid (HE0.out.through hb); clear hb)
          | (refine wpList_load_blk rfl 25 (.tmp 2) rfl w.heap.size rfl 25 [.int .i64 f.org, .int .i64 f.nd, .slice A m c] _ HB1.out Tryd.underlying25 rfl (by kernel_rfl) ?_)
          | (go_at_call 10; (with_reducible refine (HW.out _ HI1.out).mono ?_); rintro e w2 ⟨rfl, hb⟩; have HX2 := Lib.hid (below_step HX1.out hb); have HB2 := Lib.hid (HB1.out.through hb); have HI2 := Lib.hid (HI1.out.through hb); have HE2 := Lib.hid (HE1.out.through hb); clear hb)
          | (refine wpList_load_blk rfl 25 (.tmp 2) rfl w.heap.size rfl 25 [.int .i64 f.org, .int .i64 f.nd, .slice A m c] _ HB2.out Tryd.underlying25 rfl (by kernel_rfl) ?_)
          | (go_at_call 11; (with_reducible refine (HP.out _ HI2.out).mono ?_); rintro e w3 ⟨rfl, hb⟩; have HX3 := Lib.hid (below_step HX2.out hb); have HB3 := Lib.hid (HB2.out.through hb); have HI3 := Lib.hid (HI2.out.through hb); have HE3 := Lib.hid (HE2.out.through hb); clear hb)
          | (refine wpList_load_blk rfl 25 (.tmp 2) rfl w.heap.size rfl 25 [.int .i64 f.org, .int .i64 f.nd, .slice A m c] _ HB3.out Tryd.underlying25 rfl (by kernel_rfl) ?_)
          | (go_at_call 12; (with_reducible refine (HQ.out _ HI3.out).mono ?_); rintro e w4 ⟨rfl, hb⟩; have HX4 := Lib.hid (below_step HX3.out hb); have HB4 := Lib.hid (HB3.out.through hb); have HI4 := Lib.hid (HI3.out.through hb); have HE4 := Lib.hid (HE3.out.through hb); clear hb)
          | (refine wpList_load_blk rfl 25 (.tmp 2) rfl w.heap.size rfl 25 [.int .i64 f.org, .int .i64 f.nd, .slice A m c] _ HB4.out Tryd.underlying25 rfl (by kernel_rfl) ?_)
          | (go_at_call 13; (with_reducible refine (HC.out _ HI4.out).mono ?_); rintro e w5 ⟨rfl, hb⟩; have HX5 := Lib.hid (below_step HX4.out hb); have HB5 := Lib.hid (HB4.out.through hb); have HI5 := Lib.hid (HI4.out.through hb); have HE5 := Lib.hid (HE4.out.through hb); clear hb))
        go_ret
        exact ⟨rfl, HX5.out⟩
    · obtain ⟨x, hx⟩ : ∃ x, f.check n = x := ⟨_, rfl⟩
      rw [hx] at hck hc
      have hxb : (x == 0) = false := by simp; omega
      have HC := Lib.hid hck
      clear hpa hck hx
      go_enter Tryd.func4, Tryd.ntmps4
      go_wp2_with (first
        | (go_at_call 6; (with_reducible refine (fixed_any _ HE0.out).mono ?_); rintro e w1 ⟨rfl, hb⟩; have HX1 := Lib.hid (below_step HX0.out hb); have HB1 := Lib.hid (HB0.out.through hb); have HI1 := Lib.hid (HI0.out.through hb); have HE1 := Lib.hid (HE0.out.through hb); clear hb)
        | (refine wpList_load_blk rfl 25 (.tmp 2) rfl w.heap.size rfl 25 [.int .i64 f.org, .int .i64 f.nd, .slice A m c] _ HB1.out Tryd.underlying25 rfl (by kernel_rfl) ?_)
        | (go_at_call 10; (with_reducible refine (HW.out _ HI1.out).mono ?_); rintro e w2 ⟨rfl, hb⟩; have HX2 := Lib.hid (below_step HX1.out hb); have HB2 := Lib.hid (HB1.out.through hb); have HI2 := Lib.hid (HI1.out.through hb); have HE2 := Lib.hid (HE1.out.through hb); clear hb)
        | (refine wpList_load_blk rfl 25 (.tmp 2) rfl w.heap.size rfl 25 [.int .i64 f.org, .int .i64 f.nd, .slice A m c] _ HB2.out Tryd.underlying25 rfl (by kernel_rfl) ?_)
        | (go_at_call 11; (with_reducible refine (HP.out _ HI2.out).mono ?_); rintro e w3 ⟨rfl, hb⟩; have HX3 := Lib.hid (below_step HX2.out hb); have HB3 := Lib.hid (HB2.out.through hb); have HI3 := Lib.hid (HI2.out.through hb); have HE3 := Lib.hid (HE2.out.through hb); clear hb)
        | (refine wpList_load_blk rfl 25 (.tmp 2) rfl w.heap.size rfl 25 [.int .i64 f.org, .int .i64 f.nd, .slice A m c] _ HB3.out Tryd.underlying25 rfl (by kernel_rfl) ?_)
        | (go_at_call 12; (with_reducible refine (HQ.out _ HI3.out).mono ?_); rintro e w4 ⟨rfl, hb⟩; have HX4 := Lib.hid (below_step HX3.out hb); have HB4 := Lib.hid (HB3.out.through hb); have HI4 := Lib.hid (HI3.out.through hb); have HE4 := Lib.hid (HE3.out.through hb); clear hb)
        | (refine wpList_load_blk rfl 25 (.tmp 2) rfl w.heap.size rfl 25 [.int .i64 f.org, .int .i64 f.nd, .slice A m c] _ HB4.out Tryd.underlying25 rfl (by kernel_rfl) ?_)
        | (go_at_call 13; (with_reducible refine (HC.out _ HI4.out).mono ?_); rintro e w5 ⟨rfl, hb⟩; have HX5 := Lib.hid (below_step HX4.out hb); have HB5 := Lib.hid (HB4.out.through hb); have HI5 := Lib.hid (HI4.out.through hb); have HE5 := Lib.hid (HE4.out.through hb); clear hb))
      go_ret
      exact ⟨rfl, HX5.out⟩

end Go.Proofs.YtnpobhgecfjfgaaDoor
