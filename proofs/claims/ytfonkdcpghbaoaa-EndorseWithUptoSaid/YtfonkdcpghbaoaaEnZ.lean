/-
  The document's Size of a policy that may be great.
-/
import Derived.Test.YtfonkdcpghbaoaaJF
namespace Go.Proofs.Ytfonkdcpghbaoaa
open Go.RowKit

set_option maxHeartbeats 4000000 in
set_option maxRecDepth 100000 in
theorem fsizeG_any (f : Fm) : ∀ (A : Option Addr) (n c : Nat) (w : World), f.size ≤ 4000000 → f.depth ≤ 4000000 → f.In w (fun _ => True) A n →
    Calls Try.prog 30 #[f.val A n c] w fun e w' => e = .returned (.tuple #[.int .i64 (f.size : Int), .int .i64 (f.depth : Int)]) ∧ Below w.heap.size w w' := by
  induction f using Fm.ind with
  | h o a ks ih =>
    intro A n c w hz hd h
    have hzs : (Fm.mk o a ks).size = 1 + Fm.sizes ks := rfl
    have hds : (Fm.mk o a ks).depth = Fm.depths ks + 1 := rfl
    rw [hzs] at hz ⊢
    rw [hds] at hd ⊢
    clear hzs hds
    have hlen := h.len
    have hmax := h.2.1
    unfold maxLen at hmax
    have HF := Lib.hid h
    unfold Fm.val
    simp only [Fm.org, Fm.nd]
    have HX0 : Hid (Below w.heap.size w (w.alloc (.cells #[.int .i64 o, .int .i64 a, .slice A n c] 57))) := Lib.hid ((Below.refl _ w).alloc (Nat.le_refl _) _)
    have HB0 : Hid (Blk (w.alloc (.cells #[.int .i64 o, .int .i64 a, .slice A n c] 57)) w.heap.size 57 [.int .i64 o, .int .i64 a, .slice A n c]) := Lib.hid (Blk.fresh rfl rfl)
    have HI := Lib.hid ih
    clear h ih
    go_enter Try.func30, Try.ntmps30
    go_wp2
    go_loopw [4, 5, 13] (fun mv dv iv wr => ∃ i m d : Nat, i ≤ n ∧ iv = .int .i64 i ∧ mv = .int .i64 m ∧ dv = .int .i64 d ∧ Below w.heap.size w wr ∧ Blk wr w.heap.size 57 [.int .i64 o, .int .i64 a, .slice A n c] ∧ (m + Fm.sizes (ks.drop i) = 1 + Fm.sizes ks ∧ max d (Fm.depths (ks.drop i)) = Fm.depths ks)) (fun _ _ iv _ => n - (intOf iv).toNat)
    case atStart => exact ⟨0, 1, 0, Nat.zero_le _, rfl, rfl, rfl, HX0.out, HB0.out, rfl, by simp⟩
    case round =>
      obtain ⟨i, m, d, hi, rfl, rfl, rfl, hx, hb, hs⟩ := hrel
      have HX := Lib.hid hx
      have HB := Lib.hid hb
      clear hx hb
      by_cases hlt : i < n
      · skip
        obtain ⟨k, g, b, A', n', c', hk1, hk2, hk3, rfl, _, hr, hk⟩ := (HF.out.through HX.out).kid hlt
        have HR := Lib.hid hr
        have HK := Lib.hid hk
        rw [hk3] at hs
        clear hr hk hk1 hk3
        have hz2 : k.size ≤ 4000000 := by have := Fm.sizes_mem hk2; omega
        have hd2 : k.depth ≤ 4000000 := by have := Fm.depths_mem hk2; omega
        have hcall : ∀ W, k.In W (fun _ => True) A' n' → Calls Try.prog 30 #[.agg #[.int .i64 k.org, .int .i64 k.nd, .slice A' n' c']] W fun e w' => e = .returned (.tuple #[.int .i64 (k.size : Int), .int .i64 (k.depth : Int)]) ∧ Below W.heap.size W w' := fun W h => HI.out k hk2 A' n' c' W hz2 hd2 h
        have hc1 : Fm.sizes (k :: ks.drop (i + 1)) = k.size + Fm.sizes (ks.drop (i + 1)) := rfl
        have hc2 : Fm.depths (k :: ks.drop (i + 1)) = max k.depth (Fm.depths (ks.drop (i + 1))) := rfl
        rw [hc1, hc2] at hs
        have hm2 : m + k.size ≤ 4000001 := by omega
        have HC := Lib.hid hcall
        have HS := Lib.hid hs
        clear hcall hc1 hc2 hs
        generalize k.size = z at *
        generalize k.depth = y at *
        rcases Nat.lt_trichotomy d y with hy | hy | hy
        all_goals
          go_wp2_with (first
              | (refine wpList_load_mid rfl 57 (.tmp 15) rfl g (b + i * 3) (by simp [Act.eval]) [.int .i64 k.org, .int .i64 k.nd, .slice A' n' c'] _ HR.out Try.underlying57 rfl (by kernel_rfl) ?_)
              | (go_at_call 30; (with_reducible refine (HC.out _ (HK.out.alloc _)).mono ?_); rintro e w5 ⟨rfl, hb5⟩; have hx5 : Below wr.heap.size wr w5 := ((Below.refl _ wr).alloc (Nat.le_refl _) _).trans (hb5.mono (by simp)); have HX5 := Lib.hid (HX.out.trans (hx5.mono HX.out.size)); have HB5 := Lib.hid (HB.out.through hx5); clear hb5 hx5))
          go_roundw
          case rel => exact ⟨i + 1, m + z, max d y, by omega, by go_num, by go_num, by (congr 1; omega), HX5.out, HB5.out, by have := HS.out; omega, by have := HS.out; omega⟩
          case measure => simp [intOf]; omega
      · obtain rfl : i = n := by omega
        rw [List.drop_of_length_le (by omega)] at hs
        have h1 : m = 1 + Fm.sizes ks := by rw [← hs.1]; rfl
        have h2 : d = Fm.depths ks := by have := hs.2; simpa [Fm.depths] using this
        have hd3 : d ≤ 3999999 := by omega
        have H1 := Lib.hid h1
        have H2 := Lib.hid h2
        clear hs h1 h2 hz hd
        go_wp2
        go_ret2
        have e1 : ((1 + Fm.sizes ks : Nat) : Int) = m := by rw [H1.out]
        have e2 : ((Fm.depths ks + 1 : Nat) : Int) = (d : Int) + 1 := by rw [H2.out]; rfl
        rw [e1, e2]
        exact ⟨rfl, HX.out⟩

end Go.Proofs.Ytfonkdcpghbaoaa
