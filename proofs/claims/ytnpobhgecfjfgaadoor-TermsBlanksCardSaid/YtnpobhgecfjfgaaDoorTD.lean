/-
  The document's Size, ranges, Check, Right; the law's few (out of formula).
-/
import Derived.Test.YtnpobhgecfjfgaaDoorTA
namespace Go.Proofs.YtnpobhgecfjfgaaDoor
open Go.RowKit

set_option maxHeartbeats 4000000 in
set_option maxRecDepth 100000 in
theorem size_any (f : Fm) : ∀ (A : Option Addr) (n c : Nat) (w : World), f.size ≤ 200 → f.depth ≤ 50 → f.In w (fun _ => True) A n →
    Calls Tryd.prog 22 #[f.val A n c] w fun e w' => e = .returned (.tuple #[.int .i64 (f.size : Int), .int .i64 (f.depth : Int)]) ∧ Below w.heap.size w w' := by
  induction f using Fm.ind with
  | h o a ks ih =>
    intro A n c w hz hd h
    have hzs : (Fm.mk o a ks).size = 1 + Fm.sizes ks := rfl
    have hds : (Fm.mk o a ks).depth = Fm.depths ks + 1 := rfl
    rw [hzs] at hz ⊢
    rw [hds] at hd ⊢
    clear hzs hds
    have hlen := h.len
    have hmax := h.2.1
    unfold maxLen at hmax
    have HF := Lib.hid h
    unfold Fm.val
    simp only [Fm.org, Fm.nd]
    have HX0 : Hid (Below w.heap.size w (w.alloc (.cells #[.int .i64 o, .int .i64 a, .slice A n c] 25))) := Lib.hid ((Below.refl _ w).alloc (Nat.le_refl _) _)
    have HB0 : Hid (Blk (w.alloc (.cells #[.int .i64 o, .int .i64 a, .slice A n c] 25)) w.heap.size 25 [.int .i64 o, .int .i64 a, .slice A n c]) := Lib.hid (Blk.fresh rfl rfl)
    have HI := Lib.hid ih
    clear h ih
    go_enter Tryd.func22, Tryd.ntmps22
    go_wp2
    go_loopw [4, 5, 13] (fun mv dv iv wr => ∃ i m d : Nat, i ≤ n ∧ iv = .int .i64 i ∧ mv = .int .i64 m ∧ dv = .int .i64 d ∧ Below w.heap.size w wr ∧ Blk wr w.heap.size 25 [.int .i64 o, .int .i64 a, .slice A n c] ∧ (m + Fm.sizes (ks.drop i) = 1 + Fm.sizes ks ∧ max d (Fm.depths (ks.drop i)) = Fm.depths ks)) (fun _ _ iv _ => n - (intOf iv).toNat)
    case atStart => exact ⟨0, 1, 0, Nat.zero_le _, rfl, rfl, rfl, HX0.out, HB0.out, rfl, by simp⟩
    case round =>
      obtain ⟨i, m, d, hi, rfl, rfl, rfl, hx, hb, hs⟩ := hrel
      have HX := Lib.hid hx
      have HB := Lib.hid hb
      clear hx hb
      by_cases hlt : i < n
      · skip
        obtain ⟨k, g, b, A', n', c', hk1, hk2, hk3, rfl, _, hr, hk⟩ := (HF.out.through HX.out).kid hlt
        have HR := Lib.hid hr
        have HK := Lib.hid hk
        rw [hk3] at hs
        clear hr hk hk1 hk3
        have hz2 : k.size ≤ 200 := by have := Fm.sizes_mem hk2; omega
        have hd2 : k.depth ≤ 50 := by have := Fm.depths_mem hk2; omega
        have hcall : ∀ W, k.In W (fun _ => True) A' n' → Calls Tryd.prog 22 #[.agg #[.int .i64 k.org, .int .i64 k.nd, .slice A' n' c']] W fun e w' => e = .returned (.tuple #[.int .i64 (k.size : Int), .int .i64 (k.depth : Int)]) ∧ Below W.heap.size W w' := fun W h => HI.out k hk2 A' n' c' W hz2 hd2 h
        have hc1 : Fm.sizes (k :: ks.drop (i + 1)) = k.size + Fm.sizes (ks.drop (i + 1)) := rfl
        have hc2 : Fm.depths (k :: ks.drop (i + 1)) = max k.depth (Fm.depths (ks.drop (i + 1))) := rfl
        rw [hc1, hc2] at hs
        have hm2 : m + k.size ≤ 201 := by omega
        have HC := Lib.hid hcall
        have HS := Lib.hid hs
        clear hcall hc1 hc2 hs
        generalize k.size = z at *
        generalize k.depth = y at *
        rcases Nat.lt_trichotomy d y with hy | hy | hy
        all_goals
          go_wp2_with (first
              | (refine wpList_load_mid rfl 25 (.tmp 15) rfl g (b + i * 3) (by simp [Act.eval]) [.int .i64 k.org, .int .i64 k.nd, .slice A' n' c'] _ HR.out Tryd.underlying25 rfl (by kernel_rfl) ?_)
              | (go_at_call 22; (with_reducible refine (HC.out _ (HK.out.alloc _)).mono ?_); rintro e w5 ⟨rfl, hb5⟩; have hx5 : Below wr.heap.size wr w5 := ((Below.refl _ wr).alloc (Nat.le_refl _) _).trans (hb5.mono (by simp)); have HX5 := Lib.hid (HX.out.trans (hx5.mono HX.out.size)); have HB5 := Lib.hid (HB.out.through hx5); clear hb5 hx5))
          go_roundw
          case rel => exact ⟨i + 1, m + z, max d y, by omega, by go_num, by go_num, by (congr 1; omega), HX5.out, HB5.out, by have := HS.out; omega, by have := HS.out; omega⟩
          case measure => simp [intOf]; omega
      · obtain rfl : i = n := by omega
        rw [List.drop_of_length_le (by omega)] at hs
        have h1 : m = 1 + Fm.sizes ks := by rw [← hs.1]; rfl
        have h2 : d = Fm.depths ks := by have := hs.2; simpa [Fm.depths] using this
        have hd3 : d ≤ 49 := by omega
        have H1 := Lib.hid h1
        have H2 := Lib.hid h2
        clear hs h1 h2 hz hd
        go_wp2
        go_ret2
        have e1 : ((1 + Fm.sizes ks : Nat) : Int) = m := by rw [H1.out]
        have e2 : ((Fm.depths ks + 1 : Nat) : Int) = (d : Int) + 1 := by rw [H2.out]; rfl
        rw [e1, e2]
        exact ⟨rfl, HX.out⟩

set_option maxHeartbeats 4000000 in
set_option maxRecDepth 100000 in
theorem ranges_any (x : Int) (f : Fm) : ∀ (A : Option Addr) (n c : Nat) (w : World), f.In w (fun _ => True) A n →
    Calls Tryd.prog 23 #[f.val A n c, .int .i64 x] w fun e w' => e = .returned (.bool (f.rng x)) ∧ Below w.heap.size w w' := by
  induction f using Fm.ind with
  | h o a ks ih =>
    intro A n c w h
    cases ks with
    | nil =>
      obtain rfl : 0 = n := h.len
      unfold Fm.val
      clear h ih
      simp only [Fm.org, Fm.nd]
      have hv : Fm.rng x (.mk o a []) = (decide (0 ≤ o) && decide (o < x) && decide (a = 0)) := rfl
      obtain ⟨v, hv2⟩ : ∃ v, v = Fm.rng x (.mk o a []) := ⟨_, rfl⟩
      rw [← hv2]
      rw [← hv2] at hv
      clear hv2
      have HV := Lib.hid hv
      clear hv
      rcases (show o < 0 ∨ (0 ≤ o ∧ x ≤ o) ∨ (0 ≤ o ∧ o < x ∧ a ≠ 0) ∨ (0 ≤ o ∧ o < x ∧ a = 0) by omega) with h | ⟨h, h2⟩ | ⟨h, h2, h3⟩ | ⟨h, h2, h3⟩
      case' inr.inr.inl => have h4 : (a == 0) = false := by simpa using h3
      case' inr.inr.inr => have h4 : (a == 0) = true := by simpa using h3
      all_goals
        go_enter Tryd.func23, Tryd.ntmps23
        go_wp2
        go_ret
        refine ⟨?_, (Below.refl _ w).alloc (Nat.le_refl _) _⟩
        rw [HV.out]
        congr 2
        simp
        try omega
    | cons k0 ks0 =>
      have hpos : 0 < n := by have := h.len; simp at this; omega
      have hd0 : decide ((n : Int) = 0) = false := by simp; omega
      have hbeq : ((n : Int) == 0) = false := by simp; omega
      have hv : Fm.rng x (.mk o a (k0 :: ks0)) = (Fm.rngs x (k0 :: ks0) && (decide (1 ≤ a) && decide (a ≤ (n : Int)) && decide (o = 0))) := by rw [← h.len]; rfl
      obtain ⟨v, hv2⟩ : ∃ v, v = Fm.rng x (.mk o a (k0 :: ks0)) := ⟨_, rfl⟩
      rw [← hv2]
      rw [← hv2] at hv
      clear hv2
      generalize hks : k0 :: ks0 = ks at *
      clear hks
      have HV := Lib.hid hv
      clear hv
      have hlen := h.len
      have hmax := h.2.1
      unfold maxLen at hmax
      have HF := Lib.hid h
      unfold Fm.val
      simp only [Fm.org, Fm.nd]
      have HX0 : Hid (Below w.heap.size w (w.alloc (.cells #[.int .i64 o, .int .i64 a, .slice A n c] 25))) := Lib.hid ((Below.refl _ w).alloc (Nat.le_refl _) _)
      have HB0 : Hid (Blk (w.alloc (.cells #[.int .i64 o, .int .i64 a, .slice A n c] 25)) w.heap.size 25 [.int .i64 o, .int .i64 a, .slice A n c]) := Lib.hid (Blk.fresh rfl rfl)
      have HI := Lib.hid ih
      clear h ih
      go_enter Tryd.func23, Tryd.ntmps23
      go_wp2
      go_loopw [28] (fun iv wr => ∃ i : Nat, i ≤ n ∧ iv = .int .i64 i ∧ Below w.heap.size w wr ∧ Blk wr w.heap.size 25 [.int .i64 o, .int .i64 a, .slice A n c] ∧ Fm.rngs x ks = Fm.rngs x (ks.drop i)) (fun iv _ => n - (intOf iv).toNat)
      case atStart => exact ⟨0, Nat.zero_le _, rfl, HX0.out, HB0.out, rfl⟩
      case round =>
        obtain ⟨i, hi, rfl, hx, hb, hs⟩ := hrel
        have HX := Lib.hid hx
        have HB := Lib.hid hb
        clear hx hb
        by_cases hlt : i < n
        · skip
          obtain ⟨k, g, b, A', n', c', hk1, hk2, hk3, rfl, _, hr, hk⟩ := (HF.out.through HX.out).kid hlt
          have HR := Lib.hid hr
          have HK := Lib.hid hk
          rw [hk3] at hs
          clear hr hk hk1 hk3
          have hcall : ∀ W, k.In W (fun _ => True) A' n' → Calls Tryd.prog 23 #[.agg #[.int .i64 k.org, .int .i64 k.nd, .slice A' n' c'], .int .i64 x] W fun e w' => e = .returned (.bool (k.rng x)) ∧ Below W.heap.size W w' := fun W h => HI.out k hk2 A' n' c' W h
          have hcons : Fm.rngs x (k :: ks.drop (i + 1)) = (k.rng x && Fm.rngs x (ks.drop (i + 1))) := rfl
          rw [hcons] at hs
          cases hkx : k.rng x <;> rw [hkx] at hcall hs <;> have HC := Lib.hid hcall <;> have HS := Lib.hid hs <;> clear hcall hkx hcons hs
          all_goals
            go_wp2_with (first
              | (refine wpList_load_mid rfl 25 (.tmp 30) rfl g (b + i * 3) (by simp [Act.eval]) [.int .i64 k.org, .int .i64 k.nd, .slice A' n' c'] _ HR.out Tryd.underlying25 rfl (by kernel_rfl) ?_)
              | (go_at_call 23; (with_reducible refine (HC.out _ (HK.out.alloc _)).mono ?_); rintro e w5 ⟨rfl, hb5⟩; have hx5 : Below wr.heap.size wr w5 := ((Below.refl _ wr).alloc (Nat.le_refl _) _).trans (hb5.mono (by simp)); have HX5 := Lib.hid (HX.out.trans (hx5.mono HX.out.size)); have HB5 := Lib.hid (HB.out.through hx5); clear hb5 hx5))
          · go_ret
            exact ⟨by rw [HV.out, HS.out]; rfl, HX5.out⟩
          · go_roundw
            case rel => exact ⟨i + 1, by omega, by go_num, HX5.out, HB5.out, by have := HS.out; simpa using this⟩
            case measure => simp [intOf]; omega
        · obtain rfl : i = n := by omega
          have hs2 : Fm.rngs x ks = true := by rw [hs, List.drop_of_length_le (by omega)]; rfl
          have HS := Lib.hid hs2
          clear hs hs2
          have c0 := HB.out.cellAt (i := 0) rfl
          have c1 := HB.out.cellAt (i := 1) rfl
          have c2 := HB.out.cellAt (i := 2) rfl
          rcases (show a < 1 ∨ (1 ≤ a ∧ (i : Int) < a) ∨ (1 ≤ a ∧ a ≤ (i : Int) ∧ o ≠ 0) ∨ (1 ≤ a ∧ a ≤ (i : Int) ∧ o = 0) by omega) with h | ⟨h, h2⟩ | ⟨h, h2, h3⟩ | ⟨h, h2, h3⟩
          case' inr.inr.inl => have h4 : (o == 0) = false := by simpa using h3
          case' inr.inr.inr => have h4 : (o == 0) = true := by simpa using h3
          all_goals
            go_wp2
            go_ret
            refine ⟨?_, HX.out⟩
            rw [HV.out, HS.out]
            congr 2
            simp
            try omega

mutual

/-- What few tells, for a policy that hangs so deep. -/
def fewP : Int → Fm → Int × Bool
  | d, .mk _ _ ks => fewPs d (wrap64 (d + 1)) 1 ks

def fewPs : Int → Int → Int → List Fm → Int × Bool
  | d, _, m, [] => (m, decide (d ≤ 50))
  | d, d', m, k :: ks => if (fewP d' k).2 = false ∨ 200 < wrap64 (m + (fewP d' k).1) then (wrap64 (m + (fewP d' k).1), false) else fewPs d d' (wrap64 (m + (fewP d' k).1)) ks
end

theorem fewPs_cons (d d' m : Int) (k : Fm) (ks : List Fm) : fewPs d d' m (k :: ks) = if (fewP d' k).2 = false ∨ 200 < wrap64 (m + (fewP d' k).1) then (wrap64 (m + (fewP d' k).1), false) else fewPs d d' (wrap64 (m + (fewP d' k).1)) ks := by rw [fewPs]

set_option maxHeartbeats 4000000 in
set_option maxRecDepth 100000 in
theorem few_walk (f : Fm) : ∀ (d : Int) (A : Option Addr) (n c : Nat) (w : World), f.In w (fun _ => True) A n →
    Calls Tryd.prog 10 #[f.val A n c, .int .i64 d] w fun e w' => e = .returned (.tuple #[.int .i64 (fewP d f).1, .bool (fewP d f).2]) ∧ Below w.heap.size w w' := by
  induction f using Fm.ind with
  | h o a ks ih =>
    intro d A n c w h
    have hf : fewP d (.mk o a ks) = fewPs d (wrap64 (d + 1)) 1 ks := by rw [fewP]
    rw [hf]
    clear hf
    obtain ⟨d', hd'⟩ : ∃ d', wrap64 (d + 1) = d' := ⟨_, rfl⟩
    rw [hd']
    obtain ⟨r, hr0⟩ : ∃ r, r = fewPs d d' 1 ks := ⟨_, rfl⟩
    rw [← hr0]
    have hlen := h.len
    have hmax := h.2.1
    unfold maxLen at hmax
    have HF := Lib.hid h
    unfold Fm.val
    simp only [Fm.org, Fm.nd]
    have HX0 : Hid (Below w.heap.size w (w.alloc (.cells #[.int .i64 o, .int .i64 a, .slice A n c] 25))) := Lib.hid ((Below.refl _ w).alloc (Nat.le_refl _) _)
    have HB0 : Hid (Blk (w.alloc (.cells #[.int .i64 o, .int .i64 a, .slice A n c] 25)) w.heap.size 25 [.int .i64 o, .int .i64 a, .slice A n c]) := Lib.hid (Blk.fresh rfl rfl)
    have HI := Lib.hid ih
    clear h ih
    go_enter Tryd.func10, Tryd.ntmps10
    go_wp2
    go_loopw [6, 14] (fun mv iv wr => ∃ (i : Nat) (m : Int), i ≤ n ∧ iv = .int .i64 i ∧ mv = .int .i64 m ∧ Below w.heap.size w wr ∧ Blk wr w.heap.size 25 [.int .i64 o, .int .i64 a, .slice A n c] ∧ r = fewPs d d' m (ks.drop i)) (fun _ iv _ => n - (intOf iv).toNat)
    case atStart => exact ⟨0, 1, Nat.zero_le _, rfl, rfl, HX0.out, HB0.out, hr0⟩
    case round =>
      obtain ⟨i, m, hi, rfl, rfl, hx, hb, hs⟩ := hrel
      have HX := Lib.hid hx
      have HB := Lib.hid hb
      clear hx hb hr0
      by_cases hlt : i < n
      · skip
        obtain ⟨k, g, b, A', n', c', hk1, hk2, hk3, rfl, _, hr, hk⟩ := (HF.out.through HX.out).kid hlt
        have HR := Lib.hid hr
        have HK := Lib.hid hk
        rw [hk3] at hs
        clear hr hk hk1 hk3
        have hcall : ∀ W, k.In W (fun _ => True) A' n' → Calls Tryd.prog 10 #[.agg #[.int .i64 k.org, .int .i64 k.nd, .slice A' n' c'], .int .i64 d'] W fun e w' => e = .returned (.tuple #[.int .i64 (fewP d' k).1, .bool (fewP d' k).2]) ∧ Below W.heap.size W w' := fun W h => HI.out k hk2 d' A' n' c' W h
        rw [fewPs_cons] at hs
        generalize (fewP d' k).1 = x at *
        cases hkx : (fewP d' k).2 <;> rw [hkx] at hcall hs <;> have HC := Lib.hid hcall <;> clear hcall hkx
        · rw [if_pos (Or.inl rfl)] at hs
          have HS := Lib.hid hs
          clear hs
          go_wp2_with (first
              | (refine wpList_load_mid rfl 25 (.tmp 16) rfl g (b + i * 3) (by simp [Act.eval]) [.int .i64 k.org, .int .i64 k.nd, .slice A' n' c'] _ HR.out Tryd.underlying25 rfl (by kernel_rfl) ?_)
              | (go_at_call 10; (with_reducible refine (HC.out _ (HK.out.alloc _)).mono ?_); rintro e w5 ⟨rfl, hb5⟩; have hx5 : Below wr.heap.size wr w5 := ((Below.refl _ wr).alloc (Nat.le_refl _) _).trans (hb5.mono (by simp)); have HX5 := Lib.hid (HX.out.trans (hx5.mono HX.out.size)); have HB5 := Lib.hid (HB.out.through hx5); clear hb5 hx5))
          go_ret2
          exact ⟨by rw [HS.out]; rfl, HX5.out⟩
        · obtain ⟨m', hm'⟩ : ∃ m', wrap64 (m + x) = m' := ⟨_, rfl⟩
          rw [hm'] at hs
          by_cases hb2 : 200 < m'
          · rw [if_pos (Or.inr hb2)] at hs
            have HS := Lib.hid hs
            clear hs
            have hdd : decide (200 < m') = true := by simpa using hb2
            go_wp2_with (first
              | (refine wpList_load_mid rfl 25 (.tmp 16) rfl g (b + i * 3) (by simp [Act.eval]) [.int .i64 k.org, .int .i64 k.nd, .slice A' n' c'] _ HR.out Tryd.underlying25 rfl (by kernel_rfl) ?_)
              | (go_at_call 10; (with_reducible refine (HC.out _ (HK.out.alloc _)).mono ?_); rintro e w5 ⟨rfl, hb5⟩; have hx5 : Below wr.heap.size wr w5 := ((Below.refl _ wr).alloc (Nat.le_refl _) _).trans (hb5.mono (by simp)); have HX5 := Lib.hid (HX.out.trans (hx5.mono HX.out.size)); have HB5 := Lib.hid (HB.out.through hx5); clear hb5 hx5))
            go_ret2
            exact ⟨by rw [HS.out, ← hm']; rfl, HX5.out⟩
          · rw [if_neg (by simp; omega)] at hs
            have HS := Lib.hid hs
            clear hs
            have hdd : decide (200 < m') = false := by simp; omega
            go_wp2_with (first
              | (refine wpList_load_mid rfl 25 (.tmp 16) rfl g (b + i * 3) (by simp [Act.eval]) [.int .i64 k.org, .int .i64 k.nd, .slice A' n' c'] _ HR.out Tryd.underlying25 rfl (by kernel_rfl) ?_)
              | (go_at_call 10; (with_reducible refine (HC.out _ (HK.out.alloc _)).mono ?_); rintro e w5 ⟨rfl, hb5⟩; have hx5 : Below wr.heap.size wr w5 := ((Below.refl _ wr).alloc (Nat.le_refl _) _).trans (hb5.mono (by simp)); have HX5 := Lib.hid (HX.out.trans (hx5.mono HX.out.size)); have HB5 := Lib.hid (HB.out.through hx5); clear hb5 hx5))
            go_roundw
            case rel => exact ⟨i + 1, m', by omega, by go_num, by rw [hm'], HX5.out, HB5.out, HS.out⟩
            case measure => simp [intOf]; omega
      · obtain rfl : i = n := by omega
        rw [List.drop_of_length_le (by omega), fewPs] at hs
        have HS := Lib.hid hs
        clear hs
        go_wp2
        go_ret2
        exact ⟨by rw [HS.out]; rfl, HX.out⟩

set_option maxHeartbeats 4000000 in
set_option maxRecDepth 100000 in
theorem rcheck_any (f : Fm) (x : Int) (A : Option Addr) (n c : Nat) (w : World) (hz : f.few) (h : f.In w (fun _ => True) A n) :
    Calls Tryd.prog 13 #[f.val A n c, .int .i64 x] w fun e w' => e = .returned (.int .i64 (f.check x)) ∧ Below w.heap.size w w' := by
  obtain ⟨hz1, hz2⟩ := hz
  obtain ⟨v, hv⟩ : ∃ v, v = f.check x := ⟨_, rfl⟩
  rw [← hv]
  have HF := Lib.hid h
  unfold Fm.check at hv
  have hB0 : Blk (w.alloc (.cells #[.int .i64 f.org, .int .i64 f.nd, .slice A n c] 25)) w.heap.size 25 [.int .i64 f.org, .int .i64 f.nd, .slice A n c] := Blk.fresh rfl rfl
  have HB0 := Lib.hid hB0
  have HX0 : Hid (Below w.heap.size w (w.alloc (.cells #[.int .i64 f.org, .int .i64 f.nd, .slice A n c] 25))) := Lib.hid ((Below.refl _ w).alloc (Nat.le_refl _) _)
  clear hB0 h
  rcases (show x < 1 ∨ 7 < x ∨ (1 ≤ x ∧ x ≤ 7 ∧ 32 < f.size) ∨ (1 ≤ x ∧ x ≤ 7 ∧ f.size ≤ 32 ∧ 5 < f.depth) ∨ (1 ≤ x ∧ x ≤ 7 ∧ f.size ≤ 32 ∧ f.depth ≤ 5 ∧ f.rng x = false) ∨ (1 ≤ x ∧ x ≤ 7 ∧ f.size ≤ 32 ∧ f.depth ≤ 5 ∧ f.rng x = true) by cases f.rng x <;> simp <;> omega) with h1 | h1 | ⟨h1, h2, h3⟩ | ⟨h1, h2, h3, h4⟩ | ⟨h1, h2, h3, h4, h5⟩ | ⟨h1, h2, h3, h4, h5⟩
  · rw [if_pos (Or.inl h1)] at hv
    have HV := Lib.hid hv
    clear hv
    have hm : ∀ W, f.In W (fun _ => True) A n → Calls Tryd.prog 22 #[.agg #[.int .i64 f.org, .int .i64 f.nd, .slice A n c]] W fun e w' => e = .returned (.tuple #[.int .i64 (f.size : Int), .int .i64 (f.depth : Int)]) ∧ Below W.heap.size W w' := fun W h => size_any f A n c W hz1 hz2 h
    have HM := Lib.hid hm
    clear hm
    unfold Fm.val
    generalize f.org = fo at *
    generalize f.nd = fa at *
    generalize f.size = fs at *
    generalize f.depth = fd at *
    go_enter Tryd.func13, Tryd.ntmps13
    go_wp2_with (first
      | (refine wpList_load_blk rfl 25 (.tmp 2) rfl w.heap.size rfl 25 [.int .i64 fo, .int .i64 fa, .slice A n c] _ HB0.out Tryd.underlying25 rfl (by kernel_rfl) ?_)
      | (go_at_call 22; (with_reducible refine (HM.out _ (HF.out.through HX0.out)).mono ?_); rintro e wa ⟨rfl, hb⟩; have HXa := Lib.hid (HX0.out.trans (hb.mono HX0.out.size)); have HBa := Lib.hid (HB0.out.through hb); clear hb))
    go_ret
    exact ⟨by rw [HV.out]; rfl, HXa.out⟩
  · rw [if_pos (Or.inr h1)] at hv
    have HV := Lib.hid hv
    clear hv
    have hm : ∀ W, f.In W (fun _ => True) A n → Calls Tryd.prog 22 #[.agg #[.int .i64 f.org, .int .i64 f.nd, .slice A n c]] W fun e w' => e = .returned (.tuple #[.int .i64 (f.size : Int), .int .i64 (f.depth : Int)]) ∧ Below W.heap.size W w' := fun W h => size_any f A n c W hz1 hz2 h
    have HM := Lib.hid hm
    clear hm
    unfold Fm.val
    generalize f.org = fo at *
    generalize f.nd = fa at *
    generalize f.size = fs at *
    generalize f.depth = fd at *
    go_enter Tryd.func13, Tryd.ntmps13
    go_wp2_with (first
      | (refine wpList_load_blk rfl 25 (.tmp 2) rfl w.heap.size rfl 25 [.int .i64 fo, .int .i64 fa, .slice A n c] _ HB0.out Tryd.underlying25 rfl (by kernel_rfl) ?_)
      | (go_at_call 22; (with_reducible refine (HM.out _ (HF.out.through HX0.out)).mono ?_); rintro e wa ⟨rfl, hb⟩; have HXa := Lib.hid (HX0.out.trans (hb.mono HX0.out.size)); have HBa := Lib.hid (HB0.out.through hb); clear hb))
    go_ret
    exact ⟨by rw [HV.out]; rfl, HXa.out⟩
  · rw [if_neg (by omega), if_pos h3] at hv
    have HV := Lib.hid hv
    clear hv
    have hm : ∀ W, f.In W (fun _ => True) A n → Calls Tryd.prog 22 #[.agg #[.int .i64 f.org, .int .i64 f.nd, .slice A n c]] W fun e w' => e = .returned (.tuple #[.int .i64 (f.size : Int), .int .i64 (f.depth : Int)]) ∧ Below W.heap.size W w' := fun W h => size_any f A n c W hz1 hz2 h
    have HM := Lib.hid hm
    clear hm
    unfold Fm.val
    generalize f.org = fo at *
    generalize f.nd = fa at *
    generalize f.size = fs at *
    generalize f.depth = fd at *
    go_enter Tryd.func13, Tryd.ntmps13
    go_wp2_with (first
      | (refine wpList_load_blk rfl 25 (.tmp 2) rfl w.heap.size rfl 25 [.int .i64 fo, .int .i64 fa, .slice A n c] _ HB0.out Tryd.underlying25 rfl (by kernel_rfl) ?_)
      | (go_at_call 22; (with_reducible refine (HM.out _ (HF.out.through HX0.out)).mono ?_); rintro e wa ⟨rfl, hb⟩; have HXa := Lib.hid (HX0.out.trans (hb.mono HX0.out.size)); have HBa := Lib.hid (HB0.out.through hb); clear hb))
    go_ret
    exact ⟨by rw [HV.out]; rfl, HXa.out⟩
  · rw [if_neg (by omega), if_neg (by omega), if_pos h4] at hv
    have HV := Lib.hid hv
    clear hv
    have hm : ∀ W, f.In W (fun _ => True) A n → Calls Tryd.prog 22 #[.agg #[.int .i64 f.org, .int .i64 f.nd, .slice A n c]] W fun e w' => e = .returned (.tuple #[.int .i64 (f.size : Int), .int .i64 (f.depth : Int)]) ∧ Below W.heap.size W w' := fun W h => size_any f A n c W hz1 hz2 h
    have HM := Lib.hid hm
    clear hm
    unfold Fm.val
    generalize f.org = fo at *
    generalize f.nd = fa at *
    generalize f.size = fs at *
    generalize f.depth = fd at *
    go_enter Tryd.func13, Tryd.ntmps13
    go_wp2_with (first
      | (refine wpList_load_blk rfl 25 (.tmp 2) rfl w.heap.size rfl 25 [.int .i64 fo, .int .i64 fa, .slice A n c] _ HB0.out Tryd.underlying25 rfl (by kernel_rfl) ?_)
      | (go_at_call 22; (with_reducible refine (HM.out _ (HF.out.through HX0.out)).mono ?_); rintro e wa ⟨rfl, hb⟩; have HXa := Lib.hid (HX0.out.trans (hb.mono HX0.out.size)); have HBa := Lib.hid (HB0.out.through hb); clear hb))
    go_ret
    exact ⟨by rw [HV.out]; rfl, HXa.out⟩
  · rw [if_neg (by omega), if_neg (by omega), if_neg (by omega), if_pos h5] at hv
    have HV := Lib.hid hv
    clear hv
    have hm : ∀ W, f.In W (fun _ => True) A n → Calls Tryd.prog 22 #[.agg #[.int .i64 f.org, .int .i64 f.nd, .slice A n c]] W fun e w' => e = .returned (.tuple #[.int .i64 (f.size : Int), .int .i64 (f.depth : Int)]) ∧ Below W.heap.size W w' := fun W h => size_any f A n c W hz1 hz2 h
    have HM := Lib.hid hm
    have hw : ∀ W, f.In W (fun _ => True) A n → Calls Tryd.prog 23 #[.agg #[.int .i64 f.org, .int .i64 f.nd, .slice A n c], .int .i64 x] W fun e w' => e = .returned (.bool false) ∧ Below W.heap.size W w' := fun W h => by have := ranges_any x f A n c W h; rw [h5] at this; exact this
    have HW := Lib.hid hw
    clear hw
    clear hm
    unfold Fm.val
    generalize f.org = fo at *
    generalize f.nd = fa at *
    generalize f.size = fs at *
    generalize f.depth = fd at *
    go_enter Tryd.func13, Tryd.ntmps13
    go_wp2_with (first
      | (refine wpList_load_blk rfl 25 (.tmp 2) rfl w.heap.size rfl 25 [.int .i64 fo, .int .i64 fa, .slice A n c] _ HB0.out Tryd.underlying25 rfl (by kernel_rfl) ?_)
      | (go_at_call 22; (with_reducible refine (HM.out _ (HF.out.through HX0.out)).mono ?_); rintro e wa ⟨rfl, hb⟩; have HXa := Lib.hid (HX0.out.trans (hb.mono HX0.out.size)); have HBa := Lib.hid (HB0.out.through hb); clear hb)
      | (refine wpList_load_blk rfl 25 (.tmp 2) rfl w.heap.size rfl 25 [.int .i64 fo, .int .i64 fa, .slice A n c] _ HBa.out Tryd.underlying25 rfl (by kernel_rfl) ?_)
      | (go_at_call 23; (with_reducible refine (HW.out _ (HF.out.through HXa.out)).mono ?_); rintro e wb ⟨rfl, hb⟩; have HXb := Lib.hid (HXa.out.trans (hb.mono HXa.out.size)); have HBb := Lib.hid (HBa.out.through hb); clear hb))
    go_ret
    exact ⟨by rw [HV.out]; rfl, HXb.out⟩
  · rw [if_neg (by omega), if_neg (by omega), if_neg (by omega), if_neg (by rw [h5]; simp)] at hv
    have HV := Lib.hid hv
    clear hv
    have hm : ∀ W, f.In W (fun _ => True) A n → Calls Tryd.prog 22 #[.agg #[.int .i64 f.org, .int .i64 f.nd, .slice A n c]] W fun e w' => e = .returned (.tuple #[.int .i64 (f.size : Int), .int .i64 (f.depth : Int)]) ∧ Below W.heap.size W w' := fun W h => size_any f A n c W hz1 hz2 h
    have HM := Lib.hid hm
    have hw : ∀ W, f.In W (fun _ => True) A n → Calls Tryd.prog 23 #[.agg #[.int .i64 f.org, .int .i64 f.nd, .slice A n c], .int .i64 x] W fun e w' => e = .returned (.bool true) ∧ Below W.heap.size W w' := fun W h => by have := ranges_any x f A n c W h; rw [h5] at this; exact this
    have HW := Lib.hid hw
    clear hw
    clear hm
    unfold Fm.val
    generalize f.org = fo at *
    generalize f.nd = fa at *
    generalize f.size = fs at *
    generalize f.depth = fd at *
    go_enter Tryd.func13, Tryd.ntmps13
    go_wp2_with (first
      | (refine wpList_load_blk rfl 25 (.tmp 2) rfl w.heap.size rfl 25 [.int .i64 fo, .int .i64 fa, .slice A n c] _ HB0.out Tryd.underlying25 rfl (by kernel_rfl) ?_)
      | (go_at_call 22; (with_reducible refine (HM.out _ (HF.out.through HX0.out)).mono ?_); rintro e wa ⟨rfl, hb⟩; have HXa := Lib.hid (HX0.out.trans (hb.mono HX0.out.size)); have HBa := Lib.hid (HB0.out.through hb); clear hb)
      | (refine wpList_load_blk rfl 25 (.tmp 2) rfl w.heap.size rfl 25 [.int .i64 fo, .int .i64 fa, .slice A n c] _ HBa.out Tryd.underlying25 rfl (by kernel_rfl) ?_)
      | (go_at_call 23; (with_reducible refine (HW.out _ (HF.out.through HXa.out)).mono ?_); rintro e wb ⟨rfl, hb⟩; have HXb := Lib.hid (HXa.out.trans (hb.mono HXa.out.size)); have HBb := Lib.hid (HBa.out.through hb); clear hb))
    go_ret
    exact ⟨by rw [HV.out]; rfl, HXb.out⟩

/-- it may be, of some n -/
def Fm.mb (f : Fm) : Bool := decide (f.check 7 = 0)

theorem Fm.mb_iff (f : Fm) : f.mb = true ↔ f.size ≤ 32 ∧ f.depth ≤ 5 ∧ f.rng 7 = true := by
  unfold Fm.mb Fm.check
  rw [decide_eq_true_eq]
  cases hr : f.rng 7 <;> simp <;> split <;> try split
  all_goals first | omega | (simp; omega)

theorem Fm.mb_rng {f : Fm} (h : f.mb = true) : f.rng 7 = true := ((Fm.mb_iff f).1 h).2.2

set_option maxHeartbeats 4000000 in
set_option maxRecDepth 100000 in
theorem right_any (f : Fm) (A : Option Addr) (n c : Nat) (w : World) (hz : f.few) (h : f.In w (fun _ => True) A n) :
    Calls Tryd.prog 20 #[f.val A n c] w fun e w' => e = .returned (.bool f.mb) ∧ Below w.heap.size w w' := by
  have hcall : ∀ W, f.In W (fun _ => True) A n → Calls Tryd.prog 13 #[f.val A n c, .int .i64 7] W fun e w' => e = .returned (.int .i64 (f.check 7)) ∧ Below W.heap.size W w' := fun W h1 => rcheck_any f 7 A n c W hz h1
  have HF := Lib.hid h
  unfold Fm.val at hcall ⊢
  unfold Fm.mb
  generalize f.org = fo at *
  generalize f.nd = fa at *
  have hB0 : Blk (w.alloc (.cells #[.int .i64 fo, .int .i64 fa, .slice A n c] 25)) w.heap.size 25 [.int .i64 fo, .int .i64 fa, .slice A n c] := Blk.fresh rfl rfl
  have HB0 := Lib.hid hB0
  have HX0 : Hid (Below w.heap.size w (w.alloc (.cells #[.int .i64 fo, .int .i64 fa, .slice A n c] 25))) := Lib.hid ((Below.refl _ w).alloc (Nat.le_refl _) _)
  clear hB0
  generalize hk : f.check 7 = k at *
  by_cases h0 : k = 0
  · subst h0
    have HC := Lib.hid hcall
    clear hcall h hk
    go_enter Tryd.func20, Tryd.ntmps20
    go_wp2_with (first
      | (refine wpList_load_blk rfl 25 (.tmp 1) rfl w.heap.size rfl 25 [.int .i64 fo, .int .i64 fa, .slice A n c] _ HB0.out Tryd.underlying25 rfl (by kernel_rfl) ?_)
      | (go_at_call 13; (with_reducible refine (HC.out _ (HF.out.through HX0.out)).mono ?_); rintro e wa ⟨rfl, hb⟩; have HXa := Lib.hid (HX0.out.trans (hb.mono HX0.out.size)); have HBa := Lib.hid (HB0.out.through hb); clear hb))
    go_ret
    exact ⟨rfl, HXa.out⟩
  · have h1 : (k == 0) = false := by simpa using h0
    have hd : decide (k = 0) = false := by simpa using h0
    have HD := Lib.hid hd
    have HC := Lib.hid hcall
    clear hcall h hk hd
    go_enter Tryd.func20, Tryd.ntmps20
    go_wp2_with (first
      | (refine wpList_load_blk rfl 25 (.tmp 1) rfl w.heap.size rfl 25 [.int .i64 fo, .int .i64 fa, .slice A n c] _ HB0.out Tryd.underlying25 rfl (by kernel_rfl) ?_)
      | (go_at_call 13; (with_reducible refine (HC.out _ (HF.out.through HX0.out)).mono ?_); rintro e wa ⟨rfl, hb⟩; have HXa := Lib.hid (HX0.out.trans (hb.mono HX0.out.size)); have HBa := Lib.hid (HB0.out.through hb); clear hb))
    go_ret
    exact ⟨ret_bool (by rw [HD.out]), HXa.out⟩

end Go.Proofs.YtnpobhgecfjfgaaDoor
