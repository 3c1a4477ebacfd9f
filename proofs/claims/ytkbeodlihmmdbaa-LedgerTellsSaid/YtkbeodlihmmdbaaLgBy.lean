/-
  The document's Bytes, walked.
-/
import Derived.Test.YtkbeodlihmmdbaaLgW
import Derived.Test.YtkbeodlihmmdbaaLgB
import Derived.Test.YtkbeodlihmmdbaaOBy
namespace Go.Proofs.Ytkbeodlihmmdbaa
open Go.RowKit

theorem Try.agg_s (w : World) : (isAgg 9).run Try.prog w = .ok false w := by kernel_rfl
theorem Try.agg_i (w : World) : (isAgg 3).run Try.prog w = .ok false w := by kernel_rfl
theorem Try.agg_l (w : World) : (isAgg 2).run Try.prog w = .ok false w := by kernel_rfl
theorem Try.agg_e (w : World) : (isAgg 28).run Try.prog w = .ok false w := by kernel_rfl
@[simp] theorem beB_len (v k : Nat) : (beB v k).length = k := beB_length v k
@[simp] theorem rowB_len (xs : List UInt8) : (rowB xs).length = 4 + xs.length := by unfold rowB; rw [List.length_append, beB_length]
theorem u64N_lt64 (v : Int) : u64N v < 18446744073709551616 := by unfold u64N; omega
theorem encLt_len {x : Lt} (h : ltOk x = true) : (encLt x).length ≤ 500 := by
  simp only [ltOk, Bool.and_eq_true, decide_eq_true_eq] at h
  have h1 := isNm_len h.1.1.1.1.1.1.1
  unfold encLt
  simp only [List.length_append, beB_length, rowB_len]
  omega
theorem encOc_len (x : Oc) : (encOc x).length = 10 := by
  unfold encOc
  simp only [List.length_append, beB_length]
theorem encAll_len {α : Type} {f : α → List UInt8} {b : Nat} : ∀ (xs : List α), (∀ x ∈ xs, (f x).length ≤ b) → (encAll f xs).length ≤ xs.length * b
  | [], _ => by simp [encAll]
  | x :: xs, h => by
    have h1 := h x (List.mem_cons_self ..)
    have h2 := encAll_len xs (fun y hy => h y (List.mem_cons_of_mem _ hy))
    simp only [encAll, List.length_append, List.length_cons, Nat.add_mul]
    omega
theorem encAll_take {α : Type} (f : α → List UInt8) {xs : List α} {i : Nat} {x : α} (h : xs[i]? = some x) : encAll f (xs.take (i + 1)) = encAll f (xs.take i) ++ f x := by
  rw [List.take_add_one, h]
  exact encAll_snoc f _ x

set_option maxHeartbeats 16000000 in
set_option maxRecDepth 100000 in
theorem rbytes_any (l : Lg) (A : Option Addr) (n c : Nat) (B : Option Addr) (m d : Nat) (w : World) (h : LgIn w A n B m l) (hr : l.right = true) :
    Calls Try.prog 25 #[l.val A n c B m d] w (Byt w l.bytes) := by
  have hR := Lg.right_iff.1 hr
  have hlt := lsOk_mem _ _ hR.ls
  have hlen := h.len
  have hn16 : n ≤ 16 := by have := hR.l16; omega
  have hm4 : m ≤ 4 := by have := hR.o4; omega
  have hle : ∀ i, (encAll encLt (l.ls.take i)).length ≤ 8000 := fun i => by
    have h1 := encAll_len (f := encLt) (b := 500) (l.ls.take i) (fun x hx => encLt_len (hlt x (List.mem_of_mem_take hx)))
    have h2 : (l.ls.take i).length ≤ 16 := by rw [List.length_take]; omega
    have h3 : (l.ls.take i).length * 500 ≤ 16 * 500 := Nat.mul_le_mul_right _ h2
    omega
  have hoe : ∀ i, (encAll encOc (l.os.take i)).length ≤ 40 := fun i => by
    have h1 := encAll_len (f := encOc) (b := 10) (l.os.take i) (fun x _ => Nat.le_of_eq (encOc_len x))
    have h2 : (l.os.take i).length ≤ 4 := by rw [List.length_take]; omega
    have h3 : (l.os.take i).length * 10 ≤ 4 * 10 := Nat.mul_le_mul_right _ h2
    omega
  have hokl : ∀ x ∈ l.ls, x.nm.length ≤ 16 ∧ x.po.length ≤ 200 ∧ x.pa.length ≤ 200 := fun x hx => by
    have := hlt x hx
    simp only [ltOk, Bool.and_eq_true, decide_eq_true_eq] at this
    exact ⟨(isNm_len this.1.1.1.1.1.1.1).2, this.1.2, this.2⟩
  have hend : l.bytes = beB (u64N l.sq) 8 ++ beB (u64N l.tt) 8 ++ beB n 2 ++ encAll encLt l.ls ++ beB m 2 ++ encAll encOc l.os := by
    unfold Lg.bytes
    rw [hlen.1, hlen.2]
    simp only [List.append_assoc]
  have HI := Lib.hid h
  have HLE := Lib.hid hle
  have HOE := Lib.hid hoe
  have HOK := Lib.hid hokl
  have HEND := Lib.hid hend
  have HLN := Lib.hid hlen
  obtain ⟨bs, hbs⟩ : ∃ bs, l.bytes = bs := ⟨_, rfl⟩
  rw [hbs]
  have HBS := Lib.hid hbs
  clear h hr hR hlt hlen hle hoe hokl hend hbs
  unfold Lg.val
  have H1 : Hid (Blk (w.alloc (.cells #[.int .i64 l.sq, .int .i64 l.tt, .slice A n c, .slice B m d] 25)) w.heap.size 25 [.int .i64 l.sq, .int .i64 l.tt, .slice A n c, .slice B m d]) := Lib.hid (Blk.fresh rfl rfl)
  have HX1 : Hid (Below w.heap.size w (w.alloc (.cells #[.int .i64 l.sq, .int .i64 l.tt, .slice A n c, .slice B m d] 25))) := Lib.hid (below1 w _)
  go_enter Try.func25, Try.ntmps25
  go_wp2
  try dsimp only [Act.put]
  generalize hw1 : w.alloc (.cells #[.int .i64 l.sq, .int .i64 l.tt, .slice A n c, .slice B m d] 25) = w1 at *
  clear hw1
  refine wp_region_held_drew (S := fun W => Below w1.heap.size w1 W) (by kernel_rfl) (Below.refl _ _).drew (fun hHeld => ?_)
  change wpAnyH _ _ _ _ _ _ #[false, false, false, false, false, false, false, false, false] _ _
  refine wpAnyH_take (i := 0) (v := (.pointer (some ⟨w.heap.size, 0, none⟩))) rfl (by kernel_rfl) (by kernel_rfl) (by kernel_rfl) (fun _ _ _ h => h) (Or.inl ⟨by kernel_rfl, fun w hSw => ?_⟩) (by assumption) ?_
  · (try dsimp only at hSw); go_simp <;> (try rfl)
  change wpAnyH _ _ _ _ _ _ _ (Act.put _ (some (8 : Nat)) (.pointer (some ⟨w.heap.size, 0, none⟩))) _
  simp only [Act.put, List.setIfInBounds_toArray, List.set_cons_zero, List.set_cons_succ]
  refine wpAnyH_take (i := 1) (v := (.int .i64 l.sq)) rfl (by kernel_rfl) (by kernel_rfl) (by kernel_rfl) (fun _ _ _ h => h) (yields_load_at (by kernel_rfl) 2 (.tmp 8) rfl (.pointer (some ⟨w.heap.size, 0, none⟩)) (by simp [Act.eval]) (.int .i64 l.sq) (fun W hW => load_one' (Try.agg_l W) ((H1.out.through hW).cellAt (i := 0) rfl))) (by assumption) ?_
  change wpAnyH _ _ _ _ _ _ _ (Act.put _ (some (9 : Nat)) (.int .i64 l.sq)) _
  simp only [Act.put, List.setIfInBounds_toArray, List.set_cons_zero, List.set_cons_succ]
  refine wpAnyH_take (i := 2) (v := (.int .u64 ((u64N l.sq : Nat) : Int))) rfl (by kernel_rfl) (by kernel_rfl) (by kernel_rfl) (fun _ _ _ h => h) (yields_conv (by kernel_rfl) 2 61 (.tmp 9) rfl (.int .i64 l.sq) (by simp [Act.eval]) (.int .u64 ((u64N l.sq : Nat) : Int)) (fun W hW => conv_u64 2 61 Try.underlying2 Try.underlying61 l.sq W)) (by assumption) ?_
  change wpAnyH _ _ _ _ _ _ _ (Act.put _ (some (10 : Nat)) (.int .u64 ((u64N l.sq : Nat) : Int))) _
  simp only [Act.put, List.setIfInBounds_toArray, List.set_cons_zero, List.set_cons_succ]
  refine wpAnyH_take (i := 4) (v := (.pointer (some ⟨w.heap.size, 1, none⟩))) rfl (by kernel_rfl) (by kernel_rfl) (by kernel_rfl) (fun _ _ _ h => h) (Or.inl ⟨by kernel_rfl, fun w hSw => ?_⟩) (by assumption) ?_
  · (try dsimp only at hSw); go_simp <;> (try rfl)
  change wpAnyH _ _ _ _ _ _ _ (Act.put _ (some (12 : Nat)) (.pointer (some ⟨w.heap.size, 1, none⟩))) _
  simp only [Act.put, List.setIfInBounds_toArray, List.set_cons_zero, List.set_cons_succ]
  refine wpAnyH_take (i := 5) (v := (.int .i64 l.tt)) rfl (by kernel_rfl) (by kernel_rfl) (by kernel_rfl) (fun _ _ _ h => h) (yields_load_at (by kernel_rfl) 2 (.tmp 12) rfl (.pointer (some ⟨w.heap.size, 1, none⟩)) (by simp [Act.eval]) (.int .i64 l.tt) (fun W hW => load_one' (Try.agg_l W) ((H1.out.through hW).cellAt (i := 1) rfl))) (by assumption) ?_
  change wpAnyH _ _ _ _ _ _ _ (Act.put _ (some (13 : Nat)) (.int .i64 l.tt)) _
  simp only [Act.put, List.setIfInBounds_toArray, List.set_cons_zero, List.set_cons_succ]
  refine wpAnyH_take (i := 6) (v := (.int .u64 ((u64N l.tt : Nat) : Int))) rfl (by kernel_rfl) (by kernel_rfl) (by kernel_rfl) (fun _ _ _ h => h) (yields_conv (by kernel_rfl) 2 61 (.tmp 13) rfl (.int .i64 l.tt) (by simp [Act.eval]) (.int .u64 ((u64N l.tt : Nat) : Int)) (fun W hW => conv_u64 2 61 Try.underlying2 Try.underlying61 l.tt W)) (by assumption) ?_
  change wpAnyH _ _ _ _ _ _ _ (Act.put _ (some (14 : Nat)) (.int .u64 ((u64N l.tt : Nat) : Int))) _
  simp only [Act.put, List.setIfInBounds_toArray, List.set_cons_zero, List.set_cons_succ]
  refine wpAnyH_ready (rs := [3]) (by kernel_rfl) (by simp) ?_
  refine AllReadyH.cons rfl (fun K hK => ?_) AllReadyH.nil
  go_simp
  refine (rput_by (Q := fun _ => True) (A := none) (n := 0) (c := 0) (xs := []) 8 rfl (u64N l.sq) (u64N_lt64 _) By.none_ (by simp)).mono ?_
  rintro e wa ⟨Aa, na, ca, rfl, hya, _, _, hba⟩; have HYa := Lib.hid hya; have HKa := Lib.hid (below_step hHeld hba); clear hya hba
  go_wp2_with fail
  refine hK.out _ _ HKa.out (fun hHeld1 => ?_)
  clear hHeld hK K
  have hHeld := hHeld1
  clear hHeld1
  refine wpAnyH_ready (rs := [7]) (by kernel_rfl) (by simp) ?_
  refine AllReadyH.cons rfl (fun K hK => ?_) AllReadyH.nil
  go_simp
  refine (rput_by 8 rfl (u64N l.tt) (u64N_lt64 _) (HYa.out) (by first | (simp; done) | (simp; omega))).mono ?_
  rintro e wb ⟨Ab, nb, cb, rfl, hyb, _, _, hbb⟩; have HYb := Lib.hid hyb; have HKb := Lib.hid (below_step hHeld hbb); clear hyb hbb
  go_wp2_with fail
  refine hK.out _ _ HKb.out (fun hHeld1 => ?_)
  clear hHeld hK K
  have hHeld := hHeld1
  clear hHeld1
  refine wpAnyH_take (i := 8) (v := (.slice Ab nb cb)) rfl (by kernel_rfl) (by kernel_rfl) (by kernel_rfl) (fun _ _ _ h => h) (Or.inl ⟨by kernel_rfl, fun w hSw => ?_⟩) (by assumption) ?_
  · (try dsimp only at hSw); go_simp <;> (try rfl)
  change wpAnyH _ _ _ _ _ _ _ (Act.put _ (some (3 : Nat)) (.slice Ab nb cb)) _
  simp only [Act.put, List.setIfInBounds_toArray, List.set_cons_zero, List.set_cons_succ]
  refine wpAnyH_done (by kernel_rfl) ?_ _
  have k2 := (H1.out.through HKb.out).cellAt (i := 2) rfl
  go_wp2_with ((go_at_call 59; (refine (rput_by 2 rfl n (by omega) HYb.out (by simp only [List.length_append, beB_length, List.nil_append]; omega)).mono ?_); rintro e w2 ⟨A2, n2, c2, rfl, hy2, _, _, hb2⟩; have HY2 := Lib.hid hy2; have HX2 : Hid (Below w.heap.size w w2) := Lib.hid (below_step (below_step HX1.out HKb.out) hb2); have H2 : Hid (Blk w2 w.heap.size 25 [.int .i64 l.sq, .int .i64 l.tt, .slice A n c, .slice B m d]) := Lib.hid ((H1.out.through HKb.out).through hb2); have l2 := H2.out.cellAt (i := 2) rfl; clear hy2 hb2 k2))
  go_loopw [3, 25] (fun bv iv wr => ∃ (i : Nat) (Ai : Option Addr) (ni ci : Nat), i ≤ n ∧ iv = .int .i64 i ∧ bv = .slice Ai ni ci ∧ By wr (fun _ => True) Ai ni ([] ++ beB (u64N l.sq) 8 ++ beB (u64N l.tt) 8 ++ beB n 2 ++ encAll encLt (l.ls.take i)) ∧ Blk wr w.heap.size 25 [.int .i64 l.sq, .int .i64 l.tt, .slice A n c, .slice B m d] ∧ Below w.heap.size w wr) (fun _ iv _ => n - (intOf iv).toNat)
  case atStart => exact ⟨0, A2, n2, c2, Nat.zero_le _, rfl, rfl, by simpa [encAll] using HY2.out, H2.out, HX2.out⟩
  case round =>
    obtain ⟨i, Ai, ni, ci, hi, rfl, rfl, hy, hb, hx⟩ := hrel
    have HX := Lib.hid hx
    have HB := Lib.hid hb
    have HY := Lib.hid hy
    clear hx hy
    by_cases hlt : i < n
    · obtain ⟨g, o, x, hAe, hxi, hmem, _, hrg⟩ := (HI.out.through HX.out).lt_at hlt
      have hix : ∀ W, (Instr.indexAt 22 (.slice A n c) (.int .i64 (i : Int))).run Try.prog W = .ok (.pointer (some ⟨g, o + i * 6, none⟩)) W := fun W => by rw [hAe]; exact Try.ix_lt W g o n c i hlt
      obtain ⟨hl1, hl2, hl3⟩ := HOK.out x hmem
      have hle := HLE.out i
      have HTk := Lib.hid (encAll_take encLt hxi)
      have HRg := Lib.hid hrg
      clear hAe hxi hmem hrg hb
      go_wp2_with (refine wpList_load_mid rfl 27 (.tmp 27) rfl g (o + i * 6) rfl [.string (ba x.nm), .int .i64 x.st, .int .i64 x.am, .int .i64 x.du, .string (ba x.po), .string (ba x.pa)] _ HRg.out Try.underlying27 rfl (by kernel_rfl) ?_)
      try dsimp only [Act.put]
      have H5 : Hid (Blk (wr.alloc (.cells #[.string (ba x.nm), .int .i64 x.st, .int .i64 x.am, .int .i64 x.du, .string (ba x.po), .string (ba x.pa)] 27)) wr.heap.size 27 [.string (ba x.nm), .int .i64 x.st, .int .i64 x.am, .int .i64 x.du, .string (ba x.po), .string (ba x.pa)]) := Lib.hid (Blk.fresh rfl rfl)
      have HX5 : Hid (Below w.heap.size w (wr.alloc (.cells #[.string (ba x.nm), .int .i64 x.st, .int .i64 x.am, .int .i64 x.du, .string (ba x.po), .string (ba x.pa)] 27))) := Lib.hid (HX.out.alloc HX.out.size _)
      have HB5 := Lib.hid (HB.out.alloc (.cells #[.string (ba x.nm), .int .i64 x.st, .int .i64 x.am, .int .i64 x.du, .string (ba x.po), .string (ba x.pa)] 27))
      have HY5 := Lib.hid (HY.out.alloc (.cells #[.string (ba x.nm), .int .i64 x.st, .int .i64 x.am, .int .i64 x.du, .string (ba x.po), .string (ba x.pa)] 27))
      generalize hw5 : wr.alloc (.cells #[.string (ba x.nm), .int .i64 x.st, .int .i64 x.am, .int .i64 x.du, .string (ba x.po), .string (ba x.pa)] 27) = w5 at *
      generalize hg5 : wr.heap.size = g5 at *
      clear hw5 hg5
      generalize hP : [] ++ beB (u64N l.sq) 8 ++ beB (u64N l.tt) 8 ++ beB n 2 ++ encAll encLt (l.ls.take i) = P at *
      have hPl : P.length ≤ 9000 := by rw [← hP]; simp only [List.length_append, beB_length, List.length_nil]; omega
      have HPP := Lib.hid hP
      clear hP hle
      refine wp_region_held_drew (S := fun W => Below w5.heap.size w5 W) (by kernel_rfl) (Below.refl _ _).drew (fun hHeld => ?_)
      change wpAnyH _ _ _ _ _ _ #[false, false, false, false, false, false, false, false, false, false] _ _
      refine wpAnyH_take (i := 0) (v := (.slice Ai ni ci)) rfl (by kernel_rfl) (by kernel_rfl) (by kernel_rfl) (fun _ _ _ h => h) (Or.inl ⟨by kernel_rfl, fun w hSw => ?_⟩) (by assumption) ?_
      · (try dsimp only at hSw); go_simp <;> (try rfl)
      change wpAnyH _ _ _ _ _ _ _ (Act.put _ (some (29 : Nat)) (.slice Ai ni ci)) _
      simp only [Act.put, List.setIfInBounds_toArray, List.set_cons_zero, List.set_cons_succ]
      refine wpAnyH_take (i := 1) (v := (.pointer (some ⟨g5, 0, none⟩))) rfl (by kernel_rfl) (by kernel_rfl) (by kernel_rfl) (fun _ _ _ h => h) (Or.inl ⟨by kernel_rfl, fun w hSw => ?_⟩) (by assumption) ?_
      · (try dsimp only at hSw); go_simp <;> (try rfl)
      change wpAnyH _ _ _ _ _ _ _ (Act.put _ (some (30 : Nat)) (.pointer (some ⟨g5, 0, none⟩))) _
      simp only [Act.put, List.setIfInBounds_toArray, List.set_cons_zero, List.set_cons_succ]
      refine wpAnyH_take (i := 2) (v := (.string (ba x.nm))) rfl (by kernel_rfl) (by kernel_rfl) (by kernel_rfl) (fun _ _ _ h => h) (yields_load_at (by kernel_rfl) 9 (.tmp 30) rfl (.pointer (some ⟨g5, 0, none⟩)) (by simp [Act.eval]) (.string (ba x.nm)) (fun W hW => load_one' (Try.agg_s W) ((H5.out.through hW).cellAt (i := 0) rfl))) (by assumption) ?_
      change wpAnyH _ _ _ _ _ _ _ (Act.put _ (some (31 : Nat)) (.string (ba x.nm))) _
      simp only [Act.put, List.setIfInBounds_toArray, List.set_cons_zero, List.set_cons_succ]
      refine wpAnyH_take (i := 5) (v := (.pointer (some ⟨g5, 1, none⟩))) rfl (by kernel_rfl) (by kernel_rfl) (by kernel_rfl) (fun _ _ _ h => h) (Or.inl ⟨by kernel_rfl, fun w hSw => ?_⟩) (by assumption) ?_
      · (try dsimp only at hSw); go_simp <;> (try rfl)
      change wpAnyH _ _ _ _ _ _ _ (Act.put _ (some (34 : Nat)) (.pointer (some ⟨g5, 1, none⟩))) _
      simp only [Act.put, List.setIfInBounds_toArray, List.set_cons_zero, List.set_cons_succ]
      refine wpAnyH_take (i := 6) (v := (.int .i64 x.st)) rfl (by kernel_rfl) (by kernel_rfl) (by kernel_rfl) (fun _ _ _ h => h) (yields_load_at (by kernel_rfl) 3 (.tmp 34) rfl (.pointer (some ⟨g5, 1, none⟩)) (by simp [Act.eval]) (.int .i64 x.st) (fun W hW => load_one' (Try.agg_i W) ((H5.out.through hW).cellAt (i := 1) rfl))) (by assumption) ?_
      change wpAnyH _ _ _ _ _ _ _ (Act.put _ (some (35 : Nat)) (.int .i64 x.st)) _
      simp only [Act.put, List.setIfInBounds_toArray, List.set_cons_zero, List.set_cons_succ]
      refine wpAnyH_take (i := 7) (v := (.int .u64 ((u64N x.st : Nat) : Int))) rfl (by kernel_rfl) (by kernel_rfl) (by kernel_rfl) (fun _ _ _ h => h) (yields_conv (by kernel_rfl) 3 61 (.tmp 35) rfl (.int .i64 x.st) (by simp [Act.eval]) (.int .u64 ((u64N x.st : Nat) : Int)) (fun W hW => conv_u64 3 61 Try.underlying3 Try.underlying61 x.st W)) (by assumption) ?_
      change wpAnyH _ _ _ _ _ _ _ (Act.put _ (some (36 : Nat)) (.int .u64 ((u64N x.st : Nat) : Int))) _
      simp only [Act.put, List.setIfInBounds_toArray, List.set_cons_zero, List.set_cons_succ]
      refine wpAnyH_ready (rs := [3]) (by kernel_rfl) (by simp) ?_
      refine AllReadyH.cons (o := ⟨some 32, .convert 9 43 (.tmp 31), _, _, _, none⟩) rfl (fun K hK => ?_) AllReadyH.nil
      refine step_str_bytes rfl (.tmp 31) rfl x.nm (by simp [Act.eval]) ?_; intro Aa ca wa hya hba; have HYa := Lib.hid hya; have HKa := Lib.hid (below_step hHeld hba); clear hya hba
      refine hK.out _ _ HKa.out (fun hHeld1 => ?_)
      clear hHeld hK K
      have hHeld := hHeld1
      clear hHeld1
      change wpAnyH _ _ _ _ _ _ _ (Act.put _ (some (32 : Nat)) (.slice Aa x.nm.length ca)) _
      simp only [Act.put, List.setIfInBounds_toArray, List.set_cons_zero, List.set_cons_succ]
      refine wpAnyH_ready (rs := [4]) (by kernel_rfl) (by simp) ?_
      refine AllReadyH.cons rfl (fun K hK => ?_) AllReadyH.nil
      go_simp
      refine (rrow_by (HY5.out.through hHeld) HYa.out (by omega) (by omega)).mono ?_
      rintro e wb ⟨Ab, nb, cb, rfl, hyb, _, _, hbb⟩; have HYb := Lib.hid hyb; have HKb := Lib.hid (below_step hHeld hbb); clear hyb hbb
      go_wp2_with fail
      refine hK.out _ _ HKb.out (fun hHeld1 => ?_)
      clear hHeld hK K
      have hHeld := hHeld1
      clear hHeld1
      refine wpAnyH_ready (rs := [8]) (by kernel_rfl) (by simp) ?_
      refine AllReadyH.cons rfl (fun K hK => ?_) AllReadyH.nil
      go_simp
      refine (rput_by 1 rfl (u64N x.st) (u64N_lt64 _) (HYb.out) (by first | (simp; done) | (simp; omega))).mono ?_
      rintro e we ⟨Ae, ne, ce, rfl, hye, hce1, hce2, hbe⟩; have HCe := Lib.hid (And.intro hce1 hce2); clear hce1 hce2; have HYe := Lib.hid hye; have HKe := Lib.hid (below_step hHeld hbe); clear hye hbe
      go_wp2_with fail
      refine hK.out _ _ HKe.out (fun hHeld1 => ?_)
      clear hHeld hK K
      have hHeld := hHeld1
      clear hHeld1
      refine wpAnyH_take (i := 9) (v := (.slice Ae ne ce)) rfl (by kernel_rfl) (by kernel_rfl) (by kernel_rfl) (fun _ _ _ h => h) (Or.inl ⟨by kernel_rfl, fun w hSw => ?_⟩) (by assumption) ?_
      · (try dsimp only at hSw); go_simp <;> (try rfl)
      change wpAnyH _ _ _ _ _ _ _ (Act.put _ (some (3 : Nat)) (.slice Ae ne ce)) _
      simp only [Act.put, List.setIfInBounds_toArray, List.set_cons_zero, List.set_cons_succ]
      refine wpAnyH_done (by kernel_rfl) ?_ _
      go_wp2
      try dsimp only [Act.put]
      have H6 := Lib.hid (H5.out.through HKe.out)
      have HX6 : Hid (Below w.heap.size w we) := Lib.hid (below_step HX5.out HKe.out)
      have HB6 := Lib.hid (HB5.out.through HKe.out)
      have HY6 := HYe
      refine wp_region_held_drew (S := fun W => Below we.heap.size we W) (by kernel_rfl) (Below.refl _ _).drew (fun hHeld => ?_)
      change wpAnyH _ _ _ _ _ _ #[false, false, false, false, false, false, false, false, false, false] _ _
      refine wpAnyH_take (i := 0) (v := (.slice Ae ne ce)) rfl (by kernel_rfl) (by kernel_rfl) (by kernel_rfl) (fun _ _ _ h => h) (Or.inl ⟨by kernel_rfl, fun w hSw => ?_⟩) (by assumption) ?_
      · (try dsimp only at hSw); go_simp <;> (try rfl)
      change wpAnyH _ _ _ _ _ _ _ (Act.put _ (some (38 : Nat)) (.slice Ae ne ce)) _
      simp only [Act.put, List.setIfInBounds_toArray, List.set_cons_zero, List.set_cons_succ]
      refine wpAnyH_take (i := 1) (v := (.pointer (some ⟨g5, 2, none⟩))) rfl (by kernel_rfl) (by kernel_rfl) (by kernel_rfl) (fun _ _ _ h => h) (Or.inl ⟨by kernel_rfl, fun w hSw => ?_⟩) (by assumption) ?_
      · (try dsimp only at hSw); go_simp <;> (try rfl)
      change wpAnyH _ _ _ _ _ _ _ (Act.put _ (some (39 : Nat)) (.pointer (some ⟨g5, 2, none⟩))) _
      simp only [Act.put, List.setIfInBounds_toArray, List.set_cons_zero, List.set_cons_succ]
      refine wpAnyH_take (i := 2) (v := (.int .i64 x.am)) rfl (by kernel_rfl) (by kernel_rfl) (by kernel_rfl) (fun _ _ _ h => h) (yields_load_at (by kernel_rfl) 2 (.tmp 39) rfl (.pointer (some ⟨g5, 2, none⟩)) (by simp [Act.eval]) (.int .i64 x.am) (fun W hW => load_one' (Try.agg_l W) ((H6.out.through hW).cellAt (i := 2) rfl))) (by assumption) ?_
      change wpAnyH _ _ _ _ _ _ _ (Act.put _ (some (40 : Nat)) (.int .i64 x.am)) _
      simp only [Act.put, List.setIfInBounds_toArray, List.set_cons_zero, List.set_cons_succ]
      refine wpAnyH_take (i := 3) (v := (.int .u64 ((u64N x.am : Nat) : Int))) rfl (by kernel_rfl) (by kernel_rfl) (by kernel_rfl) (fun _ _ _ h => h) (yields_conv (by kernel_rfl) 2 61 (.tmp 40) rfl (.int .i64 x.am) (by simp [Act.eval]) (.int .u64 ((u64N x.am : Nat) : Int)) (fun W hW => conv_u64 2 61 Try.underlying2 Try.underlying61 x.am W)) (by assumption) ?_
      change wpAnyH _ _ _ _ _ _ _ (Act.put _ (some (41 : Nat)) (.int .u64 ((u64N x.am : Nat) : Int))) _
      simp only [Act.put, List.setIfInBounds_toArray, List.set_cons_zero, List.set_cons_succ]
      refine wpAnyH_take (i := 5) (v := (.pointer (some ⟨g5, 3, none⟩))) rfl (by kernel_rfl) (by kernel_rfl) (by kernel_rfl) (fun _ _ _ h => h) (Or.inl ⟨by kernel_rfl, fun w hSw => ?_⟩) (by assumption) ?_
      · (try dsimp only at hSw); go_simp <;> (try rfl)
      change wpAnyH _ _ _ _ _ _ _ (Act.put _ (some (43 : Nat)) (.pointer (some ⟨g5, 3, none⟩))) _
      simp only [Act.put, List.setIfInBounds_toArray, List.set_cons_zero, List.set_cons_succ]
      refine wpAnyH_take (i := 6) (v := (.int .i64 x.du)) rfl (by kernel_rfl) (by kernel_rfl) (by kernel_rfl) (fun _ _ _ h => h) (yields_load_at (by kernel_rfl) 2 (.tmp 43) rfl (.pointer (some ⟨g5, 3, none⟩)) (by simp [Act.eval]) (.int .i64 x.du) (fun W hW => load_one' (Try.agg_l W) ((H6.out.through hW).cellAt (i := 3) rfl))) (by assumption) ?_
      change wpAnyH _ _ _ _ _ _ _ (Act.put _ (some (44 : Nat)) (.int .i64 x.du)) _
      simp only [Act.put, List.setIfInBounds_toArray, List.set_cons_zero, List.set_cons_succ]
      refine wpAnyH_take (i := 7) (v := (.int .u64 ((u64N x.du : Nat) : Int))) rfl (by kernel_rfl) (by kernel_rfl) (by kernel_rfl) (fun _ _ _ h => h) (yields_conv (by kernel_rfl) 2 61 (.tmp 44) rfl (.int .i64 x.du) (by simp [Act.eval]) (.int .u64 ((u64N x.du : Nat) : Int)) (fun W hW => conv_u64 2 61 Try.underlying2 Try.underlying61 x.du W)) (by assumption) ?_
      change wpAnyH _ _ _ _ _ _ _ (Act.put _ (some (45 : Nat)) (.int .u64 ((u64N x.du : Nat) : Int))) _
      simp only [Act.put, List.setIfInBounds_toArray, List.set_cons_zero, List.set_cons_succ]
      refine wpAnyH_ready (rs := [4]) (by kernel_rfl) (by simp) ?_
      refine AllReadyH.cons rfl (fun K hK => ?_) AllReadyH.nil
      go_simp
      refine (rput_by 8 rfl (u64N x.am) (u64N_lt64 _) (HY6.out.through hHeld) (by first | (simp; done) | (simp; omega))).mono ?_
      rintro e wf ⟨Af, nf, cf, rfl, hyf, _, _, hbf⟩; have HYf := Lib.hid hyf; have HKf := Lib.hid (below_step hHeld hbf); clear hyf hbf
      go_wp2_with fail
      refine hK.out _ _ HKf.out (fun hHeld1 => ?_)
      clear hHeld hK K
      have hHeld := hHeld1
      clear hHeld1
      refine wpAnyH_ready (rs := [8]) (by kernel_rfl) (by simp) ?_
      refine AllReadyH.cons rfl (fun K hK => ?_) AllReadyH.nil
      go_simp
      refine (rput_by 8 rfl (u64N x.du) (u64N_lt64 _) (HYf.out) (by first | (simp; done) | (simp; omega))).mono ?_
      rintro e wh ⟨Ah, nh, ch, rfl, hyh, _, _, hbh⟩; have HYh := Lib.hid hyh; have HKh := Lib.hid (below_step hHeld hbh); clear hyh hbh
      go_wp2_with fail
      refine hK.out _ _ HKh.out (fun hHeld1 => ?_)
      clear hHeld hK K
      have hHeld := hHeld1
      clear hHeld1
      refine wpAnyH_take (i := 9) (v := (.slice Ah nh ch)) rfl (by kernel_rfl) (by kernel_rfl) (by kernel_rfl) (fun _ _ _ h => h) (Or.inl ⟨by kernel_rfl, fun w hSw => ?_⟩) (by assumption) ?_
      · (try dsimp only at hSw); go_simp <;> (try rfl)
      change wpAnyH _ _ _ _ _ _ _ (Act.put _ (some (3 : Nat)) (.slice Ah nh ch)) _
      simp only [Act.put, List.setIfInBounds_toArray, List.set_cons_zero, List.set_cons_succ]
      refine wpAnyH_done (by kernel_rfl) ?_ _
      go_wp2
      try dsimp only [Act.put]
      have H7 := Lib.hid (H6.out.through HKh.out)
      have HX7 : Hid (Below w.heap.size w wh) := Lib.hid (below_step HX6.out HKh.out)
      have HB7 := Lib.hid (HB6.out.through HKh.out)
      have HY7 := HYh
      refine wp_region_held_drew (S := fun W => Below wh.heap.size wh W) (by kernel_rfl) (Below.refl _ _).drew (fun hHeld => ?_)
      change wpAnyH _ _ _ _ _ _ #[false, false, false, false, false, false, false, false, false, false] _ _
      refine wpAnyH_take (i := 0) (v := (.slice Ah nh ch)) rfl (by kernel_rfl) (by kernel_rfl) (by kernel_rfl) (fun _ _ _ h => h) (Or.inl ⟨by kernel_rfl, fun w hSw => ?_⟩) (by assumption) ?_
      · (try dsimp only at hSw); go_simp <;> (try rfl)
      change wpAnyH _ _ _ _ _ _ _ (Act.put _ (some (47 : Nat)) (.slice Ah nh ch)) _
      simp only [Act.put, List.setIfInBounds_toArray, List.set_cons_zero, List.set_cons_succ]
      refine wpAnyH_take (i := 1) (v := (.pointer (some ⟨g5, 4, none⟩))) rfl (by kernel_rfl) (by kernel_rfl) (by kernel_rfl) (fun _ _ _ h => h) (Or.inl ⟨by kernel_rfl, fun w hSw => ?_⟩) (by assumption) ?_
      · (try dsimp only at hSw); go_simp <;> (try rfl)
      change wpAnyH _ _ _ _ _ _ _ (Act.put _ (some (48 : Nat)) (.pointer (some ⟨g5, 4, none⟩))) _
      simp only [Act.put, List.setIfInBounds_toArray, List.set_cons_zero, List.set_cons_succ]
      refine wpAnyH_take (i := 2) (v := (.string (ba x.po))) rfl (by kernel_rfl) (by kernel_rfl) (by kernel_rfl) (fun _ _ _ h => h) (yields_load_at (by kernel_rfl) 9 (.tmp 48) rfl (.pointer (some ⟨g5, 4, none⟩)) (by simp [Act.eval]) (.string (ba x.po)) (fun W hW => load_one' (Try.agg_s W) ((H7.out.through hW).cellAt (i := 4) rfl))) (by assumption) ?_
      change wpAnyH _ _ _ _ _ _ _ (Act.put _ (some (49 : Nat)) (.string (ba x.po))) _
      simp only [Act.put, List.setIfInBounds_toArray, List.set_cons_zero, List.set_cons_succ]
      refine wpAnyH_take (i := 5) (v := (.pointer (some ⟨g5, 5, none⟩))) rfl (by kernel_rfl) (by kernel_rfl) (by kernel_rfl) (fun _ _ _ h => h) (Or.inl ⟨by kernel_rfl, fun w hSw => ?_⟩) (by assumption) ?_
      · (try dsimp only at hSw); go_simp <;> (try rfl)
      change wpAnyH _ _ _ _ _ _ _ (Act.put _ (some (52 : Nat)) (.pointer (some ⟨g5, 5, none⟩))) _
      simp only [Act.put, List.setIfInBounds_toArray, List.set_cons_zero, List.set_cons_succ]
      refine wpAnyH_take (i := 6) (v := (.string (ba x.pa))) rfl (by kernel_rfl) (by kernel_rfl) (by kernel_rfl) (fun _ _ _ h => h) (yields_load_at (by kernel_rfl) 9 (.tmp 52) rfl (.pointer (some ⟨g5, 5, none⟩)) (by simp [Act.eval]) (.string (ba x.pa)) (fun W hW => load_one' (Try.agg_s W) ((H7.out.through hW).cellAt (i := 5) rfl))) (by assumption) ?_
      change wpAnyH _ _ _ _ _ _ _ (Act.put _ (some (53 : Nat)) (.string (ba x.pa))) _
      simp only [Act.put, List.setIfInBounds_toArray, List.set_cons_zero, List.set_cons_succ]
      refine wpAnyH_ready (rs := [3, 7]) (by kernel_rfl) (by simp) ?_
      refine AllReadyH.cons (o := ⟨some 50, .convert 9 43 (.tmp 49), _, _, _, none⟩) rfl (fun K hK => ?_) (AllReadyH.cons (o := ⟨some 54, .convert 9 43 (.tmp 53), _, _, _, none⟩) rfl (fun K hK => ?_) AllReadyH.nil)
      · as_aux_lemma =>
        refine step_str_bytes rfl (.tmp 49) rfl x.po (by simp [Act.eval]) ?_; intro As cs ws hys hbs; have HYs := Lib.hid hys; have HKs := Lib.hid (below_step hHeld hbs); have HBs := Lib.hid hbs; clear hys hbs
        refine hK.out _ _ HKs.out (fun hHeld1 => ?_)
        clear hHeld hK K
        have hHeld := hHeld1
        clear hHeld1
        change wpAnyH _ _ _ _ _ _ _ (Act.put _ (some (50 : Nat)) (.slice As x.po.length cs)) _
        simp only [Act.put, List.setIfInBounds_toArray, List.set_cons_zero, List.set_cons_succ]
        refine wpAnyH_ready (rs := [4, 7]) (by kernel_rfl) (by simp) ?_
        refine AllReadyH.cons rfl (fun K hK => ?_) (AllReadyH.cons (o := ⟨some 54, .convert 9 43 (.tmp 53), _, _, _, none⟩) rfl (fun K hK => ?_) AllReadyH.nil)
        · as_aux_lemma =>
          go_simp
          refine (rrow_by (HY7.out.through hHeld) HYs.out (by first | (simp; done) | (simp; omega)) (by omega)).mono ?_
          rintro e wr ⟨Ar, nr, cr, rfl, hyr, _, _, hbr⟩; have HYr := Lib.hid hyr; have HKr := Lib.hid (below_step hHeld hbr); have HBr := Lib.hid hbr; clear hyr hbr
          go_wp2_with fail
          refine hK.out _ _ HKr.out (fun hHeld1 => ?_)
          clear hHeld hK K
          have hHeld := hHeld1
          clear hHeld1
          refine wpAnyH_ready (rs := [7]) (by kernel_rfl) (by simp) ?_
          refine AllReadyH.cons (o := ⟨some 54, .convert 9 43 (.tmp 53), _, _, _, none⟩) rfl (fun K hK => ?_) AllReadyH.nil
          refine step_str_bytes rfl (.tmp 53) rfl x.pa (by simp [Act.eval]) ?_; intro At ct wt hyt hbt; have HYt := Lib.hid hyt; have HKt := Lib.hid (below_step hHeld hbt); have HBt := Lib.hid hbt; clear hyt hbt
          refine hK.out _ _ HKt.out (fun hHeld1 => ?_)
          clear hHeld hK K
          have hHeld := hHeld1
          clear hHeld1
          change wpAnyH _ _ _ _ _ _ _ (Act.put _ (some (54 : Nat)) (.slice At x.pa.length ct)) _
          simp only [Act.put, List.setIfInBounds_toArray, List.set_cons_zero, List.set_cons_succ]
          refine wpAnyH_ready (rs := [8]) (by kernel_rfl) (by simp) ?_
          refine AllReadyH.cons rfl (fun K hK => ?_) AllReadyH.nil
          go_simp
          refine (rrow_by (HYr.out.through HBt.out) HYt.out (by first | (simp; done) | (simp; omega)) (by omega)).mono ?_
          rintro e wq ⟨Aq, nq, cq, rfl, hyq, _, _, hbq⟩; have HYq := Lib.hid hyq; have HKq := Lib.hid (below_step hHeld hbq); clear hyq hbq
          go_wp2_with fail
          refine hK.out _ _ HKq.out (fun hHeld1 => ?_)
          clear hHeld hK K
          have hHeld := hHeld1
          clear hHeld1
          refine wpAnyH_take (i := 9) (v := (.slice Aq nq cq)) rfl (by kernel_rfl) (by kernel_rfl) (by kernel_rfl) (fun _ _ _ h => h) (Or.inl ⟨by kernel_rfl, fun w hSw => ?_⟩) (by assumption) ?_
          · (try dsimp only at hSw); go_simp <;> (try rfl)
          change wpAnyH _ _ _ _ _ _ _ (Act.put _ (some (3 : Nat)) (.slice Aq nq cq)) _
          simp only [Act.put, List.setIfInBounds_toArray, List.set_cons_zero, List.set_cons_succ]
          refine wpAnyH_done (by kernel_rfl) ?_ _
          go_wp2
          go_roundw
          case rel => exact ⟨i + 1, Aq, nq, cq, by omega, by go_num, rfl, by (have h1 := HYq.out; rw [HTk.out, ← List.append_assoc, HPP.out]; simpa only [encLt, List.append_assoc] using h1), HB7.out.through HKq.out, below_step HX7.out HKq.out⟩
          case measure => simp [intOf]; omega
        · as_aux_lemma =>
          refine step_str_bytes rfl (.tmp 53) rfl x.pa (by simp [Act.eval]) ?_; intro At ct wt hyt hbt; have HYt := Lib.hid hyt; have HKt := Lib.hid (below_step hHeld hbt); have HBt := Lib.hid hbt; clear hyt hbt
          refine hK.out _ _ HKt.out (fun hHeld1 => ?_)
          clear hHeld hK K
          have hHeld := hHeld1
          clear hHeld1
          change wpAnyH _ _ _ _ _ _ _ (Act.put _ (some (54 : Nat)) (.slice At x.pa.length ct)) _
          simp only [Act.put, List.setIfInBounds_toArray, List.set_cons_zero, List.set_cons_succ]
          refine wpAnyH_ready (rs := [4]) (by kernel_rfl) (by simp) ?_
          refine AllReadyH.cons rfl (fun K hK => ?_) AllReadyH.nil
          go_simp
          refine (rrow_by (HY7.out.through hHeld) (HYs.out.through HBt.out) (by first | (simp; done) | (simp; omega)) (by omega)).mono ?_
          rintro e wr ⟨Ar, nr, cr, rfl, hyr, _, _, hbr⟩; have HYr := Lib.hid hyr; have HKr := Lib.hid (below_step hHeld hbr); have HBr := Lib.hid hbr; clear hyr hbr
          go_wp2_with fail
          refine hK.out _ _ HKr.out (fun hHeld1 => ?_)
          clear hHeld hK K
          have hHeld := hHeld1
          clear hHeld1
          refine wpAnyH_ready (rs := [8]) (by kernel_rfl) (by simp) ?_
          refine AllReadyH.cons rfl (fun K hK => ?_) AllReadyH.nil
          go_simp
          refine (rrow_by HYr.out (HYt.out.through HBr.out) (by first | (simp; done) | (simp; omega)) (by omega)).mono ?_
          rintro e wq ⟨Aq, nq, cq, rfl, hyq, _, _, hbq⟩; have HYq := Lib.hid hyq; have HKq := Lib.hid (below_step hHeld hbq); clear hyq hbq
          go_wp2_with fail
          refine hK.out _ _ HKq.out (fun hHeld1 => ?_)
          clear hHeld hK K
          have hHeld := hHeld1
          clear hHeld1
          refine wpAnyH_take (i := 9) (v := (.slice Aq nq cq)) rfl (by kernel_rfl) (by kernel_rfl) (by kernel_rfl) (fun _ _ _ h => h) (Or.inl ⟨by kernel_rfl, fun w hSw => ?_⟩) (by assumption) ?_
          · (try dsimp only at hSw); go_simp <;> (try rfl)
          change wpAnyH _ _ _ _ _ _ _ (Act.put _ (some (3 : Nat)) (.slice Aq nq cq)) _
          simp only [Act.put, List.setIfInBounds_toArray, List.set_cons_zero, List.set_cons_succ]
          refine wpAnyH_done (by kernel_rfl) ?_ _
          go_wp2
          go_roundw
          case rel => exact ⟨i + 1, Aq, nq, cq, by omega, by go_num, rfl, by (have h1 := HYq.out; rw [HTk.out, ← List.append_assoc, HPP.out]; simpa only [encLt, List.append_assoc] using h1), HB7.out.through HKq.out, below_step HX7.out HKq.out⟩
          case measure => simp [intOf]; omega
      · as_aux_lemma =>
        refine step_str_bytes rfl (.tmp 53) rfl x.pa (by simp [Act.eval]) ?_; intro At ct wt hyt hbt; have HYt := Lib.hid hyt; have HKt := Lib.hid (below_step hHeld hbt); have HBt := Lib.hid hbt; clear hyt hbt
        refine hK.out _ _ HKt.out (fun hHeld1 => ?_)
        clear hHeld hK K
        have hHeld := hHeld1
        clear hHeld1
        change wpAnyH _ _ _ _ _ _ _ (Act.put _ (some (54 : Nat)) (.slice At x.pa.length ct)) _
        simp only [Act.put, List.setIfInBounds_toArray, List.set_cons_zero, List.set_cons_succ]
        refine wpAnyH_ready (rs := [3]) (by kernel_rfl) (by simp) ?_
        refine AllReadyH.cons (o := ⟨some 50, .convert 9 43 (.tmp 49), _, _, _, none⟩) rfl (fun K hK => ?_) AllReadyH.nil
        refine step_str_bytes rfl (.tmp 49) rfl x.po (by simp [Act.eval]) ?_; intro As cs ws hys hbs; have HYs := Lib.hid hys; have HKs := Lib.hid (below_step hHeld hbs); have HBs := Lib.hid hbs; clear hys hbs
        refine hK.out _ _ HKs.out (fun hHeld1 => ?_)
        clear hHeld hK K
        have hHeld := hHeld1
        clear hHeld1
        change wpAnyH _ _ _ _ _ _ _ (Act.put _ (some (50 : Nat)) (.slice As x.po.length cs)) _
        simp only [Act.put, List.setIfInBounds_toArray, List.set_cons_zero, List.set_cons_succ]
        refine wpAnyH_ready (rs := [4]) (by kernel_rfl) (by simp) ?_
        refine AllReadyH.cons rfl (fun K hK => ?_) AllReadyH.nil
        go_simp
        refine (rrow_by (HY7.out.through hHeld) HYs.out (by first | (simp; done) | (simp; omega)) (by omega)).mono ?_
        rintro e wr ⟨Ar, nr, cr, rfl, hyr, _, _, hbr⟩; have HYr := Lib.hid hyr; have HKr := Lib.hid (below_step hHeld hbr); have HBr := Lib.hid hbr; clear hyr hbr
        go_wp2_with fail
        refine hK.out _ _ HKr.out (fun hHeld1 => ?_)
        clear hHeld hK K
        have hHeld := hHeld1
        clear hHeld1
        refine wpAnyH_ready (rs := [8]) (by kernel_rfl) (by simp) ?_
        refine AllReadyH.cons rfl (fun K hK => ?_) AllReadyH.nil
        go_simp
        refine (rrow_by HYr.out ((HYt.out.through HBs.out).through HBr.out) (by first | (simp; done) | (simp; omega)) (by omega)).mono ?_
        rintro e wq ⟨Aq, nq, cq, rfl, hyq, _, _, hbq⟩; have HYq := Lib.hid hyq; have HKq := Lib.hid (below_step hHeld hbq); clear hyq hbq
        go_wp2_with fail
        refine hK.out _ _ HKq.out (fun hHeld1 => ?_)
        clear hHeld hK K
        have hHeld := hHeld1
        clear hHeld1
        refine wpAnyH_take (i := 9) (v := (.slice Aq nq cq)) rfl (by kernel_rfl) (by kernel_rfl) (by kernel_rfl) (fun _ _ _ h => h) (Or.inl ⟨by kernel_rfl, fun w hSw => ?_⟩) (by assumption) ?_
        · (try dsimp only at hSw); go_simp <;> (try rfl)
        change wpAnyH _ _ _ _ _ _ _ (Act.put _ (some (3 : Nat)) (.slice Aq nq cq)) _
        simp only [Act.put, List.setIfInBounds_toArray, List.set_cons_zero, List.set_cons_succ]
        refine wpAnyH_done (by kernel_rfl) ?_ _
        go_wp2
        go_roundw
        case rel => exact ⟨i + 1, Aq, nq, cq, by omega, by go_num, rfl, by (have h1 := HYq.out; rw [HTk.out, ← List.append_assoc, HPP.out]; simpa only [encLt, List.append_assoc] using h1), HB7.out.through HKq.out, below_step HX7.out HKq.out⟩
        case measure => simp [intOf]; omega
    · have e : l.ls.take i = l.ls := List.take_of_length_le (by have := HLN.out; omega)
      have hy := HY.out
      rw [e] at hy
      have hl0 := HLE.out n
      have e2 : l.ls.take n = l.ls := List.take_of_length_le (by have := HLN.out; omega)
      rw [e2] at hl0
      have HYe := Lib.hid hy
      have l3 := hb.cellAt (i := 3) rfl
      clear hy e e2 hb HY
      generalize hP : [] ++ beB (u64N l.sq) 8 ++ beB (u64N l.tt) 8 ++ beB n 2 ++ encAll encLt l.ls = P at *
      have hPl : P.length ≤ 9000 := by rw [← hP]; simp only [List.length_append, beB_length, List.length_nil]; omega
      have HPP := Lib.hid hP
      clear hP hl0
      go_wp2_with ((go_at_call 59; (refine (rput_by 2 rfl m (by omega) HYe.out (by omega)).mono ?_); rintro e w3 ⟨A3, n3, c3, rfl, hy3, hc31, hc32, hb3⟩; have HC3 := Lib.hid (And.intro hc31 hc32); clear hc31 hc32; have HY3 := Lib.hid hy3; have HX3 : Hid (Below w.heap.size w w3) := Lib.hid (below_step HX.out hb3); have H3 : Hid (Blk w3 w.heap.size 25 [.int .i64 l.sq, .int .i64 l.tt, .slice A n c, .slice B m d]) := Lib.hid (HB.out.through hb3); have m3 := H3.out.cellAt (i := 3) rfl; clear hy3 hb3 l3))
      go_loopw [3, 66] (fun bv iv wr => ∃ (i : Nat) (Ai : Option Addr) (ni ci : Nat), i ≤ m ∧ iv = .int .i64 i ∧ bv = .slice Ai ni ci ∧ By wr (fun _ => True) Ai ni (P ++ beB m 2 ++ encAll encOc (l.os.take i)) ∧ ni ≤ ci ∧ ci ≤ maxLen ∧ Blk wr w.heap.size 25 [.int .i64 l.sq, .int .i64 l.tt, .slice A n c, .slice B m d] ∧ Below w.heap.size w wr) (fun _ iv _ => m - (intOf iv).toNat)
      case atStart => exact ⟨0, A3, n3, c3, Nat.zero_le _, rfl, rfl, by simpa [encAll] using HY3.out, HC3.out.1, HC3.out.2, H3.out, HX3.out⟩
      case round =>
        obtain ⟨i, Ai, ni, ci, hi, rfl, rfl, hy, hc1, hc2, hb, hx⟩ := hrel
        have HXo := Lib.hid hx
        have HBo := Lib.hid hb
        have HYo := Lib.hid hy
        clear hx hy hb
        by_cases hlt : i < m
        · obtain ⟨g, o, x, hBe, hxi, hmem, _, hrg⟩ := (HI.out.through HXo.out).oc_at hlt
          have hix : ∀ W, (Instr.indexAt 23 (.slice B m d) (.int .i64 (i : Int))).run Try.prog W = .ok (.pointer (some ⟨g, o + i * 3, none⟩)) W := fun W => by rw [hBe]; exact Try.ix_oc W g o m d i hlt
          have hoe := HOE.out i
          have HTk := Lib.hid (encAll_take encOc hxi)
          have HRg := Lib.hid hrg
          clear hBe hxi hmem hrg
          go_wp2_with (refine wpList_load_mid rfl 30 (.tmp 68) rfl g (o + i * 3) rfl [.int .i64 x.cl, .int .i64 x.sp, .int .i64 x.rs] _ HRg.out Try.underlying30 rfl (by kernel_rfl) ?_)
          try dsimp only [Act.put]
          have H5 : Hid (Blk (wr.alloc (.cells #[.int .i64 x.cl, .int .i64 x.sp, .int .i64 x.rs] 30)) wr.heap.size 30 [.int .i64 x.cl, .int .i64 x.sp, .int .i64 x.rs]) := Lib.hid (Blk.fresh rfl rfl)
          have HX5 : Hid (Below w.heap.size w (wr.alloc (.cells #[.int .i64 x.cl, .int .i64 x.sp, .int .i64 x.rs] 30))) := Lib.hid (HXo.out.alloc HXo.out.size _)
          have HB5 := Lib.hid (HBo.out.alloc (.cells #[.int .i64 x.cl, .int .i64 x.sp, .int .i64 x.rs] 30))
          have HY5 := Lib.hid (HYo.out.alloc (.cells #[.int .i64 x.cl, .int .i64 x.sp, .int .i64 x.rs] 30))
          generalize hw5 : wr.alloc (.cells #[.int .i64 x.cl, .int .i64 x.sp, .int .i64 x.rs] 30) = w5 at *
          generalize hg5 : wr.heap.size = g5 at *
          clear hw5 hg5
          refine wp_region_held_drew (S := fun W => Below w5.heap.size w5 W) (by kernel_rfl) (Below.refl _ _).drew (fun hHeld => ?_)
          change wpAnyH _ _ _ _ _ _ #[false, false, false, false, false, false, false, false, false, false, false, false, false, false] _ _
          refine wpAnyH_take (i := 0) (v := (.slice Ai ni ci)) rfl (by kernel_rfl) (by kernel_rfl) (by kernel_rfl) (fun _ _ _ h => h) (Or.inl ⟨by kernel_rfl, fun w hSw => ?_⟩) (by assumption) ?_
          · (try dsimp only at hSw); go_simp <;> (try rfl)
          change wpAnyH _ _ _ _ _ _ _ (Act.put _ (some (70 : Nat)) (.slice Ai ni ci)) _
          simp only [Act.put, List.setIfInBounds_toArray, List.set_cons_zero, List.set_cons_succ]
          refine wpAnyH_take (i := 1) (v := (.pointer (some ⟨g5, 0, none⟩))) rfl (by kernel_rfl) (by kernel_rfl) (by kernel_rfl) (fun _ _ _ h => h) (Or.inl ⟨by kernel_rfl, fun w hSw => ?_⟩) (by assumption) ?_
          · (try dsimp only at hSw); go_simp <;> (try rfl)
          change wpAnyH _ _ _ _ _ _ _ (Act.put _ (some (71 : Nat)) (.pointer (some ⟨g5, 0, none⟩))) _
          simp only [Act.put, List.setIfInBounds_toArray, List.set_cons_zero, List.set_cons_succ]
          refine wpAnyH_take (i := 2) (v := (.int .i64 x.cl)) rfl (by kernel_rfl) (by kernel_rfl) (by kernel_rfl) (fun _ _ _ h => h) (yields_load_at (by kernel_rfl) 3 (.tmp 71) rfl (.pointer (some ⟨g5, 0, none⟩)) (by simp [Act.eval]) (.int .i64 x.cl) (fun W hW => load_one' (Try.agg_i W) ((H5.out.through hW).cellAt (i := 0) rfl))) (by assumption) ?_
          change wpAnyH _ _ _ _ _ _ _ (Act.put _ (some (72 : Nat)) (.int .i64 x.cl)) _
          simp only [Act.put, List.setIfInBounds_toArray, List.set_cons_zero, List.set_cons_succ]
          refine wpAnyH_take (i := 3) (v := (.int .u64 ((u64N x.cl : Nat) : Int))) rfl (by kernel_rfl) (by kernel_rfl) (by kernel_rfl) (fun _ _ _ h => h) (yields_conv (by kernel_rfl) 3 61 (.tmp 72) rfl (.int .i64 x.cl) (by simp [Act.eval]) (.int .u64 ((u64N x.cl : Nat) : Int)) (fun W hW => conv_u64 3 61 Try.underlying3 Try.underlying61 x.cl W)) (by assumption) ?_
          change wpAnyH _ _ _ _ _ _ _ (Act.put _ (some (73 : Nat)) (.int .u64 ((u64N x.cl : Nat) : Int))) _
          simp only [Act.put, List.setIfInBounds_toArray, List.set_cons_zero, List.set_cons_succ]
          refine wpAnyH_take (i := 5) (v := (.pointer (some ⟨g5, 1, none⟩))) rfl (by kernel_rfl) (by kernel_rfl) (by kernel_rfl) (fun _ _ _ h => h) (Or.inl ⟨by kernel_rfl, fun w hSw => ?_⟩) (by assumption) ?_
          · (try dsimp only at hSw); go_simp <;> (try rfl)
          change wpAnyH _ _ _ _ _ _ _ (Act.put _ (some (75 : Nat)) (.pointer (some ⟨g5, 1, none⟩))) _
          simp only [Act.put, List.setIfInBounds_toArray, List.set_cons_zero, List.set_cons_succ]
          refine wpAnyH_take (i := 6) (v := (.int .i64 x.sp)) rfl (by kernel_rfl) (by kernel_rfl) (by kernel_rfl) (fun _ _ _ h => h) (yields_load_at (by kernel_rfl) 2 (.tmp 75) rfl (.pointer (some ⟨g5, 1, none⟩)) (by simp [Act.eval]) (.int .i64 x.sp) (fun W hW => load_one' (Try.agg_l W) ((H5.out.through hW).cellAt (i := 1) rfl))) (by assumption) ?_
          change wpAnyH _ _ _ _ _ _ _ (Act.put _ (some (76 : Nat)) (.int .i64 x.sp)) _
          simp only [Act.put, List.setIfInBounds_toArray, List.set_cons_zero, List.set_cons_succ]
          refine wpAnyH_take (i := 7) (v := (.int .u64 ((u64N x.sp : Nat) : Int))) rfl (by kernel_rfl) (by kernel_rfl) (by kernel_rfl) (fun _ _ _ h => h) (yields_conv (by kernel_rfl) 2 61 (.tmp 76) rfl (.int .i64 x.sp) (by simp [Act.eval]) (.int .u64 ((u64N x.sp : Nat) : Int)) (fun W hW => conv_u64 2 61 Try.underlying2 Try.underlying61 x.sp W)) (by assumption) ?_
          change wpAnyH _ _ _ _ _ _ _ (Act.put _ (some (77 : Nat)) (.int .u64 ((u64N x.sp : Nat) : Int))) _
          simp only [Act.put, List.setIfInBounds_toArray, List.set_cons_zero, List.set_cons_succ]
          refine wpAnyH_take (i := 9) (v := (.pointer (some ⟨g5, 2, none⟩))) rfl (by kernel_rfl) (by kernel_rfl) (by kernel_rfl) (fun _ _ _ h => h) (Or.inl ⟨by kernel_rfl, fun w hSw => ?_⟩) (by assumption) ?_
          · (try dsimp only at hSw); go_simp <;> (try rfl)
          change wpAnyH _ _ _ _ _ _ _ (Act.put _ (some (79 : Nat)) (.pointer (some ⟨g5, 2, none⟩))) _
          simp only [Act.put, List.setIfInBounds_toArray, List.set_cons_zero, List.set_cons_succ]
          refine wpAnyH_take (i := 10) (v := (.int .i64 x.rs)) rfl (by kernel_rfl) (by kernel_rfl) (by kernel_rfl) (fun _ _ _ h => h) (yields_load_at (by kernel_rfl) 28 (.tmp 79) rfl (.pointer (some ⟨g5, 2, none⟩)) (by simp [Act.eval]) (.int .i64 x.rs) (fun W hW => load_one' (Try.agg_e W) ((H5.out.through hW).cellAt (i := 2) rfl))) (by assumption) ?_
          change wpAnyH _ _ _ _ _ _ _ (Act.put _ (some (80 : Nat)) (.int .i64 x.rs)) _
          simp only [Act.put, List.setIfInBounds_toArray, List.set_cons_zero, List.set_cons_succ]
          refine wpAnyH_take (i := 11) (v := (.int .u64 ((u64N x.rs : Nat) : Int))) rfl (by kernel_rfl) (by kernel_rfl) (by kernel_rfl) (fun _ _ _ h => h) (yields_conv (by kernel_rfl) 28 61 (.tmp 80) rfl (.int .i64 x.rs) (by simp [Act.eval]) (.int .u64 ((u64N x.rs : Nat) : Int)) (fun W hW => conv_u64 28 61 Try.underlying28 Try.underlying61 x.rs W)) (by assumption) ?_
          change wpAnyH _ _ _ _ _ _ _ (Act.put _ (some (81 : Nat)) (.int .u64 ((u64N x.rs : Nat) : Int))) _
          simp only [Act.put, List.setIfInBounds_toArray, List.set_cons_zero, List.set_cons_succ]
          refine wpAnyH_ready (rs := [4]) (by kernel_rfl) (by simp) ?_
          refine AllReadyH.cons rfl (fun K hK => ?_) AllReadyH.nil
          go_simp
          refine (rput_by 1 rfl (u64N x.cl) (u64N_lt64 _) (HY5.out.through hHeld) (by first | (simp; done) | (simp; omega))).mono ?_
          rintro e wa ⟨Aa, na, ca, rfl, hya, _, _, hba⟩; have HYa := Lib.hid hya; have HKa := Lib.hid (below_step hHeld hba); clear hya hba
          go_wp2_with fail
          refine hK.out _ _ HKa.out (fun hHeld1 => ?_)
          clear hHeld hK K
          have hHeld := hHeld1
          clear hHeld1
          refine wpAnyH_ready (rs := [8]) (by kernel_rfl) (by simp) ?_
          refine AllReadyH.cons rfl (fun K hK => ?_) AllReadyH.nil
          go_simp
          refine (rput_by 8 rfl (u64N x.sp) (u64N_lt64 _) (HYa.out) (by first | (simp; done) | (simp; omega))).mono ?_
          rintro e wb ⟨Ab, nb, cb, rfl, hyb, _, _, hbb⟩; have HYb := Lib.hid hyb; have HKb := Lib.hid (below_step hHeld hbb); clear hyb hbb
          go_wp2_with fail
          refine hK.out _ _ HKb.out (fun hHeld1 => ?_)
          clear hHeld hK K
          have hHeld := hHeld1
          clear hHeld1
          refine wpAnyH_ready (rs := [12]) (by kernel_rfl) (by simp) ?_
          refine AllReadyH.cons rfl (fun K hK => ?_) AllReadyH.nil
          go_simp
          refine (rput_by 1 rfl (u64N x.rs) (u64N_lt64 _) (HYb.out) (by first | (simp; done) | (simp; omega))).mono ?_
          rintro e we ⟨Ae, ne, ce, rfl, hye, hce1, hce2, hbe⟩; have HCe := Lib.hid (And.intro hce1 hce2); clear hce1 hce2; have HYe := Lib.hid hye; have HKe := Lib.hid (below_step hHeld hbe); clear hye hbe
          go_wp2_with fail
          refine hK.out _ _ HKe.out (fun hHeld1 => ?_)
          clear hHeld hK K
          have hHeld := hHeld1
          clear hHeld1
          refine wpAnyH_take (i := 13) (v := (.slice Ae ne ce)) rfl (by kernel_rfl) (by kernel_rfl) (by kernel_rfl) (fun _ _ _ h => h) (Or.inl ⟨by kernel_rfl, fun w hSw => ?_⟩) (by assumption) ?_
          · (try dsimp only at hSw); go_simp <;> (try rfl)
          change wpAnyH _ _ _ _ _ _ _ (Act.put _ (some (3 : Nat)) (.slice Ae ne ce)) _
          simp only [Act.put, List.setIfInBounds_toArray, List.set_cons_zero, List.set_cons_succ]
          refine wpAnyH_done (by kernel_rfl) ?_ _
          go_wp2
          go_roundw
          case rel => exact ⟨i + 1, Ae, ne, ce, by omega, by go_num, rfl, by (have h1 := HYe.out; rw [HTk.out]; simpa only [encOc, List.append_assoc] using h1), HCe.out.1, HCe.out.2, HB5.out.through HKe.out, below_step HX5.out HKe.out⟩
          case measure => simp [intOf]; omega
        · have e : l.os.take i = l.os := List.take_of_length_le (by have := HLN.out; omega)
          have hy := HYo.out
          rw [e] at hy
          have HYe := Lib.hid hy
          clear hy e
          go_wp2
          go_ret
          exact ⟨Ai, ni, ci, rfl, by (have h1 := HYe.out; rw [← HBS.out, HEND.out]; rw [← HPP.out] at h1; simpa only [List.nil_append, List.append_assoc] using h1), hc1, hc2, HXo.out⟩

end Go.Proofs.Ytkbeodlihmmdbaa
