/-
  The document's Right (may a ledger be?), walked.
-/
import Derived.Test.YtkbeodlihmmdbaaLgR
import Derived.Test.YtkbeodlihmmdbaaLgB
namespace Go.Proofs.Ytkbeodlihmmdbaa
open Go.RowKit

theorem osOk_bad (p : Option Oc) (xs : List Oc) {x : Oc} (h : ocOk x = false) : osOk p (x :: xs) = false := by
  cases p <;> simp [osOk, h]
theorem osOk_first (xs : List Oc) {x : Oc} (h : ocOk x = true) : osOk none (x :: xs) = osOk (some x) xs := by simp [osOk, h]
theorem osOk_next (xs : List Oc) {y x : Oc} (hl : y.cl < x.cl) (h : ocOk x = true) : osOk (some y) (x :: xs) = osOk (some x) xs := by simp [osOk, h, hl]
theorem osOk_order (xs : List Oc) {y x : Oc} (hl : ¬ y.cl < x.cl) : osOk (some y) (x :: xs) = false := by simp [osOk, hl]
theorem Lg.right_eq (l : Lg) : l.right = (osOk none l.os && (decide (0 ≤ l.sq) && (decide (l.sq ≤ 1048576) && (isM l.tt && (decide (l.os.length ≤ 4) && (lsOk none l.ls && decide (l.ls.length ≤ 16))))))) := by
  unfold Lg.right
  generalize decide (0 ≤ l.sq) = a1
  generalize decide (l.sq ≤ 1048576) = a2
  generalize isM l.tt = a3
  generalize decide (l.os.length ≤ 4) = a4
  generalize decide (l.ls.length ≤ 16) = a5
  generalize lsOk none l.ls = a6
  generalize osOk none l.os = a7
  revert a1 a2 a3 a4 a5 a6 a7
  decide
/-- A cell of an outcome in a slice. -/
theorem LgIn.oc_cell {w : World} {A : Option Addr} {n : Nat} {g o m : Nat} {l : Lg} (h : LgIn w A n (some ⟨g, o, none⟩) m l) {j : Nat} {y : Oc} (hy : l.os[j]? = some y) (k : Nat) (v : Value) (hv : y.cells[k]? = some v) : w.cell? ⟨g, o + j * 3 + k, none⟩ = some v := by
  have hj : j < m := by
    have h1 := (List.getElem?_eq_some_iff.1 hy).1
    have h2 := h.len
    omega
  obtain ⟨g', o', y', e, h1, _, _, h2⟩ := h.oc_at hj
  injection e with e
  injection e with e1 e2
  subst e1 e2
  rw [hy] at h1
  injection h1 with h1
  subst h1
  exact h2 k v hv

set_option maxHeartbeats 16000000 in
set_option maxRecDepth 100000 in
theorem rright_any (l : Lg) (A : Option Addr) (n c : Nat) (B : Option Addr) (m d : Nat) (w : World) (h : LgIn w A n B m l) (hn : n ≤ 1000) (hm : m ≤ 1000) (hnl : ∀ x ∈ l.ls, x.nm.length ≤ 1000000) :
    Calls Try.prog 22 #[l.val A n c B m d] w fun e w' => e = .returned (.bool l.right) ∧ Below w.heap.size w w' := by
  have HI := Lib.hid h
  have hls : ∀ W, Below w.heap.size w W → Calls Try.prog 49 #[.slice A n c] W fun e w' => e = .returned (.bool (lsOk none l.ls && decide (l.ls.length ≤ 16))) ∧ Below W.heap.size W w' := fun W hW => rletters_any l.ls A n c W (h.1.through hW) hn hnl
  have hmm : ∀ W, Calls Try.prog 48 #[.int .i64 l.tt] W fun e w' => e = .returned (.bool (isM l.tt)) ∧ w' = W := fun W => ris_any l.tt W
  have HLs := Lib.hid hls
  have HM := Lib.hid hmm
  have hix := fun (W : World) (g o j : Nat) (hj : j < m) => Try.ix_oc W g o m d j hj
  have HIX := Lib.hid hix
  have hlen : l.os.length = m := h.len.2
  have HLn := Lib.hid hlen
  obtain ⟨bb, hbb⟩ : ∃ bb, l.right = bb := ⟨_, rfl⟩
  rw [hbb]
  have HBB := Lib.hid hbb
  unfold Lg.val
  have H0 : Hid (Blk (w.alloc (.cells #[.int .i64 l.sq, .int .i64 l.tt, .slice A n c, .slice B m d] 25)) w.heap.size 25 [.int .i64 l.sq, .int .i64 l.tt, .slice A n c, .slice B m d]) := Lib.hid (Blk.fresh rfl rfl)
  clear h hnl hix hlen hbb hls hmm
  go_enter Try.func22, Try.ntmps22
  go_wp2
  go_loopw [8] (fun iv wr => ∃ (i : Nat) (p : Option Oc), i ≤ m ∧ iv = .int .i64 i ∧ osOk none l.os = osOk p (l.os.drop i) ∧ (i = 0 ∧ p = none ∨ ∃ j y, i = j + 1 ∧ l.os[j]? = some y ∧ p = some y) ∧ Blk wr w.heap.size 25 [.int .i64 l.sq, .int .i64 l.tt, .slice A n c, .slice B m d] ∧ Below w.heap.size w wr) (fun iv _ => m - (intOf iv).toNat)
  case atStart => exact ⟨0, none, Nat.zero_le _, rfl, rfl, .inl ⟨rfl, rfl⟩, H0.out, below1 w _⟩
  case round =>
    obtain ⟨i, p, hi, rfl, hp, hpi, hb0, hx⟩ := hrel
    have HX := Lib.hid hx
    have HB0 := Lib.hid hb0
    by_cases hlt : i < m
    · obtain ⟨g, o, x, hBe, hxi, hmem, hd, hrg⟩ := (HI.out.through HX.out).oc_at hlt
      have HBe := Lib.hid hBe
      have HXi := Lib.hid hxi
      have HXa : Hid (Below w.heap.size w (wr.alloc (.cells #[.int .i64 x.cl, .int .i64 x.sp, .int .i64 x.rs] 30))) := Lib.hid (HX.out.alloc HX.out.size _)
      have HB0a : Hid (Blk (wr.alloc (.cells #[.int .i64 x.cl, .int .i64 x.sp, .int .i64 x.rs] 30)) w.heap.size 25 [.int .i64 l.sq, .int .i64 l.tt, .slice A n c, .slice B m d]) := Lib.hid (HB0.out.alloc _)
      rw [hd] at hp
      have HRg := Lib.hid hrg
      have hix : (Instr.indexAt 23 (.slice B m d) (.int .i64 (i : Int))).run Try.prog wr = .ok (.pointer (some ⟨g, o + i * 3, none⟩)) wr := by rw [hBe]; exact HIX.out wr g o i hlt
      clear hrg hd hx hmem hxi hb0 hBe
      rcases hpi with ⟨rfl, rfl⟩ | ⟨j, y, rfl, hy, rfl⟩
      · have hix0 : ∀ W, (Instr.indexAt 23 (.slice B m d) (.int .i64 0)).run Try.prog W = .ok (.pointer (some ⟨g, o, none⟩)) W := fun W => by
          rw [HBe.out]
          have := HIX.out W g o 0 hlt
          simpa using this
        cases k0 : decide (0 ≤ x.cl)
        · have f0 : decide (x.cl < 0) = true := by simp at k0 ⊢; omega
          have hbad : ocOk x = false := by simp only [ocOk, k0]; simp
          have HP := Lib.hid (hp.trans (osOk_bad _ _ hbad))
          clear hp hbad k0
          go_wp2_with (refine wpList_load_mid rfl 30 (.tmp 11) rfl g (o + 0 * 3) rfl [.int .i64 x.cl, .int .i64 x.sp, .int .i64 x.rs] _ HRg.out Try.underlying30 rfl (by kernel_rfl) ?_)
          go_quiet (fail)
          go_wp2
          go_ret
          exact ⟨ret_b (by rw [← HBB.out, Lg.right_eq, HP.out]; simp), below_drewN (HXa.out) _⟩
        · cases k1 : decide (x.cl ≤ 63)
          · have f0 : decide (x.cl < 0) = false := by simp at k0 ⊢; omega
            have f1 : decide (63 < x.cl) = true := by simp at k1 ⊢; omega
            have hbad : ocOk x = false := by simp only [ocOk, k0, k1]; simp
            have HP := Lib.hid (hp.trans (osOk_bad _ _ hbad))
            clear hp hbad k0 k1
            go_wp2_with (refine wpList_load_mid rfl 30 (.tmp 11) rfl g (o + 0 * 3) rfl [.int .i64 x.cl, .int .i64 x.sp, .int .i64 x.rs] _ HRg.out Try.underlying30 rfl (by kernel_rfl) ?_)
            go_quiet (fail)
            go_wp2
            go_ret
            exact ⟨ret_b (by rw [← HBB.out, Lg.right_eq, HP.out]; simp), below_drewN (HXa.out) _⟩
          · cases k2 : decide (1 ≤ x.sp)
            · have f0 : decide (x.cl < 0) = false := by simp at k0 ⊢; omega
              have f1 : decide (63 < x.cl) = false := by simp at k1 ⊢; omega
              have f2 : decide (x.sp < 1) = true := by simp at k2 ⊢; omega
              have hbad : ocOk x = false := by simp only [ocOk, k0, k1, k2]; simp
              have HP := Lib.hid (hp.trans (osOk_bad _ _ hbad))
              clear hp hbad k0 k1 k2
              go_wp2_with (refine wpList_load_mid rfl 30 (.tmp 11) rfl g (o + 0 * 3) rfl [.int .i64 x.cl, .int .i64 x.sp, .int .i64 x.rs] _ HRg.out Try.underlying30 rfl (by kernel_rfl) ?_)
              go_quiet (fail)
              go_wp2
              go_ret
              exact ⟨ret_b (by rw [← HBB.out, Lg.right_eq, HP.out]; simp), below_drewN (HXa.out) _⟩
            · cases k3 : decide (x.sp ≤ 1099511627776)
              · have f0 : decide (x.cl < 0) = false := by simp at k0 ⊢; omega
                have f1 : decide (63 < x.cl) = false := by simp at k1 ⊢; omega
                have f2 : decide (x.sp < 1) = false := by simp at k2 ⊢; omega
                have f3 : decide (1099511627776 < x.sp) = true := by simp at k3 ⊢; omega
                have hbad : ocOk x = false := by simp only [ocOk, k0, k1, k2, k3]; simp
                have HP := Lib.hid (hp.trans (osOk_bad _ _ hbad))
                clear hp hbad k0 k1 k2 k3
                go_wp2_with (refine wpList_load_mid rfl 30 (.tmp 11) rfl g (o + 0 * 3) rfl [.int .i64 x.cl, .int .i64 x.sp, .int .i64 x.rs] _ HRg.out Try.underlying30 rfl (by kernel_rfl) ?_)
                go_quiet (fail)
                go_wp2
                go_ret
                exact ⟨ret_b (by rw [← HBB.out, Lg.right_eq, HP.out]; simp), below_drewN (HXa.out) _⟩
              · cases k4 : decide (0 ≤ x.rs)
                · have f0 : decide (x.cl < 0) = false := by simp at k0 ⊢; omega
                  have f1 : decide (63 < x.cl) = false := by simp at k1 ⊢; omega
                  have f2 : decide (x.sp < 1) = false := by simp at k2 ⊢; omega
                  have f3 : decide (1099511627776 < x.sp) = false := by simp at k3 ⊢; omega
                  have f4 : decide (x.rs < 0) = true := by simp at k4 ⊢; omega
                  have hbad : ocOk x = false := by simp only [ocOk, k0, k1, k2, k3, k4]; simp
                  have HP := Lib.hid (hp.trans (osOk_bad _ _ hbad))
                  clear hp hbad k0 k1 k2 k3 k4
                  go_wp2_with (refine wpList_load_mid rfl 30 (.tmp 11) rfl g (o + 0 * 3) rfl [.int .i64 x.cl, .int .i64 x.sp, .int .i64 x.rs] _ HRg.out Try.underlying30 rfl (by kernel_rfl) ?_)
                  go_quiet (fail)
                  go_wp2
                  go_ret
                  exact ⟨ret_b (by rw [← HBB.out, Lg.right_eq, HP.out]; simp), below_drewN (HXa.out) _⟩
                · cases k5 : decide (x.rs ≤ 99)
                  · have f0 : decide (x.cl < 0) = false := by simp at k0 ⊢; omega
                    have f1 : decide (63 < x.cl) = false := by simp at k1 ⊢; omega
                    have f2 : decide (x.sp < 1) = false := by simp at k2 ⊢; omega
                    have f3 : decide (1099511627776 < x.sp) = false := by simp at k3 ⊢; omega
                    have f4 : decide (x.rs < 0) = false := by simp at k4 ⊢; omega
                    have f5 : decide (99 < x.rs) = true := by simp at k5 ⊢; omega
                    have hbad : ocOk x = false := by simp only [ocOk, k0, k1, k2, k3, k4, k5]; simp
                    have HP := Lib.hid (hp.trans (osOk_bad _ _ hbad))
                    clear hp hbad k0 k1 k2 k3 k4 k5
                    go_wp2_with (refine wpList_load_mid rfl 30 (.tmp 11) rfl g (o + 0 * 3) rfl [.int .i64 x.cl, .int .i64 x.sp, .int .i64 x.rs] _ HRg.out Try.underlying30 rfl (by kernel_rfl) ?_)
                    go_quiet (fail)
                    go_wp2
                    go_ret
                    exact ⟨ret_b (by rw [← HBB.out, Lg.right_eq, HP.out]; simp), below_drewN (HXa.out) _⟩
                  · have f0 : decide (x.cl < 0) = false := by simp at k0 ⊢; omega
                    have f1 : decide (63 < x.cl) = false := by simp at k1 ⊢; omega
                    have f2 : decide (x.sp < 1) = false := by simp at k2 ⊢; omega
                    have f3 : decide (1099511627776 < x.sp) = false := by simp at k3 ⊢; omega
                    have f4 : decide (x.rs < 0) = false := by simp at k4 ⊢; omega
                    have f5 : decide (99 < x.rs) = false := by simp at k5 ⊢; omega
                    have hok : ocOk x = true := by simp only [ocOk, k0, k1, k2, k3, k4, k5]; simp
                    have HP := Lib.hid (hp.trans (osOk_first _ hok))
                    clear hp hok k0 k1 k2 k3 k4 k5
                    go_wp2_with (refine wpList_load_mid rfl 30 (.tmp 11) rfl g (o + 0 * 3) rfl [.int .i64 x.cl, .int .i64 x.sp, .int .i64 x.rs] _ HRg.out Try.underlying30 rfl (by kernel_rfl) ?_)
                    go_quiet (fail)
                    go_wp2
                    go_roundw
                    case rel => exact ⟨1, some x, by omega, by go_num, HP.out, .inr ⟨0, x, rfl, HXi.out, rfl⟩, HB0a.out.drewN _, below_drewN HXa.out _⟩
                    case measure => simp [intOf]; omega
      · have hjn : j < m := by omega
        have hyc := ((HBe.out ▸ (HI.out.through HX.out) : LgIn wr A n (some ⟨g, o, none⟩) m l).oc_cell hy 0 _ rfl)
        have hya : (wr.alloc (.cells #[.int .i64 x.cl, .int .i64 x.sp, .int .i64 x.rs] 30)).cell? ⟨g, o + j * 3, none⟩ = some (.int .i64 y.cl) := ((Below.refl _ wr).alloc (Nat.le_refl _) (.cells #[.int .i64 x.cl, .int .i64 x.sp, .int .i64 x.rs] 30)).cell (p := ⟨g, o + j * 3, none⟩) (World.block_lt_of_cell? wr ⟨g, o + j * 3 + 0, none⟩ hyc) |>.trans hyc
        have l3 := HB0a.out.cellAt (i := 3) rfl
        have hixj : ∀ W, (Instr.indexAt 23 (.slice B m d) (.int .i64 (j : Int))).run Try.prog W = .ok (.pointer (some ⟨g, o + j * 3, none⟩)) W := fun W => by rw [HBe.out]; exact HIX.out W g o j hjn
        have hix1 : ∀ W, (Instr.indexAt 23 (.slice B m d) (.int .i64 ((j : Int) + 1))).run Try.prog W = .ok (.pointer (some ⟨g, o + (j + 1) * 3, none⟩)) W := fun W => by
          rw [HBe.out]
          exact HIX.out W g o (j + 1) hlt
        have hj0 : decide ((0 : Int) < (j : Int) + 1) = true := decide_eq_true (by omega)
        have hwr : IntKind.i64.wrap ((j : Int) + 1 - 1) = (j : Int) := by rw [IntWalk.i64_in _ (by omega)]; omega
        have hwr2 : (j : Int) + 1 - 1 = (j : Int) := by omega
        by_cases hql : y.cl < x.cl
        · have HQ := Lib.hid hql
          have hqd : decide (x.cl ≤ y.cl) = false := by simp; omega
          clear hyc hy hql
          cases k0 : decide (0 ≤ x.cl)
          · have f0 : decide (x.cl < 0) = true := by simp at k0 ⊢; omega
            have hbad : ocOk x = false := by simp only [ocOk, k0]; simp
            have HP := Lib.hid (hp.trans (osOk_bad _ _ hbad))
            clear hp hbad k0
            go_wp2_with (refine wpList_load_mid rfl 30 (.tmp 11) rfl g (o + (j + 1) * 3) rfl [.int .i64 x.cl, .int .i64 x.sp, .int .i64 x.rs] _ HRg.out Try.underlying30 rfl (by kernel_rfl) ?_)
            go_quiet (fail)
            go_wp2
            go_ret
            exact ⟨ret_b (by rw [← HBB.out, Lg.right_eq, HP.out]; simp), below_drewN (HXa.out) _⟩
          · cases k1 : decide (x.cl ≤ 63)
            · have f0 : decide (x.cl < 0) = false := by simp at k0 ⊢; omega
              have f1 : decide (63 < x.cl) = true := by simp at k1 ⊢; omega
              have hbad : ocOk x = false := by simp only [ocOk, k0, k1]; simp
              have HP := Lib.hid (hp.trans (osOk_bad _ _ hbad))
              clear hp hbad k0 k1
              go_wp2_with (refine wpList_load_mid rfl 30 (.tmp 11) rfl g (o + (j + 1) * 3) rfl [.int .i64 x.cl, .int .i64 x.sp, .int .i64 x.rs] _ HRg.out Try.underlying30 rfl (by kernel_rfl) ?_)
              go_quiet (fail)
              go_wp2
              go_ret
              exact ⟨ret_b (by rw [← HBB.out, Lg.right_eq, HP.out]; simp), below_drewN (HXa.out) _⟩
            · cases k2 : decide (1 ≤ x.sp)
              · have f0 : decide (x.cl < 0) = false := by simp at k0 ⊢; omega
                have f1 : decide (63 < x.cl) = false := by simp at k1 ⊢; omega
                have f2 : decide (x.sp < 1) = true := by simp at k2 ⊢; omega
                have hbad : ocOk x = false := by simp only [ocOk, k0, k1, k2]; simp
                have HP := Lib.hid (hp.trans (osOk_bad _ _ hbad))
                clear hp hbad k0 k1 k2
                go_wp2_with (refine wpList_load_mid rfl 30 (.tmp 11) rfl g (o + (j + 1) * 3) rfl [.int .i64 x.cl, .int .i64 x.sp, .int .i64 x.rs] _ HRg.out Try.underlying30 rfl (by kernel_rfl) ?_)
                go_quiet (fail)
                go_wp2
                go_ret
                exact ⟨ret_b (by rw [← HBB.out, Lg.right_eq, HP.out]; simp), below_drewN (HXa.out) _⟩
              · cases k3 : decide (x.sp ≤ 1099511627776)
                · have f0 : decide (x.cl < 0) = false := by simp at k0 ⊢; omega
                  have f1 : decide (63 < x.cl) = false := by simp at k1 ⊢; omega
                  have f2 : decide (x.sp < 1) = false := by simp at k2 ⊢; omega
                  have f3 : decide (1099511627776 < x.sp) = true := by simp at k3 ⊢; omega
                  have hbad : ocOk x = false := by simp only [ocOk, k0, k1, k2, k3]; simp
                  have HP := Lib.hid (hp.trans (osOk_bad _ _ hbad))
                  clear hp hbad k0 k1 k2 k3
                  go_wp2_with (refine wpList_load_mid rfl 30 (.tmp 11) rfl g (o + (j + 1) * 3) rfl [.int .i64 x.cl, .int .i64 x.sp, .int .i64 x.rs] _ HRg.out Try.underlying30 rfl (by kernel_rfl) ?_)
                  go_quiet (fail)
                  go_wp2
                  go_ret
                  exact ⟨ret_b (by rw [← HBB.out, Lg.right_eq, HP.out]; simp), below_drewN (HXa.out) _⟩
                · cases k4 : decide (0 ≤ x.rs)
                  · have f0 : decide (x.cl < 0) = false := by simp at k0 ⊢; omega
                    have f1 : decide (63 < x.cl) = false := by simp at k1 ⊢; omega
                    have f2 : decide (x.sp < 1) = false := by simp at k2 ⊢; omega
                    have f3 : decide (1099511627776 < x.sp) = false := by simp at k3 ⊢; omega
                    have f4 : decide (x.rs < 0) = true := by simp at k4 ⊢; omega
                    have hbad : ocOk x = false := by simp only [ocOk, k0, k1, k2, k3, k4]; simp
                    have HP := Lib.hid (hp.trans (osOk_bad _ _ hbad))
                    clear hp hbad k0 k1 k2 k3 k4
                    go_wp2_with (refine wpList_load_mid rfl 30 (.tmp 11) rfl g (o + (j + 1) * 3) rfl [.int .i64 x.cl, .int .i64 x.sp, .int .i64 x.rs] _ HRg.out Try.underlying30 rfl (by kernel_rfl) ?_)
                    go_quiet (fail)
                    go_wp2
                    go_ret
                    exact ⟨ret_b (by rw [← HBB.out, Lg.right_eq, HP.out]; simp), below_drewN (HXa.out) _⟩
                  · cases k5 : decide (x.rs ≤ 99)
                    · have f0 : decide (x.cl < 0) = false := by simp at k0 ⊢; omega
                      have f1 : decide (63 < x.cl) = false := by simp at k1 ⊢; omega
                      have f2 : decide (x.sp < 1) = false := by simp at k2 ⊢; omega
                      have f3 : decide (1099511627776 < x.sp) = false := by simp at k3 ⊢; omega
                      have f4 : decide (x.rs < 0) = false := by simp at k4 ⊢; omega
                      have f5 : decide (99 < x.rs) = true := by simp at k5 ⊢; omega
                      have hbad : ocOk x = false := by simp only [ocOk, k0, k1, k2, k3, k4, k5]; simp
                      have HP := Lib.hid (hp.trans (osOk_bad _ _ hbad))
                      clear hp hbad k0 k1 k2 k3 k4 k5
                      go_wp2_with (refine wpList_load_mid rfl 30 (.tmp 11) rfl g (o + (j + 1) * 3) rfl [.int .i64 x.cl, .int .i64 x.sp, .int .i64 x.rs] _ HRg.out Try.underlying30 rfl (by kernel_rfl) ?_)
                      go_quiet (fail)
                      go_wp2
                      go_ret
                      exact ⟨ret_b (by rw [← HBB.out, Lg.right_eq, HP.out]; simp), below_drewN (HXa.out) _⟩
                    · have f0 : decide (x.cl < 0) = false := by simp at k0 ⊢; omega
                      have f1 : decide (63 < x.cl) = false := by simp at k1 ⊢; omega
                      have f2 : decide (x.sp < 1) = false := by simp at k2 ⊢; omega
                      have f3 : decide (1099511627776 < x.sp) = false := by simp at k3 ⊢; omega
                      have f4 : decide (x.rs < 0) = false := by simp at k4 ⊢; omega
                      have f5 : decide (99 < x.rs) = false := by simp at k5 ⊢; omega
                      have hok : ocOk x = true := by simp only [ocOk, k0, k1, k2, k3, k4, k5]; simp
                      have HP := Lib.hid (hp.trans (osOk_next _ HQ.out hok))
                      clear hp hok k0 k1 k2 k3 k4 k5
                      go_wp2_with (refine wpList_load_mid rfl 30 (.tmp 11) rfl g (o + (j + 1) * 3) rfl [.int .i64 x.cl, .int .i64 x.sp, .int .i64 x.rs] _ HRg.out Try.underlying30 rfl (by kernel_rfl) ?_)
                      go_quiet (fail)
                      go_wp2
                      go_roundw
                      case rel => exact ⟨j + 1 + 1, some x, by omega, by go_num, HP.out, .inr ⟨j + 1, x, rfl, HXi.out, rfl⟩, HB0a.out.drewN _, below_drewN HXa.out _⟩
                      case measure => simp [intOf]; omega
        · have HP := Lib.hid (hp.trans (osOk_order _ hql))
          have hqd : decide (x.cl ≤ y.cl) = true := by simp; omega
          clear hp hql hyc hy
          go_wp2_with (refine wpList_load_mid rfl 30 (.tmp 11) rfl g (o + (j + 1) * 3) rfl [.int .i64 x.cl, .int .i64 x.sp, .int .i64 x.rs] _ HRg.out Try.underlying30 rfl (by kernel_rfl) ?_)
          go_quiet (fail)
          go_wp2
          go_ret
          exact ⟨ret_b (by rw [← HBB.out, Lg.right_eq, HP.out]; simp), below_drewN HXa.out _⟩
    · have e : l.os.drop i = [] := List.drop_of_length_le (by have := HLn.out; omega)
      rw [e] at hp
      have HP : Hid (osOk none l.os = true) := Lib.hid (hp.trans (by cases p <;> rfl))
      have c0 := HB0.out.cellAt (i := 0) rfl
      have c1 := HB0.out.cellAt (i := 1) rfl
      have c2 := HB0.out.cellAt (i := 2) rfl
      have c3 := HB0.out.cellAt (i := 3) rfl
      have HXe := HX
      clear hp e hpi hx hb0
      have hfin : bb = (decide (0 ≤ l.sq) && (decide (l.sq ≤ 1048576) && (isM l.tt && (decide (l.os.length ≤ 4) && (lsOk none l.ls && decide (l.ls.length ≤ 16)))))) := by rw [← HBB.out, Lg.right_eq, HP.out]; rfl
      have HF := Lib.hid hfin
      clear hfin
      by_cases k0 : 0 ≤ l.sq
      · by_cases k1 : l.sq ≤ 1048576
        · cases k2 : isM l.tt
          · have HM' := Lib.hid (fun W => by have := HM.out W; rw [k2] at this; exact this)
            have HF' : Hid (bb = false) := Lib.hid (by rw [HF.out, k2]; simp)
            clear HM k2
            have HM := HM'
            go_wp2_with (go_at_call 48; (with_reducible refine (HM.out _).mono ?_); rintro e w1 ⟨rfl, rfl⟩)
            go_ret
            exact ⟨ret_b HF'.out.symm, HX.out⟩
          · have HM' := Lib.hid (fun W => by have := HM.out W; rw [k2] at this; exact this)
            have HF2 : Hid (bb = (decide (l.os.length ≤ 4) && (lsOk none l.ls && decide (l.ls.length ≤ 16)))) := Lib.hid (by rw [HF.out, k2]; simp [k0, k1])
            clear HM k2
            have HM := HM'
            by_cases k3 : m ≤ 4
            · have hk3 : decide (l.os.length ≤ 4) = true := by rw [HLn.out]; simpa using k3
              have HF3 : Hid (bb = (lsOk none l.ls && decide (l.ls.length ≤ 16))) := Lib.hid (by rw [HF2.out, hk3]; rfl)
              clear hk3
              go_wp2_with (first | (go_at_call 48; (with_reducible refine (HM.out _).mono ?_); rintro e w1 ⟨rfl, rfl⟩) | (go_at_call 49; (with_reducible refine (HLs.out _ HXe.out).mono ?_); rintro e w2 ⟨rfl, hb⟩; have HX2 : Hid (Below w.heap.size w w2) := Lib.hid (below_step HXe.out hb); clear hb))
              go_ret
              exact ⟨ret_b HF3.out.symm, HX2.out⟩
            · have hk3 : decide (l.os.length ≤ 4) = false := by rw [HLn.out]; simpa using k3
              have HF3 : Hid (bb = false) := Lib.hid (by rw [HF2.out, hk3]; rfl)
              have hd3 : decide ((m : Int) ≤ 4) = false := by simp; omega
              clear hk3
              go_wp2_with (go_at_call 48; (with_reducible refine (HM.out _).mono ?_); rintro e w1 ⟨rfl, rfl⟩)
              go_ret
              exact ⟨ret_b HF3.out.symm, HX.out⟩
        · have HF' : Hid (bb = false) := Lib.hid (by rw [HF.out]; simp [k1])
          have hd1 : decide (l.sq ≤ 1048576) = false := by simpa using k1
          go_wp2
          go_ret
          exact ⟨ret_b HF'.out.symm, HX.out⟩
      · have HF' : Hid (bb = false) := Lib.hid (by rw [HF.out]; simp [k0])
        have hd0 : decide (0 ≤ l.sq) = false := by simpa using k0
        go_wp2
        go_ret
        exact ⟨ret_b HF'.out.symm, HX.out⟩

end Go.Proofs.Ytkbeodlihmmdbaa
