/-
  The document's letters (may they be?), walked.
-/
import Derived.Test.YtkbeodlihmmdbaaLgW
import Derived.Test.YtkbeodlihmmdbaaLgD
import Derived.BigQuiet
namespace Go.Proofs.Ytkbeodlihmmdbaa
open Go.RowKit

theorem lsOk_bad (p : Option Lt) (xs : List Lt) {x : Lt} (h : ltOk x = false) : lsOk p (x :: xs) = false := by
  cases p <;> simp [lsOk, h]
theorem lsOk_first (xs : List Lt) {x : Lt} (h : ltOk x = true) : lsOk none (x :: xs) = lsOk (some x) xs := by simp [lsOk, h]
theorem lsOk_next (xs : List Lt) {y x : Lt} (hl : ltS y.nm x.nm = true) (h : ltOk x = true) : lsOk (some y) (x :: xs) = lsOk (some x) xs := by simp [lsOk, h, hl]
theorem lsOk_order (xs : List Lt) {y x : Lt} (hl : ltS y.nm x.nm = false) : lsOk (some y) (x :: xs) = false := by simp [lsOk, hl]
theorem Sl.lt_at {w : World} {A : Option Addr} {n : Nat} {ls : List Lt} (h : Sl w 6 A n (ls.map Lt.cells)) {i : Nat} (hi : i < n) : ∃ g o x, A = some ⟨g, o, none⟩ ∧ ls[i]? = some x ∧ x ∈ ls ∧ ls.drop i = x :: ls.drop (i + 1) ∧ w.rangeAt g (o + i * 6) x.cells :=
  LgIn.lt_at (l := ⟨0, 0, ls, []⟩) (B := none) (m := 0) ⟨h, Sl.none_⟩ hi
/-- A cell of a letter in a slice. -/
theorem Sl.lt_cell {w : World} {g o n : Nat} {ls : List Lt} (h : Sl w 6 (some ⟨g, o, none⟩) n (ls.map Lt.cells)) {j : Nat} {y : Lt} (hy : ls[j]? = some y) (k : Nat) (v : Value) (hv : y.cells[k]? = some v) : w.cell? ⟨g, o + j * 6 + k, none⟩ = some v := by
  have hj : j < n := by
    have h1 := (List.getElem?_eq_some_iff.1 hy).1
    have h2 := h.len
    simp at h2
    omega
  obtain ⟨g', o', y', e, h1, _, _, h2⟩ := h.lt_at hj
  injection e with e
  injection e with e1 e2
  subst e1 e2
  rw [hy] at h1
  injection h1 with h1
  subst h1
  exact h2 k v hv

set_option maxHeartbeats 16000000 in
set_option maxRecDepth 100000 in
theorem rletters_any (ls : List Lt) (A : Option Addr) (n c : Nat) (w : World) (h : Sl w 6 A n (ls.map Lt.cells)) (hn : n ≤ 1000) (hnl : ∀ x ∈ ls, x.nm.length ≤ 1000000) :
    Calls Try.prog 49 #[.slice A n c] w fun e w' => e = .returned (.bool (lsOk none ls && decide (ls.length ≤ 16))) ∧ Below w.heap.size w w' := by
  have hsz := ba_size
  have hli := ba_list
  have HI := Lib.hid h
  have HNLs := Lib.hid hnl
  have hix := fun (W : World) (g o j : Nat) (hj : j < n) => Try.ix_lt W g o n c j hj
  have HIX := Lib.hid hix
  have hlen : ls.length = n := by simpa using h.len
  have HLn := Lib.hid hlen
  obtain ⟨bb, hbb⟩ : ∃ bb, (lsOk none ls && decide (ls.length ≤ 16)) = bb := ⟨_, rfl⟩
  rw [hbb]
  have HBB := Lib.hid hbb
  clear h hnl hix hlen hbb
  go_enter Try.func49, Try.ntmps49
  go_wp2
  go_loopw [7] (fun iv wr => ∃ (i : Nat) (p : Option Lt), i ≤ n ∧ iv = .int .i64 i ∧ lsOk none ls = lsOk p (ls.drop i) ∧ (i = 0 ∧ p = none ∨ ∃ j y, i = j + 1 ∧ ls[j]? = some y ∧ p = some y) ∧ Below w.heap.size w wr) (fun iv _ => n - (intOf iv).toNat)
  case atStart => exact ⟨0, none, Nat.zero_le _, rfl, rfl, .inl ⟨rfl, rfl⟩, Below.refl _ _⟩
  case round =>
    obtain ⟨i, p, hi, rfl, hp, hpi, hx⟩ := hrel
    have HX := Lib.hid hx
    by_cases hlt : i < n
    · obtain ⟨g, o, x, rfl, hxi, hmem, hd, hrg⟩ := (HI.out.through HX.out).lt_at hlt
      have HNL := Lib.hid (HNLs.out x hmem)
      have HXi := Lib.hid hxi
      have HXa : Hid (Below w.heap.size w (wr.alloc (.cells #[.string (ba x.nm), .int .i64 x.st, .int .i64 x.am, .int .i64 x.du, .string (ba x.po), .string (ba x.pa)] 27))) := Lib.hid (HX.out.alloc HX.out.size _)
      rw [hd] at hp
      have HRg := Lib.hid hrg
      have hix := HIX.out wr g o i hlt
      clear hrg hd hx hmem hxi
      rcases hpi with ⟨rfl, rfl⟩ | ⟨j, y, rfl, hy, rfl⟩
      · have HP0 := Lib.hid hp
        clear hp
        go_wp2_with (refine wpList_load_mid rfl 27 (.tmp 10) rfl g (o + 0 * 6) rfl [.string (ba x.nm), .int .i64 x.st, .int .i64 x.am, .int .i64 x.du, .string (ba x.po), .string (ba x.pa)] _ HRg.out Try.underlying27 rfl (by kernel_rfl) ?_)
        go_quiet (fail)
        have hp := HP0.out
        cases k0 : isNm x.nm
        · have HN := Lib.hid (fun W => (risname_any x.nm W HNL.out).mono fun e w' h => (by rw [k0] at h; exact h))
          have hbad : ltOk x = false := by simp only [ltOk, k0]; simp
          have HP := Lib.hid (hp.trans (lsOk_bad _ _ hbad))
          clear hp hbad k0
          go_wp2_with (first
            | (go_at_call 19; (with_reducible refine (HN.out _).mono ?_); rintro e w1 ⟨rfl, rfl⟩))
          go_ret
          exact ⟨ret_b (by rw [← HBB.out, HP.out]; rfl), below_drewN (HXa.out) _⟩
        · cases k1 : decide (1 ≤ x.st)
          · have f1 : decide (x.st < 1) = true := by simp at k1 ⊢; omega
            have HN := Lib.hid (fun W => (risname_any x.nm W HNL.out).mono fun e w' h => (by rw [k0] at h; exact h))
            have hbad : ltOk x = false := by simp only [ltOk, k0, k1]; simp
            have HP := Lib.hid (hp.trans (lsOk_bad _ _ hbad))
            clear hp hbad k0 k1
            go_wp2_with (first
              | (go_at_call 19; (with_reducible refine (HN.out _).mono ?_); rintro e w1 ⟨rfl, rfl⟩))
            go_ret
            exact ⟨ret_b (by rw [← HBB.out, HP.out]; rfl), below_drewN (HXa.out) _⟩
          · cases k2 : decide (x.st ≤ 7)
            · have f1 : decide (x.st < 1) = false := by simp at k1 ⊢; omega
              have f2 : decide (7 < x.st) = true := by simp at k2 ⊢; omega
              have HN := Lib.hid (fun W => (risname_any x.nm W HNL.out).mono fun e w' h => (by rw [k0] at h; exact h))
              have hbad : ltOk x = false := by simp only [ltOk, k0, k1, k2]; simp
              have HP := Lib.hid (hp.trans (lsOk_bad _ _ hbad))
              clear hp hbad k0 k1 k2
              go_wp2_with (first
                | (go_at_call 19; (with_reducible refine (HN.out _).mono ?_); rintro e w1 ⟨rfl, rfl⟩))
              go_ret
              exact ⟨ret_b (by rw [← HBB.out, HP.out]; rfl), below_drewN (HXa.out) _⟩
            · cases k3 : decide (1 ≤ x.am)
              · have f1 : decide (x.st < 1) = false := by simp at k1 ⊢; omega
                have f2 : decide (7 < x.st) = false := by simp at k2 ⊢; omega
                have f3 : decide (x.am < 1) = true := by simp at k3 ⊢; omega
                have HN := Lib.hid (fun W => (risname_any x.nm W HNL.out).mono fun e w' h => (by rw [k0] at h; exact h))
                have hbad : ltOk x = false := by simp only [ltOk, k0, k1, k2, k3]; simp
                have HP := Lib.hid (hp.trans (lsOk_bad _ _ hbad))
                clear hp hbad k0 k1 k2 k3
                go_wp2_with (first
                  | (go_at_call 19; (with_reducible refine (HN.out _).mono ?_); rintro e w1 ⟨rfl, rfl⟩))
                go_ret
                exact ⟨ret_b (by rw [← HBB.out, HP.out]; rfl), below_drewN (HXa.out) _⟩
              · cases k4 : isM x.am
                · have f1 : decide (x.st < 1) = false := by simp at k1 ⊢; omega
                  have f2 : decide (7 < x.st) = false := by simp at k2 ⊢; omega
                  have f3 : decide (x.am < 1) = false := by simp at k3 ⊢; omega
                  have HN := Lib.hid (fun W => (risname_any x.nm W HNL.out).mono fun e w' h => (by rw [k0] at h; exact h))
                  have HM := Lib.hid (fun W => (ris_any x.am W).mono fun e w' h => (by rw [k4] at h; exact h))
                  have hbad : ltOk x = false := by simp only [ltOk, k0, k1, k2, k3, k4]; simp
                  have HP := Lib.hid (hp.trans (lsOk_bad _ _ hbad))
                  clear hp hbad k0 k1 k2 k3 k4
                  go_wp2_with (first
                    | (go_at_call 19; (with_reducible refine (HN.out _).mono ?_); rintro e w1 ⟨rfl, rfl⟩)
                    | (go_at_call 48; (with_reducible refine (HM.out _).mono ?_); rintro e w1 ⟨rfl, rfl⟩))
                  go_ret
                  exact ⟨ret_b (by rw [← HBB.out, HP.out]; rfl), below_drewN (HXa.out) _⟩
                · cases k5 : isM x.du
                  · have f1 : decide (x.st < 1) = false := by simp at k1 ⊢; omega
                    have f2 : decide (7 < x.st) = false := by simp at k2 ⊢; omega
                    have f3 : decide (x.am < 1) = false := by simp at k3 ⊢; omega
                    have HN := Lib.hid (fun W => (risname_any x.nm W HNL.out).mono fun e w' h => (by rw [k0] at h; exact h))
                    have HM := Lib.hid (fun W => (ris_any x.am W).mono fun e w' h => (by rw [k4] at h; exact h))
                    have HD := Lib.hid (fun W => (rday_any x.du W).mono fun e w' h => (by rw [k5] at h; exact h))
                    have hbad : ltOk x = false := by simp only [ltOk, k0, k1, k2, k3, k4, k5]; simp
                    have HP := Lib.hid (hp.trans (lsOk_bad _ _ hbad))
                    clear hp hbad k0 k1 k2 k3 k4 k5
                    go_wp2_with (first
                      | (go_at_call 19; (with_reducible refine (HN.out _).mono ?_); rintro e w1 ⟨rfl, rfl⟩)
                      | (go_at_call 48; (with_reducible refine (HM.out _).mono ?_); rintro e w1 ⟨rfl, rfl⟩)
                      | (go_at_call 76; (with_reducible refine (HD.out _).mono ?_); rintro e w1 ⟨rfl, rfl⟩))
                    go_ret
                    exact ⟨ret_b (by rw [← HBB.out, HP.out]; rfl), below_drewN (HXa.out) _⟩
                  · cases k6 : decide (x.po.length ≤ 200)
                    · have f1 : decide (x.st < 1) = false := by simp at k1 ⊢; omega
                      have f2 : decide (7 < x.st) = false := by simp at k2 ⊢; omega
                      have f3 : decide (x.am < 1) = false := by simp at k3 ⊢; omega
                      have f6 : decide (200 < (x.po.length : Int)) = true := by simp at k6 ⊢; omega
                      have HN := Lib.hid (fun W => (risname_any x.nm W HNL.out).mono fun e w' h => (by rw [k0] at h; exact h))
                      have HM := Lib.hid (fun W => (ris_any x.am W).mono fun e w' h => (by rw [k4] at h; exact h))
                      have HD := Lib.hid (fun W => (rday_any x.du W).mono fun e w' h => (by rw [k5] at h; exact h))
                      have hbad : ltOk x = false := by simp only [ltOk, k0, k1, k2, k3, k4, k5, k6]; simp
                      have HP := Lib.hid (hp.trans (lsOk_bad _ _ hbad))
                      clear hp hbad k0 k1 k2 k3 k4 k5 k6
                      go_wp2_with (first
                        | (go_at_call 19; (with_reducible refine (HN.out _).mono ?_); rintro e w1 ⟨rfl, rfl⟩)
                        | (go_at_call 48; (with_reducible refine (HM.out _).mono ?_); rintro e w1 ⟨rfl, rfl⟩)
                        | (go_at_call 76; (with_reducible refine (HD.out _).mono ?_); rintro e w1 ⟨rfl, rfl⟩))
                      go_ret
                      exact ⟨ret_b (by rw [← HBB.out, HP.out]; rfl), below_drewN (HXa.out) _⟩
                    · cases k7 : decide (x.pa.length ≤ 200)
                      · have f1 : decide (x.st < 1) = false := by simp at k1 ⊢; omega
                        have f2 : decide (7 < x.st) = false := by simp at k2 ⊢; omega
                        have f3 : decide (x.am < 1) = false := by simp at k3 ⊢; omega
                        have f6 : decide (200 < (x.po.length : Int)) = false := by simp at k6 ⊢; omega
                        have f7 : decide (200 < (x.pa.length : Int)) = true := by simp at k7 ⊢; omega
                        have HN := Lib.hid (fun W => (risname_any x.nm W HNL.out).mono fun e w' h => (by rw [k0] at h; exact h))
                        have HM := Lib.hid (fun W => (ris_any x.am W).mono fun e w' h => (by rw [k4] at h; exact h))
                        have HD := Lib.hid (fun W => (rday_any x.du W).mono fun e w' h => (by rw [k5] at h; exact h))
                        have hbad : ltOk x = false := by simp only [ltOk, k0, k1, k2, k3, k4, k5, k6, k7]; simp
                        have HP := Lib.hid (hp.trans (lsOk_bad _ _ hbad))
                        clear hp hbad k0 k1 k2 k3 k4 k5 k6 k7
                        go_wp2_with (first
                          | (go_at_call 19; (with_reducible refine (HN.out _).mono ?_); rintro e w1 ⟨rfl, rfl⟩)
                          | (go_at_call 48; (with_reducible refine (HM.out _).mono ?_); rintro e w1 ⟨rfl, rfl⟩)
                          | (go_at_call 76; (with_reducible refine (HD.out _).mono ?_); rintro e w1 ⟨rfl, rfl⟩))
                        go_ret
                        exact ⟨ret_b (by rw [← HBB.out, HP.out]; rfl), below_drewN (HXa.out) _⟩
                      · have f1 : decide (x.st < 1) = false := by simp at k1 ⊢; omega
                        have f2 : decide (7 < x.st) = false := by simp at k2 ⊢; omega
                        have f3 : decide (x.am < 1) = false := by simp at k3 ⊢; omega
                        have f6 : decide (200 < (x.po.length : Int)) = false := by simp at k6 ⊢; omega
                        have f7 : decide (200 < (x.pa.length : Int)) = false := by simp at k7 ⊢; omega
                        have HN := Lib.hid (fun W => (risname_any x.nm W HNL.out).mono fun e w' h => (by rw [k0] at h; exact h))
                        have HM := Lib.hid (fun W => (ris_any x.am W).mono fun e w' h => (by rw [k4] at h; exact h))
                        have HD := Lib.hid (fun W => (rday_any x.du W).mono fun e w' h => (by rw [k5] at h; exact h))
                        have hok : ltOk x = true := by simp only [ltOk, k0, k1, k2, k3, k4, k5, k6, k7]; simp
                        have HP := Lib.hid (hp.trans (lsOk_first _ hok))
                        clear hp hok k0 k1 k2 k3 k4 k5 k6 k7
                        go_wp2_with (first
                          | (go_at_call 19; (with_reducible refine (HN.out _).mono ?_); rintro e w1 ⟨rfl, rfl⟩)
                          | (go_at_call 48; (with_reducible refine (HM.out _).mono ?_); rintro e w1 ⟨rfl, rfl⟩)
                          | (go_at_call 76; (with_reducible refine (HD.out _).mono ?_); rintro e w1 ⟨rfl, rfl⟩))
                        go_roundw
                        case rel => exact ⟨1, some x, by omega, by go_num, HP.out, .inr ⟨0, x, rfl, HXi.out, rfl⟩, below_drewN HXa.out _⟩
                        case measure => simp [intOf]; omega
      · have hjn : j < n := by omega
        have hyc := ((HI.out.through HX.out).lt_cell hy 0 _ rfl)
        have hya : (wr.alloc (.cells #[.string (ba x.nm), .int .i64 x.st, .int .i64 x.am, .int .i64 x.du, .string (ba x.po), .string (ba x.pa)] 27)).cell? ⟨g, o + j * 6, none⟩ = some (.string (ba y.nm)) := ((Below.refl _ wr).alloc (Nat.le_refl _) (.cells #[.string (ba x.nm), .int .i64 x.st, .int .i64 x.am, .int .i64 x.du, .string (ba x.po), .string (ba x.pa)] 27)).cell (p := ⟨g, o + j * 6, none⟩) (World.block_lt_of_cell? wr ⟨g, o + j * 6 + 0, none⟩ hyc) |>.trans hyc
        have hixj : ∀ W, (Instr.indexAt 22 (.slice (some ⟨g, o, none⟩) n c) (.int .i64 (j : Int))).run Try.prog W = .ok (.pointer (some ⟨g, o + j * 6, none⟩)) W := fun W => HIX.out W g o j hjn
        have hj0 : decide ((0 : Int) < (j : Int) + 1) = true := decide_eq_true (by omega)
        have hwr : IntKind.i64.wrap ((j : Int) + 1 - 1) = (j : Int) := by rw [IntWalk.i64_in _ (by omega)]; omega
        have hwr2 : (j : Int) + 1 - 1 = (j : Int) := by omega
        cases hql : ltS y.nm x.nm
        · have HP := Lib.hid (hp.trans (lsOk_order _ hql))
          have hql' : Op.bytesLess y.nm x.nm = false := hql
          clear hp hql hyc hy
          go_wp2_with (refine wpList_load_mid rfl 27 (.tmp 10) rfl g (o + (j + 1) * 6) rfl [.string (ba x.nm), .int .i64 x.st, .int .i64 x.am, .int .i64 x.du, .string (ba x.po), .string (ba x.pa)] _ HRg.out Try.underlying27 rfl (by kernel_rfl) ?_)
          go_quiet (fail)
          go_wp2
          go_ret
          exact ⟨ret_b (by rw [← HBB.out, HP.out]; rfl), below_drewN HXa.out _⟩
        · have HP0 := Lib.hid hp
          have HQ := Lib.hid hql
          have hql' : Op.bytesLess y.nm x.nm = true := hql
          clear hp hyc hy hql
          go_wp2_with (refine wpList_load_mid rfl 27 (.tmp 10) rfl g (o + (j + 1) * 6) rfl [.string (ba x.nm), .int .i64 x.st, .int .i64 x.am, .int .i64 x.du, .string (ba x.po), .string (ba x.pa)] _ HRg.out Try.underlying27 rfl (by kernel_rfl) ?_)
          go_quiet (fail)
          clear hql' hya hixj hj0 hwr hwr2
          have hp := HP0.out
          cases k0 : isNm x.nm
          · have HN := Lib.hid (fun W => (risname_any x.nm W HNL.out).mono fun e w' h => (by rw [k0] at h; exact h))
            have hbad : ltOk x = false := by simp only [ltOk, k0]; simp
            have HP := Lib.hid (hp.trans (lsOk_bad _ _ hbad))
            clear hp hbad k0
            go_wp2_with (first
              | (go_at_call 19; (with_reducible refine (HN.out _).mono ?_); rintro e w1 ⟨rfl, rfl⟩))
            go_ret
            exact ⟨ret_b (by rw [← HBB.out, HP.out]; rfl), below_drewN (HXa.out) _⟩
          · cases k1 : decide (1 ≤ x.st)
            · have f1 : decide (x.st < 1) = true := by simp at k1 ⊢; omega
              have HN := Lib.hid (fun W => (risname_any x.nm W HNL.out).mono fun e w' h => (by rw [k0] at h; exact h))
              have hbad : ltOk x = false := by simp only [ltOk, k0, k1]; simp
              have HP := Lib.hid (hp.trans (lsOk_bad _ _ hbad))
              clear hp hbad k0 k1
              go_wp2_with (first
                | (go_at_call 19; (with_reducible refine (HN.out _).mono ?_); rintro e w1 ⟨rfl, rfl⟩))
              go_ret
              exact ⟨ret_b (by rw [← HBB.out, HP.out]; rfl), below_drewN (HXa.out) _⟩
            · cases k2 : decide (x.st ≤ 7)
              · have f1 : decide (x.st < 1) = false := by simp at k1 ⊢; omega
                have f2 : decide (7 < x.st) = true := by simp at k2 ⊢; omega
                have HN := Lib.hid (fun W => (risname_any x.nm W HNL.out).mono fun e w' h => (by rw [k0] at h; exact h))
                have hbad : ltOk x = false := by simp only [ltOk, k0, k1, k2]; simp
                have HP := Lib.hid (hp.trans (lsOk_bad _ _ hbad))
                clear hp hbad k0 k1 k2
                go_wp2_with (first
                  | (go_at_call 19; (with_reducible refine (HN.out _).mono ?_); rintro e w1 ⟨rfl, rfl⟩))
                go_ret
                exact ⟨ret_b (by rw [← HBB.out, HP.out]; rfl), below_drewN (HXa.out) _⟩
              · cases k3 : decide (1 ≤ x.am)
                · have f1 : decide (x.st < 1) = false := by simp at k1 ⊢; omega
                  have f2 : decide (7 < x.st) = false := by simp at k2 ⊢; omega
                  have f3 : decide (x.am < 1) = true := by simp at k3 ⊢; omega
                  have HN := Lib.hid (fun W => (risname_any x.nm W HNL.out).mono fun e w' h => (by rw [k0] at h; exact h))
                  have hbad : ltOk x = false := by simp only [ltOk, k0, k1, k2, k3]; simp
                  have HP := Lib.hid (hp.trans (lsOk_bad _ _ hbad))
                  clear hp hbad k0 k1 k2 k3
                  go_wp2_with (first
                    | (go_at_call 19; (with_reducible refine (HN.out _).mono ?_); rintro e w1 ⟨rfl, rfl⟩))
                  go_ret
                  exact ⟨ret_b (by rw [← HBB.out, HP.out]; rfl), below_drewN (HXa.out) _⟩
                · cases k4 : isM x.am
                  · have f1 : decide (x.st < 1) = false := by simp at k1 ⊢; omega
                    have f2 : decide (7 < x.st) = false := by simp at k2 ⊢; omega
                    have f3 : decide (x.am < 1) = false := by simp at k3 ⊢; omega
                    have HN := Lib.hid (fun W => (risname_any x.nm W HNL.out).mono fun e w' h => (by rw [k0] at h; exact h))
                    have HM := Lib.hid (fun W => (ris_any x.am W).mono fun e w' h => (by rw [k4] at h; exact h))
                    have hbad : ltOk x = false := by simp only [ltOk, k0, k1, k2, k3, k4]; simp
                    have HP := Lib.hid (hp.trans (lsOk_bad _ _ hbad))
                    clear hp hbad k0 k1 k2 k3 k4
                    go_wp2_with (first
                      | (go_at_call 19; (with_reducible refine (HN.out _).mono ?_); rintro e w1 ⟨rfl, rfl⟩)
                      | (go_at_call 48; (with_reducible refine (HM.out _).mono ?_); rintro e w1 ⟨rfl, rfl⟩))
                    go_ret
                    exact ⟨ret_b (by rw [← HBB.out, HP.out]; rfl), below_drewN (HXa.out) _⟩
                  · cases k5 : isM x.du
                    · have f1 : decide (x.st < 1) = false := by simp at k1 ⊢; omega
                      have f2 : decide (7 < x.st) = false := by simp at k2 ⊢; omega
                      have f3 : decide (x.am < 1) = false := by simp at k3 ⊢; omega
                      have HN := Lib.hid (fun W => (risname_any x.nm W HNL.out).mono fun e w' h => (by rw [k0] at h; exact h))
                      have HM := Lib.hid (fun W => (ris_any x.am W).mono fun e w' h => (by rw [k4] at h; exact h))
                      have HD := Lib.hid (fun W => (rday_any x.du W).mono fun e w' h => (by rw [k5] at h; exact h))
                      have hbad : ltOk x = false := by simp only [ltOk, k0, k1, k2, k3, k4, k5]; simp
                      have HP := Lib.hid (hp.trans (lsOk_bad _ _ hbad))
                      clear hp hbad k0 k1 k2 k3 k4 k5
                      go_wp2_with (first
                        | (go_at_call 19; (with_reducible refine (HN.out _).mono ?_); rintro e w1 ⟨rfl, rfl⟩)
                        | (go_at_call 48; (with_reducible refine (HM.out _).mono ?_); rintro e w1 ⟨rfl, rfl⟩)
                        | (go_at_call 76; (with_reducible refine (HD.out _).mono ?_); rintro e w1 ⟨rfl, rfl⟩))
                      go_ret
                      exact ⟨ret_b (by rw [← HBB.out, HP.out]; rfl), below_drewN (HXa.out) _⟩
                    · cases k6 : decide (x.po.length ≤ 200)
                      · have f1 : decide (x.st < 1) = false := by simp at k1 ⊢; omega
                        have f2 : decide (7 < x.st) = false := by simp at k2 ⊢; omega
                        have f3 : decide (x.am < 1) = false := by simp at k3 ⊢; omega
                        have f6 : decide (200 < (x.po.length : Int)) = true := by simp at k6 ⊢; omega
                        have HN := Lib.hid (fun W => (risname_any x.nm W HNL.out).mono fun e w' h => (by rw [k0] at h; exact h))
                        have HM := Lib.hid (fun W => (ris_any x.am W).mono fun e w' h => (by rw [k4] at h; exact h))
                        have HD := Lib.hid (fun W => (rday_any x.du W).mono fun e w' h => (by rw [k5] at h; exact h))
                        have hbad : ltOk x = false := by simp only [ltOk, k0, k1, k2, k3, k4, k5, k6]; simp
                        have HP := Lib.hid (hp.trans (lsOk_bad _ _ hbad))
                        clear hp hbad k0 k1 k2 k3 k4 k5 k6
                        go_wp2_with (first
                          | (go_at_call 19; (with_reducible refine (HN.out _).mono ?_); rintro e w1 ⟨rfl, rfl⟩)
                          | (go_at_call 48; (with_reducible refine (HM.out _).mono ?_); rintro e w1 ⟨rfl, rfl⟩)
                          | (go_at_call 76; (with_reducible refine (HD.out _).mono ?_); rintro e w1 ⟨rfl, rfl⟩))
                        go_ret
                        exact ⟨ret_b (by rw [← HBB.out, HP.out]; rfl), below_drewN (HXa.out) _⟩
                      · cases k7 : decide (x.pa.length ≤ 200)
                        · have f1 : decide (x.st < 1) = false := by simp at k1 ⊢; omega
                          have f2 : decide (7 < x.st) = false := by simp at k2 ⊢; omega
                          have f3 : decide (x.am < 1) = false := by simp at k3 ⊢; omega
                          have f6 : decide (200 < (x.po.length : Int)) = false := by simp at k6 ⊢; omega
                          have f7 : decide (200 < (x.pa.length : Int)) = true := by simp at k7 ⊢; omega
                          have HN := Lib.hid (fun W => (risname_any x.nm W HNL.out).mono fun e w' h => (by rw [k0] at h; exact h))
                          have HM := Lib.hid (fun W => (ris_any x.am W).mono fun e w' h => (by rw [k4] at h; exact h))
                          have HD := Lib.hid (fun W => (rday_any x.du W).mono fun e w' h => (by rw [k5] at h; exact h))
                          have hbad : ltOk x = false := by simp only [ltOk, k0, k1, k2, k3, k4, k5, k6, k7]; simp
                          have HP := Lib.hid (hp.trans (lsOk_bad _ _ hbad))
                          clear hp hbad k0 k1 k2 k3 k4 k5 k6 k7
                          go_wp2_with (first
                            | (go_at_call 19; (with_reducible refine (HN.out _).mono ?_); rintro e w1 ⟨rfl, rfl⟩)
                            | (go_at_call 48; (with_reducible refine (HM.out _).mono ?_); rintro e w1 ⟨rfl, rfl⟩)
                            | (go_at_call 76; (with_reducible refine (HD.out _).mono ?_); rintro e w1 ⟨rfl, rfl⟩))
                          go_ret
                          exact ⟨ret_b (by rw [← HBB.out, HP.out]; rfl), below_drewN (HXa.out) _⟩
                        · have f1 : decide (x.st < 1) = false := by simp at k1 ⊢; omega
                          have f2 : decide (7 < x.st) = false := by simp at k2 ⊢; omega
                          have f3 : decide (x.am < 1) = false := by simp at k3 ⊢; omega
                          have f6 : decide (200 < (x.po.length : Int)) = false := by simp at k6 ⊢; omega
                          have f7 : decide (200 < (x.pa.length : Int)) = false := by simp at k7 ⊢; omega
                          have HN := Lib.hid (fun W => (risname_any x.nm W HNL.out).mono fun e w' h => (by rw [k0] at h; exact h))
                          have HM := Lib.hid (fun W => (ris_any x.am W).mono fun e w' h => (by rw [k4] at h; exact h))
                          have HD := Lib.hid (fun W => (rday_any x.du W).mono fun e w' h => (by rw [k5] at h; exact h))
                          have hok : ltOk x = true := by simp only [ltOk, k0, k1, k2, k3, k4, k5, k6, k7]; simp
                          have HP := Lib.hid (hp.trans (lsOk_next _ HQ.out hok))
                          clear hp hok k0 k1 k2 k3 k4 k5 k6 k7
                          go_wp2_with (first
                            | (go_at_call 19; (with_reducible refine (HN.out _).mono ?_); rintro e w1 ⟨rfl, rfl⟩)
                            | (go_at_call 48; (with_reducible refine (HM.out _).mono ?_); rintro e w1 ⟨rfl, rfl⟩)
                            | (go_at_call 76; (with_reducible refine (HD.out _).mono ?_); rintro e w1 ⟨rfl, rfl⟩))
                          go_roundw
                          case rel => exact ⟨j + 1 + 1, some x, by omega, by go_num, HP.out, .inr ⟨j + 1, x, rfl, HXi.out, rfl⟩, below_drewN HXa.out _⟩
                          case measure => simp [intOf]; omega
    · have e : ls.drop i = [] := List.drop_of_length_le (by have := HLn.out; omega)
      rw [e] at hp
      have HP : Hid (lsOk none ls = true) := Lib.hid (hp.trans (by cases p <;> rfl))
      clear hp e hpi hx
      by_cases h16 : n ≤ 16
      · go_wp2
        go_ret
        exact ⟨ret_b (by rw [← HBB.out, HP.out, HLn.out]; first | (simp [h16]; done) | (simp [h16]; omega)), HX.out⟩
      · go_wp2
        go_ret
        exact ⟨ret_b (by rw [← HBB.out, HP.out, HLn.out]; first | (simp [h16]; done) | (simp [h16]; omega)), HX.out⟩

end Go.Proofs.Ytkbeodlihmmdbaa
