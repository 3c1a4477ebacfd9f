/-
  Joined: LgR LgRr LgS.
-/
import Derived.BigQuiet
import Derived.Test.YtfflkodgojiklaaGreatDoorKG1
namespace Go.Proofs.YtfflkodgojiklaaGreatDoor

section
open Go.RowKit
theorem lsOk_bad (p : Option Lt) (xs : List Lt) {x : Lt} (h : ltOk x = false) : lsOk p (x :: xs) = false := by
  cases p <;> simp [lsOk, h]
theorem lsOk_first (xs : List Lt) {x : Lt} (h : ltOk x = true) : lsOk none (x :: xs) = lsOk (some x) xs := by simp [lsOk, h]
theorem lsOk_next (xs : List Lt) {y x : Lt} (hl : ltS y.nm x.nm = true) (h : ltOk x = true) : lsOk (some y) (x :: xs) = lsOk (some x) xs := by simp [lsOk, h, hl]
theorem lsOk_order (xs : List Lt) {y x : Lt} (hl : ltS y.nm x.nm = false) : lsOk (some y) (x :: xs) = false := by simp [lsOk, hl]
theorem Sl.lt_at {w : World} {A : Option Addr} {n : Nat} {ls : List Lt} (h : Sl w 6 A n (ls.map Lt.cells)) {i : Nat} (hi : i < n) : ∃ g o x, A = some ⟨g, o, none⟩ ∧ ls[i]? = some x ∧ x ∈ ls ∧ ls.drop i = x :: ls.drop (i + 1) ∧ w.rangeAt g (o + i * 6) x.cells :=
  LgIn.lt_at (l := ⟨0, 0, ls, []⟩) (B := none) (m := 0) ⟨h, Sl.none_⟩ hi
/-- A cell of a letter in a slice. -/
theorem Sl.lt_cell {w : World} {g o n : Nat} {ls : List Lt} (h : Sl w 6 (some ⟨g, o, none⟩) n (ls.map Lt.cells)) {j : Nat} {y : Lt} (hy : ls[j]? = some y) (k : Nat) (v : Value) (hv : y.cells[k]? = some v) : w.cell? ⟨g, o + j * 6 + k, none⟩ = some v := by
  have hj : j < n := by
    have h1 := (List.getElem?_eq_some_iff.1 hy).1
    have h2 := h.len
    simp at h2
    omega
  obtain ⟨g', o', y', e, h1, _, _, h2⟩ := h.lt_at hj
  injection e with e
  injection e with e1 e2
  subst e1 e2
  rw [hy] at h1
  injection h1 with h1
  subst h1
  exact h2 k v hv

set_option maxHeartbeats 16000000 in
set_option maxRecDepth 100000 in
theorem rletters_any (ls : List Lt) (A : Option Addr) (n c : Nat) (w : World) (h : Sl w 6 A n (ls.map Lt.cells)) (hn : n ≤ 1000) (hnl : ∀ x ∈ ls, x.nm.length ≤ 1000000) :
    Calls Tryz.prog 31 #[.slice A n c] w fun e w' => e = .returned (.bool (lsOk none ls && decide (ls.length ≤ 16))) ∧ Below w.heap.size w w' := by
  have hsz := ba_size
  have hli := ba_list
  have HI := Lib.hid h
  have HNLs := Lib.hid hnl
  have hix := fun (W : World) (g o j : Nat) (hj : j < n) => Tryz.ix_lt W g o n c j hj
  have HIX := Lib.hid hix
  have hlen : ls.length = n := by simpa using h.len
  have HLn := Lib.hid hlen
  obtain ⟨bb, hbb⟩ : ∃ bb, (lsOk none ls && decide (ls.length ≤ 16)) = bb := ⟨_, rfl⟩
  rw [hbb]
  have HBB := Lib.hid hbb
  clear h hnl hix hlen hbb
  go_enter Tryz.func31, Tryz.ntmps31
  go_wp2
  go_loopw [7] (fun iv wr => ∃ (i : Nat) (p : Option Lt), i ≤ n ∧ iv = .int .i64 i ∧ lsOk none ls = lsOk p (ls.drop i) ∧ (i = 0 ∧ p = none ∨ ∃ j y, i = j + 1 ∧ ls[j]? = some y ∧ p = some y) ∧ Below w.heap.size w wr) (fun iv _ => n - (intOf iv).toNat)
  case atStart => exact ⟨0, none, Nat.zero_le _, rfl, rfl, .inl ⟨rfl, rfl⟩, Below.refl _ _⟩
  case round =>
    obtain ⟨i, p, hi, rfl, hp, hpi, hx⟩ := hrel
    have HX := Lib.hid hx
    by_cases hlt : i < n
    · obtain ⟨g, o, x, rfl, hxi, hmem, hd, hrg⟩ := (HI.out.through HX.out).lt_at hlt
      have HNL := Lib.hid (HNLs.out x hmem)
      have HXi := Lib.hid hxi
      have HXa : Hid (Below w.heap.size w (wr.alloc (.cells #[.string (ba x.nm), .int .i64 x.st, .int .i64 x.am, .int .i64 x.du, .string (ba x.po), .string (ba x.pa)] 39))) := Lib.hid (HX.out.alloc HX.out.size _)
      rw [hd] at hp
      have HRg := Lib.hid hrg
      have hix := HIX.out wr g o i hlt
      clear hrg hd hx hmem hxi
      rcases hpi with ⟨rfl, rfl⟩ | ⟨j, y, rfl, hy, rfl⟩
      · have HP0 := Lib.hid hp
        clear hp
        go_wp2_with (refine wpList_load_mid rfl 39 (.tmp 10) rfl g (o + 0 * 6) rfl [.string (ba x.nm), .int .i64 x.st, .int .i64 x.am, .int .i64 x.du, .string (ba x.po), .string (ba x.pa)] _ HRg.out Tryz.underlying39 rfl (by kernel_rfl) ?_)
        go_quiet (fail)
        have hp := HP0.out
        cases k0 : isNm x.nm
        · have HN := Lib.hid (fun W => (risname_any x.nm W HNL.out).mono fun e w' h => (by rw [k0] at h; exact h))
          have hbad : ltOk x = false := by simp only [ltOk, k0]; simp
          have HP := Lib.hid (hp.trans (lsOk_bad _ _ hbad))
          clear hp hbad k0
          go_wp2_with (first
            | (go_at_call 50; (with_reducible refine (HN.out _).mono ?_); rintro e w1 ⟨rfl, rfl⟩))
          go_ret
          exact ⟨ret_b (by rw [← HBB.out, HP.out]; rfl), below_drewN (HXa.out) _⟩
        · cases k1 : decide (1 ≤ x.st)
          · have f1 : decide (x.st < 1) = true := by simp at k1 ⊢; omega
            have HN := Lib.hid (fun W => (risname_any x.nm W HNL.out).mono fun e w' h => (by rw [k0] at h; exact h))
            have hbad : ltOk x = false := by simp only [ltOk, k0, k1]; simp
            have HP := Lib.hid (hp.trans (lsOk_bad _ _ hbad))
            clear hp hbad k0 k1
            go_wp2_with (first
              | (go_at_call 50; (with_reducible refine (HN.out _).mono ?_); rintro e w1 ⟨rfl, rfl⟩))
            go_ret
            exact ⟨ret_b (by rw [← HBB.out, HP.out]; rfl), below_drewN (HXa.out) _⟩
          · cases k2 : decide (x.st ≤ 7)
            · have f1 : decide (x.st < 1) = false := by simp at k1 ⊢; omega
              have f2 : decide (7 < x.st) = true := by simp at k2 ⊢; omega
              have HN := Lib.hid (fun W => (risname_any x.nm W HNL.out).mono fun e w' h => (by rw [k0] at h; exact h))
              have hbad : ltOk x = false := by simp only [ltOk, k0, k1, k2]; simp
              have HP := Lib.hid (hp.trans (lsOk_bad _ _ hbad))
              clear hp hbad k0 k1 k2
              go_wp2_with (first
                | (go_at_call 50; (with_reducible refine (HN.out _).mono ?_); rintro e w1 ⟨rfl, rfl⟩))
              go_ret
              exact ⟨ret_b (by rw [← HBB.out, HP.out]; rfl), below_drewN (HXa.out) _⟩
            · cases k3 : decide (1 ≤ x.am)
              · have f1 : decide (x.st < 1) = false := by simp at k1 ⊢; omega
                have f2 : decide (7 < x.st) = false := by simp at k2 ⊢; omega
                have f3 : decide (x.am < 1) = true := by simp at k3 ⊢; omega
                have HN := Lib.hid (fun W => (risname_any x.nm W HNL.out).mono fun e w' h => (by rw [k0] at h; exact h))
                have hbad : ltOk x = false := by simp only [ltOk, k0, k1, k2, k3]; simp
                have HP := Lib.hid (hp.trans (lsOk_bad _ _ hbad))
                clear hp hbad k0 k1 k2 k3
                go_wp2_with (first
                  | (go_at_call 50; (with_reducible refine (HN.out _).mono ?_); rintro e w1 ⟨rfl, rfl⟩))
                go_ret
                exact ⟨ret_b (by rw [← HBB.out, HP.out]; rfl), below_drewN (HXa.out) _⟩
              · cases k4 : isM x.am
                · have f1 : decide (x.st < 1) = false := by simp at k1 ⊢; omega
                  have f2 : decide (7 < x.st) = false := by simp at k2 ⊢; omega
                  have f3 : decide (x.am < 1) = false := by simp at k3 ⊢; omega
                  have HN := Lib.hid (fun W => (risname_any x.nm W HNL.out).mono fun e w' h => (by rw [k0] at h; exact h))
                  have HM := Lib.hid (fun W => (ris_any x.am W).mono fun e w' h => (by rw [k4] at h; exact h))
                  have hbad : ltOk x = false := by simp only [ltOk, k0, k1, k2, k3, k4]; simp
                  have HP := Lib.hid (hp.trans (lsOk_bad _ _ hbad))
                  clear hp hbad k0 k1 k2 k3 k4
                  go_wp2_with (first
                    | (go_at_call 50; (with_reducible refine (HN.out _).mono ?_); rintro e w1 ⟨rfl, rfl⟩)
                    | (go_at_call 30; (with_reducible refine (HM.out _).mono ?_); rintro e w1 ⟨rfl, rfl⟩))
                  go_ret
                  exact ⟨ret_b (by rw [← HBB.out, HP.out]; rfl), below_drewN (HXa.out) _⟩
                · cases k5 : isM x.du
                  · have f1 : decide (x.st < 1) = false := by simp at k1 ⊢; omega
                    have f2 : decide (7 < x.st) = false := by simp at k2 ⊢; omega
                    have f3 : decide (x.am < 1) = false := by simp at k3 ⊢; omega
                    have HN := Lib.hid (fun W => (risname_any x.nm W HNL.out).mono fun e w' h => (by rw [k0] at h; exact h))
                    have HM := Lib.hid (fun W => (ris_any x.am W).mono fun e w' h => (by rw [k4] at h; exact h))
                    have HD := Lib.hid (fun W => (rday_any x.du W).mono fun e w' h => (by rw [k5] at h; exact h))
                    have hbad : ltOk x = false := by simp only [ltOk, k0, k1, k2, k3, k4, k5]; simp
                    have HP := Lib.hid (hp.trans (lsOk_bad _ _ hbad))
                    clear hp hbad k0 k1 k2 k3 k4 k5
                    go_wp2_with (first
                      | (go_at_call 50; (with_reducible refine (HN.out _).mono ?_); rintro e w1 ⟨rfl, rfl⟩)
                      | (go_at_call 30; (with_reducible refine (HM.out _).mono ?_); rintro e w1 ⟨rfl, rfl⟩)
                      | (go_at_call 51; (with_reducible refine (HD.out _).mono ?_); rintro e w1 ⟨rfl, rfl⟩))
                    go_ret
                    exact ⟨ret_b (by rw [← HBB.out, HP.out]; rfl), below_drewN (HXa.out) _⟩
                  · cases k6 : decide (x.po.length ≤ 200)
                    · have f1 : decide (x.st < 1) = false := by simp at k1 ⊢; omega
                      have f2 : decide (7 < x.st) = false := by simp at k2 ⊢; omega
                      have f3 : decide (x.am < 1) = false := by simp at k3 ⊢; omega
                      have f6 : decide (200 < (x.po.length : Int)) = true := by simp at k6 ⊢; omega
                      have HN := Lib.hid (fun W => (risname_any x.nm W HNL.out).mono fun e w' h => (by rw [k0] at h; exact h))
                      have HM := Lib.hid (fun W => (ris_any x.am W).mono fun e w' h => (by rw [k4] at h; exact h))
                      have HD := Lib.hid (fun W => (rday_any x.du W).mono fun e w' h => (by rw [k5] at h; exact h))
                      have hbad : ltOk x = false := by simp only [ltOk, k0, k1, k2, k3, k4, k5, k6]; simp
                      have HP := Lib.hid (hp.trans (lsOk_bad _ _ hbad))
                      clear hp hbad k0 k1 k2 k3 k4 k5 k6
                      go_wp2_with (first
                        | (go_at_call 50; (with_reducible refine (HN.out _).mono ?_); rintro e w1 ⟨rfl, rfl⟩)
                        | (go_at_call 30; (with_reducible refine (HM.out _).mono ?_); rintro e w1 ⟨rfl, rfl⟩)
                        | (go_at_call 51; (with_reducible refine (HD.out _).mono ?_); rintro e w1 ⟨rfl, rfl⟩))
                      go_ret
                      exact ⟨ret_b (by rw [← HBB.out, HP.out]; rfl), below_drewN (HXa.out) _⟩
                    · cases k7 : decide (x.pa.length ≤ 200)
                      · have f1 : decide (x.st < 1) = false := by simp at k1 ⊢; omega
                        have f2 : decide (7 < x.st) = false := by simp at k2 ⊢; omega
                        have f3 : decide (x.am < 1) = false := by simp at k3 ⊢; omega
                        have f6 : decide (200 < (x.po.length : Int)) = false := by simp at k6 ⊢; omega
                        have f7 : decide (200 < (x.pa.length : Int)) = true := by simp at k7 ⊢; omega
                        have HN := Lib.hid (fun W => (risname_any x.nm W HNL.out).mono fun e w' h => (by rw [k0] at h; exact h))
                        have HM := Lib.hid (fun W => (ris_any x.am W).mono fun e w' h => (by rw [k4] at h; exact h))
                        have HD := Lib.hid (fun W => (rday_any x.du W).mono fun e w' h => (by rw [k5] at h; exact h))
                        have hbad : ltOk x = false := by simp only [ltOk, k0, k1, k2, k3, k4, k5, k6, k7]; simp
                        have HP := Lib.hid (hp.trans (lsOk_bad _ _ hbad))
                        clear hp hbad k0 k1 k2 k3 k4 k5 k6 k7
                        go_wp2_with (first
                          | (go_at_call 50; (with_reducible refine (HN.out _).mono ?_); rintro e w1 ⟨rfl, rfl⟩)
                          | (go_at_call 30; (with_reducible refine (HM.out _).mono ?_); rintro e w1 ⟨rfl, rfl⟩)
                          | (go_at_call 51; (with_reducible refine (HD.out _).mono ?_); rintro e w1 ⟨rfl, rfl⟩))
                        go_ret
                        exact ⟨ret_b (by rw [← HBB.out, HP.out]; rfl), below_drewN (HXa.out) _⟩
                      · have f1 : decide (x.st < 1) = false := by simp at k1 ⊢; omega
                        have f2 : decide (7 < x.st) = false := by simp at k2 ⊢; omega
                        have f3 : decide (x.am < 1) = false := by simp at k3 ⊢; omega
                        have f6 : decide (200 < (x.po.length : Int)) = false := by simp at k6 ⊢; omega
                        have f7 : decide (200 < (x.pa.length : Int)) = false := by simp at k7 ⊢; omega
                        have HN := Lib.hid (fun W => (risname_any x.nm W HNL.out).mono fun e w' h => (by rw [k0] at h; exact h))
                        have HM := Lib.hid (fun W => (ris_any x.am W).mono fun e w' h => (by rw [k4] at h; exact h))
                        have HD := Lib.hid (fun W => (rday_any x.du W).mono fun e w' h => (by rw [k5] at h; exact h))
                        have hok : ltOk x = true := by simp only [ltOk, k0, k1, k2, k3, k4, k5, k6, k7]; simp
                        have HP := Lib.hid (hp.trans (lsOk_first _ hok))
                        clear hp hok k0 k1 k2 k3 k4 k5 k6 k7
                        go_wp2_with (first
                          | (go_at_call 50; (with_reducible refine (HN.out _).mono ?_); rintro e w1 ⟨rfl, rfl⟩)
                          | (go_at_call 30; (with_reducible refine (HM.out _).mono ?_); rintro e w1 ⟨rfl, rfl⟩)
                          | (go_at_call 51; (with_reducible refine (HD.out _).mono ?_); rintro e w1 ⟨rfl, rfl⟩))
                        go_roundw
                        case rel => exact ⟨1, some x, by omega, by go_num, HP.out, .inr ⟨0, x, rfl, HXi.out, rfl⟩, below_drewN HXa.out _⟩
                        case measure => simp [intOf]; omega
      · have hjn : j < n := by omega
        have hyc := ((HI.out.through HX.out).lt_cell hy 0 _ rfl)
        have hya : (wr.alloc (.cells #[.string (ba x.nm), .int .i64 x.st, .int .i64 x.am, .int .i64 x.du, .string (ba x.po), .string (ba x.pa)] 39)).cell? ⟨g, o + j * 6, none⟩ = some (.string (ba y.nm)) := ((Below.refl _ wr).alloc (Nat.le_refl _) (.cells #[.string (ba x.nm), .int .i64 x.st, .int .i64 x.am, .int .i64 x.du, .string (ba x.po), .string (ba x.pa)] 39)).cell (p := ⟨g, o + j * 6, none⟩) (World.block_lt_of_cell? wr ⟨g, o + j * 6 + 0, none⟩ hyc) |>.trans hyc
        have hixj : ∀ W, (Instr.indexAt 22 (.slice (some ⟨g, o, none⟩) n c) (.int .i64 (j : Int))).run Tryz.prog W = .ok (.pointer (some ⟨g, o + j * 6, none⟩)) W := fun W => HIX.out W g o j hjn
        have hj0 : decide ((0 : Int) < (j : Int) + 1) = true := decide_eq_true (by omega)
        have hwr : IntKind.i64.wrap ((j : Int) + 1 - 1) = (j : Int) := by rw [IntWalk.i64_in _ (by omega)]; omega
        have hwr2 : (j : Int) + 1 - 1 = (j : Int) := by omega
        cases hql : ltS y.nm x.nm
        · have HP := Lib.hid (hp.trans (lsOk_order _ hql))
          have hql' : Op.bytesLess y.nm x.nm = false := hql
          clear hp hql hyc hy
          go_wp2_with (refine wpList_load_mid rfl 39 (.tmp 10) rfl g (o + (j + 1) * 6) rfl [.string (ba x.nm), .int .i64 x.st, .int .i64 x.am, .int .i64 x.du, .string (ba x.po), .string (ba x.pa)] _ HRg.out Tryz.underlying39 rfl (by kernel_rfl) ?_)
          go_quiet (fail)
          go_wp2
          go_ret
          exact ⟨ret_b (by rw [← HBB.out, HP.out]; rfl), below_drewN HXa.out _⟩
        · have HP0 := Lib.hid hp
          have HQ := Lib.hid hql
          have hql' : Op.bytesLess y.nm x.nm = true := hql
          clear hp hyc hy hql
          go_wp2_with (refine wpList_load_mid rfl 39 (.tmp 10) rfl g (o + (j + 1) * 6) rfl [.string (ba x.nm), .int .i64 x.st, .int .i64 x.am, .int .i64 x.du, .string (ba x.po), .string (ba x.pa)] _ HRg.out Tryz.underlying39 rfl (by kernel_rfl) ?_)
          go_quiet (fail)
          clear hql' hya hixj hj0 hwr hwr2
          have hp := HP0.out
          cases k0 : isNm x.nm
          · have HN := Lib.hid (fun W => (risname_any x.nm W HNL.out).mono fun e w' h => (by rw [k0] at h; exact h))
            have hbad : ltOk x = false := by simp only [ltOk, k0]; simp
            have HP := Lib.hid (hp.trans (lsOk_bad _ _ hbad))
            clear hp hbad k0
            go_wp2_with (first
              | (go_at_call 50; (with_reducible refine (HN.out _).mono ?_); rintro e w1 ⟨rfl, rfl⟩))
            go_ret
            exact ⟨ret_b (by rw [← HBB.out, HP.out]; rfl), below_drewN (HXa.out) _⟩
          · cases k1 : decide (1 ≤ x.st)
            · have f1 : decide (x.st < 1) = true := by simp at k1 ⊢; omega
              have HN := Lib.hid (fun W => (risname_any x.nm W HNL.out).mono fun e w' h => (by rw [k0] at h; exact h))
              have hbad : ltOk x = false := by simp only [ltOk, k0, k1]; simp
              have HP := Lib.hid (hp.trans (lsOk_bad _ _ hbad))
              clear hp hbad k0 k1
              go_wp2_with (first
                | (go_at_call 50; (with_reducible refine (HN.out _).mono ?_); rintro e w1 ⟨rfl, rfl⟩))
              go_ret
              exact ⟨ret_b (by rw [← HBB.out, HP.out]; rfl), below_drewN (HXa.out) _⟩
            · cases k2 : decide (x.st ≤ 7)
              · have f1 : decide (x.st < 1) = false := by simp at k1 ⊢; omega
                have f2 : decide (7 < x.st) = true := by simp at k2 ⊢; omega
                have HN := Lib.hid (fun W => (risname_any x.nm W HNL.out).mono fun e w' h => (by rw [k0] at h; exact h))
                have hbad : ltOk x = false := by simp only [ltOk, k0, k1, k2]; simp
                have HP := Lib.hid (hp.trans (lsOk_bad _ _ hbad))
                clear hp hbad k0 k1 k2
                go_wp2_with (first
                  | (go_at_call 50; (with_reducible refine (HN.out _).mono ?_); rintro e w1 ⟨rfl, rfl⟩))
                go_ret
                exact ⟨ret_b (by rw [← HBB.out, HP.out]; rfl), below_drewN (HXa.out) _⟩
              · cases k3 : decide (1 ≤ x.am)
                · have f1 : decide (x.st < 1) = false := by simp at k1 ⊢; omega
                  have f2 : decide (7 < x.st) = false := by simp at k2 ⊢; omega
                  have f3 : decide (x.am < 1) = true := by simp at k3 ⊢; omega
                  have HN := Lib.hid (fun W => (risname_any x.nm W HNL.out).mono fun e w' h => (by rw [k0] at h; exact h))
                  have hbad : ltOk x = false := by simp only [ltOk, k0, k1, k2, k3]; simp
                  have HP := Lib.hid (hp.trans (lsOk_bad _ _ hbad))
                  clear hp hbad k0 k1 k2 k3
                  go_wp2_with (first
                    | (go_at_call 50; (with_reducible refine (HN.out _).mono ?_); rintro e w1 ⟨rfl, rfl⟩))
                  go_ret
                  exact ⟨ret_b (by rw [← HBB.out, HP.out]; rfl), below_drewN (HXa.out) _⟩
                · cases k4 : isM x.am
                  · have f1 : decide (x.st < 1) = false := by simp at k1 ⊢; omega
                    have f2 : decide (7 < x.st) = false := by simp at k2 ⊢; omega
                    have f3 : decide (x.am < 1) = false := by simp at k3 ⊢; omega
                    have HN := Lib.hid (fun W => (risname_any x.nm W HNL.out).mono fun e w' h => (by rw [k0] at h; exact h))
                    have HM := Lib.hid (fun W => (ris_any x.am W).mono fun e w' h => (by rw [k4] at h; exact h))
                    have hbad : ltOk x = false := by simp only [ltOk, k0, k1, k2, k3, k4]; simp
                    have HP := Lib.hid (hp.trans (lsOk_bad _ _ hbad))
                    clear hp hbad k0 k1 k2 k3 k4
                    go_wp2_with (first
                      | (go_at_call 50; (with_reducible refine (HN.out _).mono ?_); rintro e w1 ⟨rfl, rfl⟩)
                      | (go_at_call 30; (with_reducible refine (HM.out _).mono ?_); rintro e w1 ⟨rfl, rfl⟩))
                    go_ret
                    exact ⟨ret_b (by rw [← HBB.out, HP.out]; rfl), below_drewN (HXa.out) _⟩
                  · cases k5 : isM x.du
                    · have f1 : decide (x.st < 1) = false := by simp at k1 ⊢; omega
                      have f2 : decide (7 < x.st) = false := by simp at k2 ⊢; omega
                      have f3 : decide (x.am < 1) = false := by simp at k3 ⊢; omega
                      have HN := Lib.hid (fun W => (risname_any x.nm W HNL.out).mono fun e w' h => (by rw [k0] at h; exact h))
                      have HM := Lib.hid (fun W => (ris_any x.am W).mono fun e w' h => (by rw [k4] at h; exact h))
                      have HD := Lib.hid (fun W => (rday_any x.du W).mono fun e w' h => (by rw [k5] at h; exact h))
                      have hbad : ltOk x = false := by simp only [ltOk, k0, k1, k2, k3, k4, k5]; simp
                      have HP := Lib.hid (hp.trans (lsOk_bad _ _ hbad))
                      clear hp hbad k0 k1 k2 k3 k4 k5
                      go_wp2_with (first
                        | (go_at_call 50; (with_reducible refine (HN.out _).mono ?_); rintro e w1 ⟨rfl, rfl⟩)
                        | (go_at_call 30; (with_reducible refine (HM.out _).mono ?_); rintro e w1 ⟨rfl, rfl⟩)
                        | (go_at_call 51; (with_reducible refine (HD.out _).mono ?_); rintro e w1 ⟨rfl, rfl⟩))
                      go_ret
                      exact ⟨ret_b (by rw [← HBB.out, HP.out]; rfl), below_drewN (HXa.out) _⟩
                    · cases k6 : decide (x.po.length ≤ 200)
                      · have f1 : decide (x.st < 1) = false := by simp at k1 ⊢; omega
                        have f2 : decide (7 < x.st) = false := by simp at k2 ⊢; omega
                        have f3 : decide (x.am < 1) = false := by simp at k3 ⊢; omega
                        have f6 : decide (200 < (x.po.length : Int)) = true := by simp at k6 ⊢; omega
                        have HN := Lib.hid (fun W => (risname_any x.nm W HNL.out).mono fun e w' h => (by rw [k0] at h; exact h))
                        have HM := Lib.hid (fun W => (ris_any x.am W).mono fun e w' h => (by rw [k4] at h; exact h))
                        have HD := Lib.hid (fun W => (rday_any x.du W).mono fun e w' h => (by rw [k5] at h; exact h))
                        have hbad : ltOk x = false := by simp only [ltOk, k0, k1, k2, k3, k4, k5, k6]; simp
                        have HP := Lib.hid (hp.trans (lsOk_bad _ _ hbad))
                        clear hp hbad k0 k1 k2 k3 k4 k5 k6
                        go_wp2_with (first
                          | (go_at_call 50; (with_reducible refine (HN.out _).mono ?_); rintro e w1 ⟨rfl, rfl⟩)
                          | (go_at_call 30; (with_reducible refine (HM.out _).mono ?_); rintro e w1 ⟨rfl, rfl⟩)
                          | (go_at_call 51; (with_reducible refine (HD.out _).mono ?_); rintro e w1 ⟨rfl, rfl⟩))
                        go_ret
                        exact ⟨ret_b (by rw [← HBB.out, HP.out]; rfl), below_drewN (HXa.out) _⟩
                      · cases k7 : decide (x.pa.length ≤ 200)
                        · have f1 : decide (x.st < 1) = false := by simp at k1 ⊢; omega
                          have f2 : decide (7 < x.st) = false := by simp at k2 ⊢; omega
                          have f3 : decide (x.am < 1) = false := by simp at k3 ⊢; omega
                          have f6 : decide (200 < (x.po.length : Int)) = false := by simp at k6 ⊢; omega
                          have f7 : decide (200 < (x.pa.length : Int)) = true := by simp at k7 ⊢; omega
                          have HN := Lib.hid (fun W => (risname_any x.nm W HNL.out).mono fun e w' h => (by rw [k0] at h; exact h))
                          have HM := Lib.hid (fun W => (ris_any x.am W).mono fun e w' h => (by rw [k4] at h; exact h))
                          have HD := Lib.hid (fun W => (rday_any x.du W).mono fun e w' h => (by rw [k5] at h; exact h))
                          have hbad : ltOk x = false := by simp only [ltOk, k0, k1, k2, k3, k4, k5, k6, k7]; simp
                          have HP := Lib.hid (hp.trans (lsOk_bad _ _ hbad))
                          clear hp hbad k0 k1 k2 k3 k4 k5 k6 k7
                          go_wp2_with (first
                            | (go_at_call 50; (with_reducible refine (HN.out _).mono ?_); rintro e w1 ⟨rfl, rfl⟩)
                            | (go_at_call 30; (with_reducible refine (HM.out _).mono ?_); rintro e w1 ⟨rfl, rfl⟩)
                            | (go_at_call 51; (with_reducible refine (HD.out _).mono ?_); rintro e w1 ⟨rfl, rfl⟩))
                          go_ret
                          exact ⟨ret_b (by rw [← HBB.out, HP.out]; rfl), below_drewN (HXa.out) _⟩
                        · have f1 : decide (x.st < 1) = false := by simp at k1 ⊢; omega
                          have f2 : decide (7 < x.st) = false := by simp at k2 ⊢; omega
                          have f3 : decide (x.am < 1) = false := by simp at k3 ⊢; omega
                          have f6 : decide (200 < (x.po.length : Int)) = false := by simp at k6 ⊢; omega
                          have f7 : decide (200 < (x.pa.length : Int)) = false := by simp at k7 ⊢; omega
                          have HN := Lib.hid (fun W => (risname_any x.nm W HNL.out).mono fun e w' h => (by rw [k0] at h; exact h))
                          have HM := Lib.hid (fun W => (ris_any x.am W).mono fun e w' h => (by rw [k4] at h; exact h))
                          have HD := Lib.hid (fun W => (rday_any x.du W).mono fun e w' h => (by rw [k5] at h; exact h))
                          have hok : ltOk x = true := by simp only [ltOk, k0, k1, k2, k3, k4, k5, k6, k7]; simp
                          have HP := Lib.hid (hp.trans (lsOk_next _ HQ.out hok))
                          clear hp hok k0 k1 k2 k3 k4 k5 k6 k7
                          go_wp2_with (first
                            | (go_at_call 50; (with_reducible refine (HN.out _).mono ?_); rintro e w1 ⟨rfl, rfl⟩)
                            | (go_at_call 30; (with_reducible refine (HM.out _).mono ?_); rintro e w1 ⟨rfl, rfl⟩)
                            | (go_at_call 51; (with_reducible refine (HD.out _).mono ?_); rintro e w1 ⟨rfl, rfl⟩))
                          go_roundw
                          case rel => exact ⟨j + 1 + 1, some x, by omega, by go_num, HP.out, .inr ⟨j + 1, x, rfl, HXi.out, rfl⟩, below_drewN HXa.out _⟩
                          case measure => simp [intOf]; omega
    · have e : ls.drop i = [] := List.drop_of_length_le (by have := HLn.out; omega)
      rw [e] at hp
      have HP : Hid (lsOk none ls = true) := Lib.hid (hp.trans (by cases p <;> rfl))
      clear hp e hpi hx
      by_cases h16 : n ≤ 16
      · go_wp2
        go_ret
        exact ⟨ret_b (by rw [← HBB.out, HP.out, HLn.out]; first | (simp [h16]; done) | (simp [h16]; omega)), HX.out⟩
      · go_wp2
        go_ret
        exact ⟨ret_b (by rw [← HBB.out, HP.out, HLn.out]; first | (simp [h16]; done) | (simp [h16]; omega)), HX.out⟩
end

section
open Go.RowKit
theorem osOk_bad (p : Option Oc) (xs : List Oc) {x : Oc} (h : ocOk x = false) : osOk p (x :: xs) = false := by
  cases p <;> simp [osOk, h]
theorem osOk_first (xs : List Oc) {x : Oc} (h : ocOk x = true) : osOk none (x :: xs) = osOk (some x) xs := by simp [osOk, h]
theorem osOk_next (xs : List Oc) {y x : Oc} (hl : y.cl < x.cl) (h : ocOk x = true) : osOk (some y) (x :: xs) = osOk (some x) xs := by simp [osOk, h, hl]
theorem osOk_order (xs : List Oc) {y x : Oc} (hl : ¬ y.cl < x.cl) : osOk (some y) (x :: xs) = false := by simp [osOk, hl]
theorem Lg.right_eq (l : Lg) : l.right = (osOk none l.os && (decide (0 ≤ l.sq) && (decide (l.sq ≤ 1048576) && (isM l.tt && (decide (l.os.length ≤ 4) && (lsOk none l.ls && decide (l.ls.length ≤ 16))))))) := by
  unfold Lg.right
  generalize decide (0 ≤ l.sq) = a1
  generalize decide (l.sq ≤ 1048576) = a2
  generalize isM l.tt = a3
  generalize decide (l.os.length ≤ 4) = a4
  generalize decide (l.ls.length ≤ 16) = a5
  generalize lsOk none l.ls = a6
  generalize osOk none l.os = a7
  revert a1 a2 a3 a4 a5 a6 a7
  decide
/-- A cell of an outcome in a slice. -/
theorem LgIn.oc_cell {w : World} {A : Option Addr} {n : Nat} {g o m : Nat} {l : Lg} (h : LgIn w A n (some ⟨g, o, none⟩) m l) {j : Nat} {y : Oc} (hy : l.os[j]? = some y) (k : Nat) (v : Value) (hv : y.cells[k]? = some v) : w.cell? ⟨g, o + j * 3 + k, none⟩ = some v := by
  have hj : j < m := by
    have h1 := (List.getElem?_eq_some_iff.1 hy).1
    have h2 := h.len
    omega
  obtain ⟨g', o', y', e, h1, _, _, h2⟩ := h.oc_at hj
  injection e with e
  injection e with e1 e2
  subst e1 e2
  rw [hy] at h1
  injection h1 with h1
  subst h1
  exact h2 k v hv

set_option maxHeartbeats 16000000 in
set_option maxRecDepth 100000 in
theorem rright_any (l : Lg) (A : Option Addr) (n c : Nat) (B : Option Addr) (m d : Nat) (w : World) (h : LgIn w A n B m l) (hn : n ≤ 1000) (hm : m ≤ 1000) (hnl : ∀ x ∈ l.ls, x.nm.length ≤ 1000000) :
    Calls Tryz.prog 14 #[l.val A n c B m d] w fun e w' => e = .returned (.bool l.right) ∧ Below w.heap.size w w' := by
  have HI := Lib.hid h
  have hls : ∀ W, Below w.heap.size w W → Calls Tryz.prog 31 #[.slice A n c] W fun e w' => e = .returned (.bool (lsOk none l.ls && decide (l.ls.length ≤ 16))) ∧ Below W.heap.size W w' := fun W hW => rletters_any l.ls A n c W (h.1.through hW) hn hnl
  have hmm : ∀ W, Calls Tryz.prog 30 #[.int .i64 l.tt] W fun e w' => e = .returned (.bool (isM l.tt)) ∧ w' = W := fun W => ris_any l.tt W
  have HLs := Lib.hid hls
  have HM := Lib.hid hmm
  have hix := fun (W : World) (g o j : Nat) (hj : j < m) => Tryz.ix_oc W g o m d j hj
  have HIX := Lib.hid hix
  have hlen : l.os.length = m := h.len.2
  have HLn := Lib.hid hlen
  obtain ⟨bb, hbb⟩ : ∃ bb, l.right = bb := ⟨_, rfl⟩
  rw [hbb]
  have HBB := Lib.hid hbb
  unfold Lg.val
  have H0 : Hid (Blk (w.alloc (.cells #[.int .i64 l.sq, .int .i64 l.tt, .slice A n c, .slice B m d] 25)) w.heap.size 25 [.int .i64 l.sq, .int .i64 l.tt, .slice A n c, .slice B m d]) := Lib.hid (Blk.fresh rfl rfl)
  clear h hnl hix hlen hbb hls hmm
  go_enter Tryz.func14, Tryz.ntmps14
  go_wp2
  go_loopw [8] (fun iv wr => ∃ (i : Nat) (p : Option Oc), i ≤ m ∧ iv = .int .i64 i ∧ osOk none l.os = osOk p (l.os.drop i) ∧ (i = 0 ∧ p = none ∨ ∃ j y, i = j + 1 ∧ l.os[j]? = some y ∧ p = some y) ∧ Blk wr w.heap.size 25 [.int .i64 l.sq, .int .i64 l.tt, .slice A n c, .slice B m d] ∧ Below w.heap.size w wr) (fun iv _ => m - (intOf iv).toNat)
  case atStart => exact ⟨0, none, Nat.zero_le _, rfl, rfl, .inl ⟨rfl, rfl⟩, H0.out, below1 w _⟩
  case round =>
    obtain ⟨i, p, hi, rfl, hp, hpi, hb0, hx⟩ := hrel
    have HX := Lib.hid hx
    have HB0 := Lib.hid hb0
    by_cases hlt : i < m
    · obtain ⟨g, o, x, hBe, hxi, hmem, hd, hrg⟩ := (HI.out.through HX.out).oc_at hlt
      have HBe := Lib.hid hBe
      have HXi := Lib.hid hxi
      have HXa : Hid (Below w.heap.size w (wr.alloc (.cells #[.int .i64 x.cl, .int .i64 x.sp, .int .i64 x.rs] 56))) := Lib.hid (HX.out.alloc HX.out.size _)
      have HB0a : Hid (Blk (wr.alloc (.cells #[.int .i64 x.cl, .int .i64 x.sp, .int .i64 x.rs] 56)) w.heap.size 25 [.int .i64 l.sq, .int .i64 l.tt, .slice A n c, .slice B m d]) := Lib.hid (HB0.out.alloc _)
      rw [hd] at hp
      have HRg := Lib.hid hrg
      have hix : (Instr.indexAt 23 (.slice B m d) (.int .i64 (i : Int))).run Tryz.prog wr = .ok (.pointer (some ⟨g, o + i * 3, none⟩)) wr := by rw [hBe]; exact HIX.out wr g o i hlt
      clear hrg hd hx hmem hxi hb0 hBe
      rcases hpi with ⟨rfl, rfl⟩ | ⟨j, y, rfl, hy, rfl⟩
      · have hix0 : ∀ W, (Instr.indexAt 23 (.slice B m d) (.int .i64 0)).run Tryz.prog W = .ok (.pointer (some ⟨g, o, none⟩)) W := fun W => by
          rw [HBe.out]
          have := HIX.out W g o 0 hlt
          simpa using this
        cases k0 : decide (0 ≤ x.cl)
        · have f0 : decide (x.cl < 0) = true := by simp at k0 ⊢; omega
          have hbad : ocOk x = false := by simp only [ocOk, k0]; simp
          have HP := Lib.hid (hp.trans (osOk_bad _ _ hbad))
          clear hp hbad k0
          go_wp2_with (refine wpList_load_mid rfl 56 (.tmp 11) rfl g (o + 0 * 3) rfl [.int .i64 x.cl, .int .i64 x.sp, .int .i64 x.rs] _ HRg.out Tryz.underlying56 rfl (by kernel_rfl) ?_)
          go_quiet (fail)
          go_wp2
          go_ret
          exact ⟨ret_b (by rw [← HBB.out, Lg.right_eq, HP.out]; simp), below_drewN (HXa.out) _⟩
        · cases k1 : decide (x.cl ≤ 63)
          · have f0 : decide (x.cl < 0) = false := by simp at k0 ⊢; omega
            have f1 : decide (63 < x.cl) = true := by simp at k1 ⊢; omega
            have hbad : ocOk x = false := by simp only [ocOk, k0, k1]; simp
            have HP := Lib.hid (hp.trans (osOk_bad _ _ hbad))
            clear hp hbad k0 k1
            go_wp2_with (refine wpList_load_mid rfl 56 (.tmp 11) rfl g (o + 0 * 3) rfl [.int .i64 x.cl, .int .i64 x.sp, .int .i64 x.rs] _ HRg.out Tryz.underlying56 rfl (by kernel_rfl) ?_)
            go_quiet (fail)
            go_wp2
            go_ret
            exact ⟨ret_b (by rw [← HBB.out, Lg.right_eq, HP.out]; simp), below_drewN (HXa.out) _⟩
          · cases k2 : decide (1 ≤ x.sp)
            · have f0 : decide (x.cl < 0) = false := by simp at k0 ⊢; omega
              have f1 : decide (63 < x.cl) = false := by simp at k1 ⊢; omega
              have f2 : decide (x.sp < 1) = true := by simp at k2 ⊢; omega
              have hbad : ocOk x = false := by simp only [ocOk, k0, k1, k2]; simp
              have HP := Lib.hid (hp.trans (osOk_bad _ _ hbad))
              clear hp hbad k0 k1 k2
              go_wp2_with (refine wpList_load_mid rfl 56 (.tmp 11) rfl g (o + 0 * 3) rfl [.int .i64 x.cl, .int .i64 x.sp, .int .i64 x.rs] _ HRg.out Tryz.underlying56 rfl (by kernel_rfl) ?_)
              go_quiet (fail)
              go_wp2
              go_ret
              exact ⟨ret_b (by rw [← HBB.out, Lg.right_eq, HP.out]; simp), below_drewN (HXa.out) _⟩
            · cases k3 : decide (x.sp ≤ 1099511627776)
              · have f0 : decide (x.cl < 0) = false := by simp at k0 ⊢; omega
                have f1 : decide (63 < x.cl) = false := by simp at k1 ⊢; omega
                have f2 : decide (x.sp < 1) = false := by simp at k2 ⊢; omega
                have f3 : decide (1099511627776 < x.sp) = true := by simp at k3 ⊢; omega
                have hbad : ocOk x = false := by simp only [ocOk, k0, k1, k2, k3]; simp
                have HP := Lib.hid (hp.trans (osOk_bad _ _ hbad))
                clear hp hbad k0 k1 k2 k3
                go_wp2_with (refine wpList_load_mid rfl 56 (.tmp 11) rfl g (o + 0 * 3) rfl [.int .i64 x.cl, .int .i64 x.sp, .int .i64 x.rs] _ HRg.out Tryz.underlying56 rfl (by kernel_rfl) ?_)
                go_quiet (fail)
                go_wp2
                go_ret
                exact ⟨ret_b (by rw [← HBB.out, Lg.right_eq, HP.out]; simp), below_drewN (HXa.out) _⟩
              · cases k4 : decide (0 ≤ x.rs)
                · have f0 : decide (x.cl < 0) = false := by simp at k0 ⊢; omega
                  have f1 : decide (63 < x.cl) = false := by simp at k1 ⊢; omega
                  have f2 : decide (x.sp < 1) = false := by simp at k2 ⊢; omega
                  have f3 : decide (1099511627776 < x.sp) = false := by simp at k3 ⊢; omega
                  have f4 : decide (x.rs < 0) = true := by simp at k4 ⊢; omega
                  have hbad : ocOk x = false := by simp only [ocOk, k0, k1, k2, k3, k4]; simp
                  have HP := Lib.hid (hp.trans (osOk_bad _ _ hbad))
                  clear hp hbad k0 k1 k2 k3 k4
                  go_wp2_with (refine wpList_load_mid rfl 56 (.tmp 11) rfl g (o + 0 * 3) rfl [.int .i64 x.cl, .int .i64 x.sp, .int .i64 x.rs] _ HRg.out Tryz.underlying56 rfl (by kernel_rfl) ?_)
                  go_quiet (fail)
                  go_wp2
                  go_ret
                  exact ⟨ret_b (by rw [← HBB.out, Lg.right_eq, HP.out]; simp), below_drewN (HXa.out) _⟩
                · cases k5 : decide (x.rs ≤ 99)
                  · have f0 : decide (x.cl < 0) = false := by simp at k0 ⊢; omega
                    have f1 : decide (63 < x.cl) = false := by simp at k1 ⊢; omega
                    have f2 : decide (x.sp < 1) = false := by simp at k2 ⊢; omega
                    have f3 : decide (1099511627776 < x.sp) = false := by simp at k3 ⊢; omega
                    have f4 : decide (x.rs < 0) = false := by simp at k4 ⊢; omega
                    have f5 : decide (99 < x.rs) = true := by simp at k5 ⊢; omega
                    have hbad : ocOk x = false := by simp only [ocOk, k0, k1, k2, k3, k4, k5]; simp
                    have HP := Lib.hid (hp.trans (osOk_bad _ _ hbad))
                    clear hp hbad k0 k1 k2 k3 k4 k5
                    go_wp2_with (refine wpList_load_mid rfl 56 (.tmp 11) rfl g (o + 0 * 3) rfl [.int .i64 x.cl, .int .i64 x.sp, .int .i64 x.rs] _ HRg.out Tryz.underlying56 rfl (by kernel_rfl) ?_)
                    go_quiet (fail)
                    go_wp2
                    go_ret
                    exact ⟨ret_b (by rw [← HBB.out, Lg.right_eq, HP.out]; simp), below_drewN (HXa.out) _⟩
                  · have f0 : decide (x.cl < 0) = false := by simp at k0 ⊢; omega
                    have f1 : decide (63 < x.cl) = false := by simp at k1 ⊢; omega
                    have f2 : decide (x.sp < 1) = false := by simp at k2 ⊢; omega
                    have f3 : decide (1099511627776 < x.sp) = false := by simp at k3 ⊢; omega
                    have f4 : decide (x.rs < 0) = false := by simp at k4 ⊢; omega
                    have f5 : decide (99 < x.rs) = false := by simp at k5 ⊢; omega
                    have hok : ocOk x = true := by simp only [ocOk, k0, k1, k2, k3, k4, k5]; simp
                    have HP := Lib.hid (hp.trans (osOk_first _ hok))
                    clear hp hok k0 k1 k2 k3 k4 k5
                    go_wp2_with (refine wpList_load_mid rfl 56 (.tmp 11) rfl g (o + 0 * 3) rfl [.int .i64 x.cl, .int .i64 x.sp, .int .i64 x.rs] _ HRg.out Tryz.underlying56 rfl (by kernel_rfl) ?_)
                    go_quiet (fail)
                    go_wp2
                    go_roundw
                    case rel => exact ⟨1, some x, by omega, by go_num, HP.out, .inr ⟨0, x, rfl, HXi.out, rfl⟩, HB0a.out.drewN _, below_drewN HXa.out _⟩
                    case measure => simp [intOf]; omega
      · have hjn : j < m := by omega
        have hyc := ((HBe.out ▸ (HI.out.through HX.out) : LgIn wr A n (some ⟨g, o, none⟩) m l).oc_cell hy 0 _ rfl)
        have hya : (wr.alloc (.cells #[.int .i64 x.cl, .int .i64 x.sp, .int .i64 x.rs] 56)).cell? ⟨g, o + j * 3, none⟩ = some (.int .i64 y.cl) := ((Below.refl _ wr).alloc (Nat.le_refl _) (.cells #[.int .i64 x.cl, .int .i64 x.sp, .int .i64 x.rs] 56)).cell (p := ⟨g, o + j * 3, none⟩) (World.block_lt_of_cell? wr ⟨g, o + j * 3 + 0, none⟩ hyc) |>.trans hyc
        have l3 := HB0a.out.cellAt (i := 3) rfl
        have hixj : ∀ W, (Instr.indexAt 23 (.slice B m d) (.int .i64 (j : Int))).run Tryz.prog W = .ok (.pointer (some ⟨g, o + j * 3, none⟩)) W := fun W => by rw [HBe.out]; exact HIX.out W g o j hjn
        have hix1 : ∀ W, (Instr.indexAt 23 (.slice B m d) (.int .i64 ((j : Int) + 1))).run Tryz.prog W = .ok (.pointer (some ⟨g, o + (j + 1) * 3, none⟩)) W := fun W => by
          rw [HBe.out]
          exact HIX.out W g o (j + 1) hlt
        have hj0 : decide ((0 : Int) < (j : Int) + 1) = true := decide_eq_true (by omega)
        have hwr : IntKind.i64.wrap ((j : Int) + 1 - 1) = (j : Int) := by rw [IntWalk.i64_in _ (by omega)]; omega
        have hwr2 : (j : Int) + 1 - 1 = (j : Int) := by omega
        by_cases hql : y.cl < x.cl
        · have HQ := Lib.hid hql
          have hqd : decide (x.cl ≤ y.cl) = false := by simp; omega
          clear hyc hy hql
          cases k0 : decide (0 ≤ x.cl)
          · have f0 : decide (x.cl < 0) = true := by simp at k0 ⊢; omega
            have hbad : ocOk x = false := by simp only [ocOk, k0]; simp
            have HP := Lib.hid (hp.trans (osOk_bad _ _ hbad))
            clear hp hbad k0
            go_wp2_with (refine wpList_load_mid rfl 56 (.tmp 11) rfl g (o + (j + 1) * 3) rfl [.int .i64 x.cl, .int .i64 x.sp, .int .i64 x.rs] _ HRg.out Tryz.underlying56 rfl (by kernel_rfl) ?_)
            go_quiet (fail)
            go_wp2
            go_ret
            exact ⟨ret_b (by rw [← HBB.out, Lg.right_eq, HP.out]; simp), below_drewN (HXa.out) _⟩
          · cases k1 : decide (x.cl ≤ 63)
            · have f0 : decide (x.cl < 0) = false := by simp at k0 ⊢; omega
              have f1 : decide (63 < x.cl) = true := by simp at k1 ⊢; omega
              have hbad : ocOk x = false := by simp only [ocOk, k0, k1]; simp
              have HP := Lib.hid (hp.trans (osOk_bad _ _ hbad))
              clear hp hbad k0 k1
              go_wp2_with (refine wpList_load_mid rfl 56 (.tmp 11) rfl g (o + (j + 1) * 3) rfl [.int .i64 x.cl, .int .i64 x.sp, .int .i64 x.rs] _ HRg.out Tryz.underlying56 rfl (by kernel_rfl) ?_)
              go_quiet (fail)
              go_wp2
              go_ret
              exact ⟨ret_b (by rw [← HBB.out, Lg.right_eq, HP.out]; simp), below_drewN (HXa.out) _⟩
            · cases k2 : decide (1 ≤ x.sp)
              · have f0 : decide (x.cl < 0) = false := by simp at k0 ⊢; omega
                have f1 : decide (63 < x.cl) = false := by simp at k1 ⊢; omega
                have f2 : decide (x.sp < 1) = true := by simp at k2 ⊢; omega
                have hbad : ocOk x = false := by simp only [ocOk, k0, k1, k2]; simp
                have HP := Lib.hid (hp.trans (osOk_bad _ _ hbad))
                clear hp hbad k0 k1 k2
                go_wp2_with (refine wpList_load_mid rfl 56 (.tmp 11) rfl g (o + (j + 1) * 3) rfl [.int .i64 x.cl, .int .i64 x.sp, .int .i64 x.rs] _ HRg.out Tryz.underlying56 rfl (by kernel_rfl) ?_)
                go_quiet (fail)
                go_wp2
                go_ret
                exact ⟨ret_b (by rw [← HBB.out, Lg.right_eq, HP.out]; simp), below_drewN (HXa.out) _⟩
              · cases k3 : decide (x.sp ≤ 1099511627776)
                · have f0 : decide (x.cl < 0) = false := by simp at k0 ⊢; omega
                  have f1 : decide (63 < x.cl) = false := by simp at k1 ⊢; omega
                  have f2 : decide (x.sp < 1) = false := by simp at k2 ⊢; omega
                  have f3 : decide (1099511627776 < x.sp) = true := by simp at k3 ⊢; omega
                  have hbad : ocOk x = false := by simp only [ocOk, k0, k1, k2, k3]; simp
                  have HP := Lib.hid (hp.trans (osOk_bad _ _ hbad))
                  clear hp hbad k0 k1 k2 k3
                  go_wp2_with (refine wpList_load_mid rfl 56 (.tmp 11) rfl g (o + (j + 1) * 3) rfl [.int .i64 x.cl, .int .i64 x.sp, .int .i64 x.rs] _ HRg.out Tryz.underlying56 rfl (by kernel_rfl) ?_)
                  go_quiet (fail)
                  go_wp2
                  go_ret
                  exact ⟨ret_b (by rw [← HBB.out, Lg.right_eq, HP.out]; simp), below_drewN (HXa.out) _⟩
                · cases k4 : decide (0 ≤ x.rs)
                  · have f0 : decide (x.cl < 0) = false := by simp at k0 ⊢; omega
                    have f1 : decide (63 < x.cl) = false := by simp at k1 ⊢; omega
                    have f2 : decide (x.sp < 1) = false := by simp at k2 ⊢; omega
                    have f3 : decide (1099511627776 < x.sp) = false := by simp at k3 ⊢; omega
                    have f4 : decide (x.rs < 0) = true := by simp at k4 ⊢; omega
                    have hbad : ocOk x = false := by simp only [ocOk, k0, k1, k2, k3, k4]; simp
                    have HP := Lib.hid (hp.trans (osOk_bad _ _ hbad))
                    clear hp hbad k0 k1 k2 k3 k4
                    go_wp2_with (refine wpList_load_mid rfl 56 (.tmp 11) rfl g (o + (j + 1) * 3) rfl [.int .i64 x.cl, .int .i64 x.sp, .int .i64 x.rs] _ HRg.out Tryz.underlying56 rfl (by kernel_rfl) ?_)
                    go_quiet (fail)
                    go_wp2
                    go_ret
                    exact ⟨ret_b (by rw [← HBB.out, Lg.right_eq, HP.out]; simp), below_drewN (HXa.out) _⟩
                  · cases k5 : decide (x.rs ≤ 99)
                    · have f0 : decide (x.cl < 0) = false := by simp at k0 ⊢; omega
                      have f1 : decide (63 < x.cl) = false := by simp at k1 ⊢; omega
                      have f2 : decide (x.sp < 1) = false := by simp at k2 ⊢; omega
                      have f3 : decide (1099511627776 < x.sp) = false := by simp at k3 ⊢; omega
                      have f4 : decide (x.rs < 0) = false := by simp at k4 ⊢; omega
                      have f5 : decide (99 < x.rs) = true := by simp at k5 ⊢; omega
                      have hbad : ocOk x = false := by simp only [ocOk, k0, k1, k2, k3, k4, k5]; simp
                      have HP := Lib.hid (hp.trans (osOk_bad _ _ hbad))
                      clear hp hbad k0 k1 k2 k3 k4 k5
                      go_wp2_with (refine wpList_load_mid rfl 56 (.tmp 11) rfl g (o + (j + 1) * 3) rfl [.int .i64 x.cl, .int .i64 x.sp, .int .i64 x.rs] _ HRg.out Tryz.underlying56 rfl (by kernel_rfl) ?_)
                      go_quiet (fail)
                      go_wp2
                      go_ret
                      exact ⟨ret_b (by rw [← HBB.out, Lg.right_eq, HP.out]; simp), below_drewN (HXa.out) _⟩
                    · have f0 : decide (x.cl < 0) = false := by simp at k0 ⊢; omega
                      have f1 : decide (63 < x.cl) = false := by simp at k1 ⊢; omega
                      have f2 : decide (x.sp < 1) = false := by simp at k2 ⊢; omega
                      have f3 : decide (1099511627776 < x.sp) = false := by simp at k3 ⊢; omega
                      have f4 : decide (x.rs < 0) = false := by simp at k4 ⊢; omega
                      have f5 : decide (99 < x.rs) = false := by simp at k5 ⊢; omega
                      have hok : ocOk x = true := by simp only [ocOk, k0, k1, k2, k3, k4, k5]; simp
                      have HP := Lib.hid (hp.trans (osOk_next _ HQ.out hok))
                      clear hp hok k0 k1 k2 k3 k4 k5
                      go_wp2_with (refine wpList_load_mid rfl 56 (.tmp 11) rfl g (o + (j + 1) * 3) rfl [.int .i64 x.cl, .int .i64 x.sp, .int .i64 x.rs] _ HRg.out Tryz.underlying56 rfl (by kernel_rfl) ?_)
                      go_quiet (fail)
                      go_wp2
                      go_roundw
                      case rel => exact ⟨j + 1 + 1, some x, by omega, by go_num, HP.out, .inr ⟨j + 1, x, rfl, HXi.out, rfl⟩, HB0a.out.drewN _, below_drewN HXa.out _⟩
                      case measure => simp [intOf]; omega
        · have HP := Lib.hid (hp.trans (osOk_order _ hql))
          have hqd : decide (x.cl ≤ y.cl) = true := by simp; omega
          clear hp hql hyc hy
          go_wp2_with (refine wpList_load_mid rfl 56 (.tmp 11) rfl g (o + (j + 1) * 3) rfl [.int .i64 x.cl, .int .i64 x.sp, .int .i64 x.rs] _ HRg.out Tryz.underlying56 rfl (by kernel_rfl) ?_)
          go_quiet (fail)
          go_wp2
          go_ret
          exact ⟨ret_b (by rw [← HBB.out, Lg.right_eq, HP.out]; simp), below_drewN HXa.out _⟩
    · have e : l.os.drop i = [] := List.drop_of_length_le (by have := HLn.out; omega)
      rw [e] at hp
      have HP : Hid (osOk none l.os = true) := Lib.hid (hp.trans (by cases p <;> rfl))
      have c0 := HB0.out.cellAt (i := 0) rfl
      have c1 := HB0.out.cellAt (i := 1) rfl
      have c2 := HB0.out.cellAt (i := 2) rfl
      have c3 := HB0.out.cellAt (i := 3) rfl
      have HXe := HX
      clear hp e hpi hx hb0
      have hfin : bb = (decide (0 ≤ l.sq) && (decide (l.sq ≤ 1048576) && (isM l.tt && (decide (l.os.length ≤ 4) && (lsOk none l.ls && decide (l.ls.length ≤ 16)))))) := by rw [← HBB.out, Lg.right_eq, HP.out]; rfl
      have HF := Lib.hid hfin
      clear hfin
      by_cases k0 : 0 ≤ l.sq
      · by_cases k1 : l.sq ≤ 1048576
        · cases k2 : isM l.tt
          · have HM' := Lib.hid (fun W => by have := HM.out W; rw [k2] at this; exact this)
            have HF' : Hid (bb = false) := Lib.hid (by rw [HF.out, k2]; simp)
            clear HM k2
            have HM := HM'
            go_wp2_with (go_at_call 30; (with_reducible refine (HM.out _).mono ?_); rintro e w1 ⟨rfl, rfl⟩)
            go_ret
            exact ⟨ret_b HF'.out.symm, HX.out⟩
          · have HM' := Lib.hid (fun W => by have := HM.out W; rw [k2] at this; exact this)
            have HF2 : Hid (bb = (decide (l.os.length ≤ 4) && (lsOk none l.ls && decide (l.ls.length ≤ 16)))) := Lib.hid (by rw [HF.out, k2]; simp [k0, k1])
            clear HM k2
            have HM := HM'
            by_cases k3 : m ≤ 4
            · have hk3 : decide (l.os.length ≤ 4) = true := by rw [HLn.out]; simpa using k3
              have HF3 : Hid (bb = (lsOk none l.ls && decide (l.ls.length ≤ 16))) := Lib.hid (by rw [HF2.out, hk3]; rfl)
              clear hk3
              go_wp2_with (first | (go_at_call 30; (with_reducible refine (HM.out _).mono ?_); rintro e w1 ⟨rfl, rfl⟩) | (go_at_call 31; (with_reducible refine (HLs.out _ HXe.out).mono ?_); rintro e w2 ⟨rfl, hb⟩; have HX2 : Hid (Below w.heap.size w w2) := Lib.hid (below_step HXe.out hb); clear hb))
              go_ret
              exact ⟨ret_b HF3.out.symm, HX2.out⟩
            · have hk3 : decide (l.os.length ≤ 4) = false := by rw [HLn.out]; simpa using k3
              have HF3 : Hid (bb = false) := Lib.hid (by rw [HF2.out, hk3]; rfl)
              have hd3 : decide ((m : Int) ≤ 4) = false := by simp; omega
              clear hk3
              go_wp2_with (go_at_call 30; (with_reducible refine (HM.out _).mono ?_); rintro e w1 ⟨rfl, rfl⟩)
              go_ret
              exact ⟨ret_b HF3.out.symm, HX.out⟩
        · have HF' : Hid (bb = false) := Lib.hid (by rw [HF.out]; simp [k1])
          have hd1 : decide (l.sq ≤ 1048576) = false := by simpa using k1
          go_wp2
          go_ret
          exact ⟨ret_b HF'.out.symm, HX.out⟩
      · have HF' : Hid (bb = false) := Lib.hid (by rw [HF.out]; simp [k0])
        have hd0 : decide (0 ≤ l.sq) = false := by simpa using k0
        go_wp2
        go_ret
        exact ⟨ret_b HF'.out.symm, HX.out⟩
end

section
open Go.RowKit
theorem allB_next {α : Type} {p : α → α → Bool} {x y : α} {xs ys : List α} (h : p x y = true) : allB p (x :: xs) (y :: ys) = allB p xs ys := by simp [allB, h]
theorem allB_stop {α : Type} {p : α → α → Bool} {x y : α} {xs ys : List α} (h : p x y = false) : allB p (x :: xs) (y :: ys) = false := by simp [allB, h]
theorem allB_far {α : Type} {p : α → α → Bool} {xs ys : List α} (h : xs.length ≠ ys.length) : allB p xs ys = false := by
  cases hb : allB p xs ys
  · rfl
  · exact absurd (allB_len hb) h
theorem Lg.same_eq (a b : Lg) : a.same b = ((a.sq == b.sq) && (a.tt == b.tt) && allB Lt.eqb a.ls b.ls && allB Oc.eqb a.os b.os) := rfl

set_option maxHeartbeats 16000000 in
set_option maxRecDepth 100000 in
theorem rsame_any (l k : Lg) (A : Option Addr) (n c : Nat) (B : Option Addr) (m d : Nat) (A' : Option Addr) (n' c' : Nat) (B' : Option Addr) (m' d' : Nat) (w : World) (h : LgIn w A n B m l) (h' : LgIn w A' n' B' m' k) (hn : n ≤ 1000000) (hm : m ≤ 1000000) (hn' : n' ≤ 1000000) (hm' : m' ≤ 1000000) :
    Calls Tryz.prog 9 #[l.val A n c B m d, k.val A' n' c' B' m' d'] w fun e w' => e = .returned (.bool (l.same k)) ∧ Below w.heap.size w w' := by
  have hli := ba_list
  obtain ⟨lq, lt, lls, los⟩ := l
  obtain ⟨kq, kt, kls, kos⟩ := k
  have HI := Lib.hid h
  have HJ := Lib.hid h'
  obtain ⟨bb, hbb⟩ : ∃ bb, Lg.same ⟨lq, lt, lls, los⟩ ⟨kq, kt, kls, kos⟩ = bb := ⟨_, rfl⟩
  rw [hbb]
  have HBB := Lib.hid hbb
  unfold Lg.val
  have H1 : Hid (Blk ((w.alloc (.cells #[.int .i64 lq, .int .i64 lt, .slice A n c, .slice B m d] 25)).alloc (.cells #[.int .i64 kq, .int .i64 kt, .slice A' n' c', .slice B' m' d'] 25)) w.heap.size 25 [.int .i64 lq, .int .i64 lt, .slice A n c, .slice B m d]) := Lib.hid ((Blk.fresh rfl rfl).alloc _)
  have H2 : Hid (Blk ((w.alloc (.cells #[.int .i64 lq, .int .i64 lt, .slice A n c, .slice B m d] 25)).alloc (.cells #[.int .i64 kq, .int .i64 kt, .slice A' n' c', .slice B' m' d'] 25)) (w.heap.size + 1) 25 [.int .i64 kq, .int .i64 kt, .slice A' n' c', .slice B' m' d']) := Lib.hid (Blk.fresh (by simp) rfl)
  have HXe : Hid (Below w.heap.size w ((w.alloc (.cells #[.int .i64 lq, .int .i64 lt, .slice A n c, .slice B m d] 25)).alloc (.cells #[.int .i64 kq, .int .i64 kt, .slice A' n' c', .slice B' m' d'] 25))) := Lib.hid (below2 w _ _)
  clear h h' hbb
  by_cases s0 : lq = kq
  case neg =>
    have b0 : (lq == kq) = false := by simpa using s0
    have c0 : (lq != kq) = true := by simpa using s0
    clear s0
    go_enter Tryz.func9, Tryz.ntmps9
    go_wp2
    go_ret
    exact ⟨ret_b (by rw [← HBB.out, Lg.same_eq, b0]; simp), HXe.out⟩
  subst s0
  by_cases s1 : lt = kt
  case neg =>
    have b0 : (lt == kt) = false := by simpa using s1
    have c0 : (lt != kt) = true := by simpa using s1
    clear s1
    go_enter Tryz.func9, Tryz.ntmps9
    go_wp2
    go_ret
    exact ⟨ret_b (by rw [← HBB.out, Lg.same_eq, b0]; simp), HXe.out⟩
  subst s1
  by_cases s2 : n = n'
  case neg =>
    have s2i : ¬ (n : Int) = (n' : Int) := by omega
    have s2b : ((n : Int) == (n' : Int)) = false := by simpa using s2i
    have s2d : ((n : Int) != (n' : Int)) = true := by simpa using s2i
    have s2c : (n == n') = false := by simpa using s2
    have s2e : (n != n') = true := by simpa using s2
    have HS2 := Lib.hid s2
    clear s2 s2i
    go_enter Tryz.func9, Tryz.ntmps9
    go_wp2
    go_ret
    exact ⟨ret_b (by rw [← HBB.out, Lg.same_eq, allB_far (p := Lt.eqb) (by have h1 := HI.out.len; have h2 := HJ.out.len; have h3 := HS2.out; simp only at h1 h2 ⊢; omega)]; simp), HXe.out⟩
  subst s2
  by_cases s3 : m = m'
  case neg =>
    have s3i : ¬ (m : Int) = (m' : Int) := by omega
    have s3b : ((m : Int) == (m' : Int)) = false := by simpa using s3i
    have s3d : ((m : Int) != (m' : Int)) = true := by simpa using s3i
    have s3c : (m == m') = false := by simpa using s3
    have s3e : (m != m') = true := by simpa using s3
    have HS3 := Lib.hid s3
    clear s3 s3i
    go_enter Tryz.func9, Tryz.ntmps9
    go_wp2
    go_ret
    exact ⟨ret_b (by rw [← HBB.out, Lg.same_eq, allB_far (p := Oc.eqb) (by have h1 := HI.out.len; have h2 := HJ.out.len; have h3 := HS3.out; simp only at h1 h2 ⊢; omega)]; simp), HXe.out⟩
  subst s3
  have hfin : bb = (allB Lt.eqb lls kls && allB Oc.eqb los kos) := by rw [← HBB.out, Lg.same_eq]; simp
  have HF := Lib.hid hfin
  clear hfin
  go_enter Tryz.func9, Tryz.ntmps9
  go_wp2
  go_loopw [40] (fun iv wr => ∃ i : Nat, i ≤ n ∧ iv = .int .i64 i ∧ allB Lt.eqb lls kls = allB Lt.eqb (lls.drop i) (kls.drop i) ∧ Blk wr w.heap.size 25 [.int .i64 lq, .int .i64 lt, .slice A n c, .slice B m d] ∧ Blk wr (w.heap.size + 1) 25 [.int .i64 lq, .int .i64 lt, .slice A' n c', .slice B' m d'] ∧ Below w.heap.size w wr) (fun iv _ => n - (intOf iv).toNat)
  case atStart => exact ⟨0, Nat.zero_le _, rfl, rfl, H1.out, H2.out, HXe.out⟩
  case round =>
    obtain ⟨i, hi, rfl, hp, hb1, hb2, hx⟩ := hrel
    have HXe := Lib.hid hx
    have H1e := Lib.hid hb1
    have H2e := Lib.hid hb2
    by_cases hlt : i < n
    · obtain ⟨g, o, x, hAe, _, _, hd, hrg⟩ := (HI.out.through HXe.out).lt_at hlt
      obtain ⟨g', o', y, hAe', _, _, hd', hrg'⟩ := (HJ.out.through HXe.out).lt_at (by omega)
      obtain ⟨xnm, xst, xam, xdu, xpo, xpa⟩ := x
      obtain ⟨ynm, yst, yam, ydu, ypo, ypa⟩ := y
      rw [hd, hd'] at hp
      have x0 := hrg 0 _ rfl
      have y0 := hrg' 0 _ rfl
      have x1 := hrg 1 _ rfl
      have y1 := hrg' 1 _ rfl
      have x2 := hrg 2 _ rfl
      have y2 := hrg' 2 _ rfl
      have x3 := hrg 3 _ rfl
      have y3 := hrg' 3 _ rfl
      have x4 := hrg 4 _ rfl
      have y4 := hrg' 4 _ rfl
      have x5 := hrg 5 _ rfl
      have y5 := hrg' 5 _ rfl
      have l2 := hb1.cellAt (i := 2) rfl
      have m2 := hb2.cellAt (i := 2) rfl
      have hix : ∀ W, (Instr.indexAt 22 (.slice A n c) (.int .i64 (i : Int))).run Tryz.prog W = .ok (.pointer (some ⟨g, o + i * 6, none⟩)) W := fun W => by rw [hAe]; exact Tryz.ix_lt W g o n c i hlt
      have hix' : ∀ W, (Instr.indexAt 22 (.slice A' n c') (.int .i64 (i : Int))).run Tryz.prog W = .ok (.pointer (some ⟨g', o' + i * 6, none⟩)) W := fun W => by rw [hAe']; exact Tryz.ix_lt W g' o' n c' i (by omega)
      simp only [Nat.add_zero] at x0 y0
      clear hrg hrg' hd hd' hAe hAe' hb1 hb2 hx
      by_cases k0 : xnm = ynm
      case neg =>
        have b0 : (xnm == ynm) = false := by simpa using k0
        have HP := Lib.hid (hp.trans (allB_stop (by simp only [Lt.eqb, b0]; simp)))
        clear hp k0
        go_wp2
        go_quiet (fail)
        go_wp2
        go_ret
        exact ⟨ret_b (by rw [← HBB.out, Lg.same_eq, HP.out]; simp), below_drewN HXe.out _⟩
      subst k0
      by_cases k1 : xst = yst
      case neg =>
        have b1 : (xst == yst) = false := by simpa using k1
        have HP := Lib.hid (hp.trans (allB_stop (by simp only [Lt.eqb, b1]; simp)))
        clear hp k1
        go_wp2
        go_quiet (fail)
        go_wp2
        go_ret
        exact ⟨ret_b (by rw [← HBB.out, Lg.same_eq, HP.out]; simp), below_drewN HXe.out _⟩
      subst k1
      by_cases k2 : xam = yam
      case neg =>
        have b2 : (xam == yam) = false := by simpa using k2
        have HP := Lib.hid (hp.trans (allB_stop (by simp only [Lt.eqb, b2]; simp)))
        clear hp k2
        go_wp2
        go_quiet (fail)
        go_wp2
        go_ret
        exact ⟨ret_b (by rw [← HBB.out, Lg.same_eq, HP.out]; simp), below_drewN HXe.out _⟩
      subst k2
      by_cases k3 : xdu = ydu
      case neg =>
        have b3 : (xdu == ydu) = false := by simpa using k3
        have HP := Lib.hid (hp.trans (allB_stop (by simp only [Lt.eqb, b3]; simp)))
        clear hp k3
        go_wp2
        go_quiet (fail)
        go_wp2
        go_ret
        exact ⟨ret_b (by rw [← HBB.out, Lg.same_eq, HP.out]; simp), below_drewN HXe.out _⟩
      subst k3
      by_cases k4 : xpo = ypo
      case neg =>
        have b4 : (xpo == ypo) = false := by simpa using k4
        have HP := Lib.hid (hp.trans (allB_stop (by simp only [Lt.eqb, b4]; simp)))
        clear hp k4
        go_wp2
        go_quiet (fail)
        go_wp2
        go_ret
        exact ⟨ret_b (by rw [← HBB.out, Lg.same_eq, HP.out]; simp), below_drewN HXe.out _⟩
      subst k4
      by_cases k5 : xpa = ypa
      case neg =>
        have b5 : (xpa == ypa) = false := by simpa using k5
        have HP := Lib.hid (hp.trans (allB_stop (by simp only [Lt.eqb, b5]; simp)))
        clear hp k5
        go_wp2
        go_quiet (fail)
        go_wp2
        go_ret
        exact ⟨ret_b (by rw [← HBB.out, Lg.same_eq, HP.out]; simp), below_drewN HXe.out _⟩
      subst k5
      have HP := Lib.hid (hp.trans (allB_next (Lt.eqb_iff.2 rfl)))
      clear hp
      go_wp2
      go_quiet (fail)
      go_wp2
      go_roundw
      case rel => exact ⟨i + 1, by omega, by go_num, HP.out, H1e.out.drewN _, H2e.out.drewN _, below_drewN HXe.out _⟩
      case measure => simp [intOf]; omega
    · have e : lls.drop i = [] := List.drop_of_length_le (by have := HI.out.len; simp only at this; omega)
      have e' : kls.drop i = [] := List.drop_of_length_le (by have := HJ.out.len; simp only at this; omega)
      rw [e, e'] at hp
      have HP6 : Hid (allB Lt.eqb lls kls = true) := Lib.hid hp
      clear e e' hp
      have l3 := hb1.cellAt (i := 3) rfl
      have HXs := HXe
      have H1s := H1e
      have H2s := H2e
      clear hb1 hb2 hx
      go_wp2
      go_loopw [58] (fun iv wr => ∃ i : Nat, i ≤ m ∧ iv = .int .i64 i ∧ allB Oc.eqb los kos = allB Oc.eqb (los.drop i) (kos.drop i) ∧ Blk wr w.heap.size 25 [.int .i64 lq, .int .i64 lt, .slice A n c, .slice B m d] ∧ Blk wr (w.heap.size + 1) 25 [.int .i64 lq, .int .i64 lt, .slice A' n c', .slice B' m d'] ∧ Below w.heap.size w wr) (fun iv _ => m - (intOf iv).toNat)
      case atStart => exact ⟨0, Nat.zero_le _, rfl, rfl, H1s.out, H2s.out, HXs.out⟩
      case round =>
        obtain ⟨i, hi, rfl, hp, hb1, hb2, hx⟩ := hrel
        have HXe := Lib.hid hx
        have H1e := Lib.hid hb1
        have H2e := Lib.hid hb2
        by_cases hlt : i < m
        · obtain ⟨g, o, x, hAe, _, _, hd, hrg⟩ := (HI.out.through HXe.out).oc_at hlt
          obtain ⟨g', o', y, hAe', _, _, hd', hrg'⟩ := (HJ.out.through HXe.out).oc_at (by omega)
          obtain ⟨xcl, xsp, xrs⟩ := x
          obtain ⟨ycl, ysp, yrs⟩ := y
          rw [hd, hd'] at hp
          have x0 := hrg 0 _ rfl
          have y0 := hrg' 0 _ rfl
          have x1 := hrg 1 _ rfl
          have y1 := hrg' 1 _ rfl
          have x2 := hrg 2 _ rfl
          have y2 := hrg' 2 _ rfl
          have l3 := hb1.cellAt (i := 3) rfl
          have m3 := hb2.cellAt (i := 3) rfl
          have hix : ∀ W, (Instr.indexAt 23 (.slice B m d) (.int .i64 (i : Int))).run Tryz.prog W = .ok (.pointer (some ⟨g, o + i * 3, none⟩)) W := fun W => by rw [hAe]; exact Tryz.ix_oc W g o m d i hlt
          have hix' : ∀ W, (Instr.indexAt 23 (.slice B' m d') (.int .i64 (i : Int))).run Tryz.prog W = .ok (.pointer (some ⟨g', o' + i * 3, none⟩)) W := fun W => by rw [hAe']; exact Tryz.ix_oc W g' o' m d' i (by omega)
          simp only [Nat.add_zero] at x0 y0
          clear hrg hrg' hd hd' hAe hAe' hb1 hb2 hx
          by_cases k0 : xcl = ycl
          case neg =>
            have b0 : (xcl == ycl) = false := by simpa using k0
            have HP := Lib.hid (hp.trans (allB_stop (by simp only [Oc.eqb, b0]; simp)))
            clear hp k0
            go_wp2
            go_quiet (fail)
            go_wp2
            go_ret
            exact ⟨ret_b (by rw [← HBB.out, Lg.same_eq, HP.out]; simp), below_drewN HXe.out _⟩
          subst k0
          by_cases k1 : xsp = ysp
          case neg =>
            have b1 : (xsp == ysp) = false := by simpa using k1
            have HP := Lib.hid (hp.trans (allB_stop (by simp only [Oc.eqb, b1]; simp)))
            clear hp k1
            go_wp2
            go_quiet (fail)
            go_wp2
            go_ret
            exact ⟨ret_b (by rw [← HBB.out, Lg.same_eq, HP.out]; simp), below_drewN HXe.out _⟩
          subst k1
          by_cases k2 : xrs = yrs
          case neg =>
            have b2 : (xrs == yrs) = false := by simpa using k2
            have HP := Lib.hid (hp.trans (allB_stop (by simp only [Oc.eqb, b2]; simp)))
            clear hp k2
            go_wp2
            go_quiet (fail)
            go_wp2
            go_ret
            exact ⟨ret_b (by rw [← HBB.out, Lg.same_eq, HP.out]; simp), below_drewN HXe.out _⟩
          subst k2
          have HP := Lib.hid (hp.trans (allB_next (Oc.eqb_iff.2 rfl)))
          clear hp
          go_wp2
          go_quiet (fail)
          go_wp2
          go_roundw
          case rel => exact ⟨i + 1, by omega, by go_num, HP.out, H1e.out.drewN _, H2e.out.drewN _, below_drewN HXe.out _⟩
          case measure => simp [intOf]; omega
        · have e : los.drop i = [] := List.drop_of_length_le (by have := HI.out.len; simp only at this; omega)
          have e' : kos.drop i = [] := List.drop_of_length_le (by have := HJ.out.len; simp only at this; omega)
          rw [e, e'] at hp
          have HP3 : Hid (allB Oc.eqb los kos = true) := Lib.hid hp
          clear e e' hp
          clear hb1 hb2 hx
          go_wp2
          go_ret
          exact ⟨ret_b (by rw [HF.out, HP6.out, HP3.out]; rfl), HXe.out⟩
end

end Go.Proofs.YtfflkodgojiklaaGreatDoor
