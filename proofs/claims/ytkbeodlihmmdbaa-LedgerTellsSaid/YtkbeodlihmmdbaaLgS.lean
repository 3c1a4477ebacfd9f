/-
  The document's Same, walked.
-/
import Derived.Test.YtkbeodlihmmdbaaLgRr
namespace Go.Proofs.Ytkbeodlihmmdbaa
open Go.RowKit

theorem allB_next {α : Type} {p : α → α → Bool} {x y : α} {xs ys : List α} (h : p x y = true) : allB p (x :: xs) (y :: ys) = allB p xs ys := by simp [allB, h]
theorem allB_stop {α : Type} {p : α → α → Bool} {x y : α} {xs ys : List α} (h : p x y = false) : allB p (x :: xs) (y :: ys) = false := by simp [allB, h]
theorem allB_far {α : Type} {p : α → α → Bool} {xs ys : List α} (h : xs.length ≠ ys.length) : allB p xs ys = false := by
  cases hb : allB p xs ys
  · rfl
  · exact absurd (allB_len hb) h
theorem Lg.same_eq (a b : Lg) : a.same b = ((a.sq == b.sq) && (a.tt == b.tt) && allB Lt.eqb a.ls b.ls && allB Oc.eqb a.os b.os) := rfl

set_option maxHeartbeats 16000000 in
set_option maxRecDepth 100000 in
theorem rsame_any (l k : Lg) (A : Option Addr) (n c : Nat) (B : Option Addr) (m d : Nat) (A' : Option Addr) (n' c' : Nat) (B' : Option Addr) (m' d' : Nat) (w : World) (h : LgIn w A n B m l) (h' : LgIn w A' n' B' m' k) (hn : n ≤ 1000000) (hm : m ≤ 1000000) (hn' : n' ≤ 1000000) (hm' : m' ≤ 1000000) :
    Calls Try.prog 17 #[l.val A n c B m d, k.val A' n' c' B' m' d'] w fun e w' => e = .returned (.bool (l.same k)) ∧ Below w.heap.size w w' := by
  have hli := ba_list
  obtain ⟨lq, lt, lls, los⟩ := l
  obtain ⟨kq, kt, kls, kos⟩ := k
  have HI := Lib.hid h
  have HJ := Lib.hid h'
  obtain ⟨bb, hbb⟩ : ∃ bb, Lg.same ⟨lq, lt, lls, los⟩ ⟨kq, kt, kls, kos⟩ = bb := ⟨_, rfl⟩
  rw [hbb]
  have HBB := Lib.hid hbb
  unfold Lg.val
  have H1 : Hid (Blk ((w.alloc (.cells #[.int .i64 lq, .int .i64 lt, .slice A n c, .slice B m d] 25)).alloc (.cells #[.int .i64 kq, .int .i64 kt, .slice A' n' c', .slice B' m' d'] 25)) w.heap.size 25 [.int .i64 lq, .int .i64 lt, .slice A n c, .slice B m d]) := Lib.hid ((Blk.fresh rfl rfl).alloc _)
  have H2 : Hid (Blk ((w.alloc (.cells #[.int .i64 lq, .int .i64 lt, .slice A n c, .slice B m d] 25)).alloc (.cells #[.int .i64 kq, .int .i64 kt, .slice A' n' c', .slice B' m' d'] 25)) (w.heap.size + 1) 25 [.int .i64 kq, .int .i64 kt, .slice A' n' c', .slice B' m' d']) := Lib.hid (Blk.fresh (by simp) rfl)
  have HXe : Hid (Below w.heap.size w ((w.alloc (.cells #[.int .i64 lq, .int .i64 lt, .slice A n c, .slice B m d] 25)).alloc (.cells #[.int .i64 kq, .int .i64 kt, .slice A' n' c', .slice B' m' d'] 25))) := Lib.hid (below2 w _ _)
  clear h h' hbb
  by_cases s0 : lq = kq
  case neg =>
    have b0 : (lq == kq) = false := by simpa using s0
    have c0 : (lq != kq) = true := by simpa using s0
    clear s0
    go_enter Try.func17, Try.ntmps17
    go_wp2
    go_ret
    exact ⟨ret_b (by rw [← HBB.out, Lg.same_eq, b0]; simp), HXe.out⟩
  subst s0
  by_cases s1 : lt = kt
  case neg =>
    have b0 : (lt == kt) = false := by simpa using s1
    have c0 : (lt != kt) = true := by simpa using s1
    clear s1
    go_enter Try.func17, Try.ntmps17
    go_wp2
    go_ret
    exact ⟨ret_b (by rw [← HBB.out, Lg.same_eq, b0]; simp), HXe.out⟩
  subst s1
  by_cases s2 : n = n'
  case neg =>
    have s2i : ¬ (n : Int) = (n' : Int) := by omega
    have s2b : ((n : Int) == (n' : Int)) = false := by simpa using s2i
    have s2d : ((n : Int) != (n' : Int)) = true := by simpa using s2i
    have s2c : (n == n') = false := by simpa using s2
    have s2e : (n != n') = true := by simpa using s2
    have HS2 := Lib.hid s2
    clear s2 s2i
    go_enter Try.func17, Try.ntmps17
    go_wp2
    go_ret
    exact ⟨ret_b (by rw [← HBB.out, Lg.same_eq, allB_far (p := Lt.eqb) (by have h1 := HI.out.len; have h2 := HJ.out.len; have h3 := HS2.out; simp only at h1 h2 ⊢; omega)]; simp), HXe.out⟩
  subst s2
  by_cases s3 : m = m'
  case neg =>
    have s3i : ¬ (m : Int) = (m' : Int) := by omega
    have s3b : ((m : Int) == (m' : Int)) = false := by simpa using s3i
    have s3d : ((m : Int) != (m' : Int)) = true := by simpa using s3i
    have s3c : (m == m') = false := by simpa using s3
    have s3e : (m != m') = true := by simpa using s3
    have HS3 := Lib.hid s3
    clear s3 s3i
    go_enter Try.func17, Try.ntmps17
    go_wp2
    go_ret
    exact ⟨ret_b (by rw [← HBB.out, Lg.same_eq, allB_far (p := Oc.eqb) (by have h1 := HI.out.len; have h2 := HJ.out.len; have h3 := HS3.out; simp only at h1 h2 ⊢; omega)]; simp), HXe.out⟩
  subst s3
  have hfin : bb = (allB Lt.eqb lls kls && allB Oc.eqb los kos) := by rw [← HBB.out, Lg.same_eq]; simp
  have HF := Lib.hid hfin
  clear hfin
  go_enter Try.func17, Try.ntmps17
  go_wp2
  go_loopw [40] (fun iv wr => ∃ i : Nat, i ≤ n ∧ iv = .int .i64 i ∧ allB Lt.eqb lls kls = allB Lt.eqb (lls.drop i) (kls.drop i) ∧ Blk wr w.heap.size 25 [.int .i64 lq, .int .i64 lt, .slice A n c, .slice B m d] ∧ Blk wr (w.heap.size + 1) 25 [.int .i64 lq, .int .i64 lt, .slice A' n c', .slice B' m d'] ∧ Below w.heap.size w wr) (fun iv _ => n - (intOf iv).toNat)
  case atStart => exact ⟨0, Nat.zero_le _, rfl, rfl, H1.out, H2.out, HXe.out⟩
  case round =>
    obtain ⟨i, hi, rfl, hp, hb1, hb2, hx⟩ := hrel
    have HXe := Lib.hid hx
    have H1e := Lib.hid hb1
    have H2e := Lib.hid hb2
    by_cases hlt : i < n
    · obtain ⟨g, o, x, hAe, _, _, hd, hrg⟩ := (HI.out.through HXe.out).lt_at hlt
      obtain ⟨g', o', y, hAe', _, _, hd', hrg'⟩ := (HJ.out.through HXe.out).lt_at (by omega)
      obtain ⟨xnm, xst, xam, xdu, xpo, xpa⟩ := x
      obtain ⟨ynm, yst, yam, ydu, ypo, ypa⟩ := y
      rw [hd, hd'] at hp
      have x0 := hrg 0 _ rfl
      have y0 := hrg' 0 _ rfl
      have x1 := hrg 1 _ rfl
      have y1 := hrg' 1 _ rfl
      have x2 := hrg 2 _ rfl
      have y2 := hrg' 2 _ rfl
      have x3 := hrg 3 _ rfl
      have y3 := hrg' 3 _ rfl
      have x4 := hrg 4 _ rfl
      have y4 := hrg' 4 _ rfl
      have x5 := hrg 5 _ rfl
      have y5 := hrg' 5 _ rfl
      have l2 := hb1.cellAt (i := 2) rfl
      have m2 := hb2.cellAt (i := 2) rfl
      have hix : ∀ W, (Instr.indexAt 22 (.slice A n c) (.int .i64 (i : Int))).run Try.prog W = .ok (.pointer (some ⟨g, o + i * 6, none⟩)) W := fun W => by rw [hAe]; exact Try.ix_lt W g o n c i hlt
      have hix' : ∀ W, (Instr.indexAt 22 (.slice A' n c') (.int .i64 (i : Int))).run Try.prog W = .ok (.pointer (some ⟨g', o' + i * 6, none⟩)) W := fun W => by rw [hAe']; exact Try.ix_lt W g' o' n c' i (by omega)
      simp only [Nat.add_zero] at x0 y0
      clear hrg hrg' hd hd' hAe hAe' hb1 hb2 hx
      by_cases k0 : xnm = ynm
      case neg =>
        have b0 : (xnm == ynm) = false := by simpa using k0
        have HP := Lib.hid (hp.trans (allB_stop (by simp only [Lt.eqb, b0]; simp)))
        clear hp k0
        go_wp2
        go_quiet (fail)
        go_wp2
        go_ret
        exact ⟨ret_b (by rw [← HBB.out, Lg.same_eq, HP.out]; simp), below_drewN HXe.out _⟩
      subst k0
      by_cases k1 : xst = yst
      case neg =>
        have b1 : (xst == yst) = false := by simpa using k1
        have HP := Lib.hid (hp.trans (allB_stop (by simp only [Lt.eqb, b1]; simp)))
        clear hp k1
        go_wp2
        go_quiet (fail)
        go_wp2
        go_ret
        exact ⟨ret_b (by rw [← HBB.out, Lg.same_eq, HP.out]; simp), below_drewN HXe.out _⟩
      subst k1
      by_cases k2 : xam = yam
      case neg =>
        have b2 : (xam == yam) = false := by simpa using k2
        have HP := Lib.hid (hp.trans (allB_stop (by simp only [Lt.eqb, b2]; simp)))
        clear hp k2
        go_wp2
        go_quiet (fail)
        go_wp2
        go_ret
        exact ⟨ret_b (by rw [← HBB.out, Lg.same_eq, HP.out]; simp), below_drewN HXe.out _⟩
      subst k2
      by_cases k3 : xdu = ydu
      case neg =>
        have b3 : (xdu == ydu) = false := by simpa using k3
        have HP := Lib.hid (hp.trans (allB_stop (by simp only [Lt.eqb, b3]; simp)))
        clear hp k3
        go_wp2
        go_quiet (fail)
        go_wp2
        go_ret
        exact ⟨ret_b (by rw [← HBB.out, Lg.same_eq, HP.out]; simp), below_drewN HXe.out _⟩
      subst k3
      by_cases k4 : xpo = ypo
      case neg =>
        have b4 : (xpo == ypo) = false := by simpa using k4
        have HP := Lib.hid (hp.trans (allB_stop (by simp only [Lt.eqb, b4]; simp)))
        clear hp k4
        go_wp2
        go_quiet (fail)
        go_wp2
        go_ret
        exact ⟨ret_b (by rw [← HBB.out, Lg.same_eq, HP.out]; simp), below_drewN HXe.out _⟩
      subst k4
      by_cases k5 : xpa = ypa
      case neg =>
        have b5 : (xpa == ypa) = false := by simpa using k5
        have HP := Lib.hid (hp.trans (allB_stop (by simp only [Lt.eqb, b5]; simp)))
        clear hp k5
        go_wp2
        go_quiet (fail)
        go_wp2
        go_ret
        exact ⟨ret_b (by rw [← HBB.out, Lg.same_eq, HP.out]; simp), below_drewN HXe.out _⟩
      subst k5
      have HP := Lib.hid (hp.trans (allB_next (Lt.eqb_iff.2 rfl)))
      clear hp
      go_wp2
      go_quiet (fail)
      go_wp2
      go_roundw
      case rel => exact ⟨i + 1, by omega, by go_num, HP.out, H1e.out.drewN _, H2e.out.drewN _, below_drewN HXe.out _⟩
      case measure => simp [intOf]; omega
    · have e : lls.drop i = [] := List.drop_of_length_le (by have := HI.out.len; simp only at this; omega)
      have e' : kls.drop i = [] := List.drop_of_length_le (by have := HJ.out.len; simp only at this; omega)
      rw [e, e'] at hp
      have HP6 : Hid (allB Lt.eqb lls kls = true) := Lib.hid hp
      clear e e' hp
      have l3 := hb1.cellAt (i := 3) rfl
      have HXs := HXe
      have H1s := H1e
      have H2s := H2e
      clear hb1 hb2 hx
      go_wp2
      go_loopw [58] (fun iv wr => ∃ i : Nat, i ≤ m ∧ iv = .int .i64 i ∧ allB Oc.eqb los kos = allB Oc.eqb (los.drop i) (kos.drop i) ∧ Blk wr w.heap.size 25 [.int .i64 lq, .int .i64 lt, .slice A n c, .slice B m d] ∧ Blk wr (w.heap.size + 1) 25 [.int .i64 lq, .int .i64 lt, .slice A' n c', .slice B' m d'] ∧ Below w.heap.size w wr) (fun iv _ => m - (intOf iv).toNat)
      case atStart => exact ⟨0, Nat.zero_le _, rfl, rfl, H1s.out, H2s.out, HXs.out⟩
      case round =>
        obtain ⟨i, hi, rfl, hp, hb1, hb2, hx⟩ := hrel
        have HXe := Lib.hid hx
        have H1e := Lib.hid hb1
        have H2e := Lib.hid hb2
        by_cases hlt : i < m
        · obtain ⟨g, o, x, hAe, _, _, hd, hrg⟩ := (HI.out.through HXe.out).oc_at hlt
          obtain ⟨g', o', y, hAe', _, _, hd', hrg'⟩ := (HJ.out.through HXe.out).oc_at (by omega)
          obtain ⟨xcl, xsp, xrs⟩ := x
          obtain ⟨ycl, ysp, yrs⟩ := y
          rw [hd, hd'] at hp
          have x0 := hrg 0 _ rfl
          have y0 := hrg' 0 _ rfl
          have x1 := hrg 1 _ rfl
          have y1 := hrg' 1 _ rfl
          have x2 := hrg 2 _ rfl
          have y2 := hrg' 2 _ rfl
          have l3 := hb1.cellAt (i := 3) rfl
          have m3 := hb2.cellAt (i := 3) rfl
          have hix : ∀ W, (Instr.indexAt 23 (.slice B m d) (.int .i64 (i : Int))).run Try.prog W = .ok (.pointer (some ⟨g, o + i * 3, none⟩)) W := fun W => by rw [hAe]; exact Try.ix_oc W g o m d i hlt
          have hix' : ∀ W, (Instr.indexAt 23 (.slice B' m d') (.int .i64 (i : Int))).run Try.prog W = .ok (.pointer (some ⟨g', o' + i * 3, none⟩)) W := fun W => by rw [hAe']; exact Try.ix_oc W g' o' m d' i (by omega)
          simp only [Nat.add_zero] at x0 y0
          clear hrg hrg' hd hd' hAe hAe' hb1 hb2 hx
          by_cases k0 : xcl = ycl
          case neg =>
            have b0 : (xcl == ycl) = false := by simpa using k0
            have HP := Lib.hid (hp.trans (allB_stop (by simp only [Oc.eqb, b0]; simp)))
            clear hp k0
            go_wp2
            go_quiet (fail)
            go_wp2
            go_ret
            exact ⟨ret_b (by rw [← HBB.out, Lg.same_eq, HP.out]; simp), below_drewN HXe.out _⟩
          subst k0
          by_cases k1 : xsp = ysp
          case neg =>
            have b1 : (xsp == ysp) = false := by simpa using k1
            have HP := Lib.hid (hp.trans (allB_stop (by simp only [Oc.eqb, b1]; simp)))
            clear hp k1
            go_wp2
            go_quiet (fail)
            go_wp2
            go_ret
            exact ⟨ret_b (by rw [← HBB.out, Lg.same_eq, HP.out]; simp), below_drewN HXe.out _⟩
          subst k1
          by_cases k2 : xrs = yrs
          case neg =>
            have b2 : (xrs == yrs) = false := by simpa using k2
            have HP := Lib.hid (hp.trans (allB_stop (by simp only [Oc.eqb, b2]; simp)))
            clear hp k2
            go_wp2
            go_quiet (fail)
            go_wp2
            go_ret
            exact ⟨ret_b (by rw [← HBB.out, Lg.same_eq, HP.out]; simp), below_drewN HXe.out _⟩
          subst k2
          have HP := Lib.hid (hp.trans (allB_next (Oc.eqb_iff.2 rfl)))
          clear hp
          go_wp2
          go_quiet (fail)
          go_wp2
          go_roundw
          case rel => exact ⟨i + 1, by omega, by go_num, HP.out, H1e.out.drewN _, H2e.out.drewN _, below_drewN HXe.out _⟩
          case measure => simp [intOf]; omega
        · have e : los.drop i = [] := List.drop_of_length_le (by have := HI.out.len; simp only at this; omega)
          have e' : kos.drop i = [] := List.drop_of_length_le (by have := HJ.out.len; simp only at this; omega)
          rw [e, e'] at hp
          have HP3 : Hid (allB Oc.eqb los kos = true) := Lib.hid hp
          clear e e' hp
          clear hb1 hb2 hx
          go_wp2
          go_ret
          exact ⟨ret_b (by rw [HF.out, HP6.out, HP3.out]; rfl), HXe.out⟩

end Go.Proofs.Ytkbeodlihmmdbaa
