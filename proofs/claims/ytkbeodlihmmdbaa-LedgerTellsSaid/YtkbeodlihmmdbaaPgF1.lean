/-
  slices.Equal at letters and at outcomes.
-/
import Derived.Test.YtkbeodlihmmdbaaPgP
import Derived.Test.YtkbeodlihmmdbaaLgS
namespace Go.Proofs.Ytkbeodlihmmdbaa
open Go.RowKit

set_option maxHeartbeats 16000000 in
set_option maxRecDepth 100000 in
theorem equalL_any (l k : List Lt) (A : Option Addr) (n c : Nat) (A' : Option Addr) (n' c' : Nat) (w : World) (h : Sl w 6 A n (l.map Lt.cells)) (h' : Sl w 6 A' n' (k.map Lt.cells)) (hn : n ≤ 1000000) (hn' : n' ≤ 1000000) :
    Calls Try.prog 50 #[.slice A n c, .slice A' n' c'] w fun e w' => e = .returned (.bool (allB Lt.eqb l k)) ∧ Below w.heap.size w w' := by
  have hli := ba_list
  have HI := Lib.hid h
  have HJ := Lib.hid h'
  have HLl : Hid (l.length = n) := Lib.hid (by simpa using h.len)
  have HLk : Hid (k.length = n') := Lib.hid (by simpa using h'.len)
  have HIX := Lib.hid Try.ix_lt
  obtain ⟨bb, hbb⟩ : ∃ bb, allB Lt.eqb l k = bb := ⟨_, rfl⟩
  rw [hbb]
  have HBB := Lib.hid hbb
  clear h h' hbb
  by_cases s2 : n = n'
  case neg =>
    have s2i : ¬ (n : Int) = (n' : Int) := by omega
    have s2b : ((n : Int) == (n' : Int)) = false := by simpa using s2i
    have s2d : ((n : Int) != (n' : Int)) = true := by simpa using s2i
    have s2c : (n == n') = false := by simpa using s2
    have s2e : (n != n') = true := by simpa using s2
    have HS2 := Lib.hid s2
    clear s2 s2i
    go_enter Try.func50, Try.ntmps50
    go_wp2
    go_ret
    exact ⟨ret_b (by rw [← HBB.out, allB_far (p := Lt.eqb) (by have h1 := HLl.out; have h2 := HLk.out; have h3 := HS2.out; omega)]), Below.refl _ _⟩
  subst s2
  go_enter Try.func50, Try.ntmps50
  go_wp2
  go_loopw [13] (fun iv wr => ∃ i : Nat, i ≤ n ∧ iv = .int .i64 i ∧ allB Lt.eqb l k = allB Lt.eqb (l.drop i) (k.drop i) ∧ Below w.heap.size w wr) (fun iv _ => n - (intOf iv).toNat)
  case atStart => exact ⟨0, Nat.zero_le _, rfl, rfl, Below.refl _ _⟩
  case round =>
    obtain ⟨i, hi, rfl, hp, hx⟩ := hrel
    have HX := Lib.hid hx
    clear hx
    by_cases hlt : i < n
    · obtain ⟨g, o, x, hAe, _, _, hd, hrg⟩ := (HI.out.through HX.out).at_lt hlt
      obtain ⟨g', o', y, hAe', _, _, hd', hrg'⟩ := (HJ.out.through HX.out).at_lt hlt
      obtain ⟨xnm, xst, xam, xdu, xpo, xpa⟩ := x
      obtain ⟨ynm, yst, yam, ydu, ypo, ypa⟩ := y
      rw [hd, hd'] at hp
      have x0 := hrg 0 _ rfl
      have y0 := hrg' 0 _ rfl
      have x1 := hrg 1 _ rfl
      have y1 := hrg' 1 _ rfl
      have x2 := hrg 2 _ rfl
      have y2 := hrg' 2 _ rfl
      have x3 := hrg 3 _ rfl
      have y3 := hrg' 3 _ rfl
      have x4 := hrg 4 _ rfl
      have y4 := hrg' 4 _ rfl
      have x5 := hrg 5 _ rfl
      have y5 := hrg' 5 _ rfl
      have hix : ∀ W, (Instr.indexAt 22 (.slice A n c) (.int .i64 (i : Int))).run Try.prog W = .ok (.pointer (some ⟨g, o + i * 6, none⟩)) W := fun W => by rw [hAe]; exact HIX.out W g o n c i hlt
      have hix' : ∀ W, (Instr.indexAt 22 (.slice A' n c') (.int .i64 (i : Int))).run Try.prog W = .ok (.pointer (some ⟨g', o' + i * 6, none⟩)) W := fun W => by rw [hAe']; exact HIX.out W g' o' n c' i hlt
      simp only [Nat.add_zero] at x0 y0
      clear hrg hrg' hd hd' hAe hAe'
      by_cases k0 : xnm = ynm
      case neg =>
        have b0 : (xnm == ynm) = false := by simpa using k0
        have HP := Lib.hid (hp.trans (allB_stop (by simp only [Lt.eqb, b0]; simp)))
        clear hp k0
        go_wp2
        go_quiet (fail)
        go_wp2
        go_ret
        exact ⟨ret_b (by rw [← HBB.out, HP.out]), below_drewN HX.out _⟩
      subst k0
      by_cases k1 : xst = yst
      case neg =>
        have b1 : (xst == yst) = false := by simpa using k1
        have HP := Lib.hid (hp.trans (allB_stop (by simp only [Lt.eqb, b1]; simp)))
        clear hp k1
        go_wp2
        go_quiet (fail)
        go_wp2
        go_ret
        exact ⟨ret_b (by rw [← HBB.out, HP.out]), below_drewN HX.out _⟩
      subst k1
      by_cases k2 : xam = yam
      case neg =>
        have b2 : (xam == yam) = false := by simpa using k2
        have HP := Lib.hid (hp.trans (allB_stop (by simp only [Lt.eqb, b2]; simp)))
        clear hp k2
        go_wp2
        go_quiet (fail)
        go_wp2
        go_ret
        exact ⟨ret_b (by rw [← HBB.out, HP.out]), below_drewN HX.out _⟩
      subst k2
      by_cases k3 : xdu = ydu
      case neg =>
        have b3 : (xdu == ydu) = false := by simpa using k3
        have HP := Lib.hid (hp.trans (allB_stop (by simp only [Lt.eqb, b3]; simp)))
        clear hp k3
        go_wp2
        go_quiet (fail)
        go_wp2
        go_ret
        exact ⟨ret_b (by rw [← HBB.out, HP.out]), below_drewN HX.out _⟩
      subst k3
      by_cases k4 : xpo = ypo
      case neg =>
        have b4 : (xpo == ypo) = false := by simpa using k4
        have HP := Lib.hid (hp.trans (allB_stop (by simp only [Lt.eqb, b4]; simp)))
        clear hp k4
        go_wp2
        go_quiet (fail)
        go_wp2
        go_ret
        exact ⟨ret_b (by rw [← HBB.out, HP.out]), below_drewN HX.out _⟩
      subst k4
      by_cases k5 : xpa = ypa
      case neg =>
        have b5 : (xpa == ypa) = false := by simpa using k5
        have HP := Lib.hid (hp.trans (allB_stop (by simp only [Lt.eqb, b5]; simp)))
        clear hp k5
        go_wp2
        go_quiet (fail)
        go_wp2
        go_ret
        exact ⟨ret_b (by rw [← HBB.out, HP.out]), below_drewN HX.out _⟩
      subst k5
      have HP := Lib.hid (hp.trans (allB_next (Lt.eqb_iff.2 rfl)))
      clear hp
      go_wp2
      go_quiet (fail)
      go_wp2
      go_roundw
      case rel => exact ⟨i + 1, by omega, by go_num, HP.out, below_drewN HX.out _⟩
      case measure => simp [intOf]; omega
    · have e : l.drop i = [] := List.drop_of_length_le (by have := HLl.out; omega)
      have e' : k.drop i = [] := List.drop_of_length_le (by have := HLk.out; omega)
      rw [e, e'] at hp
      have HP : Hid (allB Lt.eqb l k = true) := Lib.hid hp
      clear e e' hp
      go_wp2
      go_ret
      exact ⟨ret_b (by rw [← HBB.out, HP.out]), HX.out⟩

set_option maxHeartbeats 16000000 in
set_option maxRecDepth 100000 in
theorem equalO_any (l k : List Oc) (A : Option Addr) (n c : Nat) (A' : Option Addr) (n' c' : Nat) (w : World) (h : Sl w 3 A n (l.map Oc.cells)) (h' : Sl w 3 A' n' (k.map Oc.cells)) (hn : n ≤ 1000000) (hn' : n' ≤ 1000000) :
    Calls Try.prog 51 #[.slice A n c, .slice A' n' c'] w fun e w' => e = .returned (.bool (allB Oc.eqb l k)) ∧ Below w.heap.size w w' := by
  have HI := Lib.hid h
  have HJ := Lib.hid h'
  have HLl : Hid (l.length = n) := Lib.hid (by simpa using h.len)
  have HLk : Hid (k.length = n') := Lib.hid (by simpa using h'.len)
  have HIX := Lib.hid Try.ix_oc
  obtain ⟨bb, hbb⟩ : ∃ bb, allB Oc.eqb l k = bb := ⟨_, rfl⟩
  rw [hbb]
  have HBB := Lib.hid hbb
  clear h h' hbb
  by_cases s2 : n = n'
  case neg =>
    have s2i : ¬ (n : Int) = (n' : Int) := by omega
    have s2b : ((n : Int) == (n' : Int)) = false := by simpa using s2i
    have s2d : ((n : Int) != (n' : Int)) = true := by simpa using s2i
    have s2c : (n == n') = false := by simpa using s2
    have s2e : (n != n') = true := by simpa using s2
    have HS2 := Lib.hid s2
    clear s2 s2i
    go_enter Try.func51, Try.ntmps51
    go_wp2
    go_ret
    exact ⟨ret_b (by rw [← HBB.out, allB_far (p := Oc.eqb) (by have h1 := HLl.out; have h2 := HLk.out; have h3 := HS2.out; omega)]), Below.refl _ _⟩
  subst s2
  go_enter Try.func51, Try.ntmps51
  go_wp2
  go_loopw [13] (fun iv wr => ∃ i : Nat, i ≤ n ∧ iv = .int .i64 i ∧ allB Oc.eqb l k = allB Oc.eqb (l.drop i) (k.drop i) ∧ Below w.heap.size w wr) (fun iv _ => n - (intOf iv).toNat)
  case atStart => exact ⟨0, Nat.zero_le _, rfl, rfl, Below.refl _ _⟩
  case round =>
    obtain ⟨i, hi, rfl, hp, hx⟩ := hrel
    have HX := Lib.hid hx
    clear hx
    by_cases hlt : i < n
    · obtain ⟨g, o, x, hAe, _, _, hd, hrg⟩ := (HI.out.through HX.out).at_oc hlt
      obtain ⟨g', o', y, hAe', _, _, hd', hrg'⟩ := (HJ.out.through HX.out).at_oc hlt
      obtain ⟨xcl, xsp, xrs⟩ := x
      obtain ⟨ycl, ysp, yrs⟩ := y
      rw [hd, hd'] at hp
      have x0 := hrg 0 _ rfl
      have y0 := hrg' 0 _ rfl
      have x1 := hrg 1 _ rfl
      have y1 := hrg' 1 _ rfl
      have x2 := hrg 2 _ rfl
      have y2 := hrg' 2 _ rfl
      have hix : ∀ W, (Instr.indexAt 23 (.slice A n c) (.int .i64 (i : Int))).run Try.prog W = .ok (.pointer (some ⟨g, o + i * 3, none⟩)) W := fun W => by rw [hAe]; exact HIX.out W g o n c i hlt
      have hix' : ∀ W, (Instr.indexAt 23 (.slice A' n c') (.int .i64 (i : Int))).run Try.prog W = .ok (.pointer (some ⟨g', o' + i * 3, none⟩)) W := fun W => by rw [hAe']; exact HIX.out W g' o' n c' i hlt
      simp only [Nat.add_zero] at x0 y0
      clear hrg hrg' hd hd' hAe hAe'
      by_cases k0 : xcl = ycl
      case neg =>
        have b0 : (xcl == ycl) = false := by simpa using k0
        have HP := Lib.hid (hp.trans (allB_stop (by simp only [Oc.eqb, b0]; simp)))
        clear hp k0
        go_wp2
        go_quiet (fail)
        go_wp2
        go_ret
        exact ⟨ret_b (by rw [← HBB.out, HP.out]), below_drewN HX.out _⟩
      subst k0
      by_cases k1 : xsp = ysp
      case neg =>
        have b1 : (xsp == ysp) = false := by simpa using k1
        have HP := Lib.hid (hp.trans (allB_stop (by simp only [Oc.eqb, b1]; simp)))
        clear hp k1
        go_wp2
        go_quiet (fail)
        go_wp2
        go_ret
        exact ⟨ret_b (by rw [← HBB.out, HP.out]), below_drewN HX.out _⟩
      subst k1
      by_cases k2 : xrs = yrs
      case neg =>
        have b2 : (xrs == yrs) = false := by simpa using k2
        have HP := Lib.hid (hp.trans (allB_stop (by simp only [Oc.eqb, b2]; simp)))
        clear hp k2
        go_wp2
        go_quiet (fail)
        go_wp2
        go_ret
        exact ⟨ret_b (by rw [← HBB.out, HP.out]), below_drewN HX.out _⟩
      subst k2
      have HP := Lib.hid (hp.trans (allB_next (Oc.eqb_iff.2 rfl)))
      clear hp
      go_wp2
      go_quiet (fail)
      go_wp2
      go_roundw
      case rel => exact ⟨i + 1, by omega, by go_num, HP.out, below_drewN HX.out _⟩
      case measure => simp [intOf]; omega
    · have e : l.drop i = [] := List.drop_of_length_le (by have := HLl.out; omega)
      have e' : k.drop i = [] := List.drop_of_length_le (by have := HLk.out; omega)
      rw [e, e'] at hp
      have HP : Hid (allB Oc.eqb l k = true) := Lib.hid hp
      clear e e' hp
      go_wp2
      go_ret
      exact ⟨ret_b (by rw [← HBB.out, HP.out]), HX.out⟩

end Go.Proofs.Ytkbeodlihmmdbaa
