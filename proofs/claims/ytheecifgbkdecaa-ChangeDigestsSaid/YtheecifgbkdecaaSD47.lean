/-
  CwM
-/
import Derived.Test.YtheecifgbkdecaaSD32
import Derived.Test.YtheecifgbkdecaaSD25
import Derived.Test.YtheecifgbkdecaaSD46
namespace Go.Proofs.Ytheecifgbkdecaa
open Go.RowKit

set_option maxHeartbeats 16000000 in
set_option maxRecDepth 100000 in
theorem equalpo_any (a b : List Po) (A : Option Addr) (n c : Nat) (B : Option Addr) (m d : Nat) (w : World) (h : PosIn w A n a) (h' : PosIn w B m b) (hn : n ≤ 9223372036854775807) :
    Calls Try.prog 60 #[.slice A n c, .slice B m d] w fun e w' => e = .returned (.bool (allB Po.eqb a b)) ∧ Below w.heap.size w w' := by
  have HI := Lib.hid h
  have HJ := Lib.hid h'
  obtain ⟨bb, hbb⟩ : ∃ bb, allB Po.eqb a b = bb := ⟨_, rfl⟩
  rw [hbb]
  by_cases s2 : n = m
  case neg =>
    have s2i : ¬ (n : Int) = (m : Int) := by omega
    have s2b : ((n : Int) == (m : Int)) = false := by simpa using s2i
    have s2d : ((n : Int) != (m : Int)) = true := by simpa using s2i
    have s2c : (n == m) = false := by simpa using s2
    have s2e : (n != m) = true := by simpa using s2
    have HV : Hid (bb = false) := Lib.hid (by rw [← hbb]; cases hb : allB Po.eqb a b; rfl; exact absurd (allB_len hb) (by rw [h.len, h'.len]; exact s2))
    clear h h' hbb s2 s2i
    go_enter Try.func60, Try.ntmps60
    go_wp2
    go_ret
    exact ⟨ret_bo HV.out.symm, Below.refl _ _⟩
  subst s2
  have HLn := Lib.hid h.len
  have HLm := Lib.hid h'.len
  have HBB : Hid (allB Po.eqb a b = bb) := Lib.hid hbb
  clear h h' hbb
  go_enter Try.func60, Try.ntmps60
  go_wp2
  go_loopw [13] (fun iv wr => ∃ i : Nat, i ≤ n ∧ iv = .int .i64 (i : Int) ∧ bb = allB Po.eqb (a.drop i) (b.drop i) ∧ Below w.heap.size w wr) (fun iv _ => n - (intOf iv).toNat)
  case atStart => exact ⟨0, Nat.zero_le _, rfl, HBB.out.symm, Below.refl _ _⟩
  case round =>
    obtain ⟨i, hi, rfl, hp, hx⟩ := hrel
    have HX := Lib.hid hx
    clear hx
    by_cases hlt : i < n
    · obtain ⟨g, o, x, rfl, _, _, hd, hxl, hrx⟩ := (HI.out.through HX.out).at hlt
      obtain ⟨g', o', y, rfl, _, _, hd', hyl, hry⟩ := (HJ.out.through HX.out).at hlt
      rw [hd, hd'] at hp
      have hix := fun (W : World) => Try.ix_po W g o n c i hlt
      have hix' := fun (W : World) => Try.ix_po W g' o' n d i hlt
      have hne := fun (W : World) => neq_po x y hxl hyl W
      have HPx : Hid ((Po.cells x).length = 33) := Lib.hid (Po.cells_len x hxl)
      have HPy : Hid ((Po.cells y).length = 33) := Lib.hid (Po.cells_len y hyl)
      have HRx := Lib.hid hrx
      have HRy := Lib.hid hry
      cases s0 : x.eqb y with
      | false =>
        rw [s0] at hne
        have HV : Hid (bb = false) := Lib.hid (by rw [hp]; simp [allB, s0])
        clear hp hd hd' s0 hrx hry hxl hyl
        go_wp2
        try dsimp only [Act.put]
        refine wp_region_held_drew (S := fun W => Below wr.heap.size wr W) (by kernel_rfl) (Below.refl _ _).drew (fun hHeld => ?_)
        change wpAnyH _ _ _ _ _ _ #[false, false, false, false, false, false, false, false, false] _ _
        refine wpAnyH_take (i := 0) (v := (.slice (some ⟨g, o, none⟩) n c)) rfl (by kernel_rfl) (by kernel_rfl) (by kernel_rfl) (fun _ _ _ h => h) (Or.inl ⟨by kernel_rfl, fun w hSw => ?_⟩) (by assumption) ?_
        · (try dsimp only at hSw); go_simp <;> (try rfl)
        change wpAnyH _ _ _ _ _ _ _ (Act.put _ (some (16 : Nat)) (.slice (some ⟨g, o, none⟩) n c)) _
        simp only [Act.put, List.setIfInBounds_toArray, List.set_cons_zero, List.set_cons_succ]
        refine wpAnyH_take (i := 1) (v := (.int .i64 (i : Int))) rfl (by kernel_rfl) (by kernel_rfl) (by kernel_rfl) (fun _ _ _ h => h) (Or.inl ⟨by kernel_rfl, fun w hSw => ?_⟩) (by assumption) ?_
        · (try dsimp only at hSw); go_simp <;> (try rfl)
        change wpAnyH _ _ _ _ _ _ _ (Act.put _ (some (17 : Nat)) (.int .i64 (i : Int))) _
        simp only [Act.put, List.setIfInBounds_toArray, List.set_cons_zero, List.set_cons_succ]
        refine wpAnyH_take (i := 2) (v := (.pointer (some ⟨g, o + i * 33, none⟩))) rfl (by kernel_rfl) (by kernel_rfl) (by kernel_rfl) (fun _ _ _ h => h) (Or.inl ⟨by kernel_rfl, fun w hSw => ?_⟩) (by assumption) ?_
        · (try dsimp only at hSw); go_simp <;> (try rfl)
        change wpAnyH _ _ _ _ _ _ _ (Act.put _ (some (18 : Nat)) (.pointer (some ⟨g, o + i * 33, none⟩))) _
        simp only [Act.put, List.setIfInBounds_toArray, List.set_cons_zero, List.set_cons_succ]
        refine wpAnyH_take (i := 3) (v := (.agg (Po.cells x).toArray)) rfl (by kernel_rfl) (by kernel_rfl) (by kernel_rfl) (fun _ _ _ h => h) (yieldsIf_load_mid (by kernel_rfl) 52 (.tmp 18) rfl g (o + i * 33) (by simp [Act.eval]) (Po.cells x) _ (fun W hW => rangeAt.through HRx.out hW) Try.underlying52 rfl (by rw [HPx.out]; kernel_rfl)) (by assumption) ?_
        change wpAnyH _ _ _ _ _ _ _ (Act.put _ (some (19 : Nat)) (.agg (Po.cells x).toArray)) _
        simp only [Act.put, List.setIfInBounds_toArray, List.set_cons_zero, List.set_cons_succ]
        refine wpAnyH_take (i := 4) (v := (.slice (some ⟨g', o', none⟩) n d)) rfl (by kernel_rfl) (by kernel_rfl) (by kernel_rfl) (fun _ _ _ h => h) (Or.inl ⟨by kernel_rfl, fun w hSw => ?_⟩) (by assumption) ?_
        · (try dsimp only at hSw); go_simp <;> (try rfl)
        change wpAnyH _ _ _ _ _ _ _ (Act.put _ (some (20 : Nat)) (.slice (some ⟨g', o', none⟩) n d)) _
        simp only [Act.put, List.setIfInBounds_toArray, List.set_cons_zero, List.set_cons_succ]
        refine wpAnyH_take (i := 5) (v := (.int .i64 (i : Int))) rfl (by kernel_rfl) (by kernel_rfl) (by kernel_rfl) (fun _ _ _ h => h) (Or.inl ⟨by kernel_rfl, fun w hSw => ?_⟩) (by assumption) ?_
        · (try dsimp only at hSw); go_simp <;> (try rfl)
        change wpAnyH _ _ _ _ _ _ _ (Act.put _ (some (21 : Nat)) (.int .i64 (i : Int))) _
        simp only [Act.put, List.setIfInBounds_toArray, List.set_cons_zero, List.set_cons_succ]
        refine wpAnyH_take (i := 6) (v := (.pointer (some ⟨g', o' + i * 33, none⟩))) rfl (by kernel_rfl) (by kernel_rfl) (by kernel_rfl) (fun _ _ _ h => h) (Or.inl ⟨by kernel_rfl, fun w hSw => ?_⟩) (by assumption) ?_
        · (try dsimp only at hSw); go_simp <;> (try rfl)
        change wpAnyH _ _ _ _ _ _ _ (Act.put _ (some (22 : Nat)) (.pointer (some ⟨g', o' + i * 33, none⟩))) _
        simp only [Act.put, List.setIfInBounds_toArray, List.set_cons_zero, List.set_cons_succ]
        refine wpAnyH_take (i := 7) (v := (.agg (Po.cells y).toArray)) rfl (by kernel_rfl) (by kernel_rfl) (by kernel_rfl) (fun _ _ _ h => h) (yieldsIf_load_mid (by kernel_rfl) 52 (.tmp 22) rfl g' (o' + i * 33) (by simp [Act.eval]) (Po.cells y) _ (fun W hW => rangeAt.through HRy.out hW) Try.underlying52 rfl (by rw [HPy.out]; kernel_rfl)) (by assumption) ?_
        change wpAnyH _ _ _ _ _ _ _ (Act.put _ (some (23 : Nat)) (.agg (Po.cells y).toArray)) _
        simp only [Act.put, List.setIfInBounds_toArray, List.set_cons_zero, List.set_cons_succ]
        refine wpAnyH_take (i := 8) (v := (.bool true)) rfl (by kernel_rfl) (by kernel_rfl) (by kernel_rfl) (fun _ _ _ h => h) (Or.inl ⟨by kernel_rfl, fun w hSw => ?_⟩) (by assumption) ?_
        · (try dsimp only at hSw); go_simp <;> (try rfl)
        change wpAnyH _ _ _ _ _ _ _ (Act.put _ (some (24 : Nat)) (.bool true)) _
        simp only [Act.put, List.setIfInBounds_toArray, List.set_cons_zero, List.set_cons_succ]
        refine wpAnyH_done (by kernel_rfl) ?_ _
        have HXe : Hid (Below w.heap.size w _) := Lib.hid (below_step HX.out hHeld)
        clear hHeld
        go_wp2
        go_ret
        exact ⟨ret_bo HV.out.symm, HXe.out⟩
      | true =>
        rw [s0] at hne
        have HV : Hid (bb = allB Po.eqb (a.drop (i + 1)) (b.drop (i + 1))) := Lib.hid (by rw [hp]; simp [allB, s0])
        clear hp hd hd' s0 hrx hry hxl hyl
        go_wp2
        try dsimp only [Act.put]
        refine wp_region_held_drew (S := fun W => Below wr.heap.size wr W) (by kernel_rfl) (Below.refl _ _).drew (fun hHeld => ?_)
        change wpAnyH _ _ _ _ _ _ #[false, false, false, false, false, false, false, false, false] _ _
        refine wpAnyH_take (i := 0) (v := (.slice (some ⟨g, o, none⟩) n c)) rfl (by kernel_rfl) (by kernel_rfl) (by kernel_rfl) (fun _ _ _ h => h) (Or.inl ⟨by kernel_rfl, fun w hSw => ?_⟩) (by assumption) ?_
        · (try dsimp only at hSw); go_simp <;> (try rfl)
        change wpAnyH _ _ _ _ _ _ _ (Act.put _ (some (16 : Nat)) (.slice (some ⟨g, o, none⟩) n c)) _
        simp only [Act.put, List.setIfInBounds_toArray, List.set_cons_zero, List.set_cons_succ]
        refine wpAnyH_take (i := 1) (v := (.int .i64 (i : Int))) rfl (by kernel_rfl) (by kernel_rfl) (by kernel_rfl) (fun _ _ _ h => h) (Or.inl ⟨by kernel_rfl, fun w hSw => ?_⟩) (by assumption) ?_
        · (try dsimp only at hSw); go_simp <;> (try rfl)
        change wpAnyH _ _ _ _ _ _ _ (Act.put _ (some (17 : Nat)) (.int .i64 (i : Int))) _
        simp only [Act.put, List.setIfInBounds_toArray, List.set_cons_zero, List.set_cons_succ]
        refine wpAnyH_take (i := 2) (v := (.pointer (some ⟨g, o + i * 33, none⟩))) rfl (by kernel_rfl) (by kernel_rfl) (by kernel_rfl) (fun _ _ _ h => h) (Or.inl ⟨by kernel_rfl, fun w hSw => ?_⟩) (by assumption) ?_
        · (try dsimp only at hSw); go_simp <;> (try rfl)
        change wpAnyH _ _ _ _ _ _ _ (Act.put _ (some (18 : Nat)) (.pointer (some ⟨g, o + i * 33, none⟩))) _
        simp only [Act.put, List.setIfInBounds_toArray, List.set_cons_zero, List.set_cons_succ]
        refine wpAnyH_take (i := 3) (v := (.agg (Po.cells x).toArray)) rfl (by kernel_rfl) (by kernel_rfl) (by kernel_rfl) (fun _ _ _ h => h) (yieldsIf_load_mid (by kernel_rfl) 52 (.tmp 18) rfl g (o + i * 33) (by simp [Act.eval]) (Po.cells x) _ (fun W hW => rangeAt.through HRx.out hW) Try.underlying52 rfl (by rw [HPx.out]; kernel_rfl)) (by assumption) ?_
        change wpAnyH _ _ _ _ _ _ _ (Act.put _ (some (19 : Nat)) (.agg (Po.cells x).toArray)) _
        simp only [Act.put, List.setIfInBounds_toArray, List.set_cons_zero, List.set_cons_succ]
        refine wpAnyH_take (i := 4) (v := (.slice (some ⟨g', o', none⟩) n d)) rfl (by kernel_rfl) (by kernel_rfl) (by kernel_rfl) (fun _ _ _ h => h) (Or.inl ⟨by kernel_rfl, fun w hSw => ?_⟩) (by assumption) ?_
        · (try dsimp only at hSw); go_simp <;> (try rfl)
        change wpAnyH _ _ _ _ _ _ _ (Act.put _ (some (20 : Nat)) (.slice (some ⟨g', o', none⟩) n d)) _
        simp only [Act.put, List.setIfInBounds_toArray, List.set_cons_zero, List.set_cons_succ]
        refine wpAnyH_take (i := 5) (v := (.int .i64 (i : Int))) rfl (by kernel_rfl) (by kernel_rfl) (by kernel_rfl) (fun _ _ _ h => h) (Or.inl ⟨by kernel_rfl, fun w hSw => ?_⟩) (by assumption) ?_
        · (try dsimp only at hSw); go_simp <;> (try rfl)
        change wpAnyH _ _ _ _ _ _ _ (Act.put _ (some (21 : Nat)) (.int .i64 (i : Int))) _
        simp only [Act.put, List.setIfInBounds_toArray, List.set_cons_zero, List.set_cons_succ]
        refine wpAnyH_take (i := 6) (v := (.pointer (some ⟨g', o' + i * 33, none⟩))) rfl (by kernel_rfl) (by kernel_rfl) (by kernel_rfl) (fun _ _ _ h => h) (Or.inl ⟨by kernel_rfl, fun w hSw => ?_⟩) (by assumption) ?_
        · (try dsimp only at hSw); go_simp <;> (try rfl)
        change wpAnyH _ _ _ _ _ _ _ (Act.put _ (some (22 : Nat)) (.pointer (some ⟨g', o' + i * 33, none⟩))) _
        simp only [Act.put, List.setIfInBounds_toArray, List.set_cons_zero, List.set_cons_succ]
        refine wpAnyH_take (i := 7) (v := (.agg (Po.cells y).toArray)) rfl (by kernel_rfl) (by kernel_rfl) (by kernel_rfl) (fun _ _ _ h => h) (yieldsIf_load_mid (by kernel_rfl) 52 (.tmp 22) rfl g' (o' + i * 33) (by simp [Act.eval]) (Po.cells y) _ (fun W hW => rangeAt.through HRy.out hW) Try.underlying52 rfl (by rw [HPy.out]; kernel_rfl)) (by assumption) ?_
        change wpAnyH _ _ _ _ _ _ _ (Act.put _ (some (23 : Nat)) (.agg (Po.cells y).toArray)) _
        simp only [Act.put, List.setIfInBounds_toArray, List.set_cons_zero, List.set_cons_succ]
        refine wpAnyH_take (i := 8) (v := (.bool false)) rfl (by kernel_rfl) (by kernel_rfl) (by kernel_rfl) (fun _ _ _ h => h) (Or.inl ⟨by kernel_rfl, fun w hSw => ?_⟩) (by assumption) ?_
        · (try dsimp only at hSw); go_simp <;> (try rfl)
        change wpAnyH _ _ _ _ _ _ _ (Act.put _ (some (24 : Nat)) (.bool false)) _
        simp only [Act.put, List.setIfInBounds_toArray, List.set_cons_zero, List.set_cons_succ]
        refine wpAnyH_done (by kernel_rfl) ?_ _
        have HXe : Hid (Below w.heap.size w _) := Lib.hid (below_step HX.out hHeld)
        clear hHeld
        go_wp2
        go_roundw
        case rel => exact ⟨i + 1, by omega, by go_num, HV.out, HXe.out⟩
        case measure => simp [intOf]; omega
    · have e : a.drop i = [] := List.drop_of_length_le (by have := HLn.out; omega)
      have e' : b.drop i = [] := List.drop_of_length_le (by have := HLm.out; omega)
      rw [e, e'] at hp
      have HV : Hid (bb = true) := Lib.hid hp
      clear hp e e'
      go_wp2
      go_ret
      exact ⟨ret_bo HV.out.symm, HX.out⟩

set_option maxHeartbeats 16000000 in
set_option maxRecDepth 100000 in
theorem sameproof_any (a b : Pf) (A : Option Addr) (n c : Nat) (B : Option Addr) (m d : Nat) (w : World) (h : EysIn w A n a.es) (h' : EysIn w B m b.es) (hn : n ≤ 9223372036854775807) :
    Calls Try.prog 62 #[.agg #[.int .i64 a.sq, .int .i64 a.vw, .slice A n c], .agg #[.int .i64 b.sq, .int .i64 b.vw, .slice B m d]] w fun e w' => e = .returned (.bool (a.eqb b)) ∧ Below w.heap.size w w' := by
  have HA : Hid (Blk ((w.alloc (.cells #[.int .i64 a.sq, .int .i64 a.vw, .slice A n c] 55)).alloc (.cells #[.int .i64 b.sq, .int .i64 b.vw, .slice B m d] 55)) w.heap.size 55 [.int .i64 a.sq, .int .i64 a.vw, .slice A n c]) := Lib.hid ((Blk.fresh rfl rfl : Blk (w.alloc (.cells #[.int .i64 a.sq, .int .i64 a.vw, .slice A n c] 55)) w.heap.size 55 [.int .i64 a.sq, .int .i64 a.vw, .slice A n c]).alloc _)
  have HB : Hid (Blk ((w.alloc (.cells #[.int .i64 a.sq, .int .i64 a.vw, .slice A n c] 55)).alloc (.cells #[.int .i64 b.sq, .int .i64 b.vw, .slice B m d] 55)) (w.heap.size + 1) 55 [.int .i64 b.sq, .int .i64 b.vw, .slice B m d]) := Lib.hid (Blk.fresh (by simp) rfl)
  have HX : Hid (Below w.heap.size w ((w.alloc (.cells #[.int .i64 a.sq, .int .i64 a.vw, .slice A n c] 55)).alloc (.cells #[.int .i64 b.sq, .int .i64 b.vw, .slice B m d] 55))) := Lib.hid ((below1_ w _).alloc (below1_ w _).size _)
  obtain ⟨bb, hbb⟩ : ∃ bb, a.eqb b = bb := ⟨_, rfl⟩
  rw [hbb]
  obtain ⟨sm, hsm⟩ : ∃ s, sameB a.es b.es = s := ⟨_, rfl⟩
  have HSm : Hid (Calls Try.prog 99 #[.slice A n c, .slice B m d] ((w.alloc (.cells #[.int .i64 a.sq, .int .i64 a.vw, .slice A n c] 55)).alloc (.cells #[.int .i64 b.sq, .int .i64 b.vw, .slice B m d] 55)) fun e w' => e = .returned (.bool sm) ∧ Below ((w.alloc (.cells #[.int .i64 a.sq, .int .i64 a.vw, .slice A n c] 55)).alloc (.cells #[.int .i64 b.sq, .int .i64 b.vw, .slice B m d] 55)).heap.size ((w.alloc (.cells #[.int .i64 a.sq, .int .i64 a.vw, .slice A n c] 55)).alloc (.cells #[.int .i64 b.sq, .int .i64 b.vw, .slice B m d] 55)) w') := Lib.hid (hsm ▸ sameB_any a.es b.es A n c B m d ((w.alloc (.cells #[.int .i64 a.sq, .int .i64 a.vw, .slice A n c] 55)).alloc (.cells #[.int .i64 b.sq, .int .i64 b.vw, .slice B m d] 55)) (h.through HX.out) (h'.through HX.out) hn)
  have p0 := HA.out.cellAt (i := 0) rfl
  have p1 := HA.out.cellAt (i := 1) rfl
  have p2 := HA.out.cellAt (i := 2) rfl
  have q0 := HB.out.cellAt (i := 0) rfl
  have q1 := HB.out.cellAt (i := 1) rfl
  have q2 := HB.out.cellAt (i := 2) rfl
  cases s0 : a.sq == b.sq with
  | false =>
    have HV : Hid (bb = false) := Lib.hid (by rw [← hbb]; unfold Pf.eqb; rw [s0]; rfl)
    clear h h' hbb hsm
    go_enter Try.func62, Try.ntmps62
    go_wp2_with (first
      | go_skip)
    go_ret
    exact ⟨ret_bo HV.out.symm, HX.out⟩
  | true =>
  cases s1 : a.vw == b.vw with
  | false =>
    have HV : Hid (bb = false) := Lib.hid (by rw [← hbb]; unfold Pf.eqb; rw [s0, s1]; rfl)
    clear h h' hbb hsm
    go_enter Try.func62, Try.ntmps62
    go_wp2_with (first
      | go_skip)
    go_ret
    exact ⟨ret_bo HV.out.symm, HX.out⟩
  | true =>
    have HV : Hid (bb = sm) := Lib.hid (by rw [← hbb, ← hsm]; unfold Pf.eqb; rw [s0, s1]; rfl)
    clear h h' hbb hsm
    go_enter Try.func62, Try.ntmps62
    go_wp2_with (first
      | go_skip
      | (go_at_call 99; (with_reducible refine HSm.out.mono ?_); rintro e w1 ⟨rfl, hb1⟩; have HX1 := Lib.hid (below_step HX.out hb1); clear hb1))
    go_ret
    exact ⟨ret_bo HV.out.symm, HX1.out⟩

set_option maxHeartbeats 16000000 in
set_option maxRecDepth 100000 in
theorem equalpf_any (a b : List Pf) (A : Option Addr) (n c : Nat) (B : Option Addr) (m d : Nat) (w : World) (h : PfsIn w A n a) (h' : PfsIn w B m b) (hn : n ≤ 9223372036854775807) (hle : ∀ p ∈ a, p.es.length ≤ 9223372036854775807) :
    Calls Try.prog 61 #[.slice A n c, .slice B m d, .func (.func 62) #[] #[]] w fun e w' => e = .returned (.bool (allB Pf.eqb a b)) ∧ Below w.heap.size w w' := by
  have HI := Lib.hid h
  have HJ := Lib.hid h'
  have HLe := Lib.hid hle
  obtain ⟨bb, hbb⟩ : ∃ bb, allB Pf.eqb a b = bb := ⟨_, rfl⟩
  rw [hbb]
  by_cases s2 : n = m
  case neg =>
    have s2i : ¬ (n : Int) = (m : Int) := by omega
    have s2b : ((n : Int) == (m : Int)) = false := by simpa using s2i
    have s2d : ((n : Int) != (m : Int)) = true := by simpa using s2i
    have s2c : (n == m) = false := by simpa using s2
    have s2e : (n != m) = true := by simpa using s2
    have HV : Hid (bb = false) := Lib.hid (by rw [← hbb]; cases hb : allB Pf.eqb a b; rfl; exact absurd (allB_len hb) (by rw [h.len, h'.len]; exact s2))
    clear h h' hbb s2 s2i
    go_enter Try.func61, Try.ntmps61
    go_wp2
    go_ret
    exact ⟨ret_bo HV.out.symm, Below.refl _ _⟩
  subst s2
  have HLn := Lib.hid h.len
  have HLm := Lib.hid h'.len
  have HBB : Hid (allB Pf.eqb a b = bb) := Lib.hid hbb
  clear h h' hbb hle
  go_enter Try.func61, Try.ntmps61
  go_wp2
  go_loopw [17] (fun iv wr => ∃ i : Nat, i ≤ n ∧ iv = .int .i64 (i : Int) ∧ bb = allB Pf.eqb (a.drop i) (b.drop i) ∧ Below w.heap.size w wr) (fun iv _ => n - (intOf iv).toNat)
  case atStart => exact ⟨0, Nat.zero_le _, rfl, HBB.out.symm, Below.refl _ _⟩
  case round =>
    obtain ⟨i, hi, rfl, hp, hx⟩ := hrel
    have HX := Lib.hid hx
    clear hx
    by_cases hlt : i < n
    · obtain ⟨g, o, x, E, j, f, rfl, _, hmem, hd, hrx, he, _, _⟩ := (HI.out.through HX.out).at hlt
      obtain ⟨g', o', y, E', j', f', rfl, _, _, hd', hry, he', _, _⟩ := (HJ.out.through HX.out).at hlt
      rw [hd, hd'] at hp
      have hix := fun (W : World) => Try.ix_pf W g o n c i hlt
      have hix' := fun (W : World) => Try.ix_pf W g' o' n d i hlt
      have HRx := Lib.hid hrx
      have HRy := Lib.hid hry
      obtain ⟨s0, hs0⟩ : ∃ s, x.eqb y = s := ⟨_, rfl⟩
      have HSp : Hid (∀ W : World, Below wr.heap.size wr W → Calls Try.prog 62 #[.agg #[.int .i64 x.sq, .int .i64 x.vw, .slice E j f], .agg #[.int .i64 y.sq, .int .i64 y.vw, .slice E' j' f']] W fun e w' => e = .returned (.bool s0) ∧ Below W.heap.size W w') := Lib.hid (fun W hW => hs0 ▸ sameproof_any x y E j f E' j' f' W (he.through hW) (he'.through hW) (by rw [← he.len]; exact HLe.out x hmem))
      cases s0 with
      | false =>
        have HV : Hid (bb = false) := Lib.hid (by rw [hp]; simp [allB, hs0])
        clear hp hd hd' hs0 hrx hry he he' hmem
        go_wp2_with (first
          | (refine wpList_load_mid rfl 55 (.tmp 20) rfl g (o + i * 3) rfl [.int .i64 x.sq, .int .i64 x.vw, .slice E j f] _ HRx.out Try.underlying55 rfl (by kernel_rfl) ?_)
          | (refine wpList_store_blk rfl 55 (.tmp 8) (.tmp 21) rfl wr.heap.size [.int .i64 x.sq, .int .i64 x.vw, .slice E j f] rfl rfl 55 [.int .i64 0, .int .i64 0, .slice none 0 0] (Blk.fresh rfl rfl) (by kernel_rfl) rfl (one3p_ _ _ _ _ _) ?_; simp only [Act.put]; intro w1 hb1 hg1; have HB1 := Lib.hid hb1; have HN1 := Lib.hid (below_new hg1); have HRy1 := Lib.hid (rangeAt.through HRy.out HN1.out); clear hb1 hg1)
          | (refine wpList_load_mid rfl 55 (.tmp 24) rfl g' (o' + i * 3) rfl [.int .i64 y.sq, .int .i64 y.vw, .slice E' j' f'] _ HRy1.out Try.underlying55 rfl (by kernel_rfl) ?_)
          | (refine wpList_store_blk rfl 55 (.tmp 9) (.tmp 25) rfl w1.heap.size [.int .i64 y.sq, .int .i64 y.vw, .slice E' j' f'] rfl rfl 55 [.int .i64 0, .int .i64 0, .slice none 0 0] (Blk.fresh rfl rfl) (by kernel_rfl) rfl (one3p_ _ _ _ _ _) ?_; simp only [Act.put]; intro w2 hb2 hg2; have HB2 := Lib.hid hb2; have HB12 := Lib.hid (HB1.out.through (below_new hg2)); have HN2 := Lib.hid (below_step HN1.out (below_new hg2)); clear hb2 hg2)
          | (refine wpList_load_blk rfl 55 (.tmp 8) rfl wr.heap.size rfl 55 [.int .i64 x.sq, .int .i64 x.vw, .slice E j f] _ HB12.out Try.underlying55 rfl (by kernel_rfl) ?_)
          | (refine wpList_load_blk rfl 55 (.tmp 9) rfl w1.heap.size rfl 55 [.int .i64 y.sq, .int .i64 y.vw, .slice E' j' f'] _ HB2.out Try.underlying55 rfl (by kernel_rfl) ?_)
          | (go_at_call 62; (with_reducible refine (HSp.out _ HN2.out).mono ?_); rintro e w3 ⟨rfl, hb3⟩; have HXe := Lib.hid (below_step HX.out (below_step HN2.out hb3)); clear hb3))
        go_ret
        exact ⟨ret_bo HV.out.symm, HXe.out⟩
      | true =>
        have HV : Hid (bb = allB Pf.eqb (a.drop (i + 1)) (b.drop (i + 1))) := Lib.hid (by rw [hp]; simp [allB, hs0])
        clear hp hd hd' hs0 hrx hry he he' hmem
        go_wp2_with (first
          | (refine wpList_load_mid rfl 55 (.tmp 20) rfl g (o + i * 3) rfl [.int .i64 x.sq, .int .i64 x.vw, .slice E j f] _ HRx.out Try.underlying55 rfl (by kernel_rfl) ?_)
          | (refine wpList_store_blk rfl 55 (.tmp 8) (.tmp 21) rfl wr.heap.size [.int .i64 x.sq, .int .i64 x.vw, .slice E j f] rfl rfl 55 [.int .i64 0, .int .i64 0, .slice none 0 0] (Blk.fresh rfl rfl) (by kernel_rfl) rfl (one3p_ _ _ _ _ _) ?_; simp only [Act.put]; intro w1 hb1 hg1; have HB1 := Lib.hid hb1; have HN1 := Lib.hid (below_new hg1); have HRy1 := Lib.hid (rangeAt.through HRy.out HN1.out); clear hb1 hg1)
          | (refine wpList_load_mid rfl 55 (.tmp 24) rfl g' (o' + i * 3) rfl [.int .i64 y.sq, .int .i64 y.vw, .slice E' j' f'] _ HRy1.out Try.underlying55 rfl (by kernel_rfl) ?_)
          | (refine wpList_store_blk rfl 55 (.tmp 9) (.tmp 25) rfl w1.heap.size [.int .i64 y.sq, .int .i64 y.vw, .slice E' j' f'] rfl rfl 55 [.int .i64 0, .int .i64 0, .slice none 0 0] (Blk.fresh rfl rfl) (by kernel_rfl) rfl (one3p_ _ _ _ _ _) ?_; simp only [Act.put]; intro w2 hb2 hg2; have HB2 := Lib.hid hb2; have HB12 := Lib.hid (HB1.out.through (below_new hg2)); have HN2 := Lib.hid (below_step HN1.out (below_new hg2)); clear hb2 hg2)
          | (refine wpList_load_blk rfl 55 (.tmp 8) rfl wr.heap.size rfl 55 [.int .i64 x.sq, .int .i64 x.vw, .slice E j f] _ HB12.out Try.underlying55 rfl (by kernel_rfl) ?_)
          | (refine wpList_load_blk rfl 55 (.tmp 9) rfl w1.heap.size rfl 55 [.int .i64 y.sq, .int .i64 y.vw, .slice E' j' f'] _ HB2.out Try.underlying55 rfl (by kernel_rfl) ?_)
          | (go_at_call 62; (with_reducible refine (HSp.out _ HN2.out).mono ?_); rintro e w3 ⟨rfl, hb3⟩; have HXe := Lib.hid (below_step HX.out (below_step HN2.out hb3)); clear hb3))
        go_roundw
        case rel => exact ⟨i + 1, by omega, by go_num, HV.out, HXe.out⟩
        case measure => simp [intOf]; omega
    · have e : a.drop i = [] := List.drop_of_length_le (by have := HLn.out; omega)
      have e' : b.drop i = [] := List.drop_of_length_le (by have := HLm.out; omega)
      rw [e, e'] at hp
      have HV : Hid (bb = true) := Lib.hid hp
      clear hp e e'
      go_wp2
      go_ret
      exact ⟨ret_bo HV.out.symm, HX.out⟩

set_option maxHeartbeats 16000000 in
set_option maxRecDepth 100000 in
theorem same18_any (a b : Ch) (P Q R P' Q' R' : Pl) (w : World) (h : ChIn w P Q R a) (h' : ChIn w P' Q' R' b) :
    Calls Try.prog 18 #[.agg (Ch.cells a P Q R).toArray, .agg (Ch.cells b P' Q' R').toArray] w fun e w' => e = .returned (.bool (a.eqb b)) ∧ Below w.heap.size w w' := by
  have HA : Hid (Blk ((w.alloc (.cells (Ch.cells a P Q R).toArray 25)).alloc (.cells (Ch.cells b P' Q' R').toArray 25)) w.heap.size 25 (Ch.cells a P Q R)) := Lib.hid ((Blk.fresh rfl rfl : Blk (w.alloc (.cells (Ch.cells a P Q R).toArray 25)) w.heap.size 25 (Ch.cells a P Q R)).alloc _)
  have HB : Hid (Blk ((w.alloc (.cells (Ch.cells a P Q R).toArray 25)).alloc (.cells (Ch.cells b P' Q' R').toArray 25)) (w.heap.size + 1) 25 (Ch.cells b P' Q' R')) := Lib.hid (Blk.fresh (by simp) rfl)
  have HX : Hid (Below w.heap.size w ((w.alloc (.cells (Ch.cells a P Q R).toArray 25)).alloc (.cells (Ch.cells b P' Q' R').toArray 25))) := Lib.hid ((below1_ w _).alloc (below1_ w _).size _)
  obtain ⟨bb, hbb⟩ : ∃ bb, a.eqb b = bb := ⟨_, rfl⟩
  rw [hbb]
  have hmx : maxLen ≤ 9223372036854775807 := by simp [maxLen]
  obtain ⟨r1, hr1⟩ : ∃ s, allB Po.eqb a.po b.po = s := ⟨_, rfl⟩
  obtain ⟨r2, hr2⟩ : ∃ s, allB Pf.eqb a.pp b.pp = s := ⟨_, rfl⟩
  obtain ⟨r3, hr3⟩ : ∃ s, allB Pf.eqb a.pd b.pd = s := ⟨_, rfl⟩
  have HC1 : Hid (∀ W : World, Below w.heap.size w W → Calls Try.prog 60 #[.slice P.1 P.2.1 P.2.2, .slice P'.1 P'.2.1 P'.2.2] W fun e w' => e = .returned (.bool r1) ∧ Below W.heap.size W w') := Lib.hid (fun W hW => hr1 ▸ equalpo_any a.po b.po P.1 P.2.1 P.2.2 P'.1 P'.2.1 P'.2.2 W (h.1.1.through hW) (h'.1.1.through hW) (by have := h.1.2; omega))
  have HC2 : Hid (∀ W : World, Below w.heap.size w W → Calls Try.prog 61 #[.slice Q.1 Q.2.1 Q.2.2, .slice Q'.1 Q'.2.1 Q'.2.2, .func (.func 62) #[] #[]] W fun e w' => e = .returned (.bool r2) ∧ Below W.heap.size W w') := Lib.hid (fun W hW => hr2 ▸ equalpf_any a.pp b.pp Q.1 Q.2.1 Q.2.2 Q'.1 Q'.2.1 Q'.2.2 W (h.2.1.1.through hW) (h'.2.1.1.through hW) (by have := h.2.1.2; omega) h.2.1.1.es_len)
  have HC3 : Hid (∀ W : World, Below w.heap.size w W → Calls Try.prog 61 #[.slice R.1 R.2.1 R.2.2, .slice R'.1 R'.2.1 R'.2.2, .func (.func 62) #[] #[]] W fun e w' => e = .returned (.bool r3) ∧ Below W.heap.size W w') := Lib.hid (fun W hW => hr3 ▸ equalpf_any a.pd b.pd R.1 R.2.1 R.2.2 R'.1 R'.2.1 R'.2.2 W (h.2.2.1.through hW) (h'.2.2.1.through hW) (by have := h.2.2.2; omega) h.2.2.1.es_len)
  have HBB : Hid (bb = ((a.vw == b.vw) && (a.lw == b.lw) && r1 && r2 && r3)) := Lib.hid (by rw [← hbb, ← hr1, ← hr2, ← hr3]; rfl)
  have p0 := HA.out.cellAt (i := 0) rfl
  have p1 := HA.out.cellAt (i := 1) rfl
  have p2 := HA.out.cellAt (i := 2) rfl
  have q0 := HB.out.cellAt (i := 0) rfl
  have q1 := HB.out.cellAt (i := 1) rfl
  have q2 := HB.out.cellAt (i := 2) rfl
  clear h h' hbb hr1 hr2 hr3 hmx
  cases s0 : a.vw == b.vw with
  | false =>
    have HV : Hid (bb = false) := Lib.hid (by rw [HBB.out, s0]; rfl)
    go_enter Try.func18, Try.ntmps18
    go_wp2_with (first
      | go_skip)
    go_ret
    exact ⟨ret_bo HV.out.symm, HX.out⟩
  | true =>
  cases s1 : a.lw == b.lw with
  | false =>
    have HV : Hid (bb = false) := Lib.hid (by rw [HBB.out, s0, s1]; rfl)
    go_enter Try.func18, Try.ntmps18
    go_wp2_with (first
      | go_skip)
    go_ret
    exact ⟨ret_bo HV.out.symm, HX.out⟩
  | true =>
  cases r1 with
  | false =>
    have HV : Hid (bb = false) := Lib.hid (by rw [HBB.out, s0, s1]; rfl)
    go_enter Try.func18, Try.ntmps18
    go_wp2_with (first
      | go_skip
      | (go_at_call 60; (with_reducible refine (HC1.out _ HX.out).mono ?_); rintro e w1 ⟨rfl, hb1⟩; have HX1 := Lib.hid (below_step HX.out hb1); have HA1 := Lib.hid (HA.out.through hb1); have HB1 := Lib.hid (HB.out.through hb1); have p31 := HA1.out.cellAt (i := 3) rfl; have q31 := HB1.out.cellAt (i := 3) rfl; clear hb1))
    go_ret
    exact ⟨ret_bo HV.out.symm, HX1.out⟩
  | true =>
  cases r2 with
  | false =>
    have HV : Hid (bb = false) := Lib.hid (by rw [HBB.out, s0, s1]; rfl)
    go_enter Try.func18, Try.ntmps18
    go_wp2_with (first
      | go_skip
      | (go_at_call 60; (with_reducible refine (HC1.out _ HX.out).mono ?_); rintro e w1 ⟨rfl, hb1⟩; have HX1 := Lib.hid (below_step HX.out hb1); have HA1 := Lib.hid (HA.out.through hb1); have HB1 := Lib.hid (HB.out.through hb1); have p31 := HA1.out.cellAt (i := 3) rfl; have q31 := HB1.out.cellAt (i := 3) rfl; clear hb1)
      | (go_at_call 61; (with_reducible refine (HC2.out _ HX1.out).mono ?_); rintro e w2 ⟨rfl, hb2⟩; have HX2 := Lib.hid (below_step HX1.out hb2); have HA2 := Lib.hid (HA1.out.through hb2); have HB2 := Lib.hid (HB1.out.through hb2); have p42 := HA2.out.cellAt (i := 4) rfl; have q42 := HB2.out.cellAt (i := 4) rfl; clear hb2))
    go_ret
    exact ⟨ret_bo HV.out.symm, HX2.out⟩
  | true =>
    have HV : Hid (bb = r3) := Lib.hid (by rw [HBB.out, s0, s1]; simp)
    go_enter Try.func18, Try.ntmps18
    go_wp2_with (first
      | go_skip
      | (go_at_call 60; (with_reducible refine (HC1.out _ HX.out).mono ?_); rintro e w1 ⟨rfl, hb1⟩; have HX1 := Lib.hid (below_step HX.out hb1); have HA1 := Lib.hid (HA.out.through hb1); have HB1 := Lib.hid (HB.out.through hb1); have p31 := HA1.out.cellAt (i := 3) rfl; have q31 := HB1.out.cellAt (i := 3) rfl; clear hb1)
      | (go_at_call 61; (with_reducible refine (HC2.out _ HX1.out).mono ?_); rintro e w2 ⟨rfl, hb2⟩; have HX2 := Lib.hid (below_step HX1.out hb2); have HA2 := Lib.hid (HA1.out.through hb2); have HB2 := Lib.hid (HB1.out.through hb2); have p42 := HA2.out.cellAt (i := 4) rfl; have q42 := HB2.out.cellAt (i := 4) rfl; clear hb2)
      | (go_at_call 61; (with_reducible refine (HC3.out _ HX2.out).mono ?_); rintro e w3 ⟨rfl, hb3⟩; have HX3 := Lib.hid (below_step HX2.out hb3); have HA3 := Lib.hid (HA2.out.through hb3); have HB3 := Lib.hid (HB2.out.through hb3); clear hb3))
    go_ret
    exact ⟨ret_bo HV.out.symm, HX3.out⟩

theorem samecw : SameCW := fun a b P Q R P' Q' R' w h h' _ _ => same18_any a b P Q R P' Q' R' w h h'

end Go.Proofs.Ytheecifgbkdecaa
