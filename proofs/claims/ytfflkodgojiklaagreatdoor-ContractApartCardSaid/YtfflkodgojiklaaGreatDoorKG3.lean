/-
  Joined: PgB1.
-/
import Derived.Laws.Cover1
import Derived.Test.YtfflkodgojiklaaGreatDoorKG1
namespace Go.Proofs.YtfflkodgojiklaaGreatDoor

section
open Go.RowKit
theorem ris_two {α : Type} {lt : α → α → Bool} {x y : α} {ys : List α} : ris lt (x :: y :: ys) = (lt x y && ris lt (y :: ys)) := rfl
theorem ris_short {α : Type} {lt : α → α → Bool} {l : List α} (h : l.length ≤ 1) : ris lt l = true := by
  match l, h with
  | [], _ => rfl
  | [_], _ => rfl

set_option maxHeartbeats 4000000 in
set_option maxRecDepth 100000 in
theorem risesL_any (ls : List Lt) (A : Option Addr) (n c : Nat) (w : World) (h : Sl w 6 A n (ls.map Lt.cells)) (hn : n ≤ 1000000) :
    Calls Tryz.prog 98 #[.slice A n c, .func (.func 55) #[] #[]] w fun e w' => e = .returned (.bool (ris (fun a b : Lt => ltS a.nm b.nm) ls)) ∧ Below w.heap.size w w' := by
  have hli := ba_list
  have HI := Lib.hid h
  have hlen : ls.length = n := by simpa using h.len
  have HLn := Lib.hid hlen
  have HIX := Lib.hid Tryz.ix_lt
  obtain ⟨bb, hbb⟩ : ∃ bb, ris (fun a b : Lt => ltS a.nm b.nm) ls = bb := ⟨_, rfl⟩
  rw [hbb]
  have HBB := Lib.hid hbb
  clear h hbb hlen
  go_enter Tryz.func98, Tryz.ntmps98
  go_wp2
  go_loopw [9] (fun iv wr => ∃ i : Nat, i ≤ n ∧ iv = .int .i64 i ∧ ris (fun a b : Lt => ltS a.nm b.nm) ls = ris (fun a b : Lt => ltS a.nm b.nm) (ls.drop i) ∧ Below w.heap.size w wr) (fun iv _ => n - (intOf iv).toNat)
  case atStart => exact ⟨0, Nat.zero_le _, rfl, rfl, Below.refl _ _⟩
  case round =>
    obtain ⟨i, hi, rfl, hp, hx⟩ := hrel
    have HX := Lib.hid hx
    clear hx
    by_cases hlt : i + 1 < n
    · obtain ⟨g, o, x, hAe, hxi, _, hd, hrx⟩ := (HI.out.through HX.out).at_lt (i := i) (by omega)
      obtain ⟨g', o', y, hAe', hyi, _, hd', hry⟩ := (HI.out.through HX.out).at_lt hlt
      subst hAe
      obtain ⟨rfl, rfl⟩ : g = g' ∧ o = o' := by simpa using hAe'
      rw [hd, hd', ris_two] at hp
      have HD := Lib.hid hd'
      have HRx := Lib.hid hrx
      have HRy := Lib.hid hry
      have hix : ∀ W, (Instr.indexAt 22 (.slice (some ⟨g, o, none⟩) n c) (.int .i64 (i : Int))).run Tryz.prog W = .ok (.pointer (some ⟨g, o + i * 6, none⟩)) W := fun W => HIX.out W g o n c i (by omega)
      have hiy : ∀ W, (Instr.indexAt 22 (.slice (some ⟨g, o, none⟩) n c) (.int .i64 ((i : Int) + 1))).run Tryz.prog W = .ok (.pointer (some ⟨g, o + (i + 1) * 6, none⟩)) W := fun W => HIX.out W g o n c (i + 1) hlt
      have hd1 : decide ((i : Int) < (n : Int) - 1) = true := by simp; omega
      have hwr : IntKind.i64.wrap ((i : Int) + 1) = (i : Int) + 1 := IntWalk.i64_in _ (by omega)
      clear hrx hry hAe' hxi hyi hd hd'
      cases hc : ltS x.nm y.nm with
      | true =>
        rw [hc] at hp
        have HP : Hid (ris (fun a b : Lt => ltS a.nm b.nm) ls = ris (fun a b : Lt => ltS a.nm b.nm) (ls.drop (i + 1))) := Lib.hid (by rw [HD.out]; exact hp)
        have hq : Op.bytesLess x.nm y.nm = true := hc
        clear hp hc
        go_wp2
        refine wp_region_held_drew (S := fun W => Below wr.heap.size wr W) (by kernel_rfl) (Below.refl _ _).drew (fun hHeld => ?_)
        change wpAnyH _ _ _ _ _ _ #[false, false, false, false, false, false, false, false, false, false, false, false, false, false] _ _
        refine wpAnyH_take (i := 0) (v := (.func (.func 55) #[] #[])) rfl (by kernel_rfl) (by kernel_rfl) (by kernel_rfl) (fun _ _ _ h => h) (Or.inl ⟨by kernel_rfl, fun w hSw => ?_⟩) (by assumption) ?_
        · (try dsimp only at hSw); go_simp <;> (try rfl)
        change wpAnyH _ _ _ _ _ _ _ (Act.put _ (some (12 : Nat)) (.func (.func 55) #[] #[])) _
        simp only [Act.put, List.setIfInBounds_toArray, List.set_cons_zero, List.set_cons_succ]
        refine wpAnyH_take (i := 1) (v := (.slice (some ⟨g, o, none⟩) n c)) rfl (by kernel_rfl) (by kernel_rfl) (by kernel_rfl) (fun _ _ _ h => h) (Or.inl ⟨by kernel_rfl, fun w hSw => ?_⟩) (by assumption) ?_
        · (try dsimp only at hSw); go_simp <;> (try rfl)
        change wpAnyH _ _ _ _ _ _ _ (Act.put _ (some (13 : Nat)) (.slice (some ⟨g, o, none⟩) n c)) _
        simp only [Act.put, List.setIfInBounds_toArray, List.set_cons_zero, List.set_cons_succ]
        refine wpAnyH_take (i := 2) (v := (.int .i64 (i : Int))) rfl (by kernel_rfl) (by kernel_rfl) (by kernel_rfl) (fun _ _ _ h => h) (Or.inl ⟨by kernel_rfl, fun w hSw => ?_⟩) (by assumption) ?_
        · (try dsimp only at hSw); go_simp <;> (try rfl)
        change wpAnyH _ _ _ _ _ _ _ (Act.put _ (some (14 : Nat)) (.int .i64 (i : Int))) _
        simp only [Act.put, List.setIfInBounds_toArray, List.set_cons_zero, List.set_cons_succ]
        refine wpAnyH_take (i := 3) (v := (.pointer (some ⟨g, o + i * 6, none⟩))) rfl (by kernel_rfl) (by kernel_rfl) (by kernel_rfl) (fun _ _ _ h => h) (Or.inl ⟨by kernel_rfl, fun w hSw => ?_⟩) (by assumption) ?_
        · (try dsimp only at hSw); go_simp <;> (try rfl)
        change wpAnyH _ _ _ _ _ _ _ (Act.put _ (some (15 : Nat)) (.pointer (some ⟨g, o + i * 6, none⟩))) _
        simp only [Act.put, List.setIfInBounds_toArray, List.set_cons_zero, List.set_cons_succ]
        refine wpAnyH_take (i := 4) (v := (.agg #[.string (ba x.nm), .int .i64 x.st, .int .i64 x.am, .int .i64 x.du, .string (ba x.po), .string (ba x.pa)])) rfl (by kernel_rfl) (by kernel_rfl) (by kernel_rfl) (fun _ _ _ h => h) (yieldsIf_load_mid (by kernel_rfl) 39 (.tmp 15) rfl g (o + i * 6) (by simp [Act.eval]) [.string (ba x.nm), .int .i64 x.st, .int .i64 x.am, .int .i64 x.du, .string (ba x.po), .string (ba x.pa)] _ (fun W hW => rangeAt.through HRx.out hW) Tryz.underlying39 rfl (by kernel_rfl)) (by assumption) ?_
        change wpAnyH _ _ _ _ _ _ _ (Act.put _ (some (16 : Nat)) (.agg #[.string (ba x.nm), .int .i64 x.st, .int .i64 x.am, .int .i64 x.du, .string (ba x.po), .string (ba x.pa)])) _
        simp only [Act.put, List.setIfInBounds_toArray, List.set_cons_zero, List.set_cons_succ]
        refine wpAnyH_take (i := 6) (v := (.func (.func 55) #[] #[])) rfl (by kernel_rfl) (by kernel_rfl) (by kernel_rfl) (fun _ _ _ h => h) (Or.inl ⟨by kernel_rfl, fun w hSw => ?_⟩) (by assumption) ?_
        · (try dsimp only at hSw); go_simp <;> (try rfl)
        change wpAnyH _ _ _ _ _ _ _ (Act.put _ (some (18 : Nat)) (.func (.func 55) #[] #[])) _
        simp only [Act.put, List.setIfInBounds_toArray, List.set_cons_zero, List.set_cons_succ]
        refine wpAnyH_take (i := 7) (v := (.slice (some ⟨g, o, none⟩) n c)) rfl (by kernel_rfl) (by kernel_rfl) (by kernel_rfl) (fun _ _ _ h => h) (Or.inl ⟨by kernel_rfl, fun w hSw => ?_⟩) (by assumption) ?_
        · (try dsimp only at hSw); go_simp <;> (try rfl)
        change wpAnyH _ _ _ _ _ _ _ (Act.put _ (some (19 : Nat)) (.slice (some ⟨g, o, none⟩) n c)) _
        simp only [Act.put, List.setIfInBounds_toArray, List.set_cons_zero, List.set_cons_succ]
        refine wpAnyH_take (i := 8) (v := (.int .i64 (i : Int))) rfl (by kernel_rfl) (by kernel_rfl) (by kernel_rfl) (fun _ _ _ h => h) (Or.inl ⟨by kernel_rfl, fun w hSw => ?_⟩) (by assumption) ?_
        · (try dsimp only at hSw); go_simp <;> (try rfl)
        change wpAnyH _ _ _ _ _ _ _ (Act.put _ (some (20 : Nat)) (.int .i64 (i : Int))) _
        simp only [Act.put, List.setIfInBounds_toArray, List.set_cons_zero, List.set_cons_succ]
        refine wpAnyH_take (i := 9) (v := (.int .i64 ((i : Int) + 1))) rfl (by kernel_rfl) (by kernel_rfl) (by kernel_rfl) (fun _ _ _ h => h) (Or.inl ⟨by kernel_rfl, fun w hSw => ?_⟩) (by assumption) ?_
        · (try dsimp only at hSw); go_simp <;> (try rfl)
        change wpAnyH _ _ _ _ _ _ _ (Act.put _ (some (21 : Nat)) (.int .i64 ((i : Int) + 1))) _
        simp only [Act.put, List.setIfInBounds_toArray, List.set_cons_zero, List.set_cons_succ]
        refine wpAnyH_take (i := 10) (v := (.pointer (some ⟨g, o + (i + 1) * 6, none⟩))) rfl (by kernel_rfl) (by kernel_rfl) (by kernel_rfl) (fun _ _ _ h => h) (Or.inl ⟨by kernel_rfl, fun w hSw => ?_⟩) (by assumption) ?_
        · (try dsimp only at hSw); go_simp <;> (try rfl)
        change wpAnyH _ _ _ _ _ _ _ (Act.put _ (some (22 : Nat)) (.pointer (some ⟨g, o + (i + 1) * 6, none⟩))) _
        simp only [Act.put, List.setIfInBounds_toArray, List.set_cons_zero, List.set_cons_succ]
        refine wpAnyH_take (i := 11) (v := (.agg #[.string (ba y.nm), .int .i64 y.st, .int .i64 y.am, .int .i64 y.du, .string (ba y.po), .string (ba y.pa)])) rfl (by kernel_rfl) (by kernel_rfl) (by kernel_rfl) (fun _ _ _ h => h) (yieldsIf_load_mid (by kernel_rfl) 39 (.tmp 22) rfl g (o + (i + 1) * 6) (by simp [Act.eval]) [.string (ba y.nm), .int .i64 y.st, .int .i64 y.am, .int .i64 y.du, .string (ba y.po), .string (ba y.pa)] _ (fun W hW => rangeAt.through HRy.out hW) Tryz.underlying39 rfl (by kernel_rfl)) (by assumption) ?_
        change wpAnyH _ _ _ _ _ _ _ (Act.put _ (some (23 : Nat)) (.agg #[.string (ba y.nm), .int .i64 y.st, .int .i64 y.am, .int .i64 y.du, .string (ba y.po), .string (ba y.pa)])) _
        simp only [Act.put, List.setIfInBounds_toArray, List.set_cons_zero, List.set_cons_succ]
        refine wpAnyH_ready (rs := [5]) (by kernel_rfl) (by simp) ?_
        refine AllReadyH.cons rfl (fun K hK => ?_) AllReadyH.nil
        go_simp
        refine (nameof_any x _).mono ?_
        rintro e wa ⟨rfl, hba⟩; have HBba := Lib.hid hba; clear hba
        go_wp2_with fail
        refine hK.out _ _ (below_step hHeld HBba.out) (fun hHeld1 => ?_)
        clear hHeld hK K
        have hHeld := hHeld1
        clear hHeld1
        refine wpAnyH_ready (rs := [12]) (by kernel_rfl) (by simp) ?_
        refine AllReadyH.cons rfl (fun K hK => ?_) AllReadyH.nil
        go_simp
        refine (nameof_any y _).mono ?_
        rintro e wb ⟨rfl, hbb⟩; have HBbb := Lib.hid hbb; clear hbb
        go_wp2_with fail
        refine hK.out _ _ (below_step hHeld HBbb.out) (fun hHeld1 => ?_)
        clear hHeld hK K
        have hHeld := hHeld1
        clear hHeld1
        refine wpAnyH_take (i := 13) (v := (.bool false)) rfl (by kernel_rfl) (by kernel_rfl) (by kernel_rfl) (fun _ _ _ h => h) (Or.inl ⟨by kernel_rfl, fun w hSw => ?_⟩) (by assumption) ?_
        · (try dsimp only at hSw); go_simp <;> (try rfl)
        change wpAnyH _ _ _ _ _ _ _ (Act.put _ (some (25 : Nat)) (.bool false)) _
        simp only [Act.put, List.setIfInBounds_toArray, List.set_cons_zero, List.set_cons_succ]
        refine wpAnyH_done (by kernel_rfl) ?_ _
        have HXe : Hid (Below w.heap.size w wb) := Lib.hid (below_step HX.out hHeld)
        clear hHeld
        go_wp2
        go_roundw
        case rel => exact ⟨i + 1, by omega, by go_num, HP.out, HXe.out⟩
        case measure => simp [intOf]; omega

      | false =>
        rw [hc] at hp
        have HP : Hid (ris (fun a b : Lt => ltS a.nm b.nm) ls = false) := Lib.hid hp
        have hq : Op.bytesLess x.nm y.nm = false := hc
        clear hp hc
        go_wp2
        refine wp_region_held_drew (S := fun W => Below wr.heap.size wr W) (by kernel_rfl) (Below.refl _ _).drew (fun hHeld => ?_)
        change wpAnyH _ _ _ _ _ _ #[false, false, false, false, false, false, false, false, false, false, false, false, false, false] _ _
        refine wpAnyH_take (i := 0) (v := (.func (.func 55) #[] #[])) rfl (by kernel_rfl) (by kernel_rfl) (by kernel_rfl) (fun _ _ _ h => h) (Or.inl ⟨by kernel_rfl, fun w hSw => ?_⟩) (by assumption) ?_
        · (try dsimp only at hSw); go_simp <;> (try rfl)
        change wpAnyH _ _ _ _ _ _ _ (Act.put _ (some (12 : Nat)) (.func (.func 55) #[] #[])) _
        simp only [Act.put, List.setIfInBounds_toArray, List.set_cons_zero, List.set_cons_succ]
        refine wpAnyH_take (i := 1) (v := (.slice (some ⟨g, o, none⟩) n c)) rfl (by kernel_rfl) (by kernel_rfl) (by kernel_rfl) (fun _ _ _ h => h) (Or.inl ⟨by kernel_rfl, fun w hSw => ?_⟩) (by assumption) ?_
        · (try dsimp only at hSw); go_simp <;> (try rfl)
        change wpAnyH _ _ _ _ _ _ _ (Act.put _ (some (13 : Nat)) (.slice (some ⟨g, o, none⟩) n c)) _
        simp only [Act.put, List.setIfInBounds_toArray, List.set_cons_zero, List.set_cons_succ]
        refine wpAnyH_take (i := 2) (v := (.int .i64 (i : Int))) rfl (by kernel_rfl) (by kernel_rfl) (by kernel_rfl) (fun _ _ _ h => h) (Or.inl ⟨by kernel_rfl, fun w hSw => ?_⟩) (by assumption) ?_
        · (try dsimp only at hSw); go_simp <;> (try rfl)
        change wpAnyH _ _ _ _ _ _ _ (Act.put _ (some (14 : Nat)) (.int .i64 (i : Int))) _
        simp only [Act.put, List.setIfInBounds_toArray, List.set_cons_zero, List.set_cons_succ]
        refine wpAnyH_take (i := 3) (v := (.pointer (some ⟨g, o + i * 6, none⟩))) rfl (by kernel_rfl) (by kernel_rfl) (by kernel_rfl) (fun _ _ _ h => h) (Or.inl ⟨by kernel_rfl, fun w hSw => ?_⟩) (by assumption) ?_
        · (try dsimp only at hSw); go_simp <;> (try rfl)
        change wpAnyH _ _ _ _ _ _ _ (Act.put _ (some (15 : Nat)) (.pointer (some ⟨g, o + i * 6, none⟩))) _
        simp only [Act.put, List.setIfInBounds_toArray, List.set_cons_zero, List.set_cons_succ]
        refine wpAnyH_take (i := 4) (v := (.agg #[.string (ba x.nm), .int .i64 x.st, .int .i64 x.am, .int .i64 x.du, .string (ba x.po), .string (ba x.pa)])) rfl (by kernel_rfl) (by kernel_rfl) (by kernel_rfl) (fun _ _ _ h => h) (yieldsIf_load_mid (by kernel_rfl) 39 (.tmp 15) rfl g (o + i * 6) (by simp [Act.eval]) [.string (ba x.nm), .int .i64 x.st, .int .i64 x.am, .int .i64 x.du, .string (ba x.po), .string (ba x.pa)] _ (fun W hW => rangeAt.through HRx.out hW) Tryz.underlying39 rfl (by kernel_rfl)) (by assumption) ?_
        change wpAnyH _ _ _ _ _ _ _ (Act.put _ (some (16 : Nat)) (.agg #[.string (ba x.nm), .int .i64 x.st, .int .i64 x.am, .int .i64 x.du, .string (ba x.po), .string (ba x.pa)])) _
        simp only [Act.put, List.setIfInBounds_toArray, List.set_cons_zero, List.set_cons_succ]
        refine wpAnyH_take (i := 6) (v := (.func (.func 55) #[] #[])) rfl (by kernel_rfl) (by kernel_rfl) (by kernel_rfl) (fun _ _ _ h => h) (Or.inl ⟨by kernel_rfl, fun w hSw => ?_⟩) (by assumption) ?_
        · (try dsimp only at hSw); go_simp <;> (try rfl)
        change wpAnyH _ _ _ _ _ _ _ (Act.put _ (some (18 : Nat)) (.func (.func 55) #[] #[])) _
        simp only [Act.put, List.setIfInBounds_toArray, List.set_cons_zero, List.set_cons_succ]
        refine wpAnyH_take (i := 7) (v := (.slice (some ⟨g, o, none⟩) n c)) rfl (by kernel_rfl) (by kernel_rfl) (by kernel_rfl) (fun _ _ _ h => h) (Or.inl ⟨by kernel_rfl, fun w hSw => ?_⟩) (by assumption) ?_
        · (try dsimp only at hSw); go_simp <;> (try rfl)
        change wpAnyH _ _ _ _ _ _ _ (Act.put _ (some (19 : Nat)) (.slice (some ⟨g, o, none⟩) n c)) _
        simp only [Act.put, List.setIfInBounds_toArray, List.set_cons_zero, List.set_cons_succ]
        refine wpAnyH_take (i := 8) (v := (.int .i64 (i : Int))) rfl (by kernel_rfl) (by kernel_rfl) (by kernel_rfl) (fun _ _ _ h => h) (Or.inl ⟨by kernel_rfl, fun w hSw => ?_⟩) (by assumption) ?_
        · (try dsimp only at hSw); go_simp <;> (try rfl)
        change wpAnyH _ _ _ _ _ _ _ (Act.put _ (some (20 : Nat)) (.int .i64 (i : Int))) _
        simp only [Act.put, List.setIfInBounds_toArray, List.set_cons_zero, List.set_cons_succ]
        refine wpAnyH_take (i := 9) (v := (.int .i64 ((i : Int) + 1))) rfl (by kernel_rfl) (by kernel_rfl) (by kernel_rfl) (fun _ _ _ h => h) (Or.inl ⟨by kernel_rfl, fun w hSw => ?_⟩) (by assumption) ?_
        · (try dsimp only at hSw); go_simp <;> (try rfl)
        change wpAnyH _ _ _ _ _ _ _ (Act.put _ (some (21 : Nat)) (.int .i64 ((i : Int) + 1))) _
        simp only [Act.put, List.setIfInBounds_toArray, List.set_cons_zero, List.set_cons_succ]
        refine wpAnyH_take (i := 10) (v := (.pointer (some ⟨g, o + (i + 1) * 6, none⟩))) rfl (by kernel_rfl) (by kernel_rfl) (by kernel_rfl) (fun _ _ _ h => h) (Or.inl ⟨by kernel_rfl, fun w hSw => ?_⟩) (by assumption) ?_
        · (try dsimp only at hSw); go_simp <;> (try rfl)
        change wpAnyH _ _ _ _ _ _ _ (Act.put _ (some (22 : Nat)) (.pointer (some ⟨g, o + (i + 1) * 6, none⟩))) _
        simp only [Act.put, List.setIfInBounds_toArray, List.set_cons_zero, List.set_cons_succ]
        refine wpAnyH_take (i := 11) (v := (.agg #[.string (ba y.nm), .int .i64 y.st, .int .i64 y.am, .int .i64 y.du, .string (ba y.po), .string (ba y.pa)])) rfl (by kernel_rfl) (by kernel_rfl) (by kernel_rfl) (fun _ _ _ h => h) (yieldsIf_load_mid (by kernel_rfl) 39 (.tmp 22) rfl g (o + (i + 1) * 6) (by simp [Act.eval]) [.string (ba y.nm), .int .i64 y.st, .int .i64 y.am, .int .i64 y.du, .string (ba y.po), .string (ba y.pa)] _ (fun W hW => rangeAt.through HRy.out hW) Tryz.underlying39 rfl (by kernel_rfl)) (by assumption) ?_
        change wpAnyH _ _ _ _ _ _ _ (Act.put _ (some (23 : Nat)) (.agg #[.string (ba y.nm), .int .i64 y.st, .int .i64 y.am, .int .i64 y.du, .string (ba y.po), .string (ba y.pa)])) _
        simp only [Act.put, List.setIfInBounds_toArray, List.set_cons_zero, List.set_cons_succ]
        refine wpAnyH_ready (rs := [5]) (by kernel_rfl) (by simp) ?_
        refine AllReadyH.cons rfl (fun K hK => ?_) AllReadyH.nil
        go_simp
        refine (nameof_any x _).mono ?_
        rintro e wa ⟨rfl, hba⟩; have HBba := Lib.hid hba; clear hba
        go_wp2_with fail
        refine hK.out _ _ (below_step hHeld HBba.out) (fun hHeld1 => ?_)
        clear hHeld hK K
        have hHeld := hHeld1
        clear hHeld1
        refine wpAnyH_ready (rs := [12]) (by kernel_rfl) (by simp) ?_
        refine AllReadyH.cons rfl (fun K hK => ?_) AllReadyH.nil
        go_simp
        refine (nameof_any y _).mono ?_
        rintro e wb ⟨rfl, hbb⟩; have HBbb := Lib.hid hbb; clear hbb
        go_wp2_with fail
        refine hK.out _ _ (below_step hHeld HBbb.out) (fun hHeld1 => ?_)
        clear hHeld hK K
        have hHeld := hHeld1
        clear hHeld1
        refine wpAnyH_take (i := 13) (v := (.bool true)) rfl (by kernel_rfl) (by kernel_rfl) (by kernel_rfl) (fun _ _ _ h => h) (Or.inl ⟨by kernel_rfl, fun w hSw => ?_⟩) (by assumption) ?_
        · (try dsimp only at hSw); go_simp <;> (try rfl)
        change wpAnyH _ _ _ _ _ _ _ (Act.put _ (some (25 : Nat)) (.bool true)) _
        simp only [Act.put, List.setIfInBounds_toArray, List.set_cons_zero, List.set_cons_succ]
        refine wpAnyH_done (by kernel_rfl) ?_ _
        have HXe : Hid (Below w.heap.size w wb) := Lib.hid (below_step HX.out hHeld)
        clear hHeld
        go_wp2
        go_ret
        exact ⟨ret_b (by rw [← HBB.out, HP.out]), HXe.out⟩

    · have HP : Hid (ris (fun a b : Lt => ltS a.nm b.nm) ls = true) := Lib.hid (hp.trans (ris_short (by rw [List.length_drop, HLn.out]; omega)))
      have hd1 : decide ((i : Int) < (n : Int) - 1) = false := by simp; omega
      clear hp
      go_wp2
      go_ret
      exact ⟨ret_b (by rw [← HBB.out, HP.out]), HX.out⟩

set_option maxHeartbeats 4000000 in
set_option maxRecDepth 100000 in
theorem risesO_any (ls : List Oc) (A : Option Addr) (n c : Nat) (w : World) (h : Sl w 3 A n (ls.map Oc.cells)) (hn : n ≤ 1000000) :
    Calls Tryz.prog 90 #[.slice A n c, .func (.func 44) #[] #[]] w fun e w' => e = .returned (.bool (ris (fun a b : Oc => decide (a.cl < b.cl)) ls)) ∧ Below w.heap.size w w' := by
  have HI := Lib.hid h
  have hlen : ls.length = n := by simpa using h.len
  have HLn := Lib.hid hlen
  have HIX := Lib.hid Tryz.ix_oc
  obtain ⟨bb, hbb⟩ : ∃ bb, ris (fun a b : Oc => decide (a.cl < b.cl)) ls = bb := ⟨_, rfl⟩
  rw [hbb]
  have HBB := Lib.hid hbb
  clear h hbb hlen
  go_enter Tryz.func90, Tryz.ntmps90
  go_wp2
  go_loopw [9] (fun iv wr => ∃ i : Nat, i ≤ n ∧ iv = .int .i64 i ∧ ris (fun a b : Oc => decide (a.cl < b.cl)) ls = ris (fun a b : Oc => decide (a.cl < b.cl)) (ls.drop i) ∧ Below w.heap.size w wr) (fun iv _ => n - (intOf iv).toNat)
  case atStart => exact ⟨0, Nat.zero_le _, rfl, rfl, Below.refl _ _⟩
  case round =>
    obtain ⟨i, hi, rfl, hp, hx⟩ := hrel
    have HX := Lib.hid hx
    clear hx
    by_cases hlt : i + 1 < n
    · obtain ⟨g, o, x, hAe, hxi, _, hd, hrx⟩ := (HI.out.through HX.out).at_oc (i := i) (by omega)
      obtain ⟨g', o', y, hAe', hyi, _, hd', hry⟩ := (HI.out.through HX.out).at_oc hlt
      subst hAe
      obtain ⟨rfl, rfl⟩ : g = g' ∧ o = o' := by simpa using hAe'
      rw [hd, hd', ris_two] at hp
      have HD := Lib.hid hd'
      have HRx := Lib.hid hrx
      have HRy := Lib.hid hry
      have hix : ∀ W, (Instr.indexAt 23 (.slice (some ⟨g, o, none⟩) n c) (.int .i64 (i : Int))).run Tryz.prog W = .ok (.pointer (some ⟨g, o + i * 3, none⟩)) W := fun W => HIX.out W g o n c i (by omega)
      have hiy : ∀ W, (Instr.indexAt 23 (.slice (some ⟨g, o, none⟩) n c) (.int .i64 ((i : Int) + 1))).run Tryz.prog W = .ok (.pointer (some ⟨g, o + (i + 1) * 3, none⟩)) W := fun W => HIX.out W g o n c (i + 1) hlt
      have hd1 : decide ((i : Int) < (n : Int) - 1) = true := by simp; omega
      have hwr : IntKind.i64.wrap ((i : Int) + 1) = (i : Int) + 1 := IntWalk.i64_in _ (by omega)
      clear hrx hry hAe' hxi hyi hd hd'
      cases hc : decide (x.cl < y.cl) with
      | true =>
        rw [hc] at hp
        have HP : Hid (ris (fun a b : Oc => decide (a.cl < b.cl)) ls = ris (fun a b : Oc => decide (a.cl < b.cl)) (ls.drop (i + 1))) := Lib.hid (by rw [HD.out]; exact hp)
        have hq : decide (y.cl ≤ x.cl) = false := by simp at hc ⊢; omega
        clear hp hc
        go_wp2
        refine wp_region_held_drew (S := fun W => Below wr.heap.size wr W) (by kernel_rfl) (Below.refl _ _).drew (fun hHeld => ?_)
        change wpAnyH _ _ _ _ _ _ #[false, false, false, false, false, false, false, false, false, false, false, false, false, false] _ _
        refine wpAnyH_take (i := 0) (v := (.func (.func 44) #[] #[])) rfl (by kernel_rfl) (by kernel_rfl) (by kernel_rfl) (fun _ _ _ h => h) (Or.inl ⟨by kernel_rfl, fun w hSw => ?_⟩) (by assumption) ?_
        · (try dsimp only at hSw); go_simp <;> (try rfl)
        change wpAnyH _ _ _ _ _ _ _ (Act.put _ (some (12 : Nat)) (.func (.func 44) #[] #[])) _
        simp only [Act.put, List.setIfInBounds_toArray, List.set_cons_zero, List.set_cons_succ]
        refine wpAnyH_take (i := 1) (v := (.slice (some ⟨g, o, none⟩) n c)) rfl (by kernel_rfl) (by kernel_rfl) (by kernel_rfl) (fun _ _ _ h => h) (Or.inl ⟨by kernel_rfl, fun w hSw => ?_⟩) (by assumption) ?_
        · (try dsimp only at hSw); go_simp <;> (try rfl)
        change wpAnyH _ _ _ _ _ _ _ (Act.put _ (some (13 : Nat)) (.slice (some ⟨g, o, none⟩) n c)) _
        simp only [Act.put, List.setIfInBounds_toArray, List.set_cons_zero, List.set_cons_succ]
        refine wpAnyH_take (i := 2) (v := (.int .i64 (i : Int))) rfl (by kernel_rfl) (by kernel_rfl) (by kernel_rfl) (fun _ _ _ h => h) (Or.inl ⟨by kernel_rfl, fun w hSw => ?_⟩) (by assumption) ?_
        · (try dsimp only at hSw); go_simp <;> (try rfl)
        change wpAnyH _ _ _ _ _ _ _ (Act.put _ (some (14 : Nat)) (.int .i64 (i : Int))) _
        simp only [Act.put, List.setIfInBounds_toArray, List.set_cons_zero, List.set_cons_succ]
        refine wpAnyH_take (i := 3) (v := (.pointer (some ⟨g, o + i * 3, none⟩))) rfl (by kernel_rfl) (by kernel_rfl) (by kernel_rfl) (fun _ _ _ h => h) (Or.inl ⟨by kernel_rfl, fun w hSw => ?_⟩) (by assumption) ?_
        · (try dsimp only at hSw); go_simp <;> (try rfl)
        change wpAnyH _ _ _ _ _ _ _ (Act.put _ (some (15 : Nat)) (.pointer (some ⟨g, o + i * 3, none⟩))) _
        simp only [Act.put, List.setIfInBounds_toArray, List.set_cons_zero, List.set_cons_succ]
        refine wpAnyH_take (i := 4) (v := (.agg #[.int .i64 x.cl, .int .i64 x.sp, .int .i64 x.rs])) rfl (by kernel_rfl) (by kernel_rfl) (by kernel_rfl) (fun _ _ _ h => h) (yieldsIf_load_mid (by kernel_rfl) 56 (.tmp 15) rfl g (o + i * 3) (by simp [Act.eval]) [.int .i64 x.cl, .int .i64 x.sp, .int .i64 x.rs] _ (fun W hW => rangeAt.through HRx.out hW) Tryz.underlying56 rfl (by kernel_rfl)) (by assumption) ?_
        change wpAnyH _ _ _ _ _ _ _ (Act.put _ (some (16 : Nat)) (.agg #[.int .i64 x.cl, .int .i64 x.sp, .int .i64 x.rs])) _
        simp only [Act.put, List.setIfInBounds_toArray, List.set_cons_zero, List.set_cons_succ]
        refine wpAnyH_take (i := 6) (v := (.func (.func 44) #[] #[])) rfl (by kernel_rfl) (by kernel_rfl) (by kernel_rfl) (fun _ _ _ h => h) (Or.inl ⟨by kernel_rfl, fun w hSw => ?_⟩) (by assumption) ?_
        · (try dsimp only at hSw); go_simp <;> (try rfl)
        change wpAnyH _ _ _ _ _ _ _ (Act.put _ (some (18 : Nat)) (.func (.func 44) #[] #[])) _
        simp only [Act.put, List.setIfInBounds_toArray, List.set_cons_zero, List.set_cons_succ]
        refine wpAnyH_take (i := 7) (v := (.slice (some ⟨g, o, none⟩) n c)) rfl (by kernel_rfl) (by kernel_rfl) (by kernel_rfl) (fun _ _ _ h => h) (Or.inl ⟨by kernel_rfl, fun w hSw => ?_⟩) (by assumption) ?_
        · (try dsimp only at hSw); go_simp <;> (try rfl)
        change wpAnyH _ _ _ _ _ _ _ (Act.put _ (some (19 : Nat)) (.slice (some ⟨g, o, none⟩) n c)) _
        simp only [Act.put, List.setIfInBounds_toArray, List.set_cons_zero, List.set_cons_succ]
        refine wpAnyH_take (i := 8) (v := (.int .i64 (i : Int))) rfl (by kernel_rfl) (by kernel_rfl) (by kernel_rfl) (fun _ _ _ h => h) (Or.inl ⟨by kernel_rfl, fun w hSw => ?_⟩) (by assumption) ?_
        · (try dsimp only at hSw); go_simp <;> (try rfl)
        change wpAnyH _ _ _ _ _ _ _ (Act.put _ (some (20 : Nat)) (.int .i64 (i : Int))) _
        simp only [Act.put, List.setIfInBounds_toArray, List.set_cons_zero, List.set_cons_succ]
        refine wpAnyH_take (i := 9) (v := (.int .i64 ((i : Int) + 1))) rfl (by kernel_rfl) (by kernel_rfl) (by kernel_rfl) (fun _ _ _ h => h) (Or.inl ⟨by kernel_rfl, fun w hSw => ?_⟩) (by assumption) ?_
        · (try dsimp only at hSw); go_simp <;> (try rfl)
        change wpAnyH _ _ _ _ _ _ _ (Act.put _ (some (21 : Nat)) (.int .i64 ((i : Int) + 1))) _
        simp only [Act.put, List.setIfInBounds_toArray, List.set_cons_zero, List.set_cons_succ]
        refine wpAnyH_take (i := 10) (v := (.pointer (some ⟨g, o + (i + 1) * 3, none⟩))) rfl (by kernel_rfl) (by kernel_rfl) (by kernel_rfl) (fun _ _ _ h => h) (Or.inl ⟨by kernel_rfl, fun w hSw => ?_⟩) (by assumption) ?_
        · (try dsimp only at hSw); go_simp <;> (try rfl)
        change wpAnyH _ _ _ _ _ _ _ (Act.put _ (some (22 : Nat)) (.pointer (some ⟨g, o + (i + 1) * 3, none⟩))) _
        simp only [Act.put, List.setIfInBounds_toArray, List.set_cons_zero, List.set_cons_succ]
        refine wpAnyH_take (i := 11) (v := (.agg #[.int .i64 y.cl, .int .i64 y.sp, .int .i64 y.rs])) rfl (by kernel_rfl) (by kernel_rfl) (by kernel_rfl) (fun _ _ _ h => h) (yieldsIf_load_mid (by kernel_rfl) 56 (.tmp 22) rfl g (o + (i + 1) * 3) (by simp [Act.eval]) [.int .i64 y.cl, .int .i64 y.sp, .int .i64 y.rs] _ (fun W hW => rangeAt.through HRy.out hW) Tryz.underlying56 rfl (by kernel_rfl)) (by assumption) ?_
        change wpAnyH _ _ _ _ _ _ _ (Act.put _ (some (23 : Nat)) (.agg #[.int .i64 y.cl, .int .i64 y.sp, .int .i64 y.rs])) _
        simp only [Act.put, List.setIfInBounds_toArray, List.set_cons_zero, List.set_cons_succ]
        refine wpAnyH_ready (rs := [5]) (by kernel_rfl) (by simp) ?_
        refine AllReadyH.cons rfl (fun K hK => ?_) AllReadyH.nil
        go_simp
        refine (clientof_any x _).mono ?_
        rintro e wa ⟨rfl, hba⟩; have HBba := Lib.hid hba; clear hba
        go_wp2_with fail
        refine hK.out _ _ (below_step hHeld HBba.out) (fun hHeld1 => ?_)
        clear hHeld hK K
        have hHeld := hHeld1
        clear hHeld1
        refine wpAnyH_ready (rs := [12]) (by kernel_rfl) (by simp) ?_
        refine AllReadyH.cons rfl (fun K hK => ?_) AllReadyH.nil
        go_simp
        refine (clientof_any y _).mono ?_
        rintro e wb ⟨rfl, hbb⟩; have HBbb := Lib.hid hbb; clear hbb
        go_wp2_with fail
        refine hK.out _ _ (below_step hHeld HBbb.out) (fun hHeld1 => ?_)
        clear hHeld hK K
        have hHeld := hHeld1
        clear hHeld1
        refine wpAnyH_take (i := 13) (v := (.bool false)) rfl (by kernel_rfl) (by kernel_rfl) (by kernel_rfl) (fun _ _ _ h => h) (Or.inl ⟨by kernel_rfl, fun w hSw => ?_⟩) (by assumption) ?_
        · (try dsimp only at hSw); go_simp <;> (try rfl)
        change wpAnyH _ _ _ _ _ _ _ (Act.put _ (some (25 : Nat)) (.bool false)) _
        simp only [Act.put, List.setIfInBounds_toArray, List.set_cons_zero, List.set_cons_succ]
        refine wpAnyH_done (by kernel_rfl) ?_ _
        have HXe : Hid (Below w.heap.size w wb) := Lib.hid (below_step HX.out hHeld)
        clear hHeld
        go_wp2
        go_roundw
        case rel => exact ⟨i + 1, by omega, by go_num, HP.out, HXe.out⟩
        case measure => simp [intOf]; omega

      | false =>
        rw [hc] at hp
        have HP : Hid (ris (fun a b : Oc => decide (a.cl < b.cl)) ls = false) := Lib.hid hp
        have hq : decide (y.cl ≤ x.cl) = true := by simp at hc ⊢; omega
        clear hp hc
        go_wp2
        refine wp_region_held_drew (S := fun W => Below wr.heap.size wr W) (by kernel_rfl) (Below.refl _ _).drew (fun hHeld => ?_)
        change wpAnyH _ _ _ _ _ _ #[false, false, false, false, false, false, false, false, false, false, false, false, false, false] _ _
        refine wpAnyH_take (i := 0) (v := (.func (.func 44) #[] #[])) rfl (by kernel_rfl) (by kernel_rfl) (by kernel_rfl) (fun _ _ _ h => h) (Or.inl ⟨by kernel_rfl, fun w hSw => ?_⟩) (by assumption) ?_
        · (try dsimp only at hSw); go_simp <;> (try rfl)
        change wpAnyH _ _ _ _ _ _ _ (Act.put _ (some (12 : Nat)) (.func (.func 44) #[] #[])) _
        simp only [Act.put, List.setIfInBounds_toArray, List.set_cons_zero, List.set_cons_succ]
        refine wpAnyH_take (i := 1) (v := (.slice (some ⟨g, o, none⟩) n c)) rfl (by kernel_rfl) (by kernel_rfl) (by kernel_rfl) (fun _ _ _ h => h) (Or.inl ⟨by kernel_rfl, fun w hSw => ?_⟩) (by assumption) ?_
        · (try dsimp only at hSw); go_simp <;> (try rfl)
        change wpAnyH _ _ _ _ _ _ _ (Act.put _ (some (13 : Nat)) (.slice (some ⟨g, o, none⟩) n c)) _
        simp only [Act.put, List.setIfInBounds_toArray, List.set_cons_zero, List.set_cons_succ]
        refine wpAnyH_take (i := 2) (v := (.int .i64 (i : Int))) rfl (by kernel_rfl) (by kernel_rfl) (by kernel_rfl) (fun _ _ _ h => h) (Or.inl ⟨by kernel_rfl, fun w hSw => ?_⟩) (by assumption) ?_
        · (try dsimp only at hSw); go_simp <;> (try rfl)
        change wpAnyH _ _ _ _ _ _ _ (Act.put _ (some (14 : Nat)) (.int .i64 (i : Int))) _
        simp only [Act.put, List.setIfInBounds_toArray, List.set_cons_zero, List.set_cons_succ]
        refine wpAnyH_take (i := 3) (v := (.pointer (some ⟨g, o + i * 3, none⟩))) rfl (by kernel_rfl) (by kernel_rfl) (by kernel_rfl) (fun _ _ _ h => h) (Or.inl ⟨by kernel_rfl, fun w hSw => ?_⟩) (by assumption) ?_
        · (try dsimp only at hSw); go_simp <;> (try rfl)
        change wpAnyH _ _ _ _ _ _ _ (Act.put _ (some (15 : Nat)) (.pointer (some ⟨g, o + i * 3, none⟩))) _
        simp only [Act.put, List.setIfInBounds_toArray, List.set_cons_zero, List.set_cons_succ]
        refine wpAnyH_take (i := 4) (v := (.agg #[.int .i64 x.cl, .int .i64 x.sp, .int .i64 x.rs])) rfl (by kernel_rfl) (by kernel_rfl) (by kernel_rfl) (fun _ _ _ h => h) (yieldsIf_load_mid (by kernel_rfl) 56 (.tmp 15) rfl g (o + i * 3) (by simp [Act.eval]) [.int .i64 x.cl, .int .i64 x.sp, .int .i64 x.rs] _ (fun W hW => rangeAt.through HRx.out hW) Tryz.underlying56 rfl (by kernel_rfl)) (by assumption) ?_
        change wpAnyH _ _ _ _ _ _ _ (Act.put _ (some (16 : Nat)) (.agg #[.int .i64 x.cl, .int .i64 x.sp, .int .i64 x.rs])) _
        simp only [Act.put, List.setIfInBounds_toArray, List.set_cons_zero, List.set_cons_succ]
        refine wpAnyH_take (i := 6) (v := (.func (.func 44) #[] #[])) rfl (by kernel_rfl) (by kernel_rfl) (by kernel_rfl) (fun _ _ _ h => h) (Or.inl ⟨by kernel_rfl, fun w hSw => ?_⟩) (by assumption) ?_
        · (try dsimp only at hSw); go_simp <;> (try rfl)
        change wpAnyH _ _ _ _ _ _ _ (Act.put _ (some (18 : Nat)) (.func (.func 44) #[] #[])) _
        simp only [Act.put, List.setIfInBounds_toArray, List.set_cons_zero, List.set_cons_succ]
        refine wpAnyH_take (i := 7) (v := (.slice (some ⟨g, o, none⟩) n c)) rfl (by kernel_rfl) (by kernel_rfl) (by kernel_rfl) (fun _ _ _ h => h) (Or.inl ⟨by kernel_rfl, fun w hSw => ?_⟩) (by assumption) ?_
        · (try dsimp only at hSw); go_simp <;> (try rfl)
        change wpAnyH _ _ _ _ _ _ _ (Act.put _ (some (19 : Nat)) (.slice (some ⟨g, o, none⟩) n c)) _
        simp only [Act.put, List.setIfInBounds_toArray, List.set_cons_zero, List.set_cons_succ]
        refine wpAnyH_take (i := 8) (v := (.int .i64 (i : Int))) rfl (by kernel_rfl) (by kernel_rfl) (by kernel_rfl) (fun _ _ _ h => h) (Or.inl ⟨by kernel_rfl, fun w hSw => ?_⟩) (by assumption) ?_
        · (try dsimp only at hSw); go_simp <;> (try rfl)
        change wpAnyH _ _ _ _ _ _ _ (Act.put _ (some (20 : Nat)) (.int .i64 (i : Int))) _
        simp only [Act.put, List.setIfInBounds_toArray, List.set_cons_zero, List.set_cons_succ]
        refine wpAnyH_take (i := 9) (v := (.int .i64 ((i : Int) + 1))) rfl (by kernel_rfl) (by kernel_rfl) (by kernel_rfl) (fun _ _ _ h => h) (Or.inl ⟨by kernel_rfl, fun w hSw => ?_⟩) (by assumption) ?_
        · (try dsimp only at hSw); go_simp <;> (try rfl)
        change wpAnyH _ _ _ _ _ _ _ (Act.put _ (some (21 : Nat)) (.int .i64 ((i : Int) + 1))) _
        simp only [Act.put, List.setIfInBounds_toArray, List.set_cons_zero, List.set_cons_succ]
        refine wpAnyH_take (i := 10) (v := (.pointer (some ⟨g, o + (i + 1) * 3, none⟩))) rfl (by kernel_rfl) (by kernel_rfl) (by kernel_rfl) (fun _ _ _ h => h) (Or.inl ⟨by kernel_rfl, fun w hSw => ?_⟩) (by assumption) ?_
        · (try dsimp only at hSw); go_simp <;> (try rfl)
        change wpAnyH _ _ _ _ _ _ _ (Act.put _ (some (22 : Nat)) (.pointer (some ⟨g, o + (i + 1) * 3, none⟩))) _
        simp only [Act.put, List.setIfInBounds_toArray, List.set_cons_zero, List.set_cons_succ]
        refine wpAnyH_take (i := 11) (v := (.agg #[.int .i64 y.cl, .int .i64 y.sp, .int .i64 y.rs])) rfl (by kernel_rfl) (by kernel_rfl) (by kernel_rfl) (fun _ _ _ h => h) (yieldsIf_load_mid (by kernel_rfl) 56 (.tmp 22) rfl g (o + (i + 1) * 3) (by simp [Act.eval]) [.int .i64 y.cl, .int .i64 y.sp, .int .i64 y.rs] _ (fun W hW => rangeAt.through HRy.out hW) Tryz.underlying56 rfl (by kernel_rfl)) (by assumption) ?_
        change wpAnyH _ _ _ _ _ _ _ (Act.put _ (some (23 : Nat)) (.agg #[.int .i64 y.cl, .int .i64 y.sp, .int .i64 y.rs])) _
        simp only [Act.put, List.setIfInBounds_toArray, List.set_cons_zero, List.set_cons_succ]
        refine wpAnyH_ready (rs := [5]) (by kernel_rfl) (by simp) ?_
        refine AllReadyH.cons rfl (fun K hK => ?_) AllReadyH.nil
        go_simp
        refine (clientof_any x _).mono ?_
        rintro e wa ⟨rfl, hba⟩; have HBba := Lib.hid hba; clear hba
        go_wp2_with fail
        refine hK.out _ _ (below_step hHeld HBba.out) (fun hHeld1 => ?_)
        clear hHeld hK K
        have hHeld := hHeld1
        clear hHeld1
        refine wpAnyH_ready (rs := [12]) (by kernel_rfl) (by simp) ?_
        refine AllReadyH.cons rfl (fun K hK => ?_) AllReadyH.nil
        go_simp
        refine (clientof_any y _).mono ?_
        rintro e wb ⟨rfl, hbb⟩; have HBbb := Lib.hid hbb; clear hbb
        go_wp2_with fail
        refine hK.out _ _ (below_step hHeld HBbb.out) (fun hHeld1 => ?_)
        clear hHeld hK K
        have hHeld := hHeld1
        clear hHeld1
        refine wpAnyH_take (i := 13) (v := (.bool true)) rfl (by kernel_rfl) (by kernel_rfl) (by kernel_rfl) (fun _ _ _ h => h) (Or.inl ⟨by kernel_rfl, fun w hSw => ?_⟩) (by assumption) ?_
        · (try dsimp only at hSw); go_simp <;> (try rfl)
        change wpAnyH _ _ _ _ _ _ _ (Act.put _ (some (25 : Nat)) (.bool true)) _
        simp only [Act.put, List.setIfInBounds_toArray, List.set_cons_zero, List.set_cons_succ]
        refine wpAnyH_done (by kernel_rfl) ?_ _
        have HXe : Hid (Below w.heap.size w wb) := Lib.hid (below_step HX.out hHeld)
        clear hHeld
        go_wp2
        go_ret
        exact ⟨ret_b (by rw [← HBB.out, HP.out]), HXe.out⟩

    · have HP : Hid (ris (fun a b : Oc => decide (a.cl < b.cl)) ls = true) := Lib.hid (hp.trans (ris_short (by rw [List.length_drop, HLn.out]; omega)))
      have hd1 : decide ((i : Int) < (n : Int) - 1) = false := by simp; omega
      clear hp
      go_wp2
      go_ret
      exact ⟨ret_b (by rw [← HBB.out, HP.out]), HX.out⟩
end

end Go.Proofs.YtfflkodgojiklaaGreatDoor
