/-
  NvS
-/
import Derived.Test.YtheecifgbkdecaaSM26
import Derived.Test.YtheecifgbkdecaaSM25
import Derived.Test.YtheecifgbkdecaaSMT
namespace Go.Proofs.Ytheecifgbkdecaa
open Go.RowKit

def Sg.eqb (a b : Sg) : Bool := (a.fr == b.fr) && a.ch.eqb b.ch
theorem Sg.eqb_iff {a b : Sg} : a.eqb b = true ↔ a = b := by
 obtain ⟨x, y⟩ := a
 obtain ⟨x', y'⟩ := b
 simp [Sg.eqb, Ch.eqb_iff]
theorem sameNv_self (l : List Sg) : allB Sg.eqb l l = true := (allB_iff (p := Sg.eqb) (fun _ _ => Sg.eqb_iff)).2 rfl
theorem range_tail {w : World} {g o : Nat} {v : Value} {cs : List Value} (h : w.rangeAt g o (v :: cs)) : w.rangeAt g (o + 1) cs := fun j u hu => by
 have h9 := h (j + 1) u (by simpa using hu)
 rw [show o + 1 + j = o + (j + 1) by omega]
 exact h9

set_option maxHeartbeats 32000000 in
set_option maxRecDepth 100000 in
theorem rsame19_any (a b : List Sg) (A : Option Addr) (k c : Nat) (A' : Option Addr) (k' d : Nat) (w : World) (h : SgsIn w A k a) (h' : SgsIn w A' k' b) (hk : k ≤ 9223372036854775807) :
  Calls Try.prog 28 #[.slice A k c, .slice A' k' d] w fun e w' => e = .returned (.bool (allB Sg.eqb a b)) ∧ Below w.heap.size w w' := by
 have HI := Lib.hid h
 have HJ := Lib.hid h'
 have HLn := Lib.hid h.len
 have HLm := Lib.hid h'.len
 obtain ⟨bb, hbb⟩ : ∃ bb, allB Sg.eqb a b = bb := ⟨_, rfl⟩
 rw [hbb]
 by_cases s2 : k = k'
 case neg =>
  have s2i : ¬ (k : Int) = (k' : Int) := by omega
  have s2b : ((k : Int) == (k' : Int)) = false := by simpa using s2i
  have s2d : ((k : Int) != (k' : Int)) = true := by simpa using s2i
  have s2c : (k == k') = false := by simpa using s2
  have s2e : (k != k') = true := by simpa using s2
  have HV : Hid (bb = false) := Lib.hid (by rw [← hbb]; cases hb : allB Sg.eqb a b; rfl; exact absurd (allB_len hb) (by rw [h.len, h'.len]; exact s2))
  clear h h' hbb s2 s2i
  go_enter Try.func28, Try.ntmps28
  go_wp2
  go_ret
  exact ⟨ret_bo HV.out.symm, Below.refl _ _⟩
 subst s2
 have HBB := Lib.hid hbb
 clear h h' hbb
 go_enter Try.func28, Try.ntmps28
 go_wp2
 go_loopw [13] (fun iv wr => ∃ i : Nat, i ≤ k ∧ iv = .int .i64 i ∧ bb = allB Sg.eqb (a.drop i) (b.drop i) ∧ Below w.heap.size w wr) (fun iv _ => k - (intOf iv).toNat)
 case atStart => exact ⟨0, Nat.zero_le _, rfl, HBB.out.symm, Below.refl _ _⟩
 case round =>
  obtain ⟨i, hi, rfl, hp, hx⟩ := hrel
  have HX := Lib.hid hx
  clear hx
  by_cases hlt : i < k
  ·obtain ⟨g, o, s, P, Q, R, rfl, _, _, hd, hrx, hcx⟩ := (HI.out.through HX.out).at hlt
   obtain ⟨g', o', q, P', Q', R', rfl, _, _, hd', hry, hcy⟩ := (HJ.out.through HX.out).at hlt
   rw [hd, hd'] at hp
   have HRx := Lib.hid hrx
   have HRy := Lib.hid hry
   have HCx : Hid (wr.rangeAt g (o + i * 6 + 1) (Ch.cells s.ch P Q R)) := Lib.hid (range_tail hrx)
   have HCy : Hid (wr.rangeAt g' (o' + i * 6 + 1) (Ch.cells q.ch P' Q' R')) := Lib.hid (range_tail hry)
   have hix := fun (W : World) => Try.ix_sg W g o k c i hlt
   have hix' := fun (W : World) => Try.ix_sg W g' o' k d i hlt
   have HSm : Hid (∀ W : World, Below wr.heap.size wr W → Calls Try.prog 15 #[.agg (Ch.cells s.ch P Q R).toArray, .agg (Ch.cells q.ch P' Q' R').toArray] W fun e w' => e = .returned (.bool (s.ch.eqb q.ch)) ∧ Below W.heap.size W w') := Lib.hid (fun W hW => rsame18_any s.ch q.ch P Q R P' Q' R' W (hcx.through hW) (hcy.through hW))
   clear hrx hry hcx hcy hd hd'
   by_cases s0 : s.fr = q.fr
   case neg =>
    have b0 : (s.fr == q.fr) = false := by simpa using s0
    have b1 : (s.fr != q.fr) = true := by simpa using s0
    have HV : Hid (bb = false) := Lib.hid (by rw [hp]; simp [allB, Sg.eqb, b0])
    clear hp s0
    go_wp2
    try dsimp only [Act.put]
    refine wp_region_held_drew (S := fun W => Below wr.heap.size wr W) (by kernel_rfl) (Below.refl _ _).drew (fun hHeld => ?_)
    change wpAnyH _ _ _ _ _ _ #[false, false, false, false, false, false, false, false, false, false, false, false, false, false, false, false, false, false, false, false, false, false, false, false, false] _ _
    refine tkq (i := 0) (d := 16) (v := (.slice (some ⟨g, o, none⟩) k c)) rfl rfl (Or.inl ⟨by kernel_rfl, fun w hSw => ?_⟩) (by assumption) ?_
    ·(try dsimp only at hSw); go_simp <;> (try rfl)
    simp only [Act.put, sq1, sq2, sq3]
    refine tkq (i := 1) (d := 17) (v := (.int .i64 (i : Int))) rfl rfl (Or.inl ⟨by kernel_rfl, fun w hSw => ?_⟩) (by assumption) ?_
    ·(try dsimp only at hSw); go_simp <;> (try rfl)
    simp only [Act.put, sq1, sq2, sq3]
    refine tkq (i := 2) (d := 18) (v := (.pointer (some ⟨g, o + i * 6, none⟩))) rfl rfl (Or.inl ⟨by kernel_rfl, fun w hSw => ?_⟩) (by assumption) ?_
    ·(try dsimp only at hSw); go_simp <;> (try rfl)
    simp only [Act.put, sq1, sq2, sq3]
    refine tkq (i := 3) (d := 19) (v := (.pointer (some ⟨g, o + i * 6, none⟩))) rfl rfl (Or.inl ⟨by kernel_rfl, fun w hSw => ?_⟩) (by assumption) ?_
    ·(try dsimp only at hSw); go_simp <;> (try rfl)
    simp only [Act.put, sq1, sq2, sq3]
    refine tkq (i := 4) (d := 20) (v := (.int .i64 s.fr)) rfl rfl (yields_load_at (by kernel_rfl) 3 (.tmp 19) rfl (.pointer (some ⟨g, o + i * 6, none⟩)) (by simp [Act.eval]) (.int .i64 s.fr) (fun W hW => load_one' (Try.agg_int W) (rangeAt.through HRx.out hW 0 _ rfl))) (by assumption) ?_
    simp only [Act.put, sq1, sq2, sq3]
    refine tkq (i := 5) (d := 21) (v := (.slice (some ⟨g', o', none⟩) k d)) rfl rfl (Or.inl ⟨by kernel_rfl, fun w hSw => ?_⟩) (by assumption) ?_
    ·(try dsimp only at hSw); go_simp <;> (try rfl)
    simp only [Act.put, sq1, sq2, sq3]
    refine tkq (i := 6) (d := 22) (v := (.int .i64 (i : Int))) rfl rfl (Or.inl ⟨by kernel_rfl, fun w hSw => ?_⟩) (by assumption) ?_
    ·(try dsimp only at hSw); go_simp <;> (try rfl)
    simp only [Act.put, sq1, sq2, sq3]
    refine tkq (i := 7) (d := 23) (v := (.pointer (some ⟨g', o' + i * 6, none⟩))) rfl rfl (Or.inl ⟨by kernel_rfl, fun w hSw => ?_⟩) (by assumption) ?_
    ·(try dsimp only at hSw); go_simp <;> (try rfl)
    simp only [Act.put, sq1, sq2, sq3]
    refine tkq (i := 8) (d := 24) (v := (.pointer (some ⟨g', o' + i * 6, none⟩))) rfl rfl (Or.inl ⟨by kernel_rfl, fun w hSw => ?_⟩) (by assumption) ?_
    ·(try dsimp only at hSw); go_simp <;> (try rfl)
    simp only [Act.put, sq1, sq2, sq3]
    refine tkq (i := 9) (d := 25) (v := (.int .i64 q.fr)) rfl rfl (yields_load_at (by kernel_rfl) 3 (.tmp 24) rfl (.pointer (some ⟨g', o' + i * 6, none⟩)) (by simp [Act.eval]) (.int .i64 q.fr) (fun W hW => load_one' (Try.agg_int W) (rangeAt.through HRy.out hW 0 _ rfl))) (by assumption) ?_
    simp only [Act.put, sq1, sq2, sq3]
    refine tkq (i := 10) (d := 26) (v := (.bool true)) rfl rfl (Or.inl ⟨by kernel_rfl, fun w hSw => ?_⟩) (by assumption) ?_
    ·(try dsimp only at hSw); go_simp <;> (try rfl)
    simp only [Act.put, sq1, sq2, sq3]
    refine tkq (i := 11) (d := 27) (v := (.bool true)) rfl rfl (Or.inl ⟨by kernel_rfl, fun w hSw => ?_⟩) (by assumption) ?_
    ·(try dsimp only at hSw); go_simp <;> (try rfl)
    simp only [Act.put, sq1, sq2, sq3]
    refine tkv (i := 12) (d := 28) rfl rfl (by assumption) ?_
    simp only [Act.put, sq1, sq2, sq3]
    refine tkv (i := 13) (d := 29) rfl rfl (by assumption) ?_
    simp only [Act.put, sq1, sq2, sq3]
    refine tkv (i := 14) (d := 30) rfl rfl (by assumption) ?_
    simp only [Act.put, sq1, sq2, sq3]
    refine tkv (i := 15) (d := 31) rfl rfl (by assumption) ?_
    simp only [Act.put, sq1, sq2, sq3]
    refine tkv (i := 16) (d := 32) rfl rfl (by assumption) ?_
    simp only [Act.put, sq1, sq2, sq3]
    refine tkv (i := 17) (d := 33) rfl rfl (by assumption) ?_
    simp only [Act.put, sq1, sq2, sq3]
    refine tkv (i := 18) (d := 34) rfl rfl (by assumption) ?_
    simp only [Act.put, sq1, sq2, sq3]
    refine tkv (i := 19) (d := 35) rfl rfl (by assumption) ?_
    simp only [Act.put, sq1, sq2, sq3]
    refine tkv (i := 20) (d := 36) rfl rfl (by assumption) ?_
    simp only [Act.put, sq1, sq2, sq3]
    refine tkv (i := 21) (d := 37) rfl rfl (by assumption) ?_
    simp only [Act.put, sq1, sq2, sq3]
    refine tkv (i := 22) (d := 38) rfl rfl (by assumption) ?_
    simp only [Act.put, sq1, sq2, sq3]
    refine tkv (i := 23) (d := 39) rfl rfl (by assumption) ?_
    simp only [Act.put, sq1, sq2, sq3]
    refine tkq (i := 24) (d := 40) (v := (.bool true)) rfl rfl (Or.inl ⟨by kernel_rfl, fun w hSw => ?_⟩) (by assumption) ?_
    ·(try dsimp only at hSw); go_simp <;> (try rfl)
    simp only [Act.put, sq1, sq2, sq3]
    refine wpAnyH_done (by kernel_rfl) ?_ _
    have HKk := Lib.hid hHeld
    clear hHeld
    go_wp2
    go_ret
    exact ⟨ret_bo HV.out.symm, below_step HX.out HKk.out⟩
   have b0 : (s.fr == q.fr) = true := by simpa using s0
   have b1 : (s.fr != q.fr) = false := by simpa using s0
   cases s3 : s.ch.eqb q.ch with
   | false =>
    have HV : Hid (bb = false) := Lib.hid (by rw [hp]; simp [allB, Sg.eqb, s3])
    rw [s3] at HSm
    clear hp s0 s3
    go_wp2
    try dsimp only [Act.put]
    refine wp_region_held_drew (S := fun W => Below wr.heap.size wr W) (by kernel_rfl) (Below.refl _ _).drew (fun hHeld => ?_)
    change wpAnyH _ _ _ _ _ _ #[false, false, false, false, false, false, false, false, false, false, false, false, false, false, false, false, false, false, false, false, false, false, false, false, false] _ _
    refine tkq (i := 0) (d := 16) (v := (.slice (some ⟨g, o, none⟩) k c)) rfl rfl (Or.inl ⟨by kernel_rfl, fun w hSw => ?_⟩) (by assumption) ?_
    ·(try dsimp only at hSw); go_simp <;> (try rfl)
    simp only [Act.put, sq1, sq2, sq3]
    refine tkq (i := 1) (d := 17) (v := (.int .i64 (i : Int))) rfl rfl (Or.inl ⟨by kernel_rfl, fun w hSw => ?_⟩) (by assumption) ?_
    ·(try dsimp only at hSw); go_simp <;> (try rfl)
    simp only [Act.put, sq1, sq2, sq3]
    refine tkq (i := 2) (d := 18) (v := (.pointer (some ⟨g, o + i * 6, none⟩))) rfl rfl (Or.inl ⟨by kernel_rfl, fun w hSw => ?_⟩) (by assumption) ?_
    ·(try dsimp only at hSw); go_simp <;> (try rfl)
    simp only [Act.put, sq1, sq2, sq3]
    refine tkq (i := 3) (d := 19) (v := (.pointer (some ⟨g, o + i * 6, none⟩))) rfl rfl (Or.inl ⟨by kernel_rfl, fun w hSw => ?_⟩) (by assumption) ?_
    ·(try dsimp only at hSw); go_simp <;> (try rfl)
    simp only [Act.put, sq1, sq2, sq3]
    refine tkq (i := 4) (d := 20) (v := (.int .i64 s.fr)) rfl rfl (yields_load_at (by kernel_rfl) 3 (.tmp 19) rfl (.pointer (some ⟨g, o + i * 6, none⟩)) (by simp [Act.eval]) (.int .i64 s.fr) (fun W hW => load_one' (Try.agg_int W) (rangeAt.through HRx.out hW 0 _ rfl))) (by assumption) ?_
    simp only [Act.put, sq1, sq2, sq3]
    refine tkq (i := 5) (d := 21) (v := (.slice (some ⟨g', o', none⟩) k d)) rfl rfl (Or.inl ⟨by kernel_rfl, fun w hSw => ?_⟩) (by assumption) ?_
    ·(try dsimp only at hSw); go_simp <;> (try rfl)
    simp only [Act.put, sq1, sq2, sq3]
    refine tkq (i := 6) (d := 22) (v := (.int .i64 (i : Int))) rfl rfl (Or.inl ⟨by kernel_rfl, fun w hSw => ?_⟩) (by assumption) ?_
    ·(try dsimp only at hSw); go_simp <;> (try rfl)
    simp only [Act.put, sq1, sq2, sq3]
    refine tkq (i := 7) (d := 23) (v := (.pointer (some ⟨g', o' + i * 6, none⟩))) rfl rfl (Or.inl ⟨by kernel_rfl, fun w hSw => ?_⟩) (by assumption) ?_
    ·(try dsimp only at hSw); go_simp <;> (try rfl)
    simp only [Act.put, sq1, sq2, sq3]
    refine tkq (i := 8) (d := 24) (v := (.pointer (some ⟨g', o' + i * 6, none⟩))) rfl rfl (Or.inl ⟨by kernel_rfl, fun w hSw => ?_⟩) (by assumption) ?_
    ·(try dsimp only at hSw); go_simp <;> (try rfl)
    simp only [Act.put, sq1, sq2, sq3]
    refine tkq (i := 9) (d := 25) (v := (.int .i64 q.fr)) rfl rfl (yields_load_at (by kernel_rfl) 3 (.tmp 24) rfl (.pointer (some ⟨g', o' + i * 6, none⟩)) (by simp [Act.eval]) (.int .i64 q.fr) (fun W hW => load_one' (Try.agg_int W) (rangeAt.through HRy.out hW 0 _ rfl))) (by assumption) ?_
    simp only [Act.put, sq1, sq2, sq3]
    refine tkq (i := 10) (d := 26) (v := (.bool false)) rfl rfl (Or.inl ⟨by kernel_rfl, fun w hSw => ?_⟩) (by assumption) ?_
    ·(try dsimp only at hSw); go_simp <;> (try rfl)
    simp only [Act.put, sq1, sq2, sq3]
    refine tkq (i := 11) (d := 27) (v := (.bool false)) rfl rfl (Or.inl ⟨by kernel_rfl, fun w hSw => ?_⟩) (by assumption) ?_
    ·(try dsimp only at hSw); go_simp <;> (try rfl)
    simp only [Act.put, sq1, sq2, sq3]
    refine tkq (i := 12) (d := 28) (v := (.slice (some ⟨g, o, none⟩) k c)) rfl rfl (Or.inl ⟨by kernel_rfl, fun w hSw => ?_⟩) (by assumption) ?_
    ·(try dsimp only at hSw); go_simp <;> (try rfl)
    simp only [Act.put, sq1, sq2, sq3]
    refine tkq (i := 13) (d := 29) (v := (.int .i64 (i : Int))) rfl rfl (Or.inl ⟨by kernel_rfl, fun w hSw => ?_⟩) (by assumption) ?_
    ·(try dsimp only at hSw); go_simp <;> (try rfl)
    simp only [Act.put, sq1, sq2, sq3]
    refine tkq (i := 14) (d := 30) (v := (.pointer (some ⟨g, o + i * 6, none⟩))) rfl rfl (Or.inl ⟨by kernel_rfl, fun w hSw => ?_⟩) (by assumption) ?_
    ·(try dsimp only at hSw); go_simp <;> (try rfl)
    simp only [Act.put, sq1, sq2, sq3]
    refine tkq (i := 15) (d := 31) (v := (.pointer (some ⟨g, o + i * 6 + 1, none⟩))) rfl rfl (Or.inl ⟨by kernel_rfl, fun w hSw => ?_⟩) (by assumption) ?_
    ·(try dsimp only at hSw); go_simp <;> (try rfl)
    simp only [Act.put, sq1, sq2, sq3]
    refine tkq (i := 16) (d := 32) (v := (.agg (Ch.cells s.ch P Q R).toArray)) rfl rfl (yieldsIf_load_mid (by kernel_rfl) 25 (.tmp 31) rfl g (o + i * 6 + 1) (by simp [Act.eval]) (Ch.cells s.ch P Q R) _ (fun W hW => rangeAt.through HCx.out hW) Try.underlying25 rfl (by kernel_rfl)) (by assumption) ?_
    simp only [Act.put, sq1, sq2, sq3]
    refine tkq (i := 17) (d := 33) (v := (.slice (some ⟨g', o', none⟩) k d)) rfl rfl (Or.inl ⟨by kernel_rfl, fun w hSw => ?_⟩) (by assumption) ?_
    ·(try dsimp only at hSw); go_simp <;> (try rfl)
    simp only [Act.put, sq1, sq2, sq3]
    refine tkq (i := 18) (d := 34) (v := (.int .i64 (i : Int))) rfl rfl (Or.inl ⟨by kernel_rfl, fun w hSw => ?_⟩) (by assumption) ?_
    ·(try dsimp only at hSw); go_simp <;> (try rfl)
    simp only [Act.put, sq1, sq2, sq3]
    refine tkq (i := 19) (d := 35) (v := (.pointer (some ⟨g', o' + i * 6, none⟩))) rfl rfl (Or.inl ⟨by kernel_rfl, fun w hSw => ?_⟩) (by assumption) ?_
    ·(try dsimp only at hSw); go_simp <;> (try rfl)
    simp only [Act.put, sq1, sq2, sq3]
    refine tkq (i := 20) (d := 36) (v := (.pointer (some ⟨g', o' + i * 6 + 1, none⟩))) rfl rfl (Or.inl ⟨by kernel_rfl, fun w hSw => ?_⟩) (by assumption) ?_
    ·(try dsimp only at hSw); go_simp <;> (try rfl)
    simp only [Act.put, sq1, sq2, sq3]
    refine tkq (i := 21) (d := 37) (v := (.agg (Ch.cells q.ch P' Q' R').toArray)) rfl rfl (yieldsIf_load_mid (by kernel_rfl) 25 (.tmp 36) rfl g' (o' + i * 6 + 1) (by simp [Act.eval]) (Ch.cells q.ch P' Q' R') _ (fun W hW => rangeAt.through HCy.out hW) Try.underlying25 rfl (by kernel_rfl)) (by assumption) ?_
    simp only [Act.put, sq1, sq2, sq3]
    refine wpAnyH_ready (rs := [22]) (by kernel_rfl) (by simp) ?_
    refine AllReadyH.cons rfl (fun K hK => ?_) AllReadyH.nil
    go_simp
    refine (HSm.out _ hHeld).mono ?_
    rintro e9 wz ⟨rfl, hbz⟩; have HKz := Lib.hid (below_step hHeld hbz); clear hbz
    go_wp2_with fail
    refine hK.out _ _ HKz.out (fun hHeld1 => ?_)
    clear hHeld hK K
    have hHeld := hHeld1
    clear hHeld1
    refine tkq (i := 23) (d := 39) (v := (.bool true)) rfl rfl (Or.inl ⟨by kernel_rfl, fun w hSw => ?_⟩) (by assumption) ?_
    ·(try dsimp only at hSw); go_simp <;> (try rfl)
    simp only [Act.put, sq1, sq2, sq3]
    refine tkq (i := 24) (d := 40) (v := (.bool true)) rfl rfl (Or.inl ⟨by kernel_rfl, fun w hSw => ?_⟩) (by assumption) ?_
    ·(try dsimp only at hSw); go_simp <;> (try rfl)
    simp only [Act.put, sq1, sq2, sq3]
    refine wpAnyH_done (by kernel_rfl) ?_ _
    have HKk := Lib.hid hHeld
    clear hHeld
    go_wp2
    go_ret
    exact ⟨ret_bo HV.out.symm, below_step HX.out HKk.out⟩
   | true =>
    have HV : Hid (bb = allB Sg.eqb (a.drop (i + 1)) (b.drop (i + 1))) := Lib.hid (by rw [hp]; simp [allB, Sg.eqb, b0, s3])
    rw [s3] at HSm
    clear hp s0 s3
    go_wp2
    try dsimp only [Act.put]
    refine wp_region_held_drew (S := fun W => Below wr.heap.size wr W) (by kernel_rfl) (Below.refl _ _).drew (fun hHeld => ?_)
    change wpAnyH _ _ _ _ _ _ #[false, false, false, false, false, false, false, false, false, false, false, false, false, false, false, false, false, false, false, false, false, false, false, false, false] _ _
    refine tkq (i := 0) (d := 16) (v := (.slice (some ⟨g, o, none⟩) k c)) rfl rfl (Or.inl ⟨by kernel_rfl, fun w hSw => ?_⟩) (by assumption) ?_
    ·(try dsimp only at hSw); go_simp <;> (try rfl)
    simp only [Act.put, sq1, sq2, sq3]
    refine tkq (i := 1) (d := 17) (v := (.int .i64 (i : Int))) rfl rfl (Or.inl ⟨by kernel_rfl, fun w hSw => ?_⟩) (by assumption) ?_
    ·(try dsimp only at hSw); go_simp <;> (try rfl)
    simp only [Act.put, sq1, sq2, sq3]
    refine tkq (i := 2) (d := 18) (v := (.pointer (some ⟨g, o + i * 6, none⟩))) rfl rfl (Or.inl ⟨by kernel_rfl, fun w hSw => ?_⟩) (by assumption) ?_
    ·(try dsimp only at hSw); go_simp <;> (try rfl)
    simp only [Act.put, sq1, sq2, sq3]
    refine tkq (i := 3) (d := 19) (v := (.pointer (some ⟨g, o + i * 6, none⟩))) rfl rfl (Or.inl ⟨by kernel_rfl, fun w hSw => ?_⟩) (by assumption) ?_
    ·(try dsimp only at hSw); go_simp <;> (try rfl)
    simp only [Act.put, sq1, sq2, sq3]
    refine tkq (i := 4) (d := 20) (v := (.int .i64 s.fr)) rfl rfl (yields_load_at (by kernel_rfl) 3 (.tmp 19) rfl (.pointer (some ⟨g, o + i * 6, none⟩)) (by simp [Act.eval]) (.int .i64 s.fr) (fun W hW => load_one' (Try.agg_int W) (rangeAt.through HRx.out hW 0 _ rfl))) (by assumption) ?_
    simp only [Act.put, sq1, sq2, sq3]
    refine tkq (i := 5) (d := 21) (v := (.slice (some ⟨g', o', none⟩) k d)) rfl rfl (Or.inl ⟨by kernel_rfl, fun w hSw => ?_⟩) (by assumption) ?_
    ·(try dsimp only at hSw); go_simp <;> (try rfl)
    simp only [Act.put, sq1, sq2, sq3]
    refine tkq (i := 6) (d := 22) (v := (.int .i64 (i : Int))) rfl rfl (Or.inl ⟨by kernel_rfl, fun w hSw => ?_⟩) (by assumption) ?_
    ·(try dsimp only at hSw); go_simp <;> (try rfl)
    simp only [Act.put, sq1, sq2, sq3]
    refine tkq (i := 7) (d := 23) (v := (.pointer (some ⟨g', o' + i * 6, none⟩))) rfl rfl (Or.inl ⟨by kernel_rfl, fun w hSw => ?_⟩) (by assumption) ?_
    ·(try dsimp only at hSw); go_simp <;> (try rfl)
    simp only [Act.put, sq1, sq2, sq3]
    refine tkq (i := 8) (d := 24) (v := (.pointer (some ⟨g', o' + i * 6, none⟩))) rfl rfl (Or.inl ⟨by kernel_rfl, fun w hSw => ?_⟩) (by assumption) ?_
    ·(try dsimp only at hSw); go_simp <;> (try rfl)
    simp only [Act.put, sq1, sq2, sq3]
    refine tkq (i := 9) (d := 25) (v := (.int .i64 q.fr)) rfl rfl (yields_load_at (by kernel_rfl) 3 (.tmp 24) rfl (.pointer (some ⟨g', o' + i * 6, none⟩)) (by simp [Act.eval]) (.int .i64 q.fr) (fun W hW => load_one' (Try.agg_int W) (rangeAt.through HRy.out hW 0 _ rfl))) (by assumption) ?_
    simp only [Act.put, sq1, sq2, sq3]
    refine tkq (i := 10) (d := 26) (v := (.bool false)) rfl rfl (Or.inl ⟨by kernel_rfl, fun w hSw => ?_⟩) (by assumption) ?_
    ·(try dsimp only at hSw); go_simp <;> (try rfl)
    simp only [Act.put, sq1, sq2, sq3]
    refine tkq (i := 11) (d := 27) (v := (.bool false)) rfl rfl (Or.inl ⟨by kernel_rfl, fun w hSw => ?_⟩) (by assumption) ?_
    ·(try dsimp only at hSw); go_simp <;> (try rfl)
    simp only [Act.put, sq1, sq2, sq3]
    refine tkq (i := 12) (d := 28) (v := (.slice (some ⟨g, o, none⟩) k c)) rfl rfl (Or.inl ⟨by kernel_rfl, fun w hSw => ?_⟩) (by assumption) ?_
    ·(try dsimp only at hSw); go_simp <;> (try rfl)
    simp only [Act.put, sq1, sq2, sq3]
    refine tkq (i := 13) (d := 29) (v := (.int .i64 (i : Int))) rfl rfl (Or.inl ⟨by kernel_rfl, fun w hSw => ?_⟩) (by assumption) ?_
    ·(try dsimp only at hSw); go_simp <;> (try rfl)
    simp only [Act.put, sq1, sq2, sq3]
    refine tkq (i := 14) (d := 30) (v := (.pointer (some ⟨g, o + i * 6, none⟩))) rfl rfl (Or.inl ⟨by kernel_rfl, fun w hSw => ?_⟩) (by assumption) ?_
    ·(try dsimp only at hSw); go_simp <;> (try rfl)
    simp only [Act.put, sq1, sq2, sq3]
    refine tkq (i := 15) (d := 31) (v := (.pointer (some ⟨g, o + i * 6 + 1, none⟩))) rfl rfl (Or.inl ⟨by kernel_rfl, fun w hSw => ?_⟩) (by assumption) ?_
    ·(try dsimp only at hSw); go_simp <;> (try rfl)
    simp only [Act.put, sq1, sq2, sq3]
    refine tkq (i := 16) (d := 32) (v := (.agg (Ch.cells s.ch P Q R).toArray)) rfl rfl (yieldsIf_load_mid (by kernel_rfl) 25 (.tmp 31) rfl g (o + i * 6 + 1) (by simp [Act.eval]) (Ch.cells s.ch P Q R) _ (fun W hW => rangeAt.through HCx.out hW) Try.underlying25 rfl (by kernel_rfl)) (by assumption) ?_
    simp only [Act.put, sq1, sq2, sq3]
    refine tkq (i := 17) (d := 33) (v := (.slice (some ⟨g', o', none⟩) k d)) rfl rfl (Or.inl ⟨by kernel_rfl, fun w hSw => ?_⟩) (by assumption) ?_
    ·(try dsimp only at hSw); go_simp <;> (try rfl)
    simp only [Act.put, sq1, sq2, sq3]
    refine tkq (i := 18) (d := 34) (v := (.int .i64 (i : Int))) rfl rfl (Or.inl ⟨by kernel_rfl, fun w hSw => ?_⟩) (by assumption) ?_
    ·(try dsimp only at hSw); go_simp <;> (try rfl)
    simp only [Act.put, sq1, sq2, sq3]
    refine tkq (i := 19) (d := 35) (v := (.pointer (some ⟨g', o' + i * 6, none⟩))) rfl rfl (Or.inl ⟨by kernel_rfl, fun w hSw => ?_⟩) (by assumption) ?_
    ·(try dsimp only at hSw); go_simp <;> (try rfl)
    simp only [Act.put, sq1, sq2, sq3]
    refine tkq (i := 20) (d := 36) (v := (.pointer (some ⟨g', o' + i * 6 + 1, none⟩))) rfl rfl (Or.inl ⟨by kernel_rfl, fun w hSw => ?_⟩) (by assumption) ?_
    ·(try dsimp only at hSw); go_simp <;> (try rfl)
    simp only [Act.put, sq1, sq2, sq3]
    refine tkq (i := 21) (d := 37) (v := (.agg (Ch.cells q.ch P' Q' R').toArray)) rfl rfl (yieldsIf_load_mid (by kernel_rfl) 25 (.tmp 36) rfl g' (o' + i * 6 + 1) (by simp [Act.eval]) (Ch.cells q.ch P' Q' R') _ (fun W hW => rangeAt.through HCy.out hW) Try.underlying25 rfl (by kernel_rfl)) (by assumption) ?_
    simp only [Act.put, sq1, sq2, sq3]
    refine wpAnyH_ready (rs := [22]) (by kernel_rfl) (by simp) ?_
    refine AllReadyH.cons rfl (fun K hK => ?_) AllReadyH.nil
    go_simp
    refine (HSm.out _ hHeld).mono ?_
    rintro e9 wz ⟨rfl, hbz⟩; have HKz := Lib.hid (below_step hHeld hbz); clear hbz
    go_wp2_with fail
    refine hK.out _ _ HKz.out (fun hHeld1 => ?_)
    clear hHeld hK K
    have hHeld := hHeld1
    clear hHeld1
    refine tkq (i := 23) (d := 39) (v := (.bool false)) rfl rfl (Or.inl ⟨by kernel_rfl, fun w hSw => ?_⟩) (by assumption) ?_
    ·(try dsimp only at hSw); go_simp <;> (try rfl)
    simp only [Act.put, sq1, sq2, sq3]
    refine tkq (i := 24) (d := 40) (v := (.bool false)) rfl rfl (Or.inl ⟨by kernel_rfl, fun w hSw => ?_⟩) (by assumption) ?_
    ·(try dsimp only at hSw); go_simp <;> (try rfl)
    simp only [Act.put, sq1, sq2, sq3]
    refine wpAnyH_done (by kernel_rfl) ?_ _
    have HKk := Lib.hid hHeld
    clear hHeld
    go_wp2
    go_roundw
    case rel => exact ⟨i + 1, by omega, by go_num, HV.out, below_step HX.out HKk.out⟩
    case measure => simp [intOf]; omega
  ·have e : a.drop i = [] := List.drop_of_length_le (by have := HLn.out; omega)
   have e' : b.drop i = [] := List.drop_of_length_le (by have := HLm.out; omega)
   rw [e, e'] at hp
   have HV : Hid (bb = true) := Lib.hid hp
   clear hp e e'
   go_wp2
   go_ret
   exact ⟨ret_bo HV.out.symm, HX.out⟩

end Go.Proofs.Ytheecifgbkdecaa
