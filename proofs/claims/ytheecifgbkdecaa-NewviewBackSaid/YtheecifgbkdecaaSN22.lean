/-
  ChS
-/
import Derived.Test.YtheecifgbkdecaaSN19
import Derived.Test.YtheecifgbkdecaaSN21
import Derived.Test.YtheecifgbkdecaaSNT
namespace Go.Proofs.Ytheecifgbkdecaa
open Go.RowKit

def Po.eqb (a b : Po) : Bool := (a.sq == b.sq) && (a.dg == b.dg)
def Pf.eqb (a b : Pf) : Bool := (a.sq == b.sq) && (a.vw == b.vw) && sameB a.es b.es
theorem Po.eqb_iff {a b : Po} : a.eqb b = true ↔ a = b := by
 obtain ⟨x, y⟩ := a
 obtain ⟨x', y'⟩ := b
 simp [Po.eqb]
theorem Pf.eqb_iff {a b : Pf} : a.eqb b = true ↔ a = b := by
 obtain ⟨x, y, z⟩ := a
 obtain ⟨x', y', z'⟩ := b
 simp [Pf.eqb, sameB_iff, and_assoc]
def Ch.eqb (a b : Ch) : Bool := (a.vw == b.vw) && (a.lw == b.lw) && allB Po.eqb a.po b.po && allB Pf.eqb a.pp b.pp && allB Pf.eqb a.pd b.pd
theorem Ch.eqb_iff {a b : Ch} : a.eqb b = true ↔ a = b := by
 obtain ⟨v, l, x, y, z⟩ := a
 obtain ⟨v', l', x', y', z'⟩ := b
 simp [Ch.eqb, allB_iff (p := Po.eqb) (fun _ _ => Po.eqb_iff), allB_iff (p := Pf.eqb) (fun _ _ => Pf.eqb_iff), and_assoc]
set_option maxHeartbeats 32000000 in
set_option maxRecDepth 100000 in
theorem rsamepfs_any (ps qs : List Pf) (A : Option Addr) (k c : Nat) (A' : Option Addr) (k' d : Nat) (w : World) (h : PfsIn w A k ps) (h' : PfsIn w A' k' qs) (hk : k ≤ 9223372036854775807) (hes : ∀ p ∈ ps, p.es.length ≤ 9223372036854775807) :
  Calls Try.prog 54 #[.slice A k c, .slice A' k' d] w fun e w' => e = .returned (.bool (allB Pf.eqb ps qs)) ∧ Below w.heap.size w w' := by
 have HI := Lib.hid h
 have HJ := Lib.hid h'
 have HEs := Lib.hid hes
 have HLn := Lib.hid h.len
 have HLm := Lib.hid h'.len
 obtain ⟨bb, hbb⟩ : ∃ bb, allB Pf.eqb ps qs = bb := ⟨_, rfl⟩
 rw [hbb]
 by_cases s2 : k = k'
 case neg =>
  have s2i : ¬ (k : Int) = (k' : Int) := by omega
  have s2b : ((k : Int) == (k' : Int)) = false := by simpa using s2i
  have s2d : ((k : Int) != (k' : Int)) = true := by simpa using s2i
  have s2c : (k == k') = false := by simpa using s2
  have s2e : (k != k') = true := by simpa using s2
  have HV : Hid (bb = false) := Lib.hid (by rw [← hbb]; cases hb : allB Pf.eqb ps qs; rfl; exact absurd (allB_len hb) (by rw [h.len, h'.len]; exact s2))
  clear h h' hbb s2 s2i hes
  go_enter Try.func54, Try.ntmps54
  go_wp2
  go_ret
  exact ⟨ret_bo HV.out.symm, Below.refl _ _⟩
 subst s2
 have HBB := Lib.hid hbb
 clear h h' hbb hes
 go_enter Try.func54, Try.ntmps54
 go_wp2
 go_loopw [13] (fun iv wr => ∃ i : Nat, i ≤ k ∧ iv = .int .i64 i ∧ bb = allB Pf.eqb (ps.drop i) (qs.drop i) ∧ Below w.heap.size w wr) (fun iv _ => k - (intOf iv).toNat)
 case atStart => exact ⟨0, Nat.zero_le _, rfl, HBB.out.symm, Below.refl _ _⟩
 case round =>
  obtain ⟨i, hi, rfl, hp, hx⟩ := hrel
  have HX := Lib.hid hx
  clear hx
  by_cases hlt : i < k
  ·obtain ⟨g, o, p, B, m, e, rfl, _, hmem, hd, hrx, hex, _, _⟩ := (HI.out.through HX.out).at hlt
   obtain ⟨g', o', q, B', m', e', rfl, _, _, hd', hry, hey, _, _⟩ := (HJ.out.through HX.out).at hlt
   rw [hd, hd'] at hp
   have HRx := Lib.hid hrx
   have HRy := Lib.hid hry
   have hix := fun (W : World) => Try.ix_pf W g o k c i hlt
   have hix' := fun (W : World) => Try.ix_pf W g' o' k d i hlt
   have HSm : Hid (∀ W : World, Below wr.heap.size wr W → Calls Try.prog 96 #[.slice B m e, .slice B' m' e'] W fun e w' => e = .returned (.bool (sameB p.es q.es)) ∧ Below W.heap.size W w') := Lib.hid (fun W hW => rsame15_any p.es q.es B m e B' m' e' W (hex.through hW) (hey.through hW) (by rw [← hex.len]; exact HEs.out p hmem))
   clear hrx hry hex hey hd hd' hmem
   by_cases s0 : p.sq = q.sq
   case neg =>
    have b0 : (p.sq == q.sq) = false := by simpa using s0
    have b1 : (p.sq != q.sq) = true := by simpa using s0
    have HV : Hid (bb = false) := Lib.hid (by rw [hp]; simp [allB, Pf.eqb, b0])
    clear hp s0
    go_wp2
    try dsimp only [Act.put]
    refine wp_region_held_drew (S := fun W => Below wr.heap.size wr W) (by kernel_rfl) (Below.refl _ _).drew (fun hHeld => ?_)
    change wpAnyH _ _ _ _ _ _ #[false, false, false, false, false, false, false, false, false, false, false, false, false, false, false, false, false, false, false, false, false, false, false, false, false, false, false, false, false, false, false, false, false, false, false, false, false, false] _ _
    refine tkq (i := 0) (d := 16) (v := (.slice (some ⟨g, o, none⟩) k c)) rfl rfl (Or.inl ⟨by kernel_rfl, fun w hSw => ?_⟩) (by assumption) ?_
    ·(try dsimp only at hSw); go_simp <;> (try rfl)
    simp only [Act.put, sq1, sq2, sq3]
    refine tkq (i := 1) (d := 17) (v := (.int .i64 (i : Int))) rfl rfl (Or.inl ⟨by kernel_rfl, fun w hSw => ?_⟩) (by assumption) ?_
    ·(try dsimp only at hSw); go_simp <;> (try rfl)
    simp only [Act.put, sq1, sq2, sq3]
    refine tkq (i := 2) (d := 18) (v := (.pointer (some ⟨g, o + i * 3, none⟩))) rfl rfl (Or.inl ⟨by kernel_rfl, fun w hSw => ?_⟩) (by assumption) ?_
    ·(try dsimp only at hSw); go_simp <;> (try rfl)
    simp only [Act.put, sq1, sq2, sq3]
    refine tkq (i := 3) (d := 19) (v := (.pointer (some ⟨g, o + i * 3, none⟩))) rfl rfl (Or.inl ⟨by kernel_rfl, fun w hSw => ?_⟩) (by assumption) ?_
    ·(try dsimp only at hSw); go_simp <;> (try rfl)
    simp only [Act.put, sq1, sq2, sq3]
    refine tkq (i := 4) (d := 20) (v := (.int .i64 p.sq)) rfl rfl (yields_load_at (by kernel_rfl) 2 (.tmp 19) rfl (.pointer (some ⟨g, o + i * 3, none⟩)) (by simp [Act.eval]) (.int .i64 p.sq) (fun W hW => load_one' (Try.agg_i64 W) (rangeAt.through HRx.out hW 0 _ rfl))) (by assumption) ?_
    simp only [Act.put, sq1, sq2, sq3]
    refine tkq (i := 5) (d := 21) (v := (.slice (some ⟨g', o', none⟩) k d)) rfl rfl (Or.inl ⟨by kernel_rfl, fun w hSw => ?_⟩) (by assumption) ?_
    ·(try dsimp only at hSw); go_simp <;> (try rfl)
    simp only [Act.put, sq1, sq2, sq3]
    refine tkq (i := 6) (d := 22) (v := (.int .i64 (i : Int))) rfl rfl (Or.inl ⟨by kernel_rfl, fun w hSw => ?_⟩) (by assumption) ?_
    ·(try dsimp only at hSw); go_simp <;> (try rfl)
    simp only [Act.put, sq1, sq2, sq3]
    refine tkq (i := 7) (d := 23) (v := (.pointer (some ⟨g', o' + i * 3, none⟩))) rfl rfl (Or.inl ⟨by kernel_rfl, fun w hSw => ?_⟩) (by assumption) ?_
    ·(try dsimp only at hSw); go_simp <;> (try rfl)
    simp only [Act.put, sq1, sq2, sq3]
    refine tkq (i := 8) (d := 24) (v := (.pointer (some ⟨g', o' + i * 3, none⟩))) rfl rfl (Or.inl ⟨by kernel_rfl, fun w hSw => ?_⟩) (by assumption) ?_
    ·(try dsimp only at hSw); go_simp <;> (try rfl)
    simp only [Act.put, sq1, sq2, sq3]
    refine tkq (i := 9) (d := 25) (v := (.int .i64 q.sq)) rfl rfl (yields_load_at (by kernel_rfl) 2 (.tmp 24) rfl (.pointer (some ⟨g', o' + i * 3, none⟩)) (by simp [Act.eval]) (.int .i64 q.sq) (fun W hW => load_one' (Try.agg_i64 W) (rangeAt.through HRy.out hW 0 _ rfl))) (by assumption) ?_
    simp only [Act.put, sq1, sq2, sq3]
    refine tkq (i := 10) (d := 26) (v := (.bool true)) rfl rfl (Or.inl ⟨by kernel_rfl, fun w hSw => ?_⟩) (by assumption) ?_
    ·(try dsimp only at hSw); go_simp <;> (try rfl)
    simp only [Act.put, sq1, sq2, sq3]
    refine tkq (i := 11) (d := 27) (v := (.bool true)) rfl rfl (Or.inl ⟨by kernel_rfl, fun w hSw => ?_⟩) (by assumption) ?_
    ·(try dsimp only at hSw); go_simp <;> (try rfl)
    simp only [Act.put, sq1, sq2, sq3]
    refine tkv (i := 12) (d := 28) rfl rfl (by assumption) ?_
    simp only [Act.put, sq1, sq2, sq3]
    refine tkv (i := 13) (d := 29) rfl rfl (by assumption) ?_
    simp only [Act.put, sq1, sq2, sq3]
    refine tkv (i := 14) (d := 30) rfl rfl (by assumption) ?_
    simp only [Act.put, sq1, sq2, sq3]
    refine tkv (i := 15) (d := 31) rfl rfl (by assumption) ?_
    simp only [Act.put, sq1, sq2, sq3]
    refine tkv (i := 16) (d := 32) rfl rfl (by assumption) ?_
    simp only [Act.put, sq1, sq2, sq3]
    refine tkv (i := 17) (d := 33) rfl rfl (by assumption) ?_
    simp only [Act.put, sq1, sq2, sq3]
    refine tkv (i := 18) (d := 34) rfl rfl (by assumption) ?_
    simp only [Act.put, sq1, sq2, sq3]
    refine tkv (i := 19) (d := 35) rfl rfl (by assumption) ?_
    simp only [Act.put, sq1, sq2, sq3]
    refine tkv (i := 20) (d := 36) rfl rfl (by assumption) ?_
    simp only [Act.put, sq1, sq2, sq3]
    refine tkv (i := 21) (d := 37) rfl rfl (by assumption) ?_
    simp only [Act.put, sq1, sq2, sq3]
    refine tkv (i := 22) (d := 38) rfl rfl (by assumption) ?_
    simp only [Act.put, sq1, sq2, sq3]
    refine tkq (i := 23) (d := 39) (v := (.bool true)) rfl rfl (Or.inl ⟨by kernel_rfl, fun w hSw => ?_⟩) (by assumption) ?_
    ·(try dsimp only at hSw); go_simp <;> (try rfl)
    simp only [Act.put, sq1, sq2, sq3]
    refine tkq (i := 24) (d := 40) (v := (.bool true)) rfl rfl (Or.inl ⟨by kernel_rfl, fun w hSw => ?_⟩) (by assumption) ?_
    ·(try dsimp only at hSw); go_simp <;> (try rfl)
    simp only [Act.put, sq1, sq2, sq3]
    refine tkv (i := 25) (d := 41) rfl rfl (by assumption) ?_
    simp only [Act.put, sq1, sq2, sq3]
    refine tkv (i := 26) (d := 42) rfl rfl (by assumption) ?_
    simp only [Act.put, sq1, sq2, sq3]
    refine tkv (i := 27) (d := 43) rfl rfl (by assumption) ?_
    simp only [Act.put, sq1, sq2, sq3]
    refine tkv (i := 28) (d := 44) rfl rfl (by assumption) ?_
    simp only [Act.put, sq1, sq2, sq3]
    refine tkv (i := 29) (d := 45) rfl rfl (by assumption) ?_
    simp only [Act.put, sq1, sq2, sq3]
    refine tkv (i := 30) (d := 46) rfl rfl (by assumption) ?_
    simp only [Act.put, sq1, sq2, sq3]
    refine tkv (i := 31) (d := 47) rfl rfl (by assumption) ?_
    simp only [Act.put, sq1, sq2, sq3]
    refine tkv (i := 32) (d := 48) rfl rfl (by assumption) ?_
    simp only [Act.put, sq1, sq2, sq3]
    refine tkv (i := 33) (d := 49) rfl rfl (by assumption) ?_
    simp only [Act.put, sq1, sq2, sq3]
    refine tkv (i := 34) (d := 50) rfl rfl (by assumption) ?_
    simp only [Act.put, sq1, sq2, sq3]
    refine tkv (i := 35) (d := 51) rfl rfl (by assumption) ?_
    simp only [Act.put, sq1, sq2, sq3]
    refine tkv (i := 36) (d := 52) rfl rfl (by assumption) ?_
    simp only [Act.put, sq1, sq2, sq3]
    refine tkq (i := 37) (d := 53) (v := (.bool true)) rfl rfl (Or.inl ⟨by kernel_rfl, fun w hSw => ?_⟩) (by assumption) ?_
    ·(try dsimp only at hSw); go_simp <;> (try rfl)
    simp only [Act.put, sq1, sq2, sq3]
    refine wpAnyH_done (by kernel_rfl) ?_ _
    have HKk := Lib.hid hHeld
    clear hHeld
    go_wp2
    go_ret
    exact ⟨ret_bo HV.out.symm, below_step HX.out HKk.out⟩
   have b0 : (p.sq == q.sq) = true := by simpa using s0
   have b1 : (p.sq != q.sq) = false := by simpa using s0
   by_cases s1 : p.vw = q.vw
   case neg =>
    have b2 : (p.vw == q.vw) = false := by simpa using s1
    have b3 : (p.vw != q.vw) = true := by simpa using s1
    have HV : Hid (bb = false) := Lib.hid (by rw [hp]; simp [allB, Pf.eqb, b2])
    clear hp s0 s1
    go_wp2
    try dsimp only [Act.put]
    refine wp_region_held_drew (S := fun W => Below wr.heap.size wr W) (by kernel_rfl) (Below.refl _ _).drew (fun hHeld => ?_)
    change wpAnyH _ _ _ _ _ _ #[false, false, false, false, false, false, false, false, false, false, false, false, false, false, false, false, false, false, false, false, false, false, false, false, false, false, false, false, false, false, false, false, false, false, false, false, false, false] _ _
    refine tkq (i := 0) (d := 16) (v := (.slice (some ⟨g, o, none⟩) k c)) rfl rfl (Or.inl ⟨by kernel_rfl, fun w hSw => ?_⟩) (by assumption) ?_
    ·(try dsimp only at hSw); go_simp <;> (try rfl)
    simp only [Act.put, sq1, sq2, sq3]
    refine tkq (i := 1) (d := 17) (v := (.int .i64 (i : Int))) rfl rfl (Or.inl ⟨by kernel_rfl, fun w hSw => ?_⟩) (by assumption) ?_
    ·(try dsimp only at hSw); go_simp <;> (try rfl)
    simp only [Act.put, sq1, sq2, sq3]
    refine tkq (i := 2) (d := 18) (v := (.pointer (some ⟨g, o + i * 3, none⟩))) rfl rfl (Or.inl ⟨by kernel_rfl, fun w hSw => ?_⟩) (by assumption) ?_
    ·(try dsimp only at hSw); go_simp <;> (try rfl)
    simp only [Act.put, sq1, sq2, sq3]
    refine tkq (i := 3) (d := 19) (v := (.pointer (some ⟨g, o + i * 3, none⟩))) rfl rfl (Or.inl ⟨by kernel_rfl, fun w hSw => ?_⟩) (by assumption) ?_
    ·(try dsimp only at hSw); go_simp <;> (try rfl)
    simp only [Act.put, sq1, sq2, sq3]
    refine tkq (i := 4) (d := 20) (v := (.int .i64 p.sq)) rfl rfl (yields_load_at (by kernel_rfl) 2 (.tmp 19) rfl (.pointer (some ⟨g, o + i * 3, none⟩)) (by simp [Act.eval]) (.int .i64 p.sq) (fun W hW => load_one' (Try.agg_i64 W) (rangeAt.through HRx.out hW 0 _ rfl))) (by assumption) ?_
    simp only [Act.put, sq1, sq2, sq3]
    refine tkq (i := 5) (d := 21) (v := (.slice (some ⟨g', o', none⟩) k d)) rfl rfl (Or.inl ⟨by kernel_rfl, fun w hSw => ?_⟩) (by assumption) ?_
    ·(try dsimp only at hSw); go_simp <;> (try rfl)
    simp only [Act.put, sq1, sq2, sq3]
    refine tkq (i := 6) (d := 22) (v := (.int .i64 (i : Int))) rfl rfl (Or.inl ⟨by kernel_rfl, fun w hSw => ?_⟩) (by assumption) ?_
    ·(try dsimp only at hSw); go_simp <;> (try rfl)
    simp only [Act.put, sq1, sq2, sq3]
    refine tkq (i := 7) (d := 23) (v := (.pointer (some ⟨g', o' + i * 3, none⟩))) rfl rfl (Or.inl ⟨by kernel_rfl, fun w hSw => ?_⟩) (by assumption) ?_
    ·(try dsimp only at hSw); go_simp <;> (try rfl)
    simp only [Act.put, sq1, sq2, sq3]
    refine tkq (i := 8) (d := 24) (v := (.pointer (some ⟨g', o' + i * 3, none⟩))) rfl rfl (Or.inl ⟨by kernel_rfl, fun w hSw => ?_⟩) (by assumption) ?_
    ·(try dsimp only at hSw); go_simp <;> (try rfl)
    simp only [Act.put, sq1, sq2, sq3]
    refine tkq (i := 9) (d := 25) (v := (.int .i64 q.sq)) rfl rfl (yields_load_at (by kernel_rfl) 2 (.tmp 24) rfl (.pointer (some ⟨g', o' + i * 3, none⟩)) (by simp [Act.eval]) (.int .i64 q.sq) (fun W hW => load_one' (Try.agg_i64 W) (rangeAt.through HRy.out hW 0 _ rfl))) (by assumption) ?_
    simp only [Act.put, sq1, sq2, sq3]
    refine tkq (i := 10) (d := 26) (v := (.bool false)) rfl rfl (Or.inl ⟨by kernel_rfl, fun w hSw => ?_⟩) (by assumption) ?_
    ·(try dsimp only at hSw); go_simp <;> (try rfl)
    simp only [Act.put, sq1, sq2, sq3]
    refine tkq (i := 11) (d := 27) (v := (.bool false)) rfl rfl (Or.inl ⟨by kernel_rfl, fun w hSw => ?_⟩) (by assumption) ?_
    ·(try dsimp only at hSw); go_simp <;> (try rfl)
    simp only [Act.put, sq1, sq2, sq3]
    refine tkq (i := 12) (d := 28) (v := (.slice (some ⟨g, o, none⟩) k c)) rfl rfl (Or.inl ⟨by kernel_rfl, fun w hSw => ?_⟩) (by assumption) ?_
    ·(try dsimp only at hSw); go_simp <;> (try rfl)
    simp only [Act.put, sq1, sq2, sq3]
    refine tkq (i := 13) (d := 29) (v := (.int .i64 (i : Int))) rfl rfl (Or.inl ⟨by kernel_rfl, fun w hSw => ?_⟩) (by assumption) ?_
    ·(try dsimp only at hSw); go_simp <;> (try rfl)
    simp only [Act.put, sq1, sq2, sq3]
    refine tkq (i := 14) (d := 30) (v := (.pointer (some ⟨g, o + i * 3, none⟩))) rfl rfl (Or.inl ⟨by kernel_rfl, fun w hSw => ?_⟩) (by assumption) ?_
    ·(try dsimp only at hSw); go_simp <;> (try rfl)
    simp only [Act.put, sq1, sq2, sq3]
    refine tkq (i := 15) (d := 31) (v := (.pointer (some ⟨g, o + i * 3 + 1, none⟩))) rfl rfl (Or.inl ⟨by kernel_rfl, fun w hSw => ?_⟩) (by assumption) ?_
    ·(try dsimp only at hSw); go_simp <;> (try rfl)
    simp only [Act.put, sq1, sq2, sq3]
    refine tkq (i := 16) (d := 32) (v := (.int .i64 p.vw)) rfl rfl (yields_load_at (by kernel_rfl) 2 (.tmp 31) rfl (.pointer (some ⟨g, o + i * 3 + 1, none⟩)) (by simp [Act.eval]) (.int .i64 p.vw) (fun W hW => load_one' (Try.agg_i64 W) (rangeAt.through HRx.out hW 1 _ rfl))) (by assumption) ?_
    simp only [Act.put, sq1, sq2, sq3]
    refine tkq (i := 17) (d := 33) (v := (.slice (some ⟨g', o', none⟩) k d)) rfl rfl (Or.inl ⟨by kernel_rfl, fun w hSw => ?_⟩) (by assumption) ?_
    ·(try dsimp only at hSw); go_simp <;> (try rfl)
    simp only [Act.put, sq1, sq2, sq3]
    refine tkq (i := 18) (d := 34) (v := (.int .i64 (i : Int))) rfl rfl (Or.inl ⟨by kernel_rfl, fun w hSw => ?_⟩) (by assumption) ?_
    ·(try dsimp only at hSw); go_simp <;> (try rfl)
    simp only [Act.put, sq1, sq2, sq3]
    refine tkq (i := 19) (d := 35) (v := (.pointer (some ⟨g', o' + i * 3, none⟩))) rfl rfl (Or.inl ⟨by kernel_rfl, fun w hSw => ?_⟩) (by assumption) ?_
    ·(try dsimp only at hSw); go_simp <;> (try rfl)
    simp only [Act.put, sq1, sq2, sq3]
    refine tkq (i := 20) (d := 36) (v := (.pointer (some ⟨g', o' + i * 3 + 1, none⟩))) rfl rfl (Or.inl ⟨by kernel_rfl, fun w hSw => ?_⟩) (by assumption) ?_
    ·(try dsimp only at hSw); go_simp <;> (try rfl)
    simp only [Act.put, sq1, sq2, sq3]
    refine tkq (i := 21) (d := 37) (v := (.int .i64 q.vw)) rfl rfl (yields_load_at (by kernel_rfl) 2 (.tmp 36) rfl (.pointer (some ⟨g', o' + i * 3 + 1, none⟩)) (by simp [Act.eval]) (.int .i64 q.vw) (fun W hW => load_one' (Try.agg_i64 W) (rangeAt.through HRy.out hW 1 _ rfl))) (by assumption) ?_
    simp only [Act.put, sq1, sq2, sq3]
    refine tkq (i := 22) (d := 38) (v := (.bool true)) rfl rfl (Or.inl ⟨by kernel_rfl, fun w hSw => ?_⟩) (by assumption) ?_
    ·(try dsimp only at hSw); go_simp <;> (try rfl)
    simp only [Act.put, sq1, sq2, sq3]
    refine tkq (i := 23) (d := 39) (v := (.bool true)) rfl rfl (Or.inl ⟨by kernel_rfl, fun w hSw => ?_⟩) (by assumption) ?_
    ·(try dsimp only at hSw); go_simp <;> (try rfl)
    simp only [Act.put, sq1, sq2, sq3]
    refine tkq (i := 24) (d := 40) (v := (.bool true)) rfl rfl (Or.inl ⟨by kernel_rfl, fun w hSw => ?_⟩) (by assumption) ?_
    ·(try dsimp only at hSw); go_simp <;> (try rfl)
    simp only [Act.put, sq1, sq2, sq3]
    refine tkv (i := 25) (d := 41) rfl rfl (by assumption) ?_
    simp only [Act.put, sq1, sq2, sq3]
    refine tkv (i := 26) (d := 42) rfl rfl (by assumption) ?_
    simp only [Act.put, sq1, sq2, sq3]
    refine tkv (i := 27) (d := 43) rfl rfl (by assumption) ?_
    simp only [Act.put, sq1, sq2, sq3]
    refine tkv (i := 28) (d := 44) rfl rfl (by assumption) ?_
    simp only [Act.put, sq1, sq2, sq3]
    refine tkv (i := 29) (d := 45) rfl rfl (by assumption) ?_
    simp only [Act.put, sq1, sq2, sq3]
    refine tkv (i := 30) (d := 46) rfl rfl (by assumption) ?_
    simp only [Act.put, sq1, sq2, sq3]
    refine tkv (i := 31) (d := 47) rfl rfl (by assumption) ?_
    simp only [Act.put, sq1, sq2, sq3]
    refine tkv (i := 32) (d := 48) rfl rfl (by assumption) ?_
    simp only [Act.put, sq1, sq2, sq3]
    refine tkv (i := 33) (d := 49) rfl rfl (by assumption) ?_
    simp only [Act.put, sq1, sq2, sq3]
    refine tkv (i := 34) (d := 50) rfl rfl (by assumption) ?_
    simp only [Act.put, sq1, sq2, sq3]
    refine tkv (i := 35) (d := 51) rfl rfl (by assumption) ?_
    simp only [Act.put, sq1, sq2, sq3]
    refine tkv (i := 36) (d := 52) rfl rfl (by assumption) ?_
    simp only [Act.put, sq1, sq2, sq3]
    refine tkq (i := 37) (d := 53) (v := (.bool true)) rfl rfl (Or.inl ⟨by kernel_rfl, fun w hSw => ?_⟩) (by assumption) ?_
    ·(try dsimp only at hSw); go_simp <;> (try rfl)
    simp only [Act.put, sq1, sq2, sq3]
    refine wpAnyH_done (by kernel_rfl) ?_ _
    have HKk := Lib.hid hHeld
    clear hHeld
    go_wp2
    go_ret
    exact ⟨ret_bo HV.out.symm, below_step HX.out HKk.out⟩
   have b2 : (p.vw == q.vw) = true := by simpa using s1
   have b3 : (p.vw != q.vw) = false := by simpa using s1
   cases s3 : sameB p.es q.es with
   | false =>
    have HV : Hid (bb = false) := Lib.hid (by rw [hp]; simp [allB, Pf.eqb, s3])
    rw [s3] at HSm
    clear hp s0 s1 s3
    go_wp2
    try dsimp only [Act.put]
    refine wp_region_held_drew (S := fun W => Below wr.heap.size wr W) (by kernel_rfl) (Below.refl _ _).drew (fun hHeld => ?_)
    change wpAnyH _ _ _ _ _ _ #[false, false, false, false, false, false, false, false, false, false, false, false, false, false, false, false, false, false, false, false, false, false, false, false, false, false, false, false, false, false, false, false, false, false, false, false, false, false] _ _
    refine tkq (i := 0) (d := 16) (v := (.slice (some ⟨g, o, none⟩) k c)) rfl rfl (Or.inl ⟨by kernel_rfl, fun w hSw => ?_⟩) (by assumption) ?_
    ·(try dsimp only at hSw); go_simp <;> (try rfl)
    simp only [Act.put, sq1, sq2, sq3]
    refine tkq (i := 1) (d := 17) (v := (.int .i64 (i : Int))) rfl rfl (Or.inl ⟨by kernel_rfl, fun w hSw => ?_⟩) (by assumption) ?_
    ·(try dsimp only at hSw); go_simp <;> (try rfl)
    simp only [Act.put, sq1, sq2, sq3]
    refine tkq (i := 2) (d := 18) (v := (.pointer (some ⟨g, o + i * 3, none⟩))) rfl rfl (Or.inl ⟨by kernel_rfl, fun w hSw => ?_⟩) (by assumption) ?_
    ·(try dsimp only at hSw); go_simp <;> (try rfl)
    simp only [Act.put, sq1, sq2, sq3]
    refine tkq (i := 3) (d := 19) (v := (.pointer (some ⟨g, o + i * 3, none⟩))) rfl rfl (Or.inl ⟨by kernel_rfl, fun w hSw => ?_⟩) (by assumption) ?_
    ·(try dsimp only at hSw); go_simp <;> (try rfl)
    simp only [Act.put, sq1, sq2, sq3]
    refine tkq (i := 4) (d := 20) (v := (.int .i64 p.sq)) rfl rfl (yields_load_at (by kernel_rfl) 2 (.tmp 19) rfl (.pointer (some ⟨g, o + i * 3, none⟩)) (by simp [Act.eval]) (.int .i64 p.sq) (fun W hW => load_one' (Try.agg_i64 W) (rangeAt.through HRx.out hW 0 _ rfl))) (by assumption) ?_
    simp only [Act.put, sq1, sq2, sq3]
    refine tkq (i := 5) (d := 21) (v := (.slice (some ⟨g', o', none⟩) k d)) rfl rfl (Or.inl ⟨by kernel_rfl, fun w hSw => ?_⟩) (by assumption) ?_
    ·(try dsimp only at hSw); go_simp <;> (try rfl)
    simp only [Act.put, sq1, sq2, sq3]
    refine tkq (i := 6) (d := 22) (v := (.int .i64 (i : Int))) rfl rfl (Or.inl ⟨by kernel_rfl, fun w hSw => ?_⟩) (by assumption) ?_
    ·(try dsimp only at hSw); go_simp <;> (try rfl)
    simp only [Act.put, sq1, sq2, sq3]
    refine tkq (i := 7) (d := 23) (v := (.pointer (some ⟨g', o' + i * 3, none⟩))) rfl rfl (Or.inl ⟨by kernel_rfl, fun w hSw => ?_⟩) (by assumption) ?_
    ·(try dsimp only at hSw); go_simp <;> (try rfl)
    simp only [Act.put, sq1, sq2, sq3]
    refine tkq (i := 8) (d := 24) (v := (.pointer (some ⟨g', o' + i * 3, none⟩))) rfl rfl (Or.inl ⟨by kernel_rfl, fun w hSw => ?_⟩) (by assumption) ?_
    ·(try dsimp only at hSw); go_simp <;> (try rfl)
    simp only [Act.put, sq1, sq2, sq3]
    refine tkq (i := 9) (d := 25) (v := (.int .i64 q.sq)) rfl rfl (yields_load_at (by kernel_rfl) 2 (.tmp 24) rfl (.pointer (some ⟨g', o' + i * 3, none⟩)) (by simp [Act.eval]) (.int .i64 q.sq) (fun W hW => load_one' (Try.agg_i64 W) (rangeAt.through HRy.out hW 0 _ rfl))) (by assumption) ?_
    simp only [Act.put, sq1, sq2, sq3]
    refine tkq (i := 10) (d := 26) (v := (.bool false)) rfl rfl (Or.inl ⟨by kernel_rfl, fun w hSw => ?_⟩) (by assumption) ?_
    ·(try dsimp only at hSw); go_simp <;> (try rfl)
    simp only [Act.put, sq1, sq2, sq3]
    refine tkq (i := 11) (d := 27) (v := (.bool false)) rfl rfl (Or.inl ⟨by kernel_rfl, fun w hSw => ?_⟩) (by assumption) ?_
    ·(try dsimp only at hSw); go_simp <;> (try rfl)
    simp only [Act.put, sq1, sq2, sq3]
    refine tkq (i := 12) (d := 28) (v := (.slice (some ⟨g, o, none⟩) k c)) rfl rfl (Or.inl ⟨by kernel_rfl, fun w hSw => ?_⟩) (by assumption) ?_
    ·(try dsimp only at hSw); go_simp <;> (try rfl)
    simp only [Act.put, sq1, sq2, sq3]
    refine tkq (i := 13) (d := 29) (v := (.int .i64 (i : Int))) rfl rfl (Or.inl ⟨by kernel_rfl, fun w hSw => ?_⟩) (by assumption) ?_
    ·(try dsimp only at hSw); go_simp <;> (try rfl)
    simp only [Act.put, sq1, sq2, sq3]
    refine tkq (i := 14) (d := 30) (v := (.pointer (some ⟨g, o + i * 3, none⟩))) rfl rfl (Or.inl ⟨by kernel_rfl, fun w hSw => ?_⟩) (by assumption) ?_
    ·(try dsimp only at hSw); go_simp <;> (try rfl)
    simp only [Act.put, sq1, sq2, sq3]
    refine tkq (i := 15) (d := 31) (v := (.pointer (some ⟨g, o + i * 3 + 1, none⟩))) rfl rfl (Or.inl ⟨by kernel_rfl, fun w hSw => ?_⟩) (by assumption) ?_
    ·(try dsimp only at hSw); go_simp <;> (try rfl)
    simp only [Act.put, sq1, sq2, sq3]
    refine tkq (i := 16) (d := 32) (v := (.int .i64 p.vw)) rfl rfl (yields_load_at (by kernel_rfl) 2 (.tmp 31) rfl (.pointer (some ⟨g, o + i * 3 + 1, none⟩)) (by simp [Act.eval]) (.int .i64 p.vw) (fun W hW => load_one' (Try.agg_i64 W) (rangeAt.through HRx.out hW 1 _ rfl))) (by assumption) ?_
    simp only [Act.put, sq1, sq2, sq3]
    refine tkq (i := 17) (d := 33) (v := (.slice (some ⟨g', o', none⟩) k d)) rfl rfl (Or.inl ⟨by kernel_rfl, fun w hSw => ?_⟩) (by assumption) ?_
    ·(try dsimp only at hSw); go_simp <;> (try rfl)
    simp only [Act.put, sq1, sq2, sq3]
    refine tkq (i := 18) (d := 34) (v := (.int .i64 (i : Int))) rfl rfl (Or.inl ⟨by kernel_rfl, fun w hSw => ?_⟩) (by assumption) ?_
    ·(try dsimp only at hSw); go_simp <;> (try rfl)
    simp only [Act.put, sq1, sq2, sq3]
    refine tkq (i := 19) (d := 35) (v := (.pointer (some ⟨g', o' + i * 3, none⟩))) rfl rfl (Or.inl ⟨by kernel_rfl, fun w hSw => ?_⟩) (by assumption) ?_
    ·(try dsimp only at hSw); go_simp <;> (try rfl)
    simp only [Act.put, sq1, sq2, sq3]
    refine tkq (i := 20) (d := 36) (v := (.pointer (some ⟨g', o' + i * 3 + 1, none⟩))) rfl rfl (Or.inl ⟨by kernel_rfl, fun w hSw => ?_⟩) (by assumption) ?_
    ·(try dsimp only at hSw); go_simp <;> (try rfl)
    simp only [Act.put, sq1, sq2, sq3]
    refine tkq (i := 21) (d := 37) (v := (.int .i64 q.vw)) rfl rfl (yields_load_at (by kernel_rfl) 2 (.tmp 36) rfl (.pointer (some ⟨g', o' + i * 3 + 1, none⟩)) (by simp [Act.eval]) (.int .i64 q.vw) (fun W hW => load_one' (Try.agg_i64 W) (rangeAt.through HRy.out hW 1 _ rfl))) (by assumption) ?_
    simp only [Act.put, sq1, sq2, sq3]
    refine tkq (i := 22) (d := 38) (v := (.bool false)) rfl rfl (Or.inl ⟨by kernel_rfl, fun w hSw => ?_⟩) (by assumption) ?_
    ·(try dsimp only at hSw); go_simp <;> (try rfl)
    simp only [Act.put, sq1, sq2, sq3]
    refine tkq (i := 23) (d := 39) (v := (.bool false)) rfl rfl (Or.inl ⟨by kernel_rfl, fun w hSw => ?_⟩) (by assumption) ?_
    ·(try dsimp only at hSw); go_simp <;> (try rfl)
    simp only [Act.put, sq1, sq2, sq3]
    refine tkq (i := 24) (d := 40) (v := (.bool false)) rfl rfl (Or.inl ⟨by kernel_rfl, fun w hSw => ?_⟩) (by assumption) ?_
    ·(try dsimp only at hSw); go_simp <;> (try rfl)
    simp only [Act.put, sq1, sq2, sq3]
    refine tkq (i := 25) (d := 41) (v := (.slice (some ⟨g, o, none⟩) k c)) rfl rfl (Or.inl ⟨by kernel_rfl, fun w hSw => ?_⟩) (by assumption) ?_
    ·(try dsimp only at hSw); go_simp <;> (try rfl)
    simp only [Act.put, sq1, sq2, sq3]
    refine tkq (i := 26) (d := 42) (v := (.int .i64 (i : Int))) rfl rfl (Or.inl ⟨by kernel_rfl, fun w hSw => ?_⟩) (by assumption) ?_
    ·(try dsimp only at hSw); go_simp <;> (try rfl)
    simp only [Act.put, sq1, sq2, sq3]
    refine tkq (i := 27) (d := 43) (v := (.pointer (some ⟨g, o + i * 3, none⟩))) rfl rfl (Or.inl ⟨by kernel_rfl, fun w hSw => ?_⟩) (by assumption) ?_
    ·(try dsimp only at hSw); go_simp <;> (try rfl)
    simp only [Act.put, sq1, sq2, sq3]
    refine tkq (i := 28) (d := 44) (v := (.pointer (some ⟨g, o + i * 3 + 2, none⟩))) rfl rfl (Or.inl ⟨by kernel_rfl, fun w hSw => ?_⟩) (by assumption) ?_
    ·(try dsimp only at hSw); go_simp <;> (try rfl)
    simp only [Act.put, sq1, sq2, sq3]
    refine tkq (i := 29) (d := 45) (v := (.slice B m e)) rfl rfl (yields_load_at (by kernel_rfl) 53 (.tmp 44) rfl (.pointer (some ⟨g, o + i * 3 + 2, none⟩)) (by simp [Act.eval]) (.slice B m e) (fun W hW => load_one' (Try.agg_es W) (rangeAt.through HRx.out hW 2 _ rfl))) (by assumption) ?_
    simp only [Act.put, sq1, sq2, sq3]
    refine tkq (i := 30) (d := 46) (v := (.slice (some ⟨g', o', none⟩) k d)) rfl rfl (Or.inl ⟨by kernel_rfl, fun w hSw => ?_⟩) (by assumption) ?_
    ·(try dsimp only at hSw); go_simp <;> (try rfl)
    simp only [Act.put, sq1, sq2, sq3]
    refine tkq (i := 31) (d := 47) (v := (.int .i64 (i : Int))) rfl rfl (Or.inl ⟨by kernel_rfl, fun w hSw => ?_⟩) (by assumption) ?_
    ·(try dsimp only at hSw); go_simp <;> (try rfl)
    simp only [Act.put, sq1, sq2, sq3]
    refine tkq (i := 32) (d := 48) (v := (.pointer (some ⟨g', o' + i * 3, none⟩))) rfl rfl (Or.inl ⟨by kernel_rfl, fun w hSw => ?_⟩) (by assumption) ?_
    ·(try dsimp only at hSw); go_simp <;> (try rfl)
    simp only [Act.put, sq1, sq2, sq3]
    refine tkq (i := 33) (d := 49) (v := (.pointer (some ⟨g', o' + i * 3 + 2, none⟩))) rfl rfl (Or.inl ⟨by kernel_rfl, fun w hSw => ?_⟩) (by assumption) ?_
    ·(try dsimp only at hSw); go_simp <;> (try rfl)
    simp only [Act.put, sq1, sq2, sq3]
    refine tkq (i := 34) (d := 50) (v := (.slice B' m' e')) rfl rfl (yields_load_at (by kernel_rfl) 53 (.tmp 49) rfl (.pointer (some ⟨g', o' + i * 3 + 2, none⟩)) (by simp [Act.eval]) (.slice B' m' e') (fun W hW => load_one' (Try.agg_es W) (rangeAt.through HRy.out hW 2 _ rfl))) (by assumption) ?_
    simp only [Act.put, sq1, sq2, sq3]
    refine wpAnyH_ready (rs := [35]) (by kernel_rfl) (by simp) ?_
    refine AllReadyH.cons rfl (fun K hK => ?_) AllReadyH.nil
    go_simp
    refine (HSm.out _ hHeld).mono ?_
    rintro e9 wz ⟨rfl, hbz⟩; have HKz := Lib.hid (below_step hHeld hbz); clear hbz
    go_wp2_with fail
    refine hK.out _ _ HKz.out (fun hHeld1 => ?_)
    clear hHeld hK K
    have hHeld := hHeld1
    clear hHeld1
    refine tkq (i := 36) (d := 52) (v := (.bool true)) rfl rfl (Or.inl ⟨by kernel_rfl, fun w hSw => ?_⟩) (by assumption) ?_
    ·(try dsimp only at hSw); go_simp <;> (try rfl)
    simp only [Act.put, sq1, sq2, sq3]
    refine tkq (i := 37) (d := 53) (v := (.bool true)) rfl rfl (Or.inl ⟨by kernel_rfl, fun w hSw => ?_⟩) (by assumption) ?_
    ·(try dsimp only at hSw); go_simp <;> (try rfl)
    simp only [Act.put, sq1, sq2, sq3]
    refine wpAnyH_done (by kernel_rfl) ?_ _
    have HKk := Lib.hid hHeld
    clear hHeld
    go_wp2
    go_ret
    exact ⟨ret_bo HV.out.symm, below_step HX.out HKk.out⟩
   | true =>
    have HV : Hid (bb = allB Pf.eqb (ps.drop (i + 1)) (qs.drop (i + 1))) := Lib.hid (by rw [hp]; simp [allB, Pf.eqb, b0, b2, s3])
    rw [s3] at HSm
    clear hp s0 s1 s3
    go_wp2
    try dsimp only [Act.put]
    refine wp_region_held_drew (S := fun W => Below wr.heap.size wr W) (by kernel_rfl) (Below.refl _ _).drew (fun hHeld => ?_)
    change wpAnyH _ _ _ _ _ _ #[false, false, false, false, false, false, false, false, false, false, false, false, false, false, false, false, false, false, false, false, false, false, false, false, false, false, false, false, false, false, false, false, false, false, false, false, false, false] _ _
    refine tkq (i := 0) (d := 16) (v := (.slice (some ⟨g, o, none⟩) k c)) rfl rfl (Or.inl ⟨by kernel_rfl, fun w hSw => ?_⟩) (by assumption) ?_
    ·(try dsimp only at hSw); go_simp <;> (try rfl)
    simp only [Act.put, sq1, sq2, sq3]
    refine tkq (i := 1) (d := 17) (v := (.int .i64 (i : Int))) rfl rfl (Or.inl ⟨by kernel_rfl, fun w hSw => ?_⟩) (by assumption) ?_
    ·(try dsimp only at hSw); go_simp <;> (try rfl)
    simp only [Act.put, sq1, sq2, sq3]
    refine tkq (i := 2) (d := 18) (v := (.pointer (some ⟨g, o + i * 3, none⟩))) rfl rfl (Or.inl ⟨by kernel_rfl, fun w hSw => ?_⟩) (by assumption) ?_
    ·(try dsimp only at hSw); go_simp <;> (try rfl)
    simp only [Act.put, sq1, sq2, sq3]
    refine tkq (i := 3) (d := 19) (v := (.pointer (some ⟨g, o + i * 3, none⟩))) rfl rfl (Or.inl ⟨by kernel_rfl, fun w hSw => ?_⟩) (by assumption) ?_
    ·(try dsimp only at hSw); go_simp <;> (try rfl)
    simp only [Act.put, sq1, sq2, sq3]
    refine tkq (i := 4) (d := 20) (v := (.int .i64 p.sq)) rfl rfl (yields_load_at (by kernel_rfl) 2 (.tmp 19) rfl (.pointer (some ⟨g, o + i * 3, none⟩)) (by simp [Act.eval]) (.int .i64 p.sq) (fun W hW => load_one' (Try.agg_i64 W) (rangeAt.through HRx.out hW 0 _ rfl))) (by assumption) ?_
    simp only [Act.put, sq1, sq2, sq3]
    refine tkq (i := 5) (d := 21) (v := (.slice (some ⟨g', o', none⟩) k d)) rfl rfl (Or.inl ⟨by kernel_rfl, fun w hSw => ?_⟩) (by assumption) ?_
    ·(try dsimp only at hSw); go_simp <;> (try rfl)
    simp only [Act.put, sq1, sq2, sq3]
    refine tkq (i := 6) (d := 22) (v := (.int .i64 (i : Int))) rfl rfl (Or.inl ⟨by kernel_rfl, fun w hSw => ?_⟩) (by assumption) ?_
    ·(try dsimp only at hSw); go_simp <;> (try rfl)
    simp only [Act.put, sq1, sq2, sq3]
    refine tkq (i := 7) (d := 23) (v := (.pointer (some ⟨g', o' + i * 3, none⟩))) rfl rfl (Or.inl ⟨by kernel_rfl, fun w hSw => ?_⟩) (by assumption) ?_
    ·(try dsimp only at hSw); go_simp <;> (try rfl)
    simp only [Act.put, sq1, sq2, sq3]
    refine tkq (i := 8) (d := 24) (v := (.pointer (some ⟨g', o' + i * 3, none⟩))) rfl rfl (Or.inl ⟨by kernel_rfl, fun w hSw => ?_⟩) (by assumption) ?_
    ·(try dsimp only at hSw); go_simp <;> (try rfl)
    simp only [Act.put, sq1, sq2, sq3]
    refine tkq (i := 9) (d := 25) (v := (.int .i64 q.sq)) rfl rfl (yields_load_at (by kernel_rfl) 2 (.tmp 24) rfl (.pointer (some ⟨g', o' + i * 3, none⟩)) (by simp [Act.eval]) (.int .i64 q.sq) (fun W hW => load_one' (Try.agg_i64 W) (rangeAt.through HRy.out hW 0 _ rfl))) (by assumption) ?_
    simp only [Act.put, sq1, sq2, sq3]
    refine tkq (i := 10) (d := 26) (v := (.bool false)) rfl rfl (Or.inl ⟨by kernel_rfl, fun w hSw => ?_⟩) (by assumption) ?_
    ·(try dsimp only at hSw); go_simp <;> (try rfl)
    simp only [Act.put, sq1, sq2, sq3]
    refine tkq (i := 11) (d := 27) (v := (.bool false)) rfl rfl (Or.inl ⟨by kernel_rfl, fun w hSw => ?_⟩) (by assumption) ?_
    ·(try dsimp only at hSw); go_simp <;> (try rfl)
    simp only [Act.put, sq1, sq2, sq3]
    refine tkq (i := 12) (d := 28) (v := (.slice (some ⟨g, o, none⟩) k c)) rfl rfl (Or.inl ⟨by kernel_rfl, fun w hSw => ?_⟩) (by assumption) ?_
    ·(try dsimp only at hSw); go_simp <;> (try rfl)
    simp only [Act.put, sq1, sq2, sq3]
    refine tkq (i := 13) (d := 29) (v := (.int .i64 (i : Int))) rfl rfl (Or.inl ⟨by kernel_rfl, fun w hSw => ?_⟩) (by assumption) ?_
    ·(try dsimp only at hSw); go_simp <;> (try rfl)
    simp only [Act.put, sq1, sq2, sq3]
    refine tkq (i := 14) (d := 30) (v := (.pointer (some ⟨g, o + i * 3, none⟩))) rfl rfl (Or.inl ⟨by kernel_rfl, fun w hSw => ?_⟩) (by assumption) ?_
    ·(try dsimp only at hSw); go_simp <;> (try rfl)
    simp only [Act.put, sq1, sq2, sq3]
    refine tkq (i := 15) (d := 31) (v := (.pointer (some ⟨g, o + i * 3 + 1, none⟩))) rfl rfl (Or.inl ⟨by kernel_rfl, fun w hSw => ?_⟩) (by assumption) ?_
    ·(try dsimp only at hSw); go_simp <;> (try rfl)
    simp only [Act.put, sq1, sq2, sq3]
    refine tkq (i := 16) (d := 32) (v := (.int .i64 p.vw)) rfl rfl (yields_load_at (by kernel_rfl) 2 (.tmp 31) rfl (.pointer (some ⟨g, o + i * 3 + 1, none⟩)) (by simp [Act.eval]) (.int .i64 p.vw) (fun W hW => load_one' (Try.agg_i64 W) (rangeAt.through HRx.out hW 1 _ rfl))) (by assumption) ?_
    simp only [Act.put, sq1, sq2, sq3]
    refine tkq (i := 17) (d := 33) (v := (.slice (some ⟨g', o', none⟩) k d)) rfl rfl (Or.inl ⟨by kernel_rfl, fun w hSw => ?_⟩) (by assumption) ?_
    ·(try dsimp only at hSw); go_simp <;> (try rfl)
    simp only [Act.put, sq1, sq2, sq3]
    refine tkq (i := 18) (d := 34) (v := (.int .i64 (i : Int))) rfl rfl (Or.inl ⟨by kernel_rfl, fun w hSw => ?_⟩) (by assumption) ?_
    ·(try dsimp only at hSw); go_simp <;> (try rfl)
    simp only [Act.put, sq1, sq2, sq3]
    refine tkq (i := 19) (d := 35) (v := (.pointer (some ⟨g', o' + i * 3, none⟩))) rfl rfl (Or.inl ⟨by kernel_rfl, fun w hSw => ?_⟩) (by assumption) ?_
    ·(try dsimp only at hSw); go_simp <;> (try rfl)
    simp only [Act.put, sq1, sq2, sq3]
    refine tkq (i := 20) (d := 36) (v := (.pointer (some ⟨g', o' + i * 3 + 1, none⟩))) rfl rfl (Or.inl ⟨by kernel_rfl, fun w hSw => ?_⟩) (by assumption) ?_
    ·(try dsimp only at hSw); go_simp <;> (try rfl)
    simp only [Act.put, sq1, sq2, sq3]
    refine tkq (i := 21) (d := 37) (v := (.int .i64 q.vw)) rfl rfl (yields_load_at (by kernel_rfl) 2 (.tmp 36) rfl (.pointer (some ⟨g', o' + i * 3 + 1, none⟩)) (by simp [Act.eval]) (.int .i64 q.vw) (fun W hW => load_one' (Try.agg_i64 W) (rangeAt.through HRy.out hW 1 _ rfl))) (by assumption) ?_
    simp only [Act.put, sq1, sq2, sq3]
    refine tkq (i := 22) (d := 38) (v := (.bool false)) rfl rfl (Or.inl ⟨by kernel_rfl, fun w hSw => ?_⟩) (by assumption) ?_
    ·(try dsimp only at hSw); go_simp <;> (try rfl)
    simp only [Act.put, sq1, sq2, sq3]
    refine tkq (i := 23) (d := 39) (v := (.bool false)) rfl rfl (Or.inl ⟨by kernel_rfl, fun w hSw => ?_⟩) (by assumption) ?_
    ·(try dsimp only at hSw); go_simp <;> (try rfl)
    simp only [Act.put, sq1, sq2, sq3]
    refine tkq (i := 24) (d := 40) (v := (.bool false)) rfl rfl (Or.inl ⟨by kernel_rfl, fun w hSw => ?_⟩) (by assumption) ?_
    ·(try dsimp only at hSw); go_simp <;> (try rfl)
    simp only [Act.put, sq1, sq2, sq3]
    refine tkq (i := 25) (d := 41) (v := (.slice (some ⟨g, o, none⟩) k c)) rfl rfl (Or.inl ⟨by kernel_rfl, fun w hSw => ?_⟩) (by assumption) ?_
    ·(try dsimp only at hSw); go_simp <;> (try rfl)
    simp only [Act.put, sq1, sq2, sq3]
    refine tkq (i := 26) (d := 42) (v := (.int .i64 (i : Int))) rfl rfl (Or.inl ⟨by kernel_rfl, fun w hSw => ?_⟩) (by assumption) ?_
    ·(try dsimp only at hSw); go_simp <;> (try rfl)
    simp only [Act.put, sq1, sq2, sq3]
    refine tkq (i := 27) (d := 43) (v := (.pointer (some ⟨g, o + i * 3, none⟩))) rfl rfl (Or.inl ⟨by kernel_rfl, fun w hSw => ?_⟩) (by assumption) ?_
    ·(try dsimp only at hSw); go_simp <;> (try rfl)
    simp only [Act.put, sq1, sq2, sq3]
    refine tkq (i := 28) (d := 44) (v := (.pointer (some ⟨g, o + i * 3 + 2, none⟩))) rfl rfl (Or.inl ⟨by kernel_rfl, fun w hSw => ?_⟩) (by assumption) ?_
    ·(try dsimp only at hSw); go_simp <;> (try rfl)
    simp only [Act.put, sq1, sq2, sq3]
    refine tkq (i := 29) (d := 45) (v := (.slice B m e)) rfl rfl (yields_load_at (by kernel_rfl) 53 (.tmp 44) rfl (.pointer (some ⟨g, o + i * 3 + 2, none⟩)) (by simp [Act.eval]) (.slice B m e) (fun W hW => load_one' (Try.agg_es W) (rangeAt.through HRx.out hW 2 _ rfl))) (by assumption) ?_
    simp only [Act.put, sq1, sq2, sq3]
    refine tkq (i := 30) (d := 46) (v := (.slice (some ⟨g', o', none⟩) k d)) rfl rfl (Or.inl ⟨by kernel_rfl, fun w hSw => ?_⟩) (by assumption) ?_
    ·(try dsimp only at hSw); go_simp <;> (try rfl)
    simp only [Act.put, sq1, sq2, sq3]
    refine tkq (i := 31) (d := 47) (v := (.int .i64 (i : Int))) rfl rfl (Or.inl ⟨by kernel_rfl, fun w hSw => ?_⟩) (by assumption) ?_
    ·(try dsimp only at hSw); go_simp <;> (try rfl)
    simp only [Act.put, sq1, sq2, sq3]
    refine tkq (i := 32) (d := 48) (v := (.pointer (some ⟨g', o' + i * 3, none⟩))) rfl rfl (Or.inl ⟨by kernel_rfl, fun w hSw => ?_⟩) (by assumption) ?_
    ·(try dsimp only at hSw); go_simp <;> (try rfl)
    simp only [Act.put, sq1, sq2, sq3]
    refine tkq (i := 33) (d := 49) (v := (.pointer (some ⟨g', o' + i * 3 + 2, none⟩))) rfl rfl (Or.inl ⟨by kernel_rfl, fun w hSw => ?_⟩) (by assumption) ?_
    ·(try dsimp only at hSw); go_simp <;> (try rfl)
    simp only [Act.put, sq1, sq2, sq3]
    refine tkq (i := 34) (d := 50) (v := (.slice B' m' e')) rfl rfl (yields_load_at (by kernel_rfl) 53 (.tmp 49) rfl (.pointer (some ⟨g', o' + i * 3 + 2, none⟩)) (by simp [Act.eval]) (.slice B' m' e') (fun W hW => load_one' (Try.agg_es W) (rangeAt.through HRy.out hW 2 _ rfl))) (by assumption) ?_
    simp only [Act.put, sq1, sq2, sq3]
    refine wpAnyH_ready (rs := [35]) (by kernel_rfl) (by simp) ?_
    refine AllReadyH.cons rfl (fun K hK => ?_) AllReadyH.nil
    go_simp
    refine (HSm.out _ hHeld).mono ?_
    rintro e9 wz ⟨rfl, hbz⟩; have HKz := Lib.hid (below_step hHeld hbz); clear hbz
    go_wp2_with fail
    refine hK.out _ _ HKz.out (fun hHeld1 => ?_)
    clear hHeld hK K
    have hHeld := hHeld1
    clear hHeld1
    refine tkq (i := 36) (d := 52) (v := (.bool false)) rfl rfl (Or.inl ⟨by kernel_rfl, fun w hSw => ?_⟩) (by assumption) ?_
    ·(try dsimp only at hSw); go_simp <;> (try rfl)
    simp only [Act.put, sq1, sq2, sq3]
    refine tkq (i := 37) (d := 53) (v := (.bool false)) rfl rfl (Or.inl ⟨by kernel_rfl, fun w hSw => ?_⟩) (by assumption) ?_
    ·(try dsimp only at hSw); go_simp <;> (try rfl)
    simp only [Act.put, sq1, sq2, sq3]
    refine wpAnyH_done (by kernel_rfl) ?_ _
    have HKk := Lib.hid hHeld
    clear hHeld
    go_wp2
    go_roundw
    case rel => exact ⟨i + 1, by omega, by go_num, HV.out, below_step HX.out HKk.out⟩
    case measure => simp [intOf]; omega
  ·have e : ps.drop i = [] := List.drop_of_length_le (by have := HLn.out; omega)
   have e' : qs.drop i = [] := List.drop_of_length_le (by have := HLm.out; omega)
   rw [e, e'] at hp
   have HV : Hid (bb = true) := Lib.hid hp
   clear hp e e'
   go_wp2
   go_ret
   exact ⟨ret_bo HV.out.symm, HX.out⟩

end Go.Proofs.Ytheecifgbkdecaa
