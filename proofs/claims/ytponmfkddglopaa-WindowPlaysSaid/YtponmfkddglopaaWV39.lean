/-
  Joined: WnI.
-/
import Derived.Deep.RegionHeld
import Derived.BigGuard
import Derived.Test.YtponmfkddglopaaWV35
import Derived.Test.YtponmfkddglopaaWVT
namespace Go.Proofs.Ytponmfkddglopaa
open Go.RowKit

set_option maxHeartbeats 16000000 in
set_option maxRecDepth 100000 in
theorem rin_any (L : Nat) (n low q : Int) (sv tv : Value) (w : World) (h : Blk w L 38 (lgC n low sv tv)) (h0 : 0 ≤ low) (h1 : low ≤ 1048576) :
  Calls Try.prog 18 #[(.pointer (some ⟨L, 0, none⟩)), .int .i64 q] w fun e w' => e = .returned (.bool (decide (low < q) && decide (q ≤ low + 8) && decide (q ≤ 1048576))) ∧ w' = w := by
 have k1 : w.cell? ⟨L, 1, none⟩ = some (.int .i64 low) := h.cellAt rfl
 have hw64 : IntKind.i64.wrap (low + 8) = low + 8 := IntWalk.i64_in _ (by omega)
 have hw65 : wrap64 (low + 8) = low + 8 := IntWalk.wrap64_in _ (by omega)
 clear h
 by_cases a1 : low < q
 ·by_cases a2 : q ≤ low + 8
  ·by_cases a3 : q ≤ 1048576
   ·go_enter Try.func18, Try.ntmps18
    go_wp2
    go_ret
    exact ⟨by first | (simp [a1, a2, a3]; done) | (simp; omega), rfl⟩
   ·go_enter Try.func18, Try.ntmps18
    go_wp2
    go_ret
    exact ⟨by first | (simp [a1, a2, a3]; done) | (simp; omega), rfl⟩
  ·go_enter Try.func18, Try.ntmps18
   go_wp2
   go_ret
   exact ⟨by first | (simp [a1, a2]; done) | (simp; omega), rfl⟩
 ·go_enter Try.func18, Try.ntmps18
  go_wp2
  go_ret
  exact ⟨by first | (simp [a1]; done) | (simp; omega), rfl⟩
set_option maxHeartbeats 16000000 in
set_option maxRecDepth 100000 in
theorem rclear_any (L : Nat) (n low : Int) (sv tv : Value) (w : World) (h : Blk w L 38 (lgC n low sv tv)) :
  Calls Try.prog 17 #[(.pointer (some ⟨L, 0, none⟩))] w fun e w' => e = .returned (.tuple #[]) ∧ Blk w' L 38 (lgC n low (.slice none 0 0) (.slice none 0 0)) ∧ Ft (fun q => q = L) w w' := by
 have HB := Lib.hid h
 clear h
 go_enter Try.func17, Try.ntmps17
 go_wp2_with (first
  | (refine wpList_store_cell rfl 33 (.tmp 5) _ rfl L 2 rfl (.slice none 0 0) rfl rfl rfl Try.sz_qs 38 (lgC n low sv tv) HB.out (by simp [lgC]) ?_; intro w1 hb9 hg9; have HBw1 : Hid (Blk w1 L 38 (lgC n low (.slice none 0 0) tv)) := Lib.hid hb9; have HGw1 := Lib.hid hg9; clear hb9 hg9)
  | (refine wpList_store_cell rfl 36 (.tmp 7) _ rfl L 3 rfl (.slice none 0 0) rfl rfl rfl Try.sz_ps 38 (lgC n low (.slice none 0 0) tv) HBw1.out (by simp [lgC]) ?_; intro w2 hb9 hg9; have HBw2 : Hid (Blk w2 L 38 (lgC n low (.slice none 0 0) (.slice none 0 0))) := Lib.hid hb9; have HGw2 := Lib.hid hg9; clear hb9 hg9))
 go_end0
 exact ⟨rfl, HBw2.out, (Ft.of_grown HGw1.out (fun _ hb => .inl (Option.some.inj hb).symm)).trans (D' := fun q => q = L) (Ft.of_grown HGw2.out (fun _ hb => .inl (Option.some.inj hb).symm)) (fun _ hq => .inl hq)⟩
set_option maxHeartbeats 16000000 in
set_option maxRecDepth 100000 in
theorem rsameseqs_any (a b : List Int) (A : Option Addr) (k c : Nat) (B : Option Addr) (m d : Nat) (w : World) (h : QIn w A k a) (h' : QIn w B m b) (hk : k ≤ 9223372036854775807) :
  Calls Try.prog 19 #[.slice A k c, .slice B m d] w fun e w' => e = .returned (.bool (a == b)) ∧ Below w.heap.size w w' := by
 have HI := Lib.hid h
 have HJ := Lib.hid h'
 obtain ⟨bb, hbb⟩ : ∃ bb, (a == b) = bb := ⟨_, rfl⟩
 rw [hbb]
 by_cases s2 : k = m
 case neg =>
  have s2i : ¬ (k : Int) = (m : Int) := by omega
  have s2b : ((k : Int) == (m : Int)) = false := by simpa using s2i
  have s2d : ((k : Int) != (m : Int)) = true := by simpa using s2i
  have s2c : (k == m) = false := by simpa using s2
  have s2e : (k != m) = true := by simpa using s2
  have HV : Hid (bb = false) := Lib.hid (by rw [← hbb, beq_eq_false_iff_ne]; intro h9; exact s2 (by rw [← h.len, ← h'.len, h9]))
  clear h h' hbb s2 s2i
  go_enter Try.func19, Try.ntmps19
  go_wp2
  go_ret
  exact ⟨ret_bo HV.out.symm, Below.refl _ _⟩
 subst s2
 have HLn := Lib.hid h.len
 have HLm := Lib.hid h'.len
 have HB0 : Hid (bb = (a.drop 0 == b.drop 0)) := Lib.hid (by rw [List.drop_zero, List.drop_zero]; exact hbb.symm)
 clear h h' hbb
 go_enter Try.func19, Try.ntmps19
 go_wp2
 go_loopw [13] (fun iv wr => ∃ i : Nat, i ≤ k ∧ iv = .int .i64 (i : Int) ∧ bb = (a.drop i == b.drop i) ∧ Below w.heap.size w wr) (fun iv _ => k - (intOf iv).toNat)
 case atStart => exact ⟨0, Nat.zero_le _, rfl, HB0.out, Below.refl _ _⟩
 case round =>
  obtain ⟨i, hi, rfl, hp, hx⟩ := hrel
  have HX := Lib.hid hx
  clear hx
  by_cases hlt : i < k
  ·obtain ⟨g, o, x, rfl, _, hd, hcx⟩ := (HI.out.through HX.out).at hlt
   obtain ⟨g', o', y, rfl, _, hd', hcy⟩ := (HJ.out.through HX.out).at hlt
   rw [hd, hd', List.cons_beq_cons] at hp
   have hix := fun (W : World) => Try.ix_qs W g o k c i hlt
   have hix' := fun (W : World) => Try.ix_qs W g' o' k d i hlt
   have HCx := Lib.hid hcx
   have HCy := Lib.hid hcy
   cases s0 : x == y with
   | false =>
    have hne : (x != y) = true := by simpa using s0
    have HV : Hid (bb = false) := Lib.hid (by rw [hp, s0]; rfl)
    clear hp hd hd' s0 hcx hcy
    go_wp2
    try dsimp only [Act.put]
    refine wp_region_held_drew (S := fun W => Below wr.heap.size wr W) (by kernel_rfl) (Below.refl _ _).drew (fun hHeld => ?_)
    change wpAnyH _ _ _ _ _ _ #[false, false, false, false, false, false, false, false, false] _ _
    refine tkq (i := 0) (d := 16) (v := (.slice (some ⟨g, o, none⟩) k c)) rfl rfl (Or.inl ⟨by kernel_rfl, fun w hSw => ?_⟩) (by assumption) ?_
    ·(try dsimp only at hSw); go_simp <;> (try rfl)
    simp only [Act.put, sq1, sq2, sq3]
    refine tkq (i := 1) (d := 17) (v := (.int .i64 (i : Int))) rfl rfl (Or.inl ⟨by kernel_rfl, fun w hSw => ?_⟩) (by assumption) ?_
    ·(try dsimp only at hSw); go_simp <;> (try rfl)
    simp only [Act.put, sq1, sq2, sq3]
    refine tkq (i := 2) (d := 18) (v := (.pointer (some ⟨g, o + i, none⟩))) rfl rfl (Or.inl ⟨by kernel_rfl, fun w hSw => ?_⟩) (by assumption) ?_
    ·(try dsimp only at hSw); go_simp <;> (try rfl)
    simp only [Act.put, sq1, sq2, sq3]
    refine tkq (i := 3) (d := 19) (v := (.int .i64 x)) rfl rfl (yields_load_at (by kernel_rfl) 2 (.tmp 18) rfl (.pointer (some ⟨g, o + i, none⟩)) (by simp [Act.eval]) (.int .i64 x) (fun W hW => load_one' (Try.agg_i64 W) ((hW.cell (World.block_lt_of_cell? _ ⟨g, o + i, none⟩ HCx.out)).trans HCx.out))) (by assumption) ?_
    simp only [Act.put, sq1, sq2, sq3]
    refine tkq (i := 4) (d := 20) (v := (.slice (some ⟨g', o', none⟩) k d)) rfl rfl (Or.inl ⟨by kernel_rfl, fun w hSw => ?_⟩) (by assumption) ?_
    ·(try dsimp only at hSw); go_simp <;> (try rfl)
    simp only [Act.put, sq1, sq2, sq3]
    refine tkq (i := 5) (d := 21) (v := (.int .i64 (i : Int))) rfl rfl (Or.inl ⟨by kernel_rfl, fun w hSw => ?_⟩) (by assumption) ?_
    ·(try dsimp only at hSw); go_simp <;> (try rfl)
    simp only [Act.put, sq1, sq2, sq3]
    refine tkq (i := 6) (d := 22) (v := (.pointer (some ⟨g', o' + i, none⟩))) rfl rfl (Or.inl ⟨by kernel_rfl, fun w hSw => ?_⟩) (by assumption) ?_
    ·(try dsimp only at hSw); go_simp <;> (try rfl)
    simp only [Act.put, sq1, sq2, sq3]
    refine tkq (i := 7) (d := 23) (v := (.int .i64 y)) rfl rfl (yields_load_at (by kernel_rfl) 2 (.tmp 22) rfl (.pointer (some ⟨g', o' + i, none⟩)) (by simp [Act.eval]) (.int .i64 y) (fun W hW => load_one' (Try.agg_i64 W) ((hW.cell (World.block_lt_of_cell? _ ⟨g', o' + i, none⟩ HCy.out)).trans HCy.out))) (by assumption) ?_
    simp only [Act.put, sq1, sq2, sq3]
    refine tkq (i := 8) (d := 24) (v := (.bool true)) rfl rfl (Or.inl ⟨by kernel_rfl, fun w hSw => ?_⟩) (by assumption) ?_
    ·(try dsimp only at hSw); go_simp <;> (try rfl)
    simp only [Act.put, sq1, sq2, sq3]
    refine wpAnyH_done (by kernel_rfl) ?_ _
    have HXe : Hid (Below w.heap.size w _) := Lib.hid (below_step HX.out hHeld)
    clear hHeld
    go_wp2
    go_ret
    exact ⟨ret_bo HV.out.symm, HXe.out⟩
   | true =>
    have hne : (x != y) = false := by simpa using s0
    have HV : Hid (bb = (a.drop (i + 1) == b.drop (i + 1))) := Lib.hid (by rw [hp, s0]; rfl)
    clear hp hd hd' s0 hcx hcy
    go_wp2
    try dsimp only [Act.put]
    refine wp_region_held_drew (S := fun W => Below wr.heap.size wr W) (by kernel_rfl) (Below.refl _ _).drew (fun hHeld => ?_)
    change wpAnyH _ _ _ _ _ _ #[false, false, false, false, false, false, false, false, false] _ _
    refine tkq (i := 0) (d := 16) (v := (.slice (some ⟨g, o, none⟩) k c)) rfl rfl (Or.inl ⟨by kernel_rfl, fun w hSw => ?_⟩) (by assumption) ?_
    ·(try dsimp only at hSw); go_simp <;> (try rfl)
    simp only [Act.put, sq1, sq2, sq3]
    refine tkq (i := 1) (d := 17) (v := (.int .i64 (i : Int))) rfl rfl (Or.inl ⟨by kernel_rfl, fun w hSw => ?_⟩) (by assumption) ?_
    ·(try dsimp only at hSw); go_simp <;> (try rfl)
    simp only [Act.put, sq1, sq2, sq3]
    refine tkq (i := 2) (d := 18) (v := (.pointer (some ⟨g, o + i, none⟩))) rfl rfl (Or.inl ⟨by kernel_rfl, fun w hSw => ?_⟩) (by assumption) ?_
    ·(try dsimp only at hSw); go_simp <;> (try rfl)
    simp only [Act.put, sq1, sq2, sq3]
    refine tkq (i := 3) (d := 19) (v := (.int .i64 x)) rfl rfl (yields_load_at (by kernel_rfl) 2 (.tmp 18) rfl (.pointer (some ⟨g, o + i, none⟩)) (by simp [Act.eval]) (.int .i64 x) (fun W hW => load_one' (Try.agg_i64 W) ((hW.cell (World.block_lt_of_cell? _ ⟨g, o + i, none⟩ HCx.out)).trans HCx.out))) (by assumption) ?_
    simp only [Act.put, sq1, sq2, sq3]
    refine tkq (i := 4) (d := 20) (v := (.slice (some ⟨g', o', none⟩) k d)) rfl rfl (Or.inl ⟨by kernel_rfl, fun w hSw => ?_⟩) (by assumption) ?_
    ·(try dsimp only at hSw); go_simp <;> (try rfl)
    simp only [Act.put, sq1, sq2, sq3]
    refine tkq (i := 5) (d := 21) (v := (.int .i64 (i : Int))) rfl rfl (Or.inl ⟨by kernel_rfl, fun w hSw => ?_⟩) (by assumption) ?_
    ·(try dsimp only at hSw); go_simp <;> (try rfl)
    simp only [Act.put, sq1, sq2, sq3]
    refine tkq (i := 6) (d := 22) (v := (.pointer (some ⟨g', o' + i, none⟩))) rfl rfl (Or.inl ⟨by kernel_rfl, fun w hSw => ?_⟩) (by assumption) ?_
    ·(try dsimp only at hSw); go_simp <;> (try rfl)
    simp only [Act.put, sq1, sq2, sq3]
    refine tkq (i := 7) (d := 23) (v := (.int .i64 y)) rfl rfl (yields_load_at (by kernel_rfl) 2 (.tmp 22) rfl (.pointer (some ⟨g', o' + i, none⟩)) (by simp [Act.eval]) (.int .i64 y) (fun W hW => load_one' (Try.agg_i64 W) ((hW.cell (World.block_lt_of_cell? _ ⟨g', o' + i, none⟩ HCy.out)).trans HCy.out))) (by assumption) ?_
    simp only [Act.put, sq1, sq2, sq3]
    refine tkq (i := 8) (d := 24) (v := (.bool false)) rfl rfl (Or.inl ⟨by kernel_rfl, fun w hSw => ?_⟩) (by assumption) ?_
    ·(try dsimp only at hSw); go_simp <;> (try rfl)
    simp only [Act.put, sq1, sq2, sq3]
    refine wpAnyH_done (by kernel_rfl) ?_ _
    have HXe : Hid (Below w.heap.size w _) := Lib.hid (below_step HX.out hHeld)
    clear hHeld
    go_wp2
    go_roundw
    case rel => exact ⟨i + 1, by omega, by go_num, HV.out, HXe.out⟩
    case measure => simp [intOf]; omega
  ·have e : a.drop i = [] := List.drop_of_length_le (by have := HLn.out; omega)
   have e' : b.drop i = [] := List.drop_of_length_le (by have := HLm.out; omega)
   rw [e, e'] at hp
   have HV : Hid (bb = true) := Lib.hid hp
   clear hp e e'
   go_wp2
   go_ret
   exact ⟨ret_bo HV.out.symm, HX.out⟩


end Go.Proofs.Ytponmfkddglopaa
