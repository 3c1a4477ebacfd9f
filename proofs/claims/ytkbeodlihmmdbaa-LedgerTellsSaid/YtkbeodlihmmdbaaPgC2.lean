/-
  The program's put, for letters and for outcomes.
-/
import Derived.Test.YtkbeodlihmmdbaaPgC1
namespace Go.Proofs.Ytkbeodlihmmdbaa
open Go.RowKit

set_option maxHeartbeats 8000000 in
set_option maxRecDepth 100000 in
theorem putL_any (ls : List Lt) (A : Option Addr) (n c : Nat) (x : Lt) (w : World) (h : Sl w 6 A n (ls.map Lt.cells)) (hn : n ≤ 1000) (hnc : n ≤ c) :
    Calls Try.prog 27 #[.slice A n c, .agg #[.string (ba x.nm), .int .i64 x.st, .int .i64 x.am, .int .i64 x.du, .string (ba x.po), .string (ba x.pa)], .func (.func 28) #[] #[]] w (SlOut w 6 ((putP (fun y : Lt => cmpS y.nm x.nm) x ls).map Lt.cells)) := by
  have hlen : ls.length = n := by simpa using h.len
  have hpl : ∀ W, Below w.heap.size w W → Calls Try.prog 65 #[.slice A n c, .string (ba x.nm), .func (.func 28) #[] #[]] W fun e w' => e = .returned (.tuple #[.int .i64 ((plc (fun y : Lt => cmpS y.nm x.nm) ls).1 : Nat), .bool (plc (fun y : Lt => cmpS y.nm x.nm) ls).2]) ∧ Below W.heap.size W w' := fun W hW => placeL_any ls A n c _ W (h.through hW) (by omega)
  have hle := plc_le (fun y : Lt => cmpS y.nm x.nm) ls
  have hlt : (plc (fun y : Lt => cmpS y.nm x.nm) ls).2 = true → (plc (fun y : Lt => cmpS y.nm x.nm) ls).1 < n := fun hf => by
    obtain ⟨y, hy, _⟩ := plc_lt hf
    have := (List.getElem?_eq_some_iff.1 hy).1
    omega
  have hp : putP (fun y : Lt => cmpS y.nm x.nm) x ls = ls.take (plc (fun y : Lt => cmpS y.nm x.nm) ls).1 ++ [x] ++ ls.drop (if (plc (fun y : Lt => cmpS y.nm x.nm) ls).2 then (plc (fun y : Lt => cmpS y.nm x.nm) ls).1 + 1 else (plc (fun y : Lt => cmpS y.nm x.nm) ls).1) := rfl
  generalize putP (fun y : Lt => cmpS y.nm x.nm) x ls = r at *
  generalize (plc (fun y : Lt => cmpS y.nm x.nm) ls).1 = i at *
  rw [hlen] at hle
  have hT := h.to_ hle
  rw [← List.map_take] at hT
  have hsz : ∀ W, (sizeOf 27).run Try.prog W = .ok 6 W := fun W => by kernel_rfl
  have hel : Try.prog.elem 22 = 27 := by kernel_rfl
  have hs0 : ∀ W, (Instr.slice 22 (.slice A n c) none (some (.int .i64 (i : Int))) none).run Try.prog W = .ok (.slice A i c) W := fun W => by
    rw [run_slice_h (P := Try.prog) (w := W) 22 A n c Try.underlying22 .i64 i (by omega) (by omega), hel, hsz]
    have e0 : A.map (fun a => a.add (0 * 6)) = A := by cases A <;> simp [Addr.add]
    simp only [Result.andThen_ok, sliced, e0]
    simp
  have hs1 : ∀ (j : Nat) W, j ≤ n → (Instr.slice 22 (.slice A n c) (some (.int .i64 (j : Int))) none none).run Try.prog W = .ok (.slice (if c = j then A else A.map (·.add (j * 6))) (n - j) (c - j)) W := fun j W hj => by
    rw [run_slice_l (P := Try.prog) (w := W) 22 A n c Try.underlying22 .i64 j (by omega) (by omega), hel, hsz]
    simp only [Result.andThen_ok, sliced, Int.toNat_natCast]
  have HT := Lib.hid hT
  obtain ⟨A3, hA3, hD⟩ := h.from_ hle hnc
  rw [← List.map_drop] at hD
  have hs2 := fun W => hs1 i W hle
  rw [hA3] at hs2
  cases hf : (plc (fun y : Lt => cmpS y.nm x.nm) ls).2 with
  | true =>
    have hi1 := hlt hf
    obtain ⟨A4, hA4, hD⟩ := h.from_ (i := i + 1) hi1 hnc
    rw [← List.map_drop] at hD
    have HD := Lib.hid hD
    have hs3 := fun W => hs1 (i + 1) W hi1
    rw [hA4] at hs3
    have hs4 : ∀ W, (Instr.slice 22 (.slice A n c) (some (.int .i64 ((i : Int) + 1))) none none).run Try.prog W = .ok (.slice A4 (n - (i + 1)) (c - (i + 1))) W := hs3
    have hwr : IntKind.i64.wrap ((i : Int) + 1) = (i : Int) + 1 := IntWalk.i64_in _ (by omega)
    rw [hf] at hpl hp
    have HPl := Lib.hid hpl
    have HP := Lib.hid hp
    clear hpl hp hf hD hA4 hs3 hA3 hs1 hel hsz hlt h hT hlen
    go_enter Try.func27, Try.ntmps27
    go_wp2_with (first
      | (go_at_call 28; (with_reducible refine (nameof_any x _).mono ?_); rintro e w1 ⟨rfl, hb1⟩; have HX1 : Hid (Below w.heap.size w w1) := Lib.hid ((below1 w _).trans (hb1.mono (by simp))); have H1 : Hid (Blk w1 w.heap.size 27 [.string (ba x.nm), .int .i64 x.st, .int .i64 x.am, .int .i64 x.du, .string (ba x.po), .string (ba x.pa)]) := Lib.hid ((Blk.fresh rfl rfl : Blk (w.alloc (.cells #[.string (ba x.nm), .int .i64 x.st, .int .i64 x.am, .int .i64 x.du, .string (ba x.po), .string (ba x.pa)] 27)) w.heap.size 27 [.string (ba x.nm), .int .i64 x.st, .int .i64 x.am, .int .i64 x.du, .string (ba x.po), .string (ba x.pa)]).through hb1); clear hb1)
      | (go_at_call 65; (with_reducible refine (HPl.out _ HX1.out).mono ?_); rintro e w2 ⟨rfl, hb2⟩; have HX2 : Hid (Below w.heap.size w w2) := Lib.hid (below_step HX1.out hb2); have H2 := Lib.hid (H1.out.through hb2); clear hb2))
    refine wp_region_held_drew (S := fun W => Below w2.heap.size w2 W) (by kernel_rfl) (Below.refl _ _).drew (fun hHeld => ?_)
    change wpAnyH _ _ _ _ _ _ #[false, false, false, false, false, false, false, false, false] _ _
    refine wpAnyH_take (i := 0) (v := (.slice A n c)) rfl (by kernel_rfl) (by kernel_rfl) (by kernel_rfl) (fun _ _ _ h => h) (Or.inl ⟨by kernel_rfl, fun w hSw => ?_⟩) (by assumption) ?_
    · (try dsimp only at hSw); go_simp <;> (try rfl)
    change wpAnyH _ _ _ _ _ _ _ (Act.put _ (some (27 : Nat)) (.slice A n c)) _
    simp only [Act.put, List.setIfInBounds_toArray, List.set_cons_zero, List.set_cons_succ]
    refine wpAnyH_take (i := 1) (v := (.int .i64 (i : Int))) rfl (by kernel_rfl) (by kernel_rfl) (by kernel_rfl) (fun _ _ _ h => h) (Or.inl ⟨by kernel_rfl, fun w hSw => ?_⟩) (by assumption) ?_
    · (try dsimp only at hSw); go_simp <;> (try rfl)
    change wpAnyH _ _ _ _ _ _ _ (Act.put _ (some (28 : Nat)) (.int .i64 (i : Int))) _
    simp only [Act.put, List.setIfInBounds_toArray, List.set_cons_zero, List.set_cons_succ]
    refine wpAnyH_take (i := 2) (v := (.slice A i c)) rfl (by kernel_rfl) (by kernel_rfl) (by kernel_rfl) (fun _ _ _ h => h) (Or.inl ⟨by kernel_rfl, fun w hSw => ?_⟩) (by assumption) ?_
    · (try dsimp only at hSw); go_simp <;> (try rfl)
    change wpAnyH _ _ _ _ _ _ _ (Act.put _ (some (29 : Nat)) (.slice A i c)) _
    simp only [Act.put, List.setIfInBounds_toArray, List.set_cons_zero, List.set_cons_succ]
    refine wpAnyH_take (i := 3) (v := (.agg #[.string (ba x.nm), .int .i64 x.st, .int .i64 x.am, .int .i64 x.du, .string (ba x.po), .string (ba x.pa)])) rfl (by kernel_rfl) (by kernel_rfl) (by kernel_rfl) (fun _ _ _ h => h) (yields_load_at (by kernel_rfl) 27 (.tmp 4) rfl (.pointer (some ⟨w.heap.size, 0, none⟩)) (by simp [Act.eval]) (.agg #[.string (ba x.nm), .int .i64 x.st, .int .i64 x.am, .int .i64 x.du, .string (ba x.po), .string (ba x.pa)]) (fun W hW => (H2.out.through hW).loadAt 27 _ Try.underlying27 rfl (by kernel_rfl))) (by assumption) ?_
    change wpAnyH _ _ _ _ _ _ _ (Act.put _ (some (30 : Nat)) (.agg #[.string (ba x.nm), .int .i64 x.st, .int .i64 x.am, .int .i64 x.du, .string (ba x.po), .string (ba x.pa)])) _
    simp only [Act.put, List.setIfInBounds_toArray, List.set_cons_zero, List.set_cons_succ]
    refine wpAnyH_take (i := 5) (v := (.slice A4 (n - (i + 1)) (c - (i + 1)))) rfl (by kernel_rfl) (by kernel_rfl) (by kernel_rfl) (fun _ _ _ h => h) (Or.inl ⟨by kernel_rfl, fun w hSw => ?_⟩) (by assumption) ?_
    · (try dsimp only at hSw); go_simp <;> (try rfl)
    change wpAnyH _ _ _ _ _ _ _ (Act.put _ (some (32 : Nat)) (.slice A4 (n - (i + 1)) (c - (i + 1)))) _
    simp only [Act.put, List.setIfInBounds_toArray, List.set_cons_zero, List.set_cons_succ]
    refine wpAnyH_ready (rs := [4]) (by kernel_rfl) (by simp) ?_
    refine AllReadyH.cons (o := ⟨some 31, .buildSlice 22 1 #[(0, .tmp 30)], _, _, _, none⟩) rfl (fun K hK => ?_) AllReadyH.nil
    refine step_build_el_w rfl Try.el_lt (.tmp 30) rfl [.string (ba x.nm), .int .i64 x.st, .int .i64 x.am, .int .i64 x.du, .string (ba x.po), .string (ba x.pa)] rfl rfl ?_; intro gx wx hbx hkx; have HBx := Lib.hid hbx; have HKx := Lib.hid hkx; clear hbx hkx
    refine hK.out _ _ (below_step hHeld HKx.out) (fun hHeld1 => ?_)
    clear hHeld hK K
    have hHeld := hHeld1
    clear hHeld1
    change wpAnyH _ _ _ _ _ _ _ (Act.put _ (some (31 : Nat)) (.slice (some ⟨gx, 0, none⟩) 1 1)) _
    simp only [Act.put, List.setIfInBounds_toArray, List.set_cons_zero, List.set_cons_succ]
    refine wpAnyH_ready (rs := [6]) (by kernel_rfl) (by simp) ?_
    refine AllReadyH.cons (o := ⟨some 33, .buildSlice 106 3 #[(0, .tmp 29), (1, .tmp 31), (2, .tmp 32)], _, _, _, none⟩) rfl (fun K hK => ?_) AllReadyH.nil
    refine step_build_three_w rfl 106 22 (.tmp 29) (.tmp 31) (.tmp 32) rfl (.slice A i c) (.slice (some ⟨gx, 0, none⟩) 1 1) (.slice A4 (n - (i + 1)) (c - (i + 1))) rfl rfl rfl (by kernel_rfl) ?_; intro gb wb hbb hkb; have HBb := Lib.hid hbb; have HKb := Lib.hid hkb; clear hbb hkb
    refine hK.out _ _ (below_step hHeld HKb.out) (fun hHeld1 => ?_)
    clear hHeld hK K
    have hHeld := hHeld1
    clear hHeld1
    change wpAnyH _ _ _ _ _ _ _ (Act.put _ (some (33 : Nat)) (.slice (some ⟨gb, 0, none⟩) 3 3)) _
    simp only [Act.put, List.setIfInBounds_toArray, List.set_cons_zero, List.set_cons_succ]
    refine wpAnyH_ready (rs := [7]) (by kernel_rfl) (by simp) ?_
    refine AllReadyH.cons rfl (fun K hK => ?_) AllReadyH.nil
    go_simp
    refine (concatL_any gb A (some ⟨gx, 0, none⟩) A4 i 1 (n - (i + 1)) c 1 (c - (i + 1)) (ls.take i) [x] (ls.drop (i + 1)) wb HBb.out (HT.out.through (below_step HX2.out hHeld)) (Sl.one_ (HBx.out.through HKb.out)) (HD.out.through (below_step HX2.out hHeld)) (by omega) (by omega)).mono ?_
    rintro e w7 ⟨A7, n7, c7, rfl, hs7, hc7, hb7, hf7⟩; have HS7 := Lib.hid hs7; have HX7 := Lib.hid hb7; have HF7 := Lib.hid hf7; have HWb := Lib.hid hHeld; clear hs7 hb7 hf7
    go_wp2_with fail
    refine hK.out _ _ (below_step hHeld HX7.out) (fun hHeld1 => ?_)
    clear hHeld hK K
    have hHeld := hHeld1
    clear hHeld1
    refine wpAnyH_take (i := 8) (v := (.slice A7 n7 c7)) rfl (by kernel_rfl) (by kernel_rfl) (by kernel_rfl) (fun _ _ _ h => h) (Or.inl ⟨by kernel_rfl, fun w hSw => ?_⟩) (by assumption) ?_
    · (try dsimp only at hSw); go_simp <;> (try rfl)
    change wpAnyH _ _ _ _ _ _ _ (Act.put _ (some (6 : Nat)) (.slice A7 n7 c7)) _
    simp only [Act.put, List.setIfInBounds_toArray, List.set_cons_zero, List.set_cons_succ]
    refine wpAnyH_done (by kernel_rfl) ?_ _
    have HXe : Hid (Below w.heap.size w w7) := Lib.hid (below_step HX2.out hHeld)
    clear hHeld
    go_wp2
    go_ret
    exact ⟨A7, n7, c7, rfl, by rw [HP.out]; exact HS7.out, hc7, HXe.out, fun a ha => Nat.le_trans (Nat.le_trans HX2.out.size HWb.out.size) (HF7.out a ha)⟩

  | false =>
    have HD := Lib.hid hD
    rw [hf] at hpl hp
    have HPl := Lib.hid hpl
    have HP := Lib.hid hp
    clear hpl hp hf hD hA3 hs1 hel hsz hlt h hT hlen
    go_enter Try.func27, Try.ntmps27
    go_wp2_with (first
      | (go_at_call 28; (with_reducible refine (nameof_any x _).mono ?_); rintro e w1 ⟨rfl, hb1⟩; have HX1 : Hid (Below w.heap.size w w1) := Lib.hid ((below1 w _).trans (hb1.mono (by simp))); have H1 : Hid (Blk w1 w.heap.size 27 [.string (ba x.nm), .int .i64 x.st, .int .i64 x.am, .int .i64 x.du, .string (ba x.po), .string (ba x.pa)]) := Lib.hid ((Blk.fresh rfl rfl : Blk (w.alloc (.cells #[.string (ba x.nm), .int .i64 x.st, .int .i64 x.am, .int .i64 x.du, .string (ba x.po), .string (ba x.pa)] 27)) w.heap.size 27 [.string (ba x.nm), .int .i64 x.st, .int .i64 x.am, .int .i64 x.du, .string (ba x.po), .string (ba x.pa)]).through hb1); clear hb1)
      | (go_at_call 65; (with_reducible refine (HPl.out _ HX1.out).mono ?_); rintro e w2 ⟨rfl, hb2⟩; have HX2 : Hid (Below w.heap.size w w2) := Lib.hid (below_step HX1.out hb2); have H2 := Lib.hid (H1.out.through hb2); clear hb2))
    refine wp_region_held_drew (S := fun W => Below w2.heap.size w2 W) (by kernel_rfl) (Below.refl _ _).drew (fun hHeld => ?_)
    change wpAnyH _ _ _ _ _ _ #[false, false, false, false, false, false, false, false, false] _ _
    refine wpAnyH_take (i := 0) (v := (.slice A n c)) rfl (by kernel_rfl) (by kernel_rfl) (by kernel_rfl) (fun _ _ _ h => h) (Or.inl ⟨by kernel_rfl, fun w hSw => ?_⟩) (by assumption) ?_
    · (try dsimp only at hSw); go_simp <;> (try rfl)
    change wpAnyH _ _ _ _ _ _ _ (Act.put _ (some (27 : Nat)) (.slice A n c)) _
    simp only [Act.put, List.setIfInBounds_toArray, List.set_cons_zero, List.set_cons_succ]
    refine wpAnyH_take (i := 1) (v := (.int .i64 (i : Int))) rfl (by kernel_rfl) (by kernel_rfl) (by kernel_rfl) (fun _ _ _ h => h) (Or.inl ⟨by kernel_rfl, fun w hSw => ?_⟩) (by assumption) ?_
    · (try dsimp only at hSw); go_simp <;> (try rfl)
    change wpAnyH _ _ _ _ _ _ _ (Act.put _ (some (28 : Nat)) (.int .i64 (i : Int))) _
    simp only [Act.put, List.setIfInBounds_toArray, List.set_cons_zero, List.set_cons_succ]
    refine wpAnyH_take (i := 2) (v := (.slice A i c)) rfl (by kernel_rfl) (by kernel_rfl) (by kernel_rfl) (fun _ _ _ h => h) (Or.inl ⟨by kernel_rfl, fun w hSw => ?_⟩) (by assumption) ?_
    · (try dsimp only at hSw); go_simp <;> (try rfl)
    change wpAnyH _ _ _ _ _ _ _ (Act.put _ (some (29 : Nat)) (.slice A i c)) _
    simp only [Act.put, List.setIfInBounds_toArray, List.set_cons_zero, List.set_cons_succ]
    refine wpAnyH_take (i := 3) (v := (.agg #[.string (ba x.nm), .int .i64 x.st, .int .i64 x.am, .int .i64 x.du, .string (ba x.po), .string (ba x.pa)])) rfl (by kernel_rfl) (by kernel_rfl) (by kernel_rfl) (fun _ _ _ h => h) (yields_load_at (by kernel_rfl) 27 (.tmp 4) rfl (.pointer (some ⟨w.heap.size, 0, none⟩)) (by simp [Act.eval]) (.agg #[.string (ba x.nm), .int .i64 x.st, .int .i64 x.am, .int .i64 x.du, .string (ba x.po), .string (ba x.pa)]) (fun W hW => (H2.out.through hW).loadAt 27 _ Try.underlying27 rfl (by kernel_rfl))) (by assumption) ?_
    change wpAnyH _ _ _ _ _ _ _ (Act.put _ (some (30 : Nat)) (.agg #[.string (ba x.nm), .int .i64 x.st, .int .i64 x.am, .int .i64 x.du, .string (ba x.po), .string (ba x.pa)])) _
    simp only [Act.put, List.setIfInBounds_toArray, List.set_cons_zero, List.set_cons_succ]
    refine wpAnyH_take (i := 5) (v := (.slice A3 (n - i) (c - i))) rfl (by kernel_rfl) (by kernel_rfl) (by kernel_rfl) (fun _ _ _ h => h) (Or.inl ⟨by kernel_rfl, fun w hSw => ?_⟩) (by assumption) ?_
    · (try dsimp only at hSw); go_simp <;> (try rfl)
    change wpAnyH _ _ _ _ _ _ _ (Act.put _ (some (32 : Nat)) (.slice A3 (n - i) (c - i))) _
    simp only [Act.put, List.setIfInBounds_toArray, List.set_cons_zero, List.set_cons_succ]
    refine wpAnyH_ready (rs := [4]) (by kernel_rfl) (by simp) ?_
    refine AllReadyH.cons (o := ⟨some 31, .buildSlice 22 1 #[(0, .tmp 30)], _, _, _, none⟩) rfl (fun K hK => ?_) AllReadyH.nil
    refine step_build_el_w rfl Try.el_lt (.tmp 30) rfl [.string (ba x.nm), .int .i64 x.st, .int .i64 x.am, .int .i64 x.du, .string (ba x.po), .string (ba x.pa)] rfl rfl ?_; intro gx wx hbx hkx; have HBx := Lib.hid hbx; have HKx := Lib.hid hkx; clear hbx hkx
    refine hK.out _ _ (below_step hHeld HKx.out) (fun hHeld1 => ?_)
    clear hHeld hK K
    have hHeld := hHeld1
    clear hHeld1
    change wpAnyH _ _ _ _ _ _ _ (Act.put _ (some (31 : Nat)) (.slice (some ⟨gx, 0, none⟩) 1 1)) _
    simp only [Act.put, List.setIfInBounds_toArray, List.set_cons_zero, List.set_cons_succ]
    refine wpAnyH_ready (rs := [6]) (by kernel_rfl) (by simp) ?_
    refine AllReadyH.cons (o := ⟨some 33, .buildSlice 106 3 #[(0, .tmp 29), (1, .tmp 31), (2, .tmp 32)], _, _, _, none⟩) rfl (fun K hK => ?_) AllReadyH.nil
    refine step_build_three_w rfl 106 22 (.tmp 29) (.tmp 31) (.tmp 32) rfl (.slice A i c) (.slice (some ⟨gx, 0, none⟩) 1 1) (.slice A3 (n - i) (c - i)) rfl rfl rfl (by kernel_rfl) ?_; intro gb wb hbb hkb; have HBb := Lib.hid hbb; have HKb := Lib.hid hkb; clear hbb hkb
    refine hK.out _ _ (below_step hHeld HKb.out) (fun hHeld1 => ?_)
    clear hHeld hK K
    have hHeld := hHeld1
    clear hHeld1
    change wpAnyH _ _ _ _ _ _ _ (Act.put _ (some (33 : Nat)) (.slice (some ⟨gb, 0, none⟩) 3 3)) _
    simp only [Act.put, List.setIfInBounds_toArray, List.set_cons_zero, List.set_cons_succ]
    refine wpAnyH_ready (rs := [7]) (by kernel_rfl) (by simp) ?_
    refine AllReadyH.cons rfl (fun K hK => ?_) AllReadyH.nil
    go_simp
    refine (concatL_any gb A (some ⟨gx, 0, none⟩) A3 i 1 (n - i) c 1 (c - i) (ls.take i) [x] (ls.drop i) wb HBb.out (HT.out.through (below_step HX2.out hHeld)) (Sl.one_ (HBx.out.through HKb.out)) (HD.out.through (below_step HX2.out hHeld)) (by omega) (by omega)).mono ?_
    rintro e w7 ⟨A7, n7, c7, rfl, hs7, hc7, hb7, hf7⟩; have HS7 := Lib.hid hs7; have HX7 := Lib.hid hb7; have HF7 := Lib.hid hf7; have HWb := Lib.hid hHeld; clear hs7 hb7 hf7
    go_wp2_with fail
    refine hK.out _ _ (below_step hHeld HX7.out) (fun hHeld1 => ?_)
    clear hHeld hK K
    have hHeld := hHeld1
    clear hHeld1
    refine wpAnyH_take (i := 8) (v := (.slice A7 n7 c7)) rfl (by kernel_rfl) (by kernel_rfl) (by kernel_rfl) (fun _ _ _ h => h) (Or.inl ⟨by kernel_rfl, fun w hSw => ?_⟩) (by assumption) ?_
    · (try dsimp only at hSw); go_simp <;> (try rfl)
    change wpAnyH _ _ _ _ _ _ _ (Act.put _ (some (6 : Nat)) (.slice A7 n7 c7)) _
    simp only [Act.put, List.setIfInBounds_toArray, List.set_cons_zero, List.set_cons_succ]
    refine wpAnyH_done (by kernel_rfl) ?_ _
    have HXe : Hid (Below w.heap.size w w7) := Lib.hid (below_step HX2.out hHeld)
    clear hHeld
    go_wp2
    go_ret
    exact ⟨A7, n7, c7, rfl, by rw [HP.out]; exact HS7.out, hc7, HXe.out, fun a ha => Nat.le_trans (Nat.le_trans HX2.out.size HWb.out.size) (HF7.out a ha)⟩


set_option maxHeartbeats 8000000 in
set_option maxRecDepth 100000 in
theorem putO_any (ls : List Oc) (A : Option Addr) (n c : Nat) (x : Oc) (w : World) (h : Sl w 3 A n (ls.map Oc.cells)) (hn : n ≤ 1000) (hnc : n ≤ c) :
    Calls Try.prog 31 #[.slice A n c, .agg #[.int .i64 x.cl, .int .i64 x.sp, .int .i64 x.rs], .func (.func 32) #[] #[]] w (SlOut w 3 ((putP (fun y : Oc => cmpI y.cl x.cl) x ls).map Oc.cells)) := by
  have hlen : ls.length = n := by simpa using h.len
  have hpl : ∀ W, Below w.heap.size w W → Calls Try.prog 67 #[.slice A n c, .int .i64 x.cl, .func (.func 32) #[] #[]] W fun e w' => e = .returned (.tuple #[.int .i64 ((plc (fun y : Oc => cmpI y.cl x.cl) ls).1 : Nat), .bool (plc (fun y : Oc => cmpI y.cl x.cl) ls).2]) ∧ Below W.heap.size W w' := fun W hW => placeO_any ls A n c _ W (h.through hW) (by omega)
  have hle := plc_le (fun y : Oc => cmpI y.cl x.cl) ls
  have hlt : (plc (fun y : Oc => cmpI y.cl x.cl) ls).2 = true → (plc (fun y : Oc => cmpI y.cl x.cl) ls).1 < n := fun hf => by
    obtain ⟨y, hy, _⟩ := plc_lt hf
    have := (List.getElem?_eq_some_iff.1 hy).1
    omega
  have hp : putP (fun y : Oc => cmpI y.cl x.cl) x ls = ls.take (plc (fun y : Oc => cmpI y.cl x.cl) ls).1 ++ [x] ++ ls.drop (if (plc (fun y : Oc => cmpI y.cl x.cl) ls).2 then (plc (fun y : Oc => cmpI y.cl x.cl) ls).1 + 1 else (plc (fun y : Oc => cmpI y.cl x.cl) ls).1) := rfl
  generalize putP (fun y : Oc => cmpI y.cl x.cl) x ls = r at *
  generalize (plc (fun y : Oc => cmpI y.cl x.cl) ls).1 = i at *
  rw [hlen] at hle
  have hT := h.to_ hle
  rw [← List.map_take] at hT
  have hsz : ∀ W, (sizeOf 30).run Try.prog W = .ok 3 W := fun W => by kernel_rfl
  have hel : Try.prog.elem 23 = 30 := by kernel_rfl
  have hs0 : ∀ W, (Instr.slice 23 (.slice A n c) none (some (.int .i64 (i : Int))) none).run Try.prog W = .ok (.slice A i c) W := fun W => by
    rw [run_slice_h (P := Try.prog) (w := W) 23 A n c Try.underlying23 .i64 i (by omega) (by omega), hel, hsz]
    have e0 : A.map (fun a => a.add (0 * 3)) = A := by cases A <;> simp [Addr.add]
    simp only [Result.andThen_ok, sliced, e0]
    simp
  have hs1 : ∀ (j : Nat) W, j ≤ n → (Instr.slice 23 (.slice A n c) (some (.int .i64 (j : Int))) none none).run Try.prog W = .ok (.slice (if c = j then A else A.map (·.add (j * 3))) (n - j) (c - j)) W := fun j W hj => by
    rw [run_slice_l (P := Try.prog) (w := W) 23 A n c Try.underlying23 .i64 j (by omega) (by omega), hel, hsz]
    simp only [Result.andThen_ok, sliced, Int.toNat_natCast]
  have HT := Lib.hid hT
  obtain ⟨A3, hA3, hD⟩ := h.from_ hle hnc
  rw [← List.map_drop] at hD
  have hs2 := fun W => hs1 i W hle
  rw [hA3] at hs2
  cases hf : (plc (fun y : Oc => cmpI y.cl x.cl) ls).2 with
  | true =>
    have hi1 := hlt hf
    obtain ⟨A4, hA4, hD⟩ := h.from_ (i := i + 1) hi1 hnc
    rw [← List.map_drop] at hD
    have HD := Lib.hid hD
    have hs3 := fun W => hs1 (i + 1) W hi1
    rw [hA4] at hs3
    have hs4 : ∀ W, (Instr.slice 23 (.slice A n c) (some (.int .i64 ((i : Int) + 1))) none none).run Try.prog W = .ok (.slice A4 (n - (i + 1)) (c - (i + 1))) W := hs3
    have hwr : IntKind.i64.wrap ((i : Int) + 1) = (i : Int) + 1 := IntWalk.i64_in _ (by omega)
    rw [hf] at hpl hp
    have HPl := Lib.hid hpl
    have HP := Lib.hid hp
    clear hpl hp hf hD hA4 hs3 hA3 hs1 hel hsz hlt h hT hlen
    go_enter Try.func31, Try.ntmps31
    go_wp2_with (first
      | (go_at_call 32; (with_reducible refine (clientof_any x _).mono ?_); rintro e w1 ⟨rfl, hb1⟩; have HX1 : Hid (Below w.heap.size w w1) := Lib.hid ((below1 w _).trans (hb1.mono (by simp))); have H1 : Hid (Blk w1 w.heap.size 30 [.int .i64 x.cl, .int .i64 x.sp, .int .i64 x.rs]) := Lib.hid ((Blk.fresh rfl rfl : Blk (w.alloc (.cells #[.int .i64 x.cl, .int .i64 x.sp, .int .i64 x.rs] 30)) w.heap.size 30 [.int .i64 x.cl, .int .i64 x.sp, .int .i64 x.rs]).through hb1); clear hb1)
      | (go_at_call 67; (with_reducible refine (HPl.out _ HX1.out).mono ?_); rintro e w2 ⟨rfl, hb2⟩; have HX2 : Hid (Below w.heap.size w w2) := Lib.hid (below_step HX1.out hb2); have H2 := Lib.hid (H1.out.through hb2); clear hb2))
    refine wp_region_held_drew (S := fun W => Below w2.heap.size w2 W) (by kernel_rfl) (Below.refl _ _).drew (fun hHeld => ?_)
    change wpAnyH _ _ _ _ _ _ #[false, false, false, false, false, false, false, false, false] _ _
    refine wpAnyH_take (i := 0) (v := (.slice A n c)) rfl (by kernel_rfl) (by kernel_rfl) (by kernel_rfl) (fun _ _ _ h => h) (Or.inl ⟨by kernel_rfl, fun w hSw => ?_⟩) (by assumption) ?_
    · (try dsimp only at hSw); go_simp <;> (try rfl)
    change wpAnyH _ _ _ _ _ _ _ (Act.put _ (some (27 : Nat)) (.slice A n c)) _
    simp only [Act.put, List.setIfInBounds_toArray, List.set_cons_zero, List.set_cons_succ]
    refine wpAnyH_take (i := 1) (v := (.int .i64 (i : Int))) rfl (by kernel_rfl) (by kernel_rfl) (by kernel_rfl) (fun _ _ _ h => h) (Or.inl ⟨by kernel_rfl, fun w hSw => ?_⟩) (by assumption) ?_
    · (try dsimp only at hSw); go_simp <;> (try rfl)
    change wpAnyH _ _ _ _ _ _ _ (Act.put _ (some (28 : Nat)) (.int .i64 (i : Int))) _
    simp only [Act.put, List.setIfInBounds_toArray, List.set_cons_zero, List.set_cons_succ]
    refine wpAnyH_take (i := 2) (v := (.slice A i c)) rfl (by kernel_rfl) (by kernel_rfl) (by kernel_rfl) (fun _ _ _ h => h) (Or.inl ⟨by kernel_rfl, fun w hSw => ?_⟩) (by assumption) ?_
    · (try dsimp only at hSw); go_simp <;> (try rfl)
    change wpAnyH _ _ _ _ _ _ _ (Act.put _ (some (29 : Nat)) (.slice A i c)) _
    simp only [Act.put, List.setIfInBounds_toArray, List.set_cons_zero, List.set_cons_succ]
    refine wpAnyH_take (i := 3) (v := (.agg #[.int .i64 x.cl, .int .i64 x.sp, .int .i64 x.rs])) rfl (by kernel_rfl) (by kernel_rfl) (by kernel_rfl) (fun _ _ _ h => h) (yields_load_at (by kernel_rfl) 30 (.tmp 4) rfl (.pointer (some ⟨w.heap.size, 0, none⟩)) (by simp [Act.eval]) (.agg #[.int .i64 x.cl, .int .i64 x.sp, .int .i64 x.rs]) (fun W hW => (H2.out.through hW).loadAt 30 _ Try.underlying30 rfl (by kernel_rfl))) (by assumption) ?_
    change wpAnyH _ _ _ _ _ _ _ (Act.put _ (some (30 : Nat)) (.agg #[.int .i64 x.cl, .int .i64 x.sp, .int .i64 x.rs])) _
    simp only [Act.put, List.setIfInBounds_toArray, List.set_cons_zero, List.set_cons_succ]
    refine wpAnyH_take (i := 5) (v := (.slice A4 (n - (i + 1)) (c - (i + 1)))) rfl (by kernel_rfl) (by kernel_rfl) (by kernel_rfl) (fun _ _ _ h => h) (Or.inl ⟨by kernel_rfl, fun w hSw => ?_⟩) (by assumption) ?_
    · (try dsimp only at hSw); go_simp <;> (try rfl)
    change wpAnyH _ _ _ _ _ _ _ (Act.put _ (some (32 : Nat)) (.slice A4 (n - (i + 1)) (c - (i + 1)))) _
    simp only [Act.put, List.setIfInBounds_toArray, List.set_cons_zero, List.set_cons_succ]
    refine wpAnyH_ready (rs := [4]) (by kernel_rfl) (by simp) ?_
    refine AllReadyH.cons (o := ⟨some 31, .buildSlice 23 1 #[(0, .tmp 30)], _, _, _, none⟩) rfl (fun K hK => ?_) AllReadyH.nil
    refine step_build_el_w rfl Try.el_oc (.tmp 30) rfl [.int .i64 x.cl, .int .i64 x.sp, .int .i64 x.rs] rfl rfl ?_; intro gx wx hbx hkx; have HBx := Lib.hid hbx; have HKx := Lib.hid hkx; clear hbx hkx
    refine hK.out _ _ (below_step hHeld HKx.out) (fun hHeld1 => ?_)
    clear hHeld hK K
    have hHeld := hHeld1
    clear hHeld1
    change wpAnyH _ _ _ _ _ _ _ (Act.put _ (some (31 : Nat)) (.slice (some ⟨gx, 0, none⟩) 1 1)) _
    simp only [Act.put, List.setIfInBounds_toArray, List.set_cons_zero, List.set_cons_succ]
    refine wpAnyH_ready (rs := [6]) (by kernel_rfl) (by simp) ?_
    refine AllReadyH.cons (o := ⟨some 33, .buildSlice 112 3 #[(0, .tmp 29), (1, .tmp 31), (2, .tmp 32)], _, _, _, none⟩) rfl (fun K hK => ?_) AllReadyH.nil
    refine step_build_three_w rfl 112 23 (.tmp 29) (.tmp 31) (.tmp 32) rfl (.slice A i c) (.slice (some ⟨gx, 0, none⟩) 1 1) (.slice A4 (n - (i + 1)) (c - (i + 1))) rfl rfl rfl (by kernel_rfl) ?_; intro gb wb hbb hkb; have HBb := Lib.hid hbb; have HKb := Lib.hid hkb; clear hbb hkb
    refine hK.out _ _ (below_step hHeld HKb.out) (fun hHeld1 => ?_)
    clear hHeld hK K
    have hHeld := hHeld1
    clear hHeld1
    change wpAnyH _ _ _ _ _ _ _ (Act.put _ (some (33 : Nat)) (.slice (some ⟨gb, 0, none⟩) 3 3)) _
    simp only [Act.put, List.setIfInBounds_toArray, List.set_cons_zero, List.set_cons_succ]
    refine wpAnyH_ready (rs := [7]) (by kernel_rfl) (by simp) ?_
    refine AllReadyH.cons rfl (fun K hK => ?_) AllReadyH.nil
    go_simp
    refine (concatO_any gb A (some ⟨gx, 0, none⟩) A4 i 1 (n - (i + 1)) c 1 (c - (i + 1)) (ls.take i) [x] (ls.drop (i + 1)) wb HBb.out (HT.out.through (below_step HX2.out hHeld)) (Sl.one_ (HBx.out.through HKb.out)) (HD.out.through (below_step HX2.out hHeld)) (by omega) (by omega)).mono ?_
    rintro e w7 ⟨A7, n7, c7, rfl, hs7, hc7, hb7, hf7⟩; have HS7 := Lib.hid hs7; have HX7 := Lib.hid hb7; have HF7 := Lib.hid hf7; have HWb := Lib.hid hHeld; clear hs7 hb7 hf7
    go_wp2_with fail
    refine hK.out _ _ (below_step hHeld HX7.out) (fun hHeld1 => ?_)
    clear hHeld hK K
    have hHeld := hHeld1
    clear hHeld1
    refine wpAnyH_take (i := 8) (v := (.slice A7 n7 c7)) rfl (by kernel_rfl) (by kernel_rfl) (by kernel_rfl) (fun _ _ _ h => h) (Or.inl ⟨by kernel_rfl, fun w hSw => ?_⟩) (by assumption) ?_
    · (try dsimp only at hSw); go_simp <;> (try rfl)
    change wpAnyH _ _ _ _ _ _ _ (Act.put _ (some (6 : Nat)) (.slice A7 n7 c7)) _
    simp only [Act.put, List.setIfInBounds_toArray, List.set_cons_zero, List.set_cons_succ]
    refine wpAnyH_done (by kernel_rfl) ?_ _
    have HXe : Hid (Below w.heap.size w w7) := Lib.hid (below_step HX2.out hHeld)
    clear hHeld
    go_wp2
    go_ret
    exact ⟨A7, n7, c7, rfl, by rw [HP.out]; exact HS7.out, hc7, HXe.out, fun a ha => Nat.le_trans (Nat.le_trans HX2.out.size HWb.out.size) (HF7.out a ha)⟩

  | false =>
    have HD := Lib.hid hD
    rw [hf] at hpl hp
    have HPl := Lib.hid hpl
    have HP := Lib.hid hp
    clear hpl hp hf hD hA3 hs1 hel hsz hlt h hT hlen
    go_enter Try.func31, Try.ntmps31
    go_wp2_with (first
      | (go_at_call 32; (with_reducible refine (clientof_any x _).mono ?_); rintro e w1 ⟨rfl, hb1⟩; have HX1 : Hid (Below w.heap.size w w1) := Lib.hid ((below1 w _).trans (hb1.mono (by simp))); have H1 : Hid (Blk w1 w.heap.size 30 [.int .i64 x.cl, .int .i64 x.sp, .int .i64 x.rs]) := Lib.hid ((Blk.fresh rfl rfl : Blk (w.alloc (.cells #[.int .i64 x.cl, .int .i64 x.sp, .int .i64 x.rs] 30)) w.heap.size 30 [.int .i64 x.cl, .int .i64 x.sp, .int .i64 x.rs]).through hb1); clear hb1)
      | (go_at_call 67; (with_reducible refine (HPl.out _ HX1.out).mono ?_); rintro e w2 ⟨rfl, hb2⟩; have HX2 : Hid (Below w.heap.size w w2) := Lib.hid (below_step HX1.out hb2); have H2 := Lib.hid (H1.out.through hb2); clear hb2))
    refine wp_region_held_drew (S := fun W => Below w2.heap.size w2 W) (by kernel_rfl) (Below.refl _ _).drew (fun hHeld => ?_)
    change wpAnyH _ _ _ _ _ _ #[false, false, false, false, false, false, false, false, false] _ _
    refine wpAnyH_take (i := 0) (v := (.slice A n c)) rfl (by kernel_rfl) (by kernel_rfl) (by kernel_rfl) (fun _ _ _ h => h) (Or.inl ⟨by kernel_rfl, fun w hSw => ?_⟩) (by assumption) ?_
    · (try dsimp only at hSw); go_simp <;> (try rfl)
    change wpAnyH _ _ _ _ _ _ _ (Act.put _ (some (27 : Nat)) (.slice A n c)) _
    simp only [Act.put, List.setIfInBounds_toArray, List.set_cons_zero, List.set_cons_succ]
    refine wpAnyH_take (i := 1) (v := (.int .i64 (i : Int))) rfl (by kernel_rfl) (by kernel_rfl) (by kernel_rfl) (fun _ _ _ h => h) (Or.inl ⟨by kernel_rfl, fun w hSw => ?_⟩) (by assumption) ?_
    · (try dsimp only at hSw); go_simp <;> (try rfl)
    change wpAnyH _ _ _ _ _ _ _ (Act.put _ (some (28 : Nat)) (.int .i64 (i : Int))) _
    simp only [Act.put, List.setIfInBounds_toArray, List.set_cons_zero, List.set_cons_succ]
    refine wpAnyH_take (i := 2) (v := (.slice A i c)) rfl (by kernel_rfl) (by kernel_rfl) (by kernel_rfl) (fun _ _ _ h => h) (Or.inl ⟨by kernel_rfl, fun w hSw => ?_⟩) (by assumption) ?_
    · (try dsimp only at hSw); go_simp <;> (try rfl)
    change wpAnyH _ _ _ _ _ _ _ (Act.put _ (some (29 : Nat)) (.slice A i c)) _
    simp only [Act.put, List.setIfInBounds_toArray, List.set_cons_zero, List.set_cons_succ]
    refine wpAnyH_take (i := 3) (v := (.agg #[.int .i64 x.cl, .int .i64 x.sp, .int .i64 x.rs])) rfl (by kernel_rfl) (by kernel_rfl) (by kernel_rfl) (fun _ _ _ h => h) (yields_load_at (by kernel_rfl) 30 (.tmp 4) rfl (.pointer (some ⟨w.heap.size, 0, none⟩)) (by simp [Act.eval]) (.agg #[.int .i64 x.cl, .int .i64 x.sp, .int .i64 x.rs]) (fun W hW => (H2.out.through hW).loadAt 30 _ Try.underlying30 rfl (by kernel_rfl))) (by assumption) ?_
    change wpAnyH _ _ _ _ _ _ _ (Act.put _ (some (30 : Nat)) (.agg #[.int .i64 x.cl, .int .i64 x.sp, .int .i64 x.rs])) _
    simp only [Act.put, List.setIfInBounds_toArray, List.set_cons_zero, List.set_cons_succ]
    refine wpAnyH_take (i := 5) (v := (.slice A3 (n - i) (c - i))) rfl (by kernel_rfl) (by kernel_rfl) (by kernel_rfl) (fun _ _ _ h => h) (Or.inl ⟨by kernel_rfl, fun w hSw => ?_⟩) (by assumption) ?_
    · (try dsimp only at hSw); go_simp <;> (try rfl)
    change wpAnyH _ _ _ _ _ _ _ (Act.put _ (some (32 : Nat)) (.slice A3 (n - i) (c - i))) _
    simp only [Act.put, List.setIfInBounds_toArray, List.set_cons_zero, List.set_cons_succ]
    refine wpAnyH_ready (rs := [4]) (by kernel_rfl) (by simp) ?_
    refine AllReadyH.cons (o := ⟨some 31, .buildSlice 23 1 #[(0, .tmp 30)], _, _, _, none⟩) rfl (fun K hK => ?_) AllReadyH.nil
    refine step_build_el_w rfl Try.el_oc (.tmp 30) rfl [.int .i64 x.cl, .int .i64 x.sp, .int .i64 x.rs] rfl rfl ?_; intro gx wx hbx hkx; have HBx := Lib.hid hbx; have HKx := Lib.hid hkx; clear hbx hkx
    refine hK.out _ _ (below_step hHeld HKx.out) (fun hHeld1 => ?_)
    clear hHeld hK K
    have hHeld := hHeld1
    clear hHeld1
    change wpAnyH _ _ _ _ _ _ _ (Act.put _ (some (31 : Nat)) (.slice (some ⟨gx, 0, none⟩) 1 1)) _
    simp only [Act.put, List.setIfInBounds_toArray, List.set_cons_zero, List.set_cons_succ]
    refine wpAnyH_ready (rs := [6]) (by kernel_rfl) (by simp) ?_
    refine AllReadyH.cons (o := ⟨some 33, .buildSlice 112 3 #[(0, .tmp 29), (1, .tmp 31), (2, .tmp 32)], _, _, _, none⟩) rfl (fun K hK => ?_) AllReadyH.nil
    refine step_build_three_w rfl 112 23 (.tmp 29) (.tmp 31) (.tmp 32) rfl (.slice A i c) (.slice (some ⟨gx, 0, none⟩) 1 1) (.slice A3 (n - i) (c - i)) rfl rfl rfl (by kernel_rfl) ?_; intro gb wb hbb hkb; have HBb := Lib.hid hbb; have HKb := Lib.hid hkb; clear hbb hkb
    refine hK.out _ _ (below_step hHeld HKb.out) (fun hHeld1 => ?_)
    clear hHeld hK K
    have hHeld := hHeld1
    clear hHeld1
    change wpAnyH _ _ _ _ _ _ _ (Act.put _ (some (33 : Nat)) (.slice (some ⟨gb, 0, none⟩) 3 3)) _
    simp only [Act.put, List.setIfInBounds_toArray, List.set_cons_zero, List.set_cons_succ]
    refine wpAnyH_ready (rs := [7]) (by kernel_rfl) (by simp) ?_
    refine AllReadyH.cons rfl (fun K hK => ?_) AllReadyH.nil
    go_simp
    refine (concatO_any gb A (some ⟨gx, 0, none⟩) A3 i 1 (n - i) c 1 (c - i) (ls.take i) [x] (ls.drop i) wb HBb.out (HT.out.through (below_step HX2.out hHeld)) (Sl.one_ (HBx.out.through HKb.out)) (HD.out.through (below_step HX2.out hHeld)) (by omega) (by omega)).mono ?_
    rintro e w7 ⟨A7, n7, c7, rfl, hs7, hc7, hb7, hf7⟩; have HS7 := Lib.hid hs7; have HX7 := Lib.hid hb7; have HF7 := Lib.hid hf7; have HWb := Lib.hid hHeld; clear hs7 hb7 hf7
    go_wp2_with fail
    refine hK.out _ _ (below_step hHeld HX7.out) (fun hHeld1 => ?_)
    clear hHeld hK K
    have hHeld := hHeld1
    clear hHeld1
    refine wpAnyH_take (i := 8) (v := (.slice A7 n7 c7)) rfl (by kernel_rfl) (by kernel_rfl) (by kernel_rfl) (fun _ _ _ h => h) (Or.inl ⟨by kernel_rfl, fun w hSw => ?_⟩) (by assumption) ?_
    · (try dsimp only at hSw); go_simp <;> (try rfl)
    change wpAnyH _ _ _ _ _ _ _ (Act.put _ (some (6 : Nat)) (.slice A7 n7 c7)) _
    simp only [Act.put, List.setIfInBounds_toArray, List.set_cons_zero, List.set_cons_succ]
    refine wpAnyH_done (by kernel_rfl) ?_ _
    have HXe : Hid (Below w.heap.size w w7) := Lib.hid (below_step HX2.out hHeld)
    clear hHeld
    go_wp2
    go_ret
    exact ⟨A7, n7, c7, rfl, by rw [HP.out]; exact HS7.out, hc7, HXe.out, fun a ha => Nat.le_trans (Nat.le_trans HX2.out.size HWb.out.size) (HF7.out a ha)⟩


end Go.Proofs.Ytkbeodlihmmdbaa
