/-
  The law's calls whose answers the document fixes.
-/
import Derived.Test.YtnpobhgecfjfgaaDoorPPar
import Derived.Test.YtnpobhgecfjfgaaDoorPPr
namespace Go.Proofs.YtnpobhgecfjfgaaDoor
open Go.RowKit

/-- 2 of 0, 1, 2 -/
def T3 : Fm := .mk 0 2 [.mk 0 0 [], .mk 1 0 [], .mk 2 0 []]
theorem t3_parse : parseP [50, 32, 111, 102, 32, 40, 48, 44, 49, 44, 32, 50, 41] 3 = (T3, 0) := by kernel_rfl
theorem t3_none : parseP [97, 110, 121, 40, 41] 3 = (.mk 0 0 [], 2) := by kernel_rfl
theorem t3_print : printO T3 = [50, 111, 102, 40, 48, 44, 49, 44, 50, 41] := by
  have hm : T3.mb = true := by kernel_rfl
  unfold printO
  rw [if_pos hm]
  show headP 2 3 ++ 40 :: (digs 0 ++ (44 :: (digs 1 ++ (44 :: (digs 2 ++ [41]))))) = _
  rw [digs_one (n := 0) (by omega), digs_one (n := 1) (by omega), digs_one (n := 2) (by omega)]
  unfold headP
  rw [if_neg (by decide), if_neg (by decide)]
  have e : (2 : Int).toNat = 2 := rfl
  rw [e, digs_one (by omega)]
  rfl

set_option maxHeartbeats 4000000 in
set_option maxRecDepth 100000 in
theorem fixed_any (w : World) (he : EV w) :
    Calls Tryd.prog 6 #[] w fun e w' => e = .returned (.bool true) ∧ Below w.heap.size w w' := by
  have hc1 : ∀ W : World, EV W → Calls Tryd.prog 7 #[.string ⟨#[50, 32, 111, 102, 32, 40, 48, 44, 49, 44, 32, 50, 41]⟩, .int .i64 3] W fun e w' => ∃ A c, e = .returned (.tuple #[.agg #[.int .i64 0, .int .i64 2, .slice A 3 c], .int .i64 0]) ∧ T3.In w' (fun _ => True) A 3 ∧ Below W.heap.size W w' := fun W he => (pparse_any [50, 32, 111, 102, 32, 40, 48, 44, 49, 44, 32, 50, 41] 3 W (by decide) he).mono fun e w' ⟨⟨A, m, c, h1, h2⟩, h3⟩ => by
    rw [t3_parse] at h1 h2
    have hm : 3 = m := h2.len
    subst hm
    exact ⟨A, c, h1, h2.any, h3⟩
  have hc2 : ∀ W : World, EV W → Calls Tryd.prog 7 #[.string ⟨#[97, 110, 121, 40, 41]⟩, .int .i64 3] W fun e w' => ∃ A c, e = .returned (.tuple #[.agg #[.int .i64 0, .int .i64 0, .slice A 0 c], .int .i64 2]) ∧ Below W.heap.size W w' := fun W he => (pparse_any [97, 110, 121, 40, 41] 3 W (by decide) he).mono fun e w' ⟨⟨A, m, c, h1, h2⟩, h3⟩ => by
    rw [t3_none] at h1 h2
    have hm : 0 = m := h2.len
    subst hm
    exact ⟨A, c, h1, h3⟩
  have hp : ∀ (A : Option Addr) (c : Nat) (W : World), T3.In W (fun _ => True) A 3 → Calls Tryd.prog 11 #[.agg #[.int .i64 0, .int .i64 2, .slice A 3 c]] W fun e w' => e = .returned (.string (ba [50, 111, 102, 40, 48, 44, 49, 44, 50, 41])) ∧ Below W.heap.size W w' := fun A c W h => by
    have := pprint_any T3 A 3 c W ⟨by decide, by decide⟩ h
    rw [t3_print] at this
    exact this
  have H1 := Lib.hid hc1
  have H2 := Lib.hid hc2
  have H3 := Lib.hid hp
  have HE := Lib.hid he
  have hli := ba_list
  have hcl : (⟨#[50, 111, 102, 40, 48, 44, 49, 44, 50, 41]⟩ : ByteArray).toList = [50, 111, 102, 40, 48, 44, 49, 44, 50, 41] := ba_list _
  clear hc1 hc2 hp he
  go_enter Tryd.func6, Tryd.ntmps6
  go_wp2_with (first
    | (go_at_call 7; (with_reducible refine (H1.out _ HE.out).mono ?_); rintro e w1 ⟨A, c, rfl, hf, hb⟩; have HX1 := Lib.hid (hb.alloc hb.size (.cells #[.int .i64 0, .int .i64 2, .slice A 3 c] 25)); have HE1 := Lib.hid ((HE.out.through hb).alloc (.cells #[.int .i64 0, .int .i64 2, .slice A 3 c] 25)); have HF1 := Lib.hid (hf.alloc (.cells #[.int .i64 0, .int .i64 2, .slice A 3 c] 25)); have HB1 : Hid (Blk (w1.alloc (.cells #[.int .i64 0, .int .i64 2, .slice A 3 c] 25)) w1.heap.size 25 [.int .i64 0, .int .i64 2, .slice A 3 c]) := Lib.hid (Blk.fresh rfl rfl); clear hb hf)
    | (go_at_call 7; (with_reducible refine (H2.out _ HE1.out).mono ?_); rintro e w2 ⟨A2, c2, rfl, hb⟩; have HX2 := Lib.hid ((below_step HX1.out hb).alloc (below_step HX1.out hb).size (.cells #[.int .i64 0, .int .i64 0, .slice A2 0 c2] 25)); have HF2 := Lib.hid ((HF1.out.through hb).alloc (.cells #[.int .i64 0, .int .i64 0, .slice A2 0 c2] 25)); have HB2 := Lib.hid ((HB1.out.through hb).alloc (.cells #[.int .i64 0, .int .i64 0, .slice A2 0 c2] 25)); have d1 := (HB1.out.through hb).cellAt (i := 1) rfl; have d2 := (HB1.out.through hb).cellAt (i := 2) rfl; have d1b := HB2.out.cellAt (i := 1) rfl; have d2b := HB2.out.cellAt (i := 2) rfl; clear hb)
    | (refine wpList_load_blk_g 25 (.tmp 1) rfl (by kernel_rfl) w1.heap.size rfl 25 [.int .i64 0, .int .i64 2, .slice A 3 c] _ HB2.out Tryd.underlying25 rfl (by kernel_rfl) ?_)
    | (go_at_call 11; (with_reducible refine (H3.out _ _ _ HF2.out).mono ?_); rintro e w3 ⟨rfl, hb⟩; have HX3 := Lib.hid (below_step HX2.out hb); clear hb))
  go_ret
  exact ⟨rfl, HX3.out⟩

end Go.Proofs.YtnpobhgecfjfgaaDoor
