/-
  Joined: WlF.
-/
import Derived.LaidEqlPtr
import Derived.Test.YtponmfkddglopaaWV45
namespace Go.Proofs.Ytponmfkddglopaa
open Go.RowKit

theorem Try.eq_psl (R : Nat) (w : World) : (binOp .eql 26 (.pointer (some ⟨R, 0, none⟩)) (.pointer (some ⟨R, 0, none⟩))).run Try.prog w = .ok (.bool true) w := by
 obtain ⟨j, hj⟩ := Option.isSome_iff_exists.1 (show (Try.prog.info? 61).isSome = true by kernel_rfl)
 exact run_eql_ptr_same (P := Try.prog) w (⟨R, 0, none⟩ : Addr) Try.underlying26 hj
set_option maxHeartbeats 16000000 in
set_option maxRecDepth 100000 in
theorem fixed22_of (w : World) : Calls Try.prog 5 #[] w fun e w' => e = .returned (.bool true) ∧ Below w.heap.size w w' := by
 have hpe := Try.eq_psl
 go_enter Try.func5, Try.ntmps5
 go_wp2_with (first
  | (go_at_call 6; (with_reducible refine (new_lp 4 _ (by decide) (by decide)).mono ?_); rintro e w1 ⟨B, gm, rfl, hp9, hb9, hB9, hG9⟩; have HP1 := Lib.hid hp9; have HX1 := Lib.hid hb9; have HBl := Lib.hid hB9; have HGl := Lib.hid hG9; clear hp9 hb9 hB9 hG9)
  | (go_at_call 7; (with_reducible refine (at_lnew 8 HP1.out (by decide) (by decide) (by decide) (by decide) (by decide) (by simp)).mono ?_); rintro e w2 ⟨R, D, rfl, hp9, hf9, hD9⟩; have HP2 : Hid (PLg w2 B gm 4 0 [⟨8, (.pointer (some ⟨R, 0, none⟩)), D, Slt.no 4⟩]) := Lib.hid hp9; have HX2 : Hid (Below w.heap.size w w2) := Lib.hid (hf9.below HX1.out HX1.out.size (fun b hb => by rw [hb]; exact HGl.out)); clear hp9 hf9 hD9)
  | (go_at_call 7; (with_reducible refine (at_lthere 8 HP2.out (by decide) (by decide) (by decide) (by decide) (List.mem_cons_self ..) rfl).mono ?_); rintro e w9 ⟨rfl, hw9⟩; have hw8 := hw9.symm; clear hw9; subst hw8)
  | (go_at_call 7; (with_reducible refine (at_lout 9 HP2.out (by decide) (by decide) (by decide) (by decide)).mono ?_); rintro e w9 ⟨rfl, hw9⟩; have hw8 := hw9.symm; clear hw9; subst hw8)
  | (go_at_call 10; (with_reducible refine (in_lp 8 _ HP2.out.box (by decide) (by decide) (by decide)).mono ?_); rintro e w9 ⟨rfl, hw9⟩; have hw8 := hw9.symm; clear hw9; subst hw8; rw [show inB 0 8 = true from by decide])
  | (go_at_call 10; (with_reducible refine (in_lp 9 _ HP2.out.box (by decide) (by decide) (by decide)).mono ?_); rintro e w9 ⟨rfl, hw9⟩; have hw8 := hw9.symm; clear hw9; subst hw8; rw [show inB 0 9 = false from by decide])
  | (go_at_call 10; (with_reducible refine (in_lp 0 _ HP2.out.box (by decide) (by decide) (by decide)).mono ?_); rintro e w9 ⟨rfl, hw9⟩; have hw8 := hw9.symm; clear hw9; subst hw8; rw [show inB 0 0 = false from by decide])
  | (go_at_call 9; (with_reducible refine (move_lp 8 HP2.out (by decide) (by decide)).mono ?_); rintro e w4 ⟨rfl, hp9, hf9⟩; have HP4 : Hid (PLg w4 B gm 4 8 []) := Lib.hid (by have e0 : ([⟨8, (.pointer (some ⟨R, 0, none⟩)), D, Slt.no 4⟩] : List Fr).filter (fun x => decide (8 < x.q)) = [] := rfl; rw [e0] at hp9; exact hp9); have HX4 : Hid (Below w.heap.size w w4) := Lib.hid (hf9.below HX2.out HX2.out.size (fun b hb => hb.elim (fun e => by rw [e]; exact HBl.out) (fun e => by rw [e]; exact HGl.out))); clear hp9 hf9)
  | (go_at_call 12; (with_reducible refine (seqs_lp HP4.out (by decide) (by decide)).mono ?_); rintro e w5 ⟨A, c, rfl, hq9, _, _, hb9⟩; have HP5 := Lib.hid (HP4.out.through hb9); have HX5 := Lib.hid (below_step HX4.out hb9); clear hq9 hb9)
  | (go_at_call 11; (with_reducible refine (low_lp _ HP5.out.box (by decide)).mono ?_); rintro e w9 ⟨rfl, hw9⟩; have hw8 := hw9.symm; clear hw9; subst hw8))
 go_ret
 exact ⟨rfl, HX5.out⟩

end Go.Proofs.Ytponmfkddglopaa
