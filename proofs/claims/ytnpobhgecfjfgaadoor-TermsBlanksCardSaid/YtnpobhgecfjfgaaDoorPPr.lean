/-
  Print, both.
-/
import Derived.Test.YtnpobhgecfjfgaaDoorPPut
import Derived.Test.YtnpobhgecfjfgaaDoorTC
namespace Go.Proofs.YtnpobhgecfjfgaaDoor
open Go.RowKit

/-- what Print answers -/
def printO (f : Fm) : List UInt8 := if f.mb = true then printP f else []
theorem digs_ne (n : Nat) : digs n ≠ [] := by
  rw [digs]
  split
  · simp
  · simp
theorem printP_ne : ∀ f : Fm, printP f ≠ []
  | .mk o _ [] => digs_ne o.toNat
  | .mk _ a (k :: ks) => by
    show headP a (ks.length + 1) ++ 40 :: (printP k ++ tailP ks) ≠ []
    simp
theorem Bs.str {w : World} {B : Nat} {v : Value} {l : List UInt8} (h : Bs w B v l) (hl : l ≠ []) : (Go.convert 36 9 v).run Tryd.prog w = .ok (.string (ba l)) w := by
  have hpos : 0 < l.length := by cases l with | nil => exact absurd rfl hl | cons x l => simp
  rcases h.2 with ⟨_, h0⟩ | ⟨g, cap, cur, rfl, _, hg, hc, hm, hs, ht⟩
  · omega
  · refine run_convert_bytes_back (P := Tryd.prog) w 36 9 5 ⟨g, 0, none⟩ cap l Tryd.underlying36 Tryd.underlying5 Tryd.underlying9 (fun j hj => ?_)
    have e : (⟨g, 0, none⟩ : Addr).add j = ⟨g, j, none⟩ := by unfold Addr.add; split <;> simp_all
    rw [e, cell_of_row w g j _ _ _ hg, ← Array.getElem?_toList, ← List.getElem?_take_of_lt (show j < l.length * 1 by omega), ht]
    simp [vb, Lib.byteCells, hj]
theorem Fm.check7 (f : Fm) : f.check 7 = 0 ↔ f.mb = true := by
  rw [Fm.mb_iff]
  unfold Fm.check
  rw [if_neg (by omega)]
  by_cases h1 : 32 < f.size
  · rw [if_pos h1]; simp; omega
  · rw [if_neg h1]
    by_cases h2 : 5 < f.depth
    · rw [if_pos h2]; simp; omega
    · rw [if_neg h2]
      by_cases h3 : f.rng 7 = false
      · rw [if_pos h3]; simp [h3]
      · rw [if_neg h3]
        have : f.rng 7 = true := by cases h : f.rng 7 <;> simp_all
        simp [this]
        omega

set_option maxHeartbeats 4000000 in
set_option maxRecDepth 100000 in
theorem rprint_any (f : Fm) (A : Option Addr) (n c : Nat) (w : World) (hz : f.few) (h : f.In w (fun _ => True) A n) :
    Calls Tryd.prog 12 #[f.val A n c] w fun e w' => e = .returned (.string (ba (printO f))) ∧ Below w.heap.size w w' := by
  have hcall : ∀ W : World, f.In W (fun _ => True) A n → Calls Tryd.prog 20 #[f.val A n c] W fun e w' => e = .returned (.bool f.mb) ∧ Below W.heap.size W w' := fun W h => right_any f A n c W hz h
  have HF := Lib.hid h
  have HC := Lib.hid hcall
  have hb0 : Blk (w.alloc (.cells #[.int .i64 f.org, .int .i64 f.nd, .slice A n c] 25)) w.heap.size 25 [.int .i64 f.org, .int .i64 f.nd, .slice A n c] := Blk.fresh rfl rfl
  have HB := Lib.hid hb0
  have HX : Hid (Below w.heap.size w (w.alloc (.cells #[.int .i64 f.org, .int .i64 f.nd, .slice A n c] 25))) := Lib.hid ((Below.refl _ w).alloc (Nat.le_refl _) _)
  have HI := Lib.hid (h.alloc (.cells #[.int .i64 f.org, .int .i64 f.nd, .slice A n c] 25))
  unfold Fm.val at HC ⊢
  clear hcall h hb0
  cases hm : f.mb with
  | false =>
    have hpo : printO f = [] := by unfold printO; rw [hm]; rfl
    rw [hpo]
    rw [hm] at HC
    clear hpo hm
    go_enter Tryd.func12, Tryd.ntmps12
    go_wp2_with (first
      | (refine wpList_load_blk rfl 25 (.tmp 1) rfl w.heap.size rfl 25 [.int .i64 f.org, .int .i64 f.nd, .slice A n c] _ HB.out Tryd.underlying25 rfl (by kernel_rfl) ?_)
      | (go_at_call 20; (with_reducible refine (HC.out _ HI.out).mono ?_); rintro e w1 ⟨rfl, hb⟩; have HX1 := Lib.hid (below_step HX.out hb); clear hb))
    go_ret
    exact ⟨rfl, HX1.out⟩
  | true =>
    have hpo : printO f = printP f := by unfold printO; rw [hm]; rfl
    obtain ⟨h1, h2, h3⟩ := (Fm.mb_iff f).1 hm
    have hpr : ∀ W : World, f.In W (fun _ => True) A n → Calls Tryd.prog 21 #[.agg #[.int .i64 f.org, .int .i64 f.nd, .slice A n c]] W fun e w' => e = .returned (.string (ba (printP f))) ∧ Below W.heap.size W w' := fun W h => print_any f A n c W h3 (by omega) h
    have HP := Lib.hid hpr
    rw [hpo]
    rw [hm] at HC
    clear hpo hm hpr h1 h2 h3
    go_enter Tryd.func12, Tryd.ntmps12
    go_wp2_with (first
      | (refine wpList_load_blk rfl 25 (.tmp 1) rfl w.heap.size rfl 25 [.int .i64 f.org, .int .i64 f.nd, .slice A n c] _ HB.out Tryd.underlying25 rfl (by kernel_rfl) ?_)
      | (go_at_call 20; (with_reducible refine (HC.out _ HI.out).mono ?_); rintro e w1 ⟨rfl, hb⟩; have HX1 := Lib.hid (below_step HX.out hb); have HB1 := Lib.hid (HB.out.through hb); have HI1 := Lib.hid (HI.out.through hb); clear hb)
      | (refine wpList_load_blk rfl 25 (.tmp 1) rfl w.heap.size rfl 25 [.int .i64 f.org, .int .i64 f.nd, .slice A n c] _ HB1.out Tryd.underlying25 rfl (by kernel_rfl) ?_)
      | (go_at_call 21; (with_reducible refine (HP.out _ HI1.out).mono ?_); rintro e w2 ⟨rfl, hb⟩; have HX2 := Lib.hid (below_step HX1.out hb); clear hb))
    go_ret
    exact ⟨rfl, HX2.out⟩

set_option maxHeartbeats 4000000 in
set_option maxRecDepth 100000 in
theorem pprint_any (f : Fm) (A : Option Addr) (n c : Nat) (w : World) (hz : f.few) (h : f.In w (fun _ => True) A n) :
    Calls Tryd.prog 11 #[f.val A n c] w fun e w' => e = .returned (.string (ba (printO f))) ∧ Below w.heap.size w w' := by
  have hcall : ∀ W : World, f.In W (fun _ => True) A n → Calls Tryd.prog 16 #[f.val A n c, .int .i64 7] W fun e w' => e = .returned (.int .i64 (f.check 7)) ∧ Below W.heap.size W w' := fun W h => check_any f 7 A n c W hz h
  have HF := Lib.hid h
  have HC := Lib.hid hcall
  have hb0 : Blk (w.alloc (.cells #[.int .i64 f.org, .int .i64 f.nd, .slice A n c] 25)) w.heap.size 25 [.int .i64 f.org, .int .i64 f.nd, .slice A n c] := Blk.fresh rfl rfl
  have HB := Lib.hid hb0
  have HX : Hid (Below w.heap.size w (w.alloc (.cells #[.int .i64 f.org, .int .i64 f.nd, .slice A n c] 25))) := Lib.hid ((Below.refl _ w).alloc (Nat.le_refl _) _)
  have HI := Lib.hid (h.alloc (.cells #[.int .i64 f.org, .int .i64 f.nd, .slice A n c] 25))
  unfold Fm.val at HC ⊢
  clear hcall h hb0
  by_cases hm : f.mb = true
  · have hpo : printO f = printP f := by unfold printO; rw [hm]; rfl
    have hc0 := (Fm.check7 f).2 hm
    obtain ⟨h1, h2, h3⟩ := (Fm.mb_iff f).1 hm
    have hpr : ∀ W : World, f.In W (· < W.heap.size) A n → Calls Tryd.prog 19 #[.slice none 0 0, .agg #[.int .i64 f.org, .int .i64 f.nd, .slice A n c]] W fun e w' => ∃ v', e = .returned v' ∧ Bs w' W.heap.size v' (printP f) ∧ Fr W.heap.size W w' := fun W h => put_any W.heap.size f A n c (.slice none 0 0) [] W h3 (by omega) (by simp; omega) h (Bs.nil W _) (Nat.le_refl _)
    have HP := Lib.hid hpr
    have HNe := Lib.hid (printP_ne f)
    rw [hpo]
    rw [hc0] at HC
    obtain ⟨P, hP⟩ : ∃ P, printP f = P := ⟨_, rfl⟩
    rw [hP] at HP HNe ⊢
    clear hpo hm hpr h1 h2 h3 hc0 hP
    go_enter Tryd.func11, Tryd.ntmps11
    go_wp2_with (first
      | (refine wpList_load_blk rfl 25 (.tmp 1) rfl w.heap.size rfl 25 [.int .i64 f.org, .int .i64 f.nd, .slice A n c] _ HB.out Tryd.underlying25 rfl (by kernel_rfl) ?_)
      | (go_at_call 16; (with_reducible refine (HC.out _ HI.out).mono ?_); rintro e w1 ⟨rfl, hb⟩; have HX1 := Lib.hid (below_step HX.out hb); have HB1 := Lib.hid (HB.out.through hb); have HI1 := Lib.hid (HI.out.through hb); clear hb)
      | (refine wpList_load_blk rfl 25 (.tmp 1) rfl w.heap.size rfl 25 [.int .i64 f.org, .int .i64 f.nd, .slice A n c] _ HB1.out Tryd.underlying25 rfl (by kernel_rfl) ?_)
      | (go_at_call 19; (with_reducible refine (HP.out _ (Fm.In.weak (fun _ h _ => h.2) f A n HI1.out.lt)).mono ?_); rintro e w2 ⟨v2, rfl, hbs, hfr⟩; have HX2 := Lib.hid (below_step HX1.out hfr.below); have hst := Bs.str hbs HNe.out; clear hbs hfr))
    go_ret
    exact ⟨rfl, HX2.out⟩
  · have hpo : printO f = [] := by unfold printO; rw [if_neg hm]
    have hc0 : f.check 7 ≠ 0 := fun h => hm ((Fm.check7 f).1 h)
    rw [hpo]
    obtain ⟨x, hx⟩ : ∃ x, f.check 7 = x := ⟨_, rfl⟩
    rw [hx] at HC hc0
    have hxb : (x == 0) = false := by simp; omega
    clear hpo hm hx
    go_enter Tryd.func11, Tryd.ntmps11
    go_wp2_with (first
      | (refine wpList_load_blk rfl 25 (.tmp 1) rfl w.heap.size rfl 25 [.int .i64 f.org, .int .i64 f.nd, .slice A n c] _ HB.out Tryd.underlying25 rfl (by kernel_rfl) ?_)
      | (go_at_call 16; (with_reducible refine (HC.out _ HI.out).mono ?_); rintro e w1 ⟨rfl, hb⟩; have HX1 := Lib.hid (below_step HX.out hb); clear hb))
    go_ret
    exact ⟨rfl, HX1.out⟩

end Go.Proofs.YtnpobhgecfjfgaaDoor
