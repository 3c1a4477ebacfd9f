/-
  The program's Text and All.
-/
import Derived.Test.YtnncfhkgcaoomaaDoorVecW
import Derived.Test.YtnncfhkgcaoomaaDoorBDig
import Derived.Deep.OwnRows
import Derived.RegionTactic
import Derived.ChangeAlike
import Derived.StillTailTactics
import Derived.Deep.QuietTactic
import Derived.Outline
namespace Go.Proofs.YtnncfhkgcaoomaaDoor
open Go.RowKit

theorem own_one8 {w : World} {x : UInt8} {base : Nat} (hb : base ≤ w.heap.size) : (w.alloc (.cells #[.int .u8 (x.toNat : Int)] 5)).ownsRow base 5 1 (.slice (some ⟨w.heap.size, 0, none⟩) 1 1) 1 (vs [x]) :=
  ⟨rfl, .inr ⟨w.heap.size, 1, _, rfl, hb, heap_alloc_new w _, Nat.le_refl _, by unfold maxLen; omega, rfl, rfl⟩⟩

set_option maxHeartbeats 2000000 in
set_option maxRecDepth 100000 in
theorem text_any (Q : Nat → Prop) (k : Int) (xs : List UInt8) (A : Option Addr) (n c : Nat) (w : World) (h : By w Q A n xs) (hn : n ≤ 1000000) :
    Calls Tryd.prog 8 #[.int .i64 k, .slice A n c] w fun e w' => ∃ A' c', e = .returned (.slice A' (1 + n) c') ∧ By w' (fun b => w.heap.size ≤ b ∧ b < w'.heap.size) A' (1 + n) (kb k :: xs) ∧ Below w.heap.size w w' := by
  obtain ⟨i0, hi, hz0, hz1, hz2⟩ := info_parts Tryd.info_u8
  have H := Lib.hid h
  have hwk := kb_wrap k
  have hmk := kb_mod k
  generalize kb k = x at *
  clear h
  go_enter Tryd.func8, Tryd.ntmps8
  go_wp2_with (at_builtin; refine wpList_append_by _ rfl (.tmp 7) (.tmp 8) 22 rfl w.heap.size i0 Tryd.underlying22 hi hz0 hz1 hz2 _ 1 (vs [x]) rfl (own_one8 (Nat.le_refl _)) Q A n c xs rfl (H.out.alloc _) (by omega) (by simp) ?_; intro v1 w1 ho1 hg1 _; have HX1 : Hid (Below w.heap.size w w1) := Lib.hid (((Below.refl _ w).alloc (Nat.le_refl _) _).grown hg1 (by simp) (fun k hk => Option.some.inj hk ▸ Nat.le_refl _)); rw [vs_append] at ho1; obtain ⟨A1, c1, rfl, _⟩ := own_form ho1; have HY1 := Lib.hid ((By.of_own ho1).weak (Q' := fun b => w.heap.size ≤ b ∧ b < w1.heap.size) fun _ h => ⟨h.1, h.2.1⟩); clear ho1 hg1)
  go_ret
  exact ⟨A1, c1, rfl, HY1.out, HX1.out⟩

/-- 0, 1 .. -/
def upTo (m : Nat) : List Int := (List.range m).map fun k : Nat => (k : Int)
def upC (m : Nat) : List Value := (List.range m).map fun k : Nat => Value.int .i64 (k : Int)
theorem upTo_get (m j : Nat) (h : j < m) : (upTo m)[j]? = some (j : Int) := by simp [upTo, h]
theorem upC_get (m j : Nat) (h : j < m) : (upC m)[j]? = some (.int .i64 (j : Int)) := by simp [upC, h]
theorem upTo_length (m : Nat) : (upTo m).length = m := by simp [upTo]
theorem upC_length (m : Nat) : (upC m).length = m := by simp [upC]
theorem upC_succ (m : Nat) : upC m ++ [.int .i64 (m : Int)] = upC (m + 1) := by simp [upC, List.range_succ]
theorem Tryd.info_int : (Tryd.prog.info? 3).map (fun i => (i.zero, i.size, i.bytes)) = some (some (.int .i64 0), 1, 8) := by kernel_rfl
theorem Tryd.size_int (w : World) : (sizeOf 3).run Tryd.prog w = .ok 1 w := by kernel_rfl
theorem Iv.of_blk {w : World} {b m : Nat} {t : TypeId} (h : Blk w b t (upC m)) {Q : Nat → Prop} (hQ : Q b) : Iv w Q (some ⟨b, 0, none⟩) m (upTo m) :=
  ⟨upTo_length m, fun _ => ⟨b, 0, rfl, hQ, fun j u hu => by
    have hj : j < m := by have := (List.getElem?_eq_some_iff.1 hu).1; rwa [upTo_length] at this
    rw [upTo_get m j hj] at hu
    obtain rfl := Option.some.inj hu
    rw [Nat.zero_add, h.cell, upC_get m j hj]⟩⟩
theorem Iv.of_own {w : World} {base c m : Nat} {A : Option Addr} (h : w.ownsRow base 3 1 (.slice A m c) m (upC m)) : Iv w (fun _ => True) A m (upTo m) := by
  refine ⟨upTo_length m, fun hn => ?_⟩
  have h0 := h
  rcases h.2 with ⟨_, h'⟩ | ⟨g, cap, cur, hv, hbg, hg, _⟩
  · omega
  · injection hv with hA _ hc
    subst hA; subst hc
    refine ⟨g, 0, rfl, trivial, fun j u hu => ?_⟩
    have hj : j < m := by have := (List.getElem?_eq_some_iff.1 hu).1; rwa [upTo_length] at this
    rw [upTo_get m j hj] at hu
    obtain rfl := Option.some.inj hu
    rw [Nat.zero_add, h0.cellAt j (by omega), upC_get m j hj]

set_option maxHeartbeats 2000000 in
set_option maxRecDepth 100000 in
theorem all_some (m : Nat) (h1 : 1 ≤ m) (h7 : m ≤ 7) (w : World) :
    Calls Tryd.prog 12 #[.int .i64 (m : Int)] w fun e w' => e = .returned (.slice (some ⟨w.heap.size, 0, none⟩) m m) ∧ Iv w' (fun b => b = w.heap.size) (some ⟨w.heap.size, 0, none⟩) m (upTo m) ∧ Below w.heap.size w w' := by
  obtain ⟨i0, hi, hz0, hz1, hz2⟩ := info_parts Tryd.info_int
  have hd1 : decide ((m : Int) < 1) = false := by simp; omega
  have hd2 : decide (7 < (m : Int)) = false := by simp; omega
  have hms : (madeCells #[Value.int .i64 0] m).size = m := by simp [madeCells]
  obtain ⟨old, hold⟩ : ∃ old : List Value, madeCells #[Value.int .i64 0] m = old.toArray := ⟨(madeCells #[Value.int .i64 0] m).toList, by simp⟩
  have hol : old.length = m := by rw [hold] at hms; simpa using hms
  go_enter Tryd.func12, Tryd.ntmps12
  go_wp2_with (at_make; refine wpList_make_row _ rfl (.tmp 11) (.tmp 11) 23 rfl 3 i0 (.int .i64 0) Tryd.underlying23 hi hz0 hz1 rfl .i64 .i64 m rfl rfl (by rw [hz2]; omega) (by omega) ?_; rw [hold])
  go_loopw [14] (fun iv wr => ∃ j : Nat, j ≤ m ∧ iv = .int .i64 j ∧ Blk wr w.heap.size 3 (swp (upC m) old j) ∧ Below w.heap.size w wr) (fun iv _ => m - (intOf iv).toNat)
  case atStart => exact ⟨0, Nat.zero_le _, rfl, Blk.fresh rfl (by rw [swp_0]), (Below.refl _ w).alloc (Nat.le_refl _) _⟩
  case round =>
    obtain ⟨j, hj, rfl, hb, hx⟩ := hrel
    have HB := Lib.hid hb
    have HX := Lib.hid hx
    clear hb hx
    by_cases hlt : j < m
    · have hlen : j < (swp (upC m) old j).length := by simp [swp, upC_length, hol]; omega
      go_wp2_with (refine wpList_store_cell rfl 3 (.tmp 20) (.tmp 19) rfl w.heap.size j (by simp [Act.eval]) (.int .i64 (j : Int)) rfl rfl rfl Tryd.size_int 3 (swp (upC m) old j) HB.out hlen ?_; intro w1 hb1 hg1; rw [swp_set _ _ _ _ (upC_get m j hlt) (by omega)] at hb1)
      go_roundw
      case rel => exact ⟨j + 1, by omega, by go_num, hb1, HX.out.grown hg1 HX.out.size (fun k hk => Option.some.inj hk ▸ Nat.le_refl _)⟩
      case measure => simp [intOf]; omega
    · obtain rfl : j = m := by omega
      go_wp2
      go_ret
      have hb2 := HB.out
      rw [swp_all _ _ _ (upC_length _) hol] at hb2
      exact ⟨rfl, Iv.of_blk hb2 rfl, HX.out⟩

theorem all_none (n : Int) (h : n < 1 ∨ 7 < n) (w : World) :
    Calls Tryd.prog 12 #[.int .i64 n] w fun e w' => e = .returned (.slice none 0 0) ∧ w = w' := by
  rcases h with h | h
  · have hd1 : decide (n < 1) = true := by simp; omega
    go_enter Tryd.func12, Tryd.ntmps12
    go_wp2
    go_ret
    exact ⟨rfl, rfl⟩
  · have hd1 : decide (n < 1) = false := by simp; omega
    have hd2 : decide (7 < n) = true := by simp; omega
    go_enter Tryd.func12, Tryd.ntmps12
    go_wp2
    go_ret
    exact ⟨rfl, rfl⟩

end Go.Proofs.YtnncfhkgcaoomaaDoor
