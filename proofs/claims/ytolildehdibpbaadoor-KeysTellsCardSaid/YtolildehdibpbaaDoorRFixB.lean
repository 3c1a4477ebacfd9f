/-
  The document's reader: Fixed, Number, End.
-/
import Derived.Test.YtolildehdibpbaaDoorRdW
namespace Go.Proofs.YtolildehdibpbaaDoor
open Go.RowKit

abbrev tQ : TypeId := 88

theorem RS.marked {w : World} {g : Nat} {A : Option Addr} {n c : Nat} {er : Int} (h : w.heap[g]? = some (.cells #[.slice A n c, .int .i64 er] tQ (0, 0))) (hn : n ≤ c) (hm : c ≤ maxLen) (xs : List UInt8) (k : Int) (hk : k ≠ 0) :
    RS (w.setCell ⟨g, 1, none⟩ (.int .i64 k)) g tQ xs k ∧ w.grownBy (w.setCell ⟨g, 1, none⟩ (.int .i64 k)) (some g) :=
  ⟨⟨A, n, c, by rw [heap_set h 1 _]; rfl, hn, hm, fun h0 => absurd h0 hk⟩, only_set w g 1 _⟩

set_option maxHeartbeats 1000000 in
theorem rfixed_bad (g : Nat) (xs : List UInt8) (er k : Int) (he : er ≠ 0) (w : World) (h : RS w g tQ xs er) :
    Calls Tryd.prog 53 #[.pointer (some ⟨g, 0, none⟩), .int .i64 k] w (Gave w g tQ [] xs er) := by
  obtain ⟨A, n, c, hw, hn, hm, hy⟩ := id h
  have h1 : w.cell? ⟨g, 1, none⟩ = some (.int .i64 er) := by rw [cell_of_row w g 1 _ _ _ hw]; rfl
  have e1 : (er == 0) = false := by simpa using he
  have e2 : (er != 0) = true := by simpa using he
  have H := Lib.hid h
  clear hw h hy
  go_enter Tryd.func53, Tryd.ntmps53
  go_wp2
  go_ret
  exact ⟨none, 0, 0, rfl, Nat.le_refl _, By.none_, H.out, only_refl _ _⟩

set_option maxHeartbeats 1000000 in
theorem rfixed_out (g : Nat) (xs : List UInt8) (k : Int) (hk : ¬ (0 ≤ k ∧ k ≤ xs.length)) (w : World) (h : RS w g tQ xs 0) :
    Calls Tryd.prog 53 #[.pointer (some ⟨g, 0, none⟩), .int .i64 k] w (Gave w g tQ [] [] 2) := by
  obtain ⟨A, n, c, hw, hn, hm, hy⟩ := h
  have hl := (hy rfl).len
  have h0 : w.cell? ⟨g, 0, none⟩ = some (.slice A n c) := by rw [cell_of_row w g 0 _ _ _ hw]; rfl
  have h1 : w.cell? ⟨g, 1, none⟩ = some (.int .i64 0) := by rw [cell_of_row w g 1 _ _ _ hw]; rfl
  have f1 : w.frozen? ⟨g, 1, none⟩ = false := frozen_of_row w g 1 _ _ hw
  have HW := Lib.hid hw
  clear hw hy
  by_cases hneg : k < 0
  · clear hk
    go_enter Tryd.func53, Tryd.ntmps53
    go_wp2
    go_ret
    exact ⟨none, 0, 0, rfl, Nat.le_refl _, By.none_, RS.marked HW.out hn hm [] 2 (by decide)⟩
  · have hgt : (n : Int) < k := by omega
    have hge : 0 ≤ k := by omega
    clear hk hneg hl
    go_enter Tryd.func53, Tryd.ntmps53
    go_wp2
    go_ret
    exact ⟨none, 0, 0, rfl, Nat.le_refl _, By.none_, RS.marked HW.out hn hm [] 2 (by decide)⟩

theorem rfix_keep {w : World} {g k : Nat} {cs : Array Value} {B : Option Addr} {ys : List UInt8} {base : Nat} (hw : w.heap[g]? = some (.cells cs tQ (0, 0))) (h : By w (fun g => base ≤ g ∧ g < w.heap.size ∧ Bk w g) B k ys) (u : Value) :
    By (w.setCell ⟨g, 0, none⟩ u) (Bk (w.setCell ⟨g, 0, none⟩ u)) B k ys :=
  (h.weak fun _ h => h.2.2).keepBk (only_set w g 0 u) (fun k hk => by injection hk with hk; subst hk; exact ⟨_, _, hw, by decide⟩)

set_option maxHeartbeats 1000000 in
theorem rfixed_in (g : Nat) (xs : List UInt8) (k : Nat) (hk : k ≤ xs.length) (hx : xs.length ≤ 1099511627776) (w : World) (h : RS w g tQ xs 0) :
    Calls Tryd.prog 53 #[.pointer (some ⟨g, 0, none⟩), .int .i64 k] w (Gave w g tQ (xs.take k) (xs.drop k) 0) := by
  obtain ⟨i0, hi, hz0, hz1, hz2⟩ := info_parts Tryd.info_u8
  obtain ⟨A, n, c, hw, hn, hm, hy⟩ := h
  have HY := Lib.hid (hy rfl)
  have hl : k ≤ n := by rw [← HY.out.len]; exact hk
  have hn40 : n ≤ 1099511627776 := by rw [← HY.out.len]; exact hx
  have h0 : w.cell? ⟨g, 0, none⟩ = some (.slice A n c) := by rw [cell_of_row w g 0 _ _ _ hw]; rfl
  have h1 : w.cell? ⟨g, 1, none⟩ = some (.int .i64 0) := by rw [cell_of_row w g 1 _ _ _ hw]; rfl
  have HW := Lib.hid hw
  have hglt : g < w.heap.size := (Array.getElem?_eq_some_iff.1 hw).1
  have hge : ¬ ((n : Int) < k) := by omega
  have h0a : ∀ o, (w.alloc o).cell? ⟨g, 0, none⟩ = some (.slice A n c) := fun o => (World.cell?_alloc_lt w o ⟨g, 0, none⟩ hglt).trans h0
  clear hw hy hk
  go_enter Tryd.func53, Tryd.ntmps53
  go_wp2_with (at_builtin; refine wpList_append_by _ rfl (.tmp 32) (.tmp 38) 22 rfl w.heap.size i0 Tryd.underlying22 hi hz0 hz1 hz2 _ 0 [] rfl (World.ownsRow_made w #[] 0 (Nat.le_refl _) (Nat.zero_le _) rfl) (Bk w) A k c (xs.take k) rfl ((HY.out.take hl).alloc _) (by omega) (by simp) ?_; intro v2 w2 hown2 hgrow2 _; simp only [Nat.zero_add, List.nil_append] at hown2; have hb2 : Below w.heap.size w w2 := ((Below.refl _ w).alloc (Nat.le_refl _) _).grown hgrow2 (by simp) (by intro k hk; simp [Act.eval, Value.ownBlock] at hk; omega); clear hgrow2; have hw2 := (hb2.block g hglt).trans HW.out; have h02 : w2.cell? ⟨g, 0, none⟩ = some (.slice A n c) := (by rw [cell_of_row w2 g 0 _ _ _ hw2]; rfl); have f02 := frozen_of_row w2 g 0 _ _ hw2; obtain ⟨B, cB, rfl, hcB, _⟩ := own_form hown2; have O2 := Lib.hid hown2; have HW2 := Lib.hid hw2; clear hown2 hw2; have HY2 := Lib.hid (HY.out.keepBk (w' := w2) (row := none) ⟨hb2.os, hb2.tape, hb2.output, hb2.size, fun k hk _ => hb2.block k hk⟩ (fun k h => by cases h)))
  · have ec : c = k := by assumption
    go_ret
    have T := took (k := k) (t := tQ) (by decide) HW2.out HY2.out hl hn hm (A' := A) (by rw [if_pos ec])
    have e0 : c - k = 0 := by omega
    rw [e0] at T
    exact ⟨B, k, cB, rfl, hcB, rfix_keep (g := g) HW2.out (By.of_own O2.out) _, T.2.1, only_trans (only_below hb2) T.2.2⟩
  · go_ret
    have T := took (k := k) (t := tQ) (by decide) HW2.out HY2.out hl hn hm (A' := Option.map (fun x => x.add k) A) (by rw [if_neg ‹_›])
    exact ⟨B, k, cB, rfl, hcB, rfix_keep (g := g) HW2.out (By.of_own O2.out) _, T.2.1, only_trans (only_below hb2) T.2.2⟩

theorem rfixed_any (g : Nat) (xs : List UInt8) (er k : Int) (hx : xs.length ≤ 1099511627776) (w : World) (h : RS w g tQ xs er) :
    Calls Tryd.prog 53 #[.pointer (some ⟨g, 0, none⟩), .int .i64 k] w (Gave w g tQ (takeY xs er k) (takeX xs er k) (takeE xs er k)) := by
  unfold takeY takeX takeE
  by_cases he : er = 0
  · subst he
    by_cases hk : 0 ≤ k ∧ k ≤ xs.length
    · obtain ⟨j, rfl⟩ := Int.eq_ofNat_of_zero_le hk.1
      simp only [if_true, hk, and_self]
      exact rfixed_in g xs j (by omega) hx w h
    · simp only [true_and, if_true, if_neg hk]
      exact rfixed_out g xs k hk w h
  · simp only [he, false_and, if_false]
    exact rfixed_bad g xs er k he w h

end Go.Proofs.YtolildehdibpbaaDoor
