/-
  CoR
-/
import Derived.Test.YtheecifgbkdecaaSR1
import Derived.Test.YtheecifgbkdecaaSR6
namespace Go.Proofs.Ytheecifgbkdecaa
open Go.RowKit

/-- what is left, and the failure, told as a state -/
def St (xs : List UInt8) (er : Int) : Option (List UInt8) → Prop
  | some r => xs = r ∧ er = 0
  | none => er ≠ 0
/-- Block g is a reader of type t in this state. -/
def Rs (Q : Nat → Prop) (w : World) (g : Nat) (t : TypeId) (st : Option (List UInt8)) : Prop := ∃ xs er, RS Q w g t xs er ∧ St xs er st ∧ xs.length ≤ 1099511627776

section
variable {Q : Nat → Prop} {w w' : World} {g : Nat} {t : TypeId} {st : Option (List UInt8)}
theorem Rs.lt (h : Rs Q w g t st) : g < w.heap.size := by
  obtain ⟨_, _, h, _⟩ := h
  exact h.lt
theorem Rs.below (h : Rs Q w g t st) (hb : Below w.heap.size w w') : Rs Q w' g t st := by
  obtain ⟨xs, er, h, hs, hl⟩ := h
  exact ⟨xs, er, h.below hb, hs, hl⟩
theorem Rs.drew (h : Rs Q w g t st) : Rs Q w.drew g t st := h
theorem Rs.drewN (h : Rs Q w g t st) (n : Nat) : Rs Q (w.drewN n) g t st := h
theorem Rs.alloc (h : Rs Q w g t st) (o : Obj) : Rs Q (w.alloc o) g t st := h.below ((Below.refl _ w).alloc (Nat.le_refl _) o)
/-- A block is turned that isn't this reader's, and none of the bytes'. -/
theorem Rs.other {row : Option Nat} (h : Rs Q w g t st) (hg : w.grownBy w' row) (hr : ∀ b, row = some b → b ≠ g ∧ ¬ Q b) : Rs Q w' g t st := by
  obtain ⟨xs, er, h, hs, hl⟩ := h
  exact ⟨xs, er, h.other hg hr, hs, hl⟩
/-- Other bytes stay when the reader is turned. -/
theorem Rs.by_keep {Q' : Nat → Prop} {A : Option Addr} {n : Nat} {xs : List UInt8} (h : Rs Q w g t st) (hy : By w Q' A n xs) (hg : w.grownBy w' (some g)) : By w' Q' A n xs := by
  obtain ⟨_, _, ⟨A0, n0, c0, hw, _⟩, _⟩ := h
  exact hy.only hg hw
theorem Rs.block (h : Rs Q w g t st) : ∃ cs, w.heap[g]? = some (.cells cs t (0, 0)) := by
  obtain ⟨_, _, h, _⟩ := h
  exact h.block
/-- whether it failed, as its cell tells -/
theorem Rs.err (h : Rs Q w g t st) : ∃ er : Int, w.cell? ⟨g, 1, none⟩ = some (.int .i64 er) ∧ (er = 0 ↔ st ≠ none) := by
  obtain ⟨xs, er, ⟨A, n, c, hw, _⟩, hs, _⟩ := h
  refine ⟨er, by rw [cell_of_row w g 1 _ _ _ hw]; rfl, ?_⟩
  cases st with
  | none => exact ⟨fun e => absurd e hs, fun h => absurd rfl h⟩
  | some r => exact ⟨fun _ => by simp, fun _ => hs.2⟩
end

theorem num_st {xs : List UInt8} {er : Int} {st : Option (List UInt8)} (h : St xs er st) (k : Nat) (hk : wid k = true) :
    numV xs er k = nval k st ∧ St (numX xs er k) (numE xs er k) (nnext k st) := by
  unfold numV numX numE
  rw [hk]
  simp only [if_true]
  cases st with
  | none =>
    have he : er ≠ 0 := h
    refine ⟨?_, ?_⟩
    · unfold takeY
      rw [if_neg (fun h => he h.1)]
      rfl
    · show takeE xs er k ≠ 0
      unfold takeE
      rw [if_neg he]
      exact he
  | some r =>
    obtain ⟨rfl, rfl⟩ := h
    rw [nval_some, nnext_some]
    unfold takeY takeX takeE
    by_cases hl : k ≤ xs.length
    · have hc : (0 : Int) ≤ (k : Int) ∧ (k : Int) ≤ xs.length := ⟨by omega, by omega⟩
      rw [if_pos hl, if_pos hl, if_pos ⟨rfl, hc⟩, if_pos rfl, if_pos rfl, if_pos hc, if_pos hc]
      exact ⟨by simp, by simp, rfl⟩
    · have hc : ¬ ((0 : Int) ≤ (k : Int) ∧ (k : Int) ≤ xs.length) := by omega
      rw [if_neg hl, if_neg hl, if_neg (fun h => hc h.2), if_pos rfl, if_pos rfl, if_neg hc, if_neg hc]
      exact ⟨rfl, show (2 : Int) ≠ 0 by decide⟩
theorem take_st {xs : List UInt8} {er : Int} {st : Option (List UInt8)} (h : St xs er st) (k : Nat) :
    takeY xs er k = tval k st ∧ St (takeX xs er k) (takeE xs er k) (nnext k st) := by
  cases st with
  | none =>
    have he : er ≠ 0 := h
    refine ⟨?_, ?_⟩
    · unfold takeY
      rw [if_neg (fun h => he h.1)]
      rfl
    · show takeE xs er k ≠ 0
      unfold takeE
      rw [if_neg he]
      exact he
  | some r =>
    obtain ⟨rfl, rfl⟩ := h
    rw [tval_some, nnext_some]
    unfold takeY takeX takeE
    by_cases hl : k ≤ xs.length
    · have hc : (0 : Int) ≤ (k : Int) ∧ (k : Int) ≤ xs.length := ⟨by omega, by omega⟩
      rw [if_pos hl, if_pos hl, if_pos ⟨rfl, hc⟩, if_pos rfl, if_pos rfl, if_pos hc, if_pos hc]
      exact ⟨by simp, by simp, rfl⟩
    · have hc : ¬ ((0 : Int) ≤ (k : Int) ∧ (k : Int) ≤ xs.length) := by omega
      rw [if_neg hl, if_neg hl, if_neg (fun h => hc h.2), if_pos rfl, if_pos rfl, if_neg hc, if_neg hc]
      exact ⟨rfl, show (2 : Int) ≠ 0 by decide⟩
theorem up_st {X : List UInt8} {E : Int} {st : Option (List UInt8)} (h : St X E st) (V most : Nat) (b : Int) (hb : b ≠ 0) (hV : st = none → V = 0) :
    upV V most = ((if V ≤ most then V else 0 : Nat) : Int) ∧ St (upX X E V most) (upE E V most b) (if V ≤ most then st else none) := by
  unfold upV upX upE
  by_cases hl : V ≤ most
  · have hc : ¬ (most : Int) < (V : Nat) := by omega
    rw [if_neg hc, if_neg hc, if_neg hc, if_pos hl, if_pos hl]
    exact ⟨rfl, h⟩
  · have hc : (most : Int) < (V : Nat) := by omega
    rw [if_pos hc, if_pos hc, if_pos hc, if_neg hl, if_neg hl]
    refine ⟨rfl, ?_⟩
    show failE E b ≠ 0
    cases st with
    | none => exact absurd (hV rfl) (by omega)
    | some r =>
      rw [h.2]
      exact hb
theorem row_st {xs : List UInt8} {er : Int} {st : Option (List UInt8)} (h : St xs er st) (most : Nat) :
    rowY xs er most = rval most st ∧ St (rowX xs er most) (rowE xs er most) (rnext most st) := by
  obtain ⟨h1, h2⟩ := num_st h 4 rfl
  have h1' : numV xs er 4 = nval 4 st := h1
  have h2' : St (numX xs er 4) (numE xs er 4) (nnext 4 st) := h2
  have hz : nnext 4 st = none → nval 4 st = 0 := fun e => by
    cases st with
    | none => rfl
    | some r =>
      rw [nnext_some] at e
      rw [nval_some]
      split at e
      · cases e
      · rename_i hn
        rw [if_neg hn]
  obtain ⟨h3, h4⟩ := up_st h2' (nval 4 st) most 3 (by decide) hz
  unfold rowY rowX rowE rval rnext
  rw [h1', h3]
  obtain ⟨h5, h6⟩ := take_st h4 (if nval 4 st ≤ most then nval 4 st else 0)
  rw [h5]
  refine ⟨?_, ?_⟩
  · split
    · rfl
    · rfl
  · split
    · rename_i hl
      rw [if_pos hl, if_pos hl] at h6
      exact h6
    · rename_i hl
      rw [if_neg hl, if_neg hl] at h6
      exact h6
theorem cnt_st {xs : List UInt8} {er : Int} {st : Option (List UInt8)} (h : St xs er st) (most : Nat) :
    upV (numV xs er 2) most = (cval most st : Int) ∧ St (upX (numX xs er 2) (numE xs er 2) (numV xs er 2) most) (upE (numE xs er 2) (numV xs er 2) most 4) (cnext most st) := by
  obtain ⟨h1, h2⟩ := num_st h 2 rfl
  have h1' : numV xs er 2 = nval 2 st := h1
  have h2' : St (numX xs er 2) (numE xs er 2) (nnext 2 st) := h2
  have hz : nnext 2 st = none → nval 2 st = 0 := fun e => by
    cases st with
    | none => rfl
    | some r =>
      rw [nnext_some] at e
      rw [nval_some]
      split at e
      · cases e
      · rename_i hn
        rw [if_neg hn]
  obtain ⟨h3, h4⟩ := up_st h2' (nval 2 st) most 4 (by decide) hz
  rw [h1', h3]
  exact ⟨rfl, h4⟩
theorem end_st {xs : List UInt8} {er : Int} {st : Option (List UInt8)} (h : St xs er st) : endV xs er = 0 ↔ st = some [] := by
  unfold endV
  cases st with
  | none =>
    have he : er ≠ 0 := h
    rw [if_neg he]
    exact ⟨fun e => absurd e he, fun e => by cases e⟩
  | some r =>
    obtain ⟨rfl, rfl⟩ := h
    rw [if_pos rfl]
    by_cases hx : xs = []
    · rw [if_pos hx, hx]; simp
    · rw [if_neg hx]; simp [hx]

/-- what a number leaves isn't longer -/
theorem rowX_le (xs : List UInt8) (er : Int) (most : Int) : (rowX xs er most).length ≤ xs.length := by
  unfold rowX
  exact Nat.le_trans (takeX_le _ _ _) (Nat.le_trans (upX_le _ _ _ _) (numX_le _ _ _))

section
variable {Q : Nat → Prop} {g : Nat} {st : Option (List UInt8)} {w : World}
theorem number_rs (h : Rs Q w g tR st) (k : Nat) (hk : wid k = true) : Calls Try.prog 72 #[.pointer (some ⟨g, 0, none⟩), .int .i64 k] w fun e w' => e = .returned (.int .u64 (nval k st)) ∧ Rs Q w' g tR (nnext k st) ∧ w.grownBy w' (some g) := by
  obtain ⟨xs, er, h, hs, hl⟩ := h
  obtain ⟨h1, h2⟩ := num_st hs k hk
  rw [← h1]
  exact (number_any g xs er k w h).mono fun e w' ⟨he, hr, hg⟩ => ⟨he, ⟨_, _, hr, h2, Nat.le_trans (numX_le _ _ _) hl⟩, hg⟩
theorem rnumber_rs (h : Rs Q w g tQ st) (k : Nat) (hk : wid k = true) : Calls Try.prog 55 #[.pointer (some ⟨g, 0, none⟩), .int .i64 k] w fun e w' => e = .returned (.int .u64 (nval k st)) ∧ Rs Q w' g tQ (nnext k st) ∧ w.grownBy w' (some g) := by
  obtain ⟨xs, er, h, hs, hl⟩ := h
  obtain ⟨h1, h2⟩ := num_st hs k hk
  rw [← h1]
  exact (rnumber_any g xs er k hl w h).mono fun e w' ⟨he, hr, hg⟩ => ⟨he, ⟨_, _, hr, h2, Nat.le_trans (numX_le _ _ _) hl⟩, hg⟩
theorem row_rs (h : Rs Q w g tR st) (most : Nat) : Calls Try.prog 48 #[.pointer (some ⟨g, 0, none⟩), .int .i64 most] w fun e w' => ∃ B m c, e = .returned (.slice B m c) ∧ By w' (fun _ => True) B m (rval most st) ∧ Rs Q w' g tR (rnext most st) ∧ w.grownBy w' (some g) := by
  obtain ⟨xs, er, h, hs, hl⟩ := h
  obtain ⟨h1, h2⟩ := row_st hs most
  rw [← h1]
  exact (rowm_any g xs er most hl w h).mono fun e w' ⟨B, m, c, he, hm, hy, hr, hg⟩ => ⟨B, m, c, he, hy, ⟨_, _, hr, h2, Nat.le_trans (rowX_le _ _ _) hl⟩, hg⟩
theorem rrow_rs (h : Rs Q w g tQ st) (most : Nat) (hm : most ≤ 1099511627776) : Calls Try.prog 74 #[.pointer (some ⟨g, 0, none⟩), .int .i64 most] w fun e w' => ∃ B m c, e = .returned (.slice B m c) ∧ By w' (fun _ => True) B m (rval most st) ∧ Rs Q w' g tQ (rnext most st) ∧ w.grownBy w' (some g) := by
  obtain ⟨xs, er, h, hs, hl⟩ := h
  obtain ⟨h1, h2⟩ := row_st hs most
  rw [← h1]
  exact (rrowm_any g xs er most (by omega) hl w h).mono fun e w' ⟨B, m, c, he, hm, hy, hr, hg⟩ => ⟨B, m, c, he, hy, ⟨_, _, hr, h2, Nat.le_trans (rowX_le _ _ _) hl⟩, hg⟩
theorem count_rs (h : Rs Q w g tR st) (most : Nat) : Calls Try.prog 73 #[.pointer (some ⟨g, 0, none⟩), .int .i64 most] w fun e w' => e = .returned (.int .i64 (cval most st)) ∧ Rs Q w' g tR (cnext most st) ∧ w.grownBy w' (some g) := by
  obtain ⟨xs, er, h, hs, hl⟩ := h
  obtain ⟨h1, h2⟩ := cnt_st hs most
  rw [← h1]
  exact (count_any g xs er most w h).mono fun e w' ⟨he, hr, hg⟩ => ⟨he, ⟨_, _, hr, h2, Nat.le_trans (upX_le _ _ _ _) (Nat.le_trans (numX_le _ _ _) hl)⟩, hg⟩
theorem rcount_rs (h : Rs Q w g tQ st) (most : Nat) : Calls Try.prog 56 #[.pointer (some ⟨g, 0, none⟩), .int .i64 most] w fun e w' => e = .returned (.int .i64 (cval most st)) ∧ Rs Q w' g tQ (cnext most st) ∧ w.grownBy w' (some g) := by
  obtain ⟨xs, er, h, hs, hl⟩ := h
  obtain ⟨h1, h2⟩ := cnt_st hs most
  rw [← h1]
  exact (rcount_any g xs er most hl w h).mono fun e w' ⟨he, hr, hg⟩ => ⟨he, ⟨_, _, hr, h2, Nat.le_trans (upX_le _ _ _ _) (Nat.le_trans (numX_le _ _ _) hl)⟩, hg⟩
theorem end_rs (h : Rs Q w g tR st) : Calls Try.prog 53 #[.pointer (some ⟨g, 0, none⟩)] w fun e w' => ∃ x, e = .returned (.int .i64 x) ∧ (x = 0 ↔ st = some []) ∧ w = w' := by
  obtain ⟨xs, er, h, hs, hl⟩ := h
  exact (end_any g xs er w h).mono fun e w' ⟨he, hw⟩ => ⟨_, he, end_st hs, hw⟩
theorem rend_rs (h : Rs Q w g tQ st) : Calls Try.prog 59 #[.pointer (some ⟨g, 0, none⟩)] w fun e w' => ∃ x, e = .returned (.int .i64 x) ∧ (x = 0 ↔ st = some []) ∧ w = w' := by
  obtain ⟨xs, er, h, hs, hl⟩ := h
  exact (rend_any g xs er w h).mono fun e w' ⟨he, hw⟩ => ⟨_, he, end_st hs, hw⟩
theorem read_rs {Q' : Nat → Prop} {A : Option Addr} {n c : Nat} {xs : List UInt8} (h : By w Q' A n xs) (hn : n ≤ 1099511627776) : Calls Try.prog 44 #[.slice A n c] w fun e w' => ∃ g, e = .returned (.pointer (some ⟨g, 0, none⟩)) ∧ Rs (fun b => w.heap.size ≤ b) w' g tR (some xs) ∧ Below w.heap.size w w' ∧ w.heap.size ≤ g := by
  refine (read_any Q' A n c xs w h hn).mono fun e w' ⟨g, he, hr, hb, hg⟩ => ⟨g, he, ⟨xs, 0, hr, ⟨rfl, rfl⟩, ?_⟩, hb, hg⟩
  rw [h.len]
  exact hn
/-- The document's reader, built on bytes that were handed in. -/
theorem rs_built {A : Option Addr} {n c : Nat} {xs : List UInt8} (h : By w Q A n xs) (hnc : n ≤ c) (hc : c ≤ maxLen) (hn : n ≤ 1099511627776) : Rs Q (w.alloc (.cells #[.slice A n c, .int .i64 0] tQ)) w.heap.size tQ (some xs) :=
  ⟨xs, 0, ⟨A, n, c, heap_alloc_new w _, hnc, hc, fun _ => h.alloc _⟩, ⟨rfl, rfl⟩, by rw [h.len]; exact hn⟩
end

end Go.Proofs.Ytheecifgbkdecaa
