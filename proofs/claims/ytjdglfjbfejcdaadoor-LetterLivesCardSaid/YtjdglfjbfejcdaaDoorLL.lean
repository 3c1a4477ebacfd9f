/-
  A life: what steps keep, by plain functions; a slice of steps in memory. No walk here.
-/
import Derived.Test.YtjdglfjbfejcdaaDoorLF10
namespace Go.Proofs.YtjdglfjbfejcdaaDoor
open Go.RowKit

/-- What a letter under way keeps. -/
def Good (l : Lt) : Prop := l.nm = [110] ∧ (l.st = 0 ∨ (1 ≤ l.am ∧ l.am ≤ 1099511627776 ∧ 0 ≤ l.du))
theorem good_first : Good ⟨[110], 0, 0, 0, [], []⟩ := ⟨rfl, .inl rfl⟩
theorem step_no {l : Lt} {op a b : Int} {t : List UInt8} (h : (stepL l op a b t).2 ≠ 0) : (stepL l op a b t).1 = Lt.no := by
  unfold stepL at h ⊢
  by_cases h0 : nextL l.st op = 0
  · rw [if_pos h0]
  rw [if_neg h0] at h ⊢
  by_cases h1 : (changeL l op a b t).2 ≠ 0
  · rw [if_pos h1]
  · rw [if_neg h1] at h
    exact absurd rfl h
theorem step_over {l : Lt} {op a b : Int} {t : List UInt8} (h : overL l.st = true) : (stepL l op a b t).2 ≠ 0 := by
  unfold stepL
  rw [if_pos (over_next op h)]
  simp only
  split <;> decide
theorem next_none {op : Int} (h : op ≠ 1) : nextL 0 op = 0 := by
  unfold nextL
  rw [if_neg h]
  repeat' split
  all_goals first | rfl | omega
theorem apply_good {nm t : List UInt8} {a b : Int} (h : (applyL nm a b t).2 = 0) : (applyL nm a b t).1.nm = nm ∧ 1 ≤ (applyL nm a b t).1.am ∧ (applyL nm a b t).1.am ≤ 1099511627776 ∧ 0 ≤ (applyL nm a b t).1.du := by
  unfold applyL at h ⊢
  by_cases h1 : 200 < t.length
  · rw [if_pos h1] at h; exact absurd h (by decide)
  rw [if_neg h1] at h ⊢
  by_cases h2 : a < 1
  · rw [if_pos h2] at h; exact absurd h (by decide)
  rw [if_neg h2] at h ⊢
  by_cases h3 : isM a = false
  · rw [if_pos h3] at h; exact absurd h (by decide)
  rw [if_neg h3] at h ⊢
  by_cases h4 : isM b = false
  · rw [if_pos h4] at h; exact absurd h (by decide)
  rw [if_neg h4]
  have h5 := isM_yes (b := a) (by simpa using h3)
  have h6 := isM_yes (b := b) (by simpa using h4)
  exact ⟨rfl, by simp only; omega, by simp only; omega, by simp only; omega⟩
theorem amend_good {l : Lt} {a b : Int} (hd : 0 ≤ l.du) (h : (amendL l a b).2 = 0) : (amendL l a b).1.nm = l.nm ∧ 1 ≤ (amendL l a b).1.am ∧ (amendL l a b).1.am ≤ 1099511627776 ∧ 0 ≤ (amendL l a b).1.du := by
  have hm := isM_yes (isM_chg l.am a)
  unfold amendL at h ⊢
  by_cases h1 : (chgM l.am a).2 ≠ 0
  · rw [if_pos h1] at h; exact absurd h h1
  rw [if_neg h1] at h ⊢
  by_cases h2 : (chgM l.am a).1 = 0
  · rw [if_pos h2] at h; exact absurd h (by decide)
  rw [if_neg h2] at h ⊢
  by_cases h4 : isM b = false
  · rw [if_pos h4] at h; exact absurd h (by decide)
  rw [if_neg h4]
  have h6 := isM_yes (b := b) (by simpa using h4)
  refine ⟨rfl, by simp only; omega, by simp only; omega, ?_⟩
  simp only
  split <;> omega
theorem step_good {l : Lt} {op a b : Int} {t : List UInt8} (hg : Good l) (h : (stepL l op a b t).2 = 0) :
    (stepL l op a b t).1.nm = [110] ∧ 1 ≤ (stepL l op a b t).1.am ∧ (stepL l op a b t).1.am ≤ 1099511627776 ∧ 1 ≤ (stepL l op a b t).1.st ∧ (stepL l op a b t).1.st ≤ 7 ∧ 0 ≤ (stepL l op a b t).1.du := by
  obtain ⟨hn, hs⟩ := hg
  have hr := nextL_rng l.st op
  unfold stepL at h ⊢
  by_cases h0 : nextL l.st op = 0
  · rw [if_pos h0] at h
    simp only at h
    split at h <;> exact absurd h (by decide)
  rw [if_neg h0] at h ⊢
  by_cases h1 : (changeL l op a b t).2 ≠ 0
  · rw [if_pos h1] at h; exact absurd h h1
  rw [if_neg h1]
  simp only [ne_eq, Classical.not_not] at h1
  simp only
  have hkey : (changeL l op a b t).1.nm = [110] ∧ 1 ≤ (changeL l op a b t).1.am ∧ (changeL l op a b t).1.am ≤ 1099511627776 ∧ 0 ≤ (changeL l op a b t).1.du := by
    by_cases e1 : op = 1
    · unfold changeL at h1 ⊢
      rw [if_pos e1] at h1 ⊢
      have := apply_good h1
      exact ⟨this.1.trans hn, this.2⟩
    have hs' : 1 ≤ l.am ∧ l.am ≤ 1099511627776 ∧ 0 ≤ l.du := by
      rcases hs with hs | hs
      · rw [hs, next_none e1] at h0
        exact absurd rfl h0
      · exact hs
    unfold changeL at h1 ⊢
    rw [if_neg e1] at h1 ⊢
    by_cases e3 : op = 3
    · rw [if_pos e3] at h1 ⊢
      have := amend_good hs'.2.2 h1
      exact ⟨this.1.trans hn, this.2⟩
    rw [if_neg e3] at h1 ⊢
    by_cases e4 : op = 4
    · rw [if_pos e4] at h1 ⊢
      unfold presentL at h1 ⊢
      by_cases h2 : 200 < t.length
      · rw [if_pos h2] at h1; exact absurd h1 (by decide)
      · rw [if_neg h2]; exact ⟨hn, hs'⟩
    rw [if_neg e4]
    by_cases e6 : op = 6
    · rw [if_pos e6]; exact ⟨hn, hs'⟩
    rw [if_neg e6]
    by_cases e8 : op = 8
    · rw [if_pos e8]; exact ⟨hn, hs'⟩
    · rw [if_neg e8]; exact ⟨hn, hs'⟩
  exact ⟨hkey.1, hkey.2.1, hkey.2.2.1, by omega, by omega, hkey.2.2.2⟩

/-- A step of a life, as cells. -/
def stC (op a b : Int) (t : List UInt8) : List Value := [.int .i64 op, .int .i64 a, .int .i64 b, .string (ba t)]
/-- A slice of steps, as it lies in memory. -/
def Sts (w : World) (L : Option Addr) (m : Nat) : Prop :=
  0 < m → ∃ g o, L = some ⟨g, o, none⟩ ∧ ∀ i, i < m → ∃ op a b t, w.rangeAt g (o + i * 4) (stC op a b t)
theorem Sts.through {w w' : World} {L : Option Addr} {m : Nat} (h : Sts w L m) (hb : Below w.heap.size w w') : Sts w' L m := fun hm => by
  obtain ⟨g, o, e, hc⟩ := h hm
  refine ⟨g, o, e, fun i hi => ?_⟩
  obtain ⟨op, a, b, t, h0⟩ := hc i hi
  have lt : g < w.heap.size := World.block_lt_of_cell? w ⟨g, o + i * 4 + 0, none⟩ (h0 0 _ rfl)
  exact ⟨op, a, b, t, fun j v hv => (hb.cell (p := ⟨g, _, none⟩) lt).trans (h0 j v hv)⟩
theorem Tryd.run_index_st (W : World) (g o n c j : Nat) (hj : j < n) : (Instr.indexAt 31 (.slice (some ⟨g, o, none⟩) n c) (.int .i64 (j : Int))).run Tryd.prog W = .ok (.pointer (some ⟨g, o + j * 4, none⟩)) W := by
  have hs : (sizeOf 33).run Tryd.prog W = .ok 4 W := by kernel_rfl
  have he : Tryd.prog.elem 31 = 33 := by kernel_rfl
  rw [run_indexAt_slice (P := Tryd.prog) W 31 ⟨g, o, none⟩ n c .i64 j (by rw [he]; exact Tryd.underlying31), if_pos ⟨by omega, by omega⟩, he, hs]
  simp only [Result.andThen_ok, Int.toNat_natCast]
  have ea : (⟨g, o, none⟩ : Addr).add (j * 4) = ⟨g, o + j * 4, none⟩ := by unfold Addr.add; split <;> simp_all
  rw [ea]

end Go.Proofs.YtjdglfjbfejcdaaDoor
