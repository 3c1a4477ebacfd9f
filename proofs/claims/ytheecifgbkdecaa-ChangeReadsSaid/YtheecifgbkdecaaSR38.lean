/-
  CwP
-/
import Derived.Test.YtheecifgbkdecaaSR14
namespace Go.Proofs.Ytheecifgbkdecaa
open Go.RowKit

/-- a proof, its batch read by the batch's own Parse; whether that was OK -/
def pgPf (M : Nat) (n : Int) (st : Option (List UInt8)) : (Pf × Bool) × Option (List UInt8) :=
  ((⟨sx 8 (nval 8 st), sx 8 (nval 8 (nnext 8 st)), (parseG (rval M (nnext 8 (nnext 8 st))) n).1⟩, decide ((parseG (rval M (nnext 8 (nnext 8 st))) n).2 = 0)), rnext M (nnext 8 (nnext 8 st)))
def pgPfs (M most : Nat) (n : Int) (st : Option (List UInt8)) : List (Pf × Bool) × Option (List UInt8) := rdAll (pgPf M n) (cval most st) (cnext most st)
def pgPos (st : Option (List UInt8)) : List Po × Option (List UInt8) := rdAll rdPo (cval 4 st) (cnext 4 st)
def pgCh (M : Nat) (n : Int) (st : Option (List UInt8)) : Ch × Bool × Option (List UInt8) :=
  (⟨sx 8 (nval 8 st), sx 8 (nval 8 (nnext 8 st)), (pgPos (nnext 8 (nnext 8 st))).1, (pgPfs M 8 n (pgPos (nnext 8 (nnext 8 st))).2).1.map (·.1), (pgPfs M 64 n (pgPfs M 8 n (pgPos (nnext 8 (nnext 8 st))).2).2).1.map (·.1)⟩,
   (pgPfs M 8 n (pgPos (nnext 8 (nnext 8 st))).2).1.all (·.2) && (pgPfs M 64 n (pgPfs M 8 n (pgPos (nnext 8 (nnext 8 st))).2).2).1.all (·.2),
   (pgPfs M 64 n (pgPfs M 8 n (pgPos (nnext 8 (nnext 8 st))).2).2).2)
def pgParse (xs : List UInt8) (n : Int) : Ch × Int := if badN n = true then (Ch.no, 1) else finCh (pgCh xs.length n (some xs)) n

theorem nnext_of_none (k : Nat) : nnext k none = none := rfl
theorem rnext_of_none (m : Nat) : rnext m none = none := by unfold rnext; split <;> rfl
theorem cnext_of_none (m : Nat) : cnext m none = none := by unfold cnext; split <;> rfl
theorem pgPf_none (M : Nat) (n : Int) : (pgPf M n none).2 = none := by unfold pgPf; simp only [nnext_of_none, rnext_of_none]
theorem rdPo_none : (rdPo none).2 = none := by unfold rdPo; simp only [nnext_of_none]
theorem rdAll_none {α : Type} {rd : Option (List UInt8) → α × Option (List UInt8)} (h : (rd none).2 = none) : ∀ k, (rdAll rd k none).2 = none
  | 0 => rfl
  | k + 1 => by simp only [rdAll]; rw [h]; exact rdAll_none h k
theorem rdAll_many {α : Type} {rd : Option (List UInt8) → α × Option (List UInt8)} (h : (rd none).2 = none) : ∀ (k : Nat) (st : Option (List UInt8)), (rdAll rd k st).2 = (rdMany rd k st).2 ∧ ((rdMany rd k st).2 ≠ none → rdAll rd k st = rdMany rd k st)
  | 0, st => ⟨rfl, fun _ => rfl⟩
  | k + 1, none => by rw [rdMany_none]; exact ⟨rdAll_none h _, fun h9 => absurd rfl h9⟩
  | k + 1, some xs => by
    rw [rdMany_some]
    simp only [rdAll]
    obtain ⟨h1, h2⟩ := rdAll_many h k (rd (some xs)).2
    exact ⟨h1, fun h9 => by rw [h2 h9]⟩
theorem ppB_chk {vw lw n : Int} : ∀ {q : Option Int} {l : List Pf}, ppB vw lw n q l = true → ∀ p ∈ l, chkB p.es n = 0
  | _, [], _, p, hp => by cases hp
  | q, x :: l, h, p, hp => by
    unfold ppB at h
    simp only [Bool.and_eq_true] at h
    rcases List.mem_cons.1 hp with rfl | hp
    · have h9 := h.1.1
      unfold prfB at h9
      simp only [Bool.and_eq_true, decide_eq_true_eq] at h9
      exact h9.2
    · exact ppB_chk h.2 p hp
theorem pdB_chk {vw lw n : Int} : ∀ {q : Option (Int × Int)} {l : List Pf}, pdB vw lw n q l = true → ∀ p ∈ l, chkB p.es n = 0
  | _, [], _, p, hp => by cases hp
  | q, x :: l, h, p, hp => by
    unfold pdB at h
    simp only [Bool.and_eq_true] at h
    rcases List.mem_cons.1 hp with rfl | hp
    · have h9 := h.1.1
      unfold prfB at h9
      simp only [Bool.and_eq_true, decide_eq_true_eq] at h9
      exact h9.2
    · exact pdB_chk h.2 p hp
/-- a batch by its own Parse, and by the document's reading -/
theorem parseG_row {row : List UInt8} (n : Int) (h : row.length ≤ 1048576) : ((parseG row n).2 = 0 ↔ (rdRow row).2 = true ∧ chkB (rdRow row).1 n = 0) ∧ ((parseG row n).2 = 0 → (parseG row n).1 = (rdRow row).1) := by
  rw [parseG_eq n h]
  unfold parseB finB rdRow
  generalize docR 1048576 (nval 2 (some row)) true [] (nnext 2 (some row)) = R
  obtain ⟨o, b, s⟩ := R
  simp only
  by_cases hh : s = some [] ∧ b = true
  · obtain ⟨rfl, rfl⟩ := hh
    rw [if_pos ⟨rfl, rfl⟩]
    by_cases h2 : chkB o n = 0
    · rw [if_pos h2]; simp [h2]
    · rw [if_neg h2]; simp [h2]
  · rw [if_neg hh]
    refine ⟨⟨fun h9 => absurd h9 (by decide), fun h9 => ?_⟩, fun h9 => absurd h9 (by decide)⟩
    simp only [Bool.and_eq_true, decide_eq_true_eq] at h9
    exact absurd ⟨h9.1.2, h9.1.1⟩ hh
theorem pgPf_rd {M : Nat} {st : Option (List UInt8)} (n : Int) (hm : stL st ≤ M) (h : stL st ≤ 1048576) : (pgPf M n st).2 = (rdPf st).2 ∧ ((pgPf M n st).1.2 = true → (pgPf M n st).1 = (rdPf st).1) ∧ ((rdPf st).1.2 = true → chkB (rdPf st).1.1.es n = 0 → (pgPf M n st).1.2 = true) := by
  have l1 : stL (nnext 8 (nnext 8 st)) ≤ stL st := Nat.le_trans (nnext_stL _ _) (nnext_stL _ _)
  obtain ⟨a1, a2⟩ := row_free (m := M) (m' := 1048576) (st := nnext 8 (nnext 8 st)) (by omega) (by omega)
  have l2 : (rval 1048576 (nnext 8 (nnext 8 st))).length ≤ 1048576 := Nat.le_trans (rval_stL _ _) (by omega)
  obtain ⟨b1, b2⟩ := parseG_row n l2
  unfold pgPf rdPf
  rw [a1, a2]
  generalize rval 1048576 (nnext 8 (nnext 8 st)) = row at *
  refine ⟨rfl, fun h9 => ?_, fun h9 h8 => ?_⟩
  · simp only [decide_eq_true_eq] at h9 ⊢
    rw [b2 h9, (b1.1 h9).1]
    simp [h9]
  · simp only [decide_eq_true_eq] at h9 h8 ⊢
    exact b1.2 ⟨h9, h8⟩
theorem rdPf_stLp (st : Option (List UInt8)) : stL (rdPf st).2 ≤ stL st := Nat.le_trans (rnext_stL _ _) (Nat.le_trans (nnext_stL _ _) (nnext_stL _ _))
theorem pgMany_rd {M : Nat} (n : Int) : ∀ (k : Nat) (st : Option (List UInt8)), stL st ≤ M → stL st ≤ 1048576 → (rdMany (pgPf M n) k st).2 = (rdMany rdPf k st).2 ∧ ((rdMany (pgPf M n) k st).1.all (·.2) = true → (rdMany (pgPf M n) k st).1 = (rdMany rdPf k st).1) ∧ ((rdMany rdPf k st).1.all (·.2) = true → (∀ q ∈ (rdMany rdPf k st).1, chkB q.1.es n = 0) → (rdMany (pgPf M n) k st).1.all (·.2) = true)
  | 0, st, _, _ => ⟨rfl, fun _ => rfl, fun _ _ => rfl⟩
  | k + 1, none, _, _ => by rw [rdMany_none, rdMany_none]; exact ⟨rfl, fun _ => rfl, fun _ _ => rfl⟩
  | k + 1, some xs, hm, h => by
    rw [rdMany_some, rdMany_some]
    obtain ⟨a1, a2, a3⟩ := pgPf_rd (M := M) (st := some xs) n hm h
    have hs := rdPf_stLp (some xs)
    obtain ⟨b1, b2, b3⟩ := pgMany_rd (M := M) n k (rdPf (some xs)).2 (by omega) (by omega)
    rw [a1]
    refine ⟨b1, fun h9 => ?_, fun h9 h8 => ?_⟩
    · simp only [List.all_cons, Bool.and_eq_true] at h9
      simp only
      rw [a2 h9.1, b2 h9.2]
    · simp only [List.all_cons, Bool.and_eq_true] at h9 ⊢
      exact ⟨a3 h9.1 (h8 _ (List.mem_cons_self ..)), b3 h9.2 (fun q hq => h8 q (List.mem_cons_of_mem _ hq))⟩
theorem rdMany_stLp {α : Type} {rd : Option (List UInt8) → α × Option (List UInt8)} (h : ∀ st, stL (rd st).2 ≤ stL st) : ∀ (k : Nat) (st : Option (List UInt8)), stL (rdMany rd k st).2 ≤ stL st
  | 0, _ => Nat.le_refl _
  | k + 1, none => by rw [rdMany_none]; exact Nat.le_refl _
  | k + 1, some xs => by rw [rdMany_some]; exact Nat.le_trans (rdMany_stLp h k _) (h _)
theorem rdAll_stLp {α : Type} {rd : Option (List UInt8) → α × Option (List UInt8)} (h : ∀ st, stL (rd st).2 ≤ stL st) : ∀ (k : Nat) (st : Option (List UInt8)), stL (rdAll rd k st).2 ≤ stL st
  | 0, _ => Nat.le_refl _
  | k + 1, st => by simp only [rdAll]; exact Nat.le_trans (rdAll_stLp h k _) (h st)
theorem rdMany_to_none {α : Type} (rd : Option (List UInt8) → α × Option (List UInt8)) (k : Nat) : (rdMany rd k none).2 = none := by rw [rdMany_none]
theorem cnext_stL_ (m : Nat) (st : Option (List UInt8)) : stL (cnext m st) ≤ stL st := by
  unfold cnext
  split
  · exact nnext_stL _ _
  · cases st <;> simp [stL]
theorem rdPfs_to_none (m : Nat) : (rdPfs m none).2 = none := by unfold rdPfs; rw [cnext_of_none]; exact rdMany_to_none _ _
theorem pgPos_rd (st : Option (List UInt8)) : (pgPos st).2 = (rdPos st).2 ∧ ((rdPos st).2 ≠ none → pgPos st = rdPos st) := rdAll_many rdPo_none _ _
theorem rdPo_stLp (st : Option (List UInt8)) : stL (rdPo st).2 ≤ stL st := Nat.le_trans (nnext_stL _ _) (nnext_stL _ _)
theorem pgPfs_rd {M m : Nat} (n : Int) (st : Option (List UInt8)) (hm : stL st ≤ M) (h : stL st ≤ 1048576) : (pgPfs M m n st).2 = (rdPfs m st).2 ∧ ((rdPfs m st).2 ≠ none → ((pgPfs M m n st).1.all (·.2) = true → (pgPfs M m n st).1 = (rdPfs m st).1) ∧ ((rdPfs m st).1.all (·.2) = true → (∀ q ∈ (rdPfs m st).1, chkB q.1.es n = 0) → (pgPfs M m n st).1.all (·.2) = true)) := by
  have hc := cnext_stL_ m st
  obtain ⟨a1, a2⟩ := rdAll_many (rd := pgPf M n) (pgPf_none M n) (cval m st) (cnext m st)
  obtain ⟨b1, b2, b3⟩ := pgMany_rd (M := M) n (cval m st) (cnext m st) (by omega) (by omega)
  unfold pgPfs rdPfs
  refine ⟨a1.trans b1, fun h9 => ?_⟩
  rw [a2 (by rw [b1]; exact h9)]
  exact ⟨b2, b3⟩
/-- the program's way to read a change tells what the document's tells -/
theorem pgParse_eq {xs : List UInt8} (n : Int) (h : xs.length ≤ 1048576) : pgParse xs n = parseCh xs n := by
  unfold pgParse parseCh
  by_cases hb : badN n = true
  · rw [if_pos hb, if_pos hb]
  rw [if_neg hb, if_neg hb]
  have l0 : stL (nnext 8 (nnext 8 (some xs))) ≤ xs.length := Nat.le_trans (nnext_stL _ _) (Nat.le_trans (nnext_stL _ _) (Nat.le_refl _))
  unfold pgCh rdCh
  generalize sx 8 (nval 8 (some xs)) = v1
  generalize sx 8 (nval 8 (nnext 8 (some xs))) = v2
  generalize nnext 8 (nnext 8 (some xs)) = s0 at *
  obtain ⟨p1, p2⟩ := pgPos_rd s0
  have l1 : stL (rdPos s0).2 ≤ stL s0 := Nat.le_trans (rdMany_stLp rdPo_stLp _ _) (cnext_stL_ _ _)
  rw [p1]
  obtain ⟨q1, q2⟩ := pgPfs_rd (M := xs.length) (m := 8) n (rdPos s0).2 (by omega) (by omega)
  have l2 : stL (rdPfs 8 (rdPos s0).2).2 ≤ stL (rdPos s0).2 := Nat.le_trans (rdMany_stLp rdPf_stLp _ _) (cnext_stL_ _ _)
  rw [q1]
  obtain ⟨r1, r2⟩ := pgPfs_rd (M := xs.length) (m := 64) n (rdPfs 8 (rdPos s0).2).2 (by omega) (by omega)
  unfold finCh
  simp only
  rw [r1]
  by_cases hl : (rdPfs 64 (rdPfs 8 (rdPos s0).2).2).2 = some []
  · have n3 : (rdPfs 64 (rdPfs 8 (rdPos s0).2).2).2 ≠ none := by rw [hl]; exact fun h => nomatch h
    have n2 : (rdPfs 8 (rdPos s0).2).2 ≠ none := fun h9 => by rw [h9] at n3; exact n3 (rdPfs_to_none _)
    have n1 : (rdPos s0).2 ≠ none := fun h9 => by rw [h9] at n2; exact n2 (rdPfs_to_none _)
    rw [p2 n1]
    obtain ⟨q2, q3⟩ := q2 n2
    obtain ⟨r2, r3⟩ := r2 n3
    generalize (rdPos s0).1 = ps at *
    generalize (pgPfs xs.length 8 n (rdPos s0).2).1 = A at *
    generalize (rdPfs 8 (rdPos s0).2).1 = A' at *
    generalize (pgPfs xs.length 64 n (rdPfs 8 (rdPos s0).2).2).1 = B at *
    generalize (rdPfs 64 (rdPfs 8 (rdPos s0).2).2).1 = B' at *
    by_cases hf : (A.all (·.2) && B.all (·.2)) = true
    · simp only [Bool.and_eq_true] at hf
      rw [q2 hf.1, r2 hf.2]
    · rw [if_neg (fun h9 => hf h9.2.1)]
      rw [if_neg]
      rintro ⟨_, h8, h7⟩
      simp only [Bool.and_eq_true] at h8
      unfold rightB at h7
      simp only [Bool.and_eq_true] at h7
      refine hf ?_
      rw [Bool.and_eq_true]
      exact ⟨q3 h8.1 (fun q hq => ppB_chk h7.1.2 q.1 (List.mem_map.2 ⟨q, hq, rfl⟩)), r3 h8.2 (fun q hq => pdB_chk h7.2 q.1 (List.mem_map.2 ⟨q, hq, rfl⟩))⟩
  · rw [if_neg (fun h9 => hl h9.1), if_neg (fun h9 => hl h9.1)]

end Go.Proofs.Ytheecifgbkdecaa
