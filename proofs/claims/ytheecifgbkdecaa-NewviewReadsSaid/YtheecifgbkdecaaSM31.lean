/-
  NlL0 CwP NwP ClF
-/
import Derived.Test.YtheecifgbkdecaaSM29
import Derived.Test.YtheecifgbkdecaaSM30
import Derived.Test.YtheecifgbkdecaaSM26
import Derived.Test.YtheecifgbkdecaaSM20
import Derived.Test.YtheecifgbkdecaaSM27
import Derived.Test.YtheecifgbkdecaaSM11
import Derived.Test.YtheecifgbkdecaaSM28
namespace Go.Proofs.Ytheecifgbkdecaa
open Go.RowKit

def fewNv (l : List Sg) : Bool := l.all (fun s => fewCh s.ch) && decide (l.length ≤ 10)
theorem fewNv_low {l : List Sg} (h : fewNv l = true) : (∀ s ∈ l, fewCh s.ch = true) ∧ l.length ≤ 10 := by
 unfold fewNv at h
 simp only [Bool.and_eq_true, decide_eq_true_eq, List.all_eq_true] at h
 exact h
theorem AllS.mem {w : World} {l : List Sg} {ts : List (Pl × Pl × Pl)} (h : AllS w l ts) : ∀ s ∈ l, ∃ t : Pl × Pl × Pl, ChIn w t.1 t.2.1 t.2.2 s.ch := fun s hs => by
 obtain ⟨i, hi⟩ := List.getElem?_of_mem hs
 obtain ⟨t, _, h9⟩ := h.at hi
 exact ⟨t, h9⟩
theorem SgsIn.dg {w : World} {A : Option Addr} {k : Nat} {l : List Sg} (h : SgsIn w A k l) : ∀ s ∈ l, ∀ p ∈ s.ch.po, p.dg.length = 32 := fun s hs => by
 obtain ⟨ts, _, h8⟩ := h
 obtain ⟨t, h9⟩ := h8.mem s hs
 exact h9.1.1.2
theorem encNv_len {view : Int} {l : List Sg} (hf : fewNv l = true) (hd : ∀ s ∈ l, ∀ p ∈ s.ch.po, p.dg.length = 32) : (encNv view l).length ≤ 9000000 := by
 obtain ⟨h1, h2⟩ := fewNv_low hf
 have : ∀ l : List Sg, (∀ s ∈ l, (encCh s.ch).length ≤ 800000) → (encAll encSg l).length ≤ l.length * 800010 := fun l => by
  induction l with
  | nil => intro _; simp [encAll]
  | cons s l ih =>
   intro h
   have h3 := ih (fun z hz => h z (List.mem_cons_of_mem _ hz))
   have h4 := h s (List.mem_cons_self ..)
   simp only [encAll, List.length_append, List.length_cons, encSg, rowB, beB_length]
   rw [Nat.add_mul, Nat.one_mul]
   omega
 have h9 := this l (fun s hs => encCh_len (h1 s hs) (hd s hs))
 have h8 : l.length * 800010 ≤ 10 * 800010 := Nat.mul_le_mul h2 (Nat.le_refl _)
 unfold encNv
 simp only [List.length_append, beB_length]
 omega
/-- a proof that may be is told by its bytes -/
theorem parse19_back {view : Int} {l : List Sg} {N : Int} (hv : In64 view) (hf : fewNv l = true) (hi : ∀ s ∈ l, s.ch.InR) (hd : ∀ s ∈ l, ∀ p ∈ s.ch.po, p.dg.length = 32) (h : chkNv view l N = 0) : parseNv (encNv view l) N = ((view, l), 0) := by
 obtain ⟨h1, _, h3⟩ := chkNv_0 h
 obtain ⟨f1, _⟩ := fewNv_low hf
 refine parseNv_enc hv h (fun s hs => ⟨?_, ?_⟩)
 ·refine parse18_back (f1 s hs) (hi s hs) (hd s hs) ?_
  unfold chkCh
  rw [if_neg (by simp [h1]), if_pos (okNv_all h3 s hs).2.2]
 ·have := encCh_len (f1 s hs) (hd s hs); omega

def FixedN : Prop := ∀ w : World, Calls Try.prog 21 #[] w fun e w' => e = .returned (.bool true) ∧ Below w.heap.size w w'
def BytesNW : Prop := ∀ (view : Int) (l : List Sg) (A : Option Addr) (k c : Nat) (w : World), SgsIn w A k l → fewNv l = true → Calls Try.prog 23 #[.int .i64 view, .slice A k c] w (Byt w (encNv view l))
def CheckNW : Prop := ∀ (view : Int) (l : List Sg) (N : Int) (A : Option Addr) (k c : Nat) (w : World), SgsIn w A k l → k ≤ c → c ≤ maxLen → fewNv l = true → Calls Try.prog 24 #[.int .i64 view, .slice A k c, .int .i64 N] w fun e w' => e = .returned (.int .i64 (chkNv view l N)) ∧ Below w.heap.size w w'
def FaultsNW : Prop := ∀ (n : Int) (w : World), n ≤ 300 → Calls Try.prog 30 #[.int .i64 n] w fun e w' => e = .returned (.int .i64 (fltN n)) ∧ Below w.heap.size w w'
def QuorumNW : Prop := ∀ (n : Int) (w : World), n ≤ 300 → Calls Try.prog 32 #[.int .i64 n] w fun e w' => e = .returned (.int .i64 (2 * fltN n + 1)) ∧ Below w.heap.size w w'

end Go.Proofs.Ytheecifgbkdecaa

namespace Go.Proofs.Ytheecifgbkdecaa
open Go.RowKit

/-- a proof, its batch read by the batch's own Parse; whether that was OK -/
def pgPf (M : Nat) (n : Int) (st : Option (List UInt8)) : (Pf × Bool) × Option (List UInt8) :=
  ((⟨sx 8 (nval 8 st), sx 8 (nval 8 (nnext 8 st)), (parseG (rval M (nnext 8 (nnext 8 st))) n).1⟩, decide ((parseG (rval M (nnext 8 (nnext 8 st))) n).2 = 0)), rnext M (nnext 8 (nnext 8 st)))
def pgPfs (M most : Nat) (n : Int) (st : Option (List UInt8)) : List (Pf × Bool) × Option (List UInt8) := rdAll (pgPf M n) (cval most st) (cnext most st)
def pgPos (st : Option (List UInt8)) : List Po × Option (List UInt8) := rdAll rdPo (cval 4 st) (cnext 4 st)
def pgCh (M : Nat) (n : Int) (st : Option (List UInt8)) : Ch × Bool × Option (List UInt8) :=
  (⟨sx 8 (nval 8 st), sx 8 (nval 8 (nnext 8 st)), (pgPos (nnext 8 (nnext 8 st))).1, (pgPfs M 8 n (pgPos (nnext 8 (nnext 8 st))).2).1.map (·.1), (pgPfs M 64 n (pgPfs M 8 n (pgPos (nnext 8 (nnext 8 st))).2).2).1.map (·.1)⟩,
   (pgPfs M 8 n (pgPos (nnext 8 (nnext 8 st))).2).1.all (·.2) && (pgPfs M 64 n (pgPfs M 8 n (pgPos (nnext 8 (nnext 8 st))).2).2).1.all (·.2),
   (pgPfs M 64 n (pgPfs M 8 n (pgPos (nnext 8 (nnext 8 st))).2).2).2)
def pgParse (xs : List UInt8) (n : Int) : Ch × Int := if badN n = true then (Ch.no, 1) else finCh (pgCh xs.length n (some xs)) n

theorem nnext_of_none (k : Nat) : nnext k none = none := rfl
theorem rnext_of_none (m : Nat) : rnext m none = none := by unfold rnext; split <;> rfl
theorem cnext_of_none (m : Nat) : cnext m none = none := by unfold cnext; split <;> rfl
theorem pgPf_none (M : Nat) (n : Int) : (pgPf M n none).2 = none := by unfold pgPf; simp only [nnext_of_none, rnext_of_none]
theorem rdPo_none : (rdPo none).2 = none := by unfold rdPo; simp only [nnext_of_none]
theorem rdAll_none {α : Type} {rd : Option (List UInt8) → α × Option (List UInt8)} (h : (rd none).2 = none) : ∀ k, (rdAll rd k none).2 = none
  | 0 => rfl
  | k + 1 => by simp only [rdAll]; rw [h]; exact rdAll_none h k
theorem rdAll_many {α : Type} {rd : Option (List UInt8) → α × Option (List UInt8)} (h : (rd none).2 = none) : ∀ (k : Nat) (st : Option (List UInt8)), (rdAll rd k st).2 = (rdMany rd k st).2 ∧ ((rdMany rd k st).2 ≠ none → rdAll rd k st = rdMany rd k st)
  | 0, st => ⟨rfl, fun _ => rfl⟩
  | k + 1, none => by rw [rdMany_none]; exact ⟨rdAll_none h _, fun h9 => absurd rfl h9⟩
  | k + 1, some xs => by
    rw [rdMany_some]
    simp only [rdAll]
    obtain ⟨h1, h2⟩ := rdAll_many h k (rd (some xs)).2
    exact ⟨h1, fun h9 => by rw [h2 h9]⟩
theorem ppB_chk {vw lw n : Int} : ∀ {q : Option Int} {l : List Pf}, ppB vw lw n q l = true → ∀ p ∈ l, chkB p.es n = 0
  | _, [], _, p, hp => by cases hp
  | q, x :: l, h, p, hp => by
    unfold ppB at h
    simp only [Bool.and_eq_true] at h
    rcases List.mem_cons.1 hp with rfl | hp
    · have h9 := h.1.1
      unfold prfB at h9
      simp only [Bool.and_eq_true, decide_eq_true_eq] at h9
      exact h9.2
    · exact ppB_chk h.2 p hp
theorem pdB_chk {vw lw n : Int} : ∀ {q : Option (Int × Int)} {l : List Pf}, pdB vw lw n q l = true → ∀ p ∈ l, chkB p.es n = 0
  | _, [], _, p, hp => by cases hp
  | q, x :: l, h, p, hp => by
    unfold pdB at h
    simp only [Bool.and_eq_true] at h
    rcases List.mem_cons.1 hp with rfl | hp
    · have h9 := h.1.1
      unfold prfB at h9
      simp only [Bool.and_eq_true, decide_eq_true_eq] at h9
      exact h9.2
    · exact pdB_chk h.2 p hp
/-- a batch by its own Parse, and by the document's reading -/
theorem parseG_row {row : List UInt8} (n : Int) (h : row.length ≤ 1048576) : ((parseG row n).2 = 0 ↔ (rdRow row).2 = true ∧ chkB (rdRow row).1 n = 0) ∧ ((parseG row n).2 = 0 → (parseG row n).1 = (rdRow row).1) := by
  rw [parseG_eq n h]
  unfold parseB finB rdRow
  generalize docR 1048576 (nval 2 (some row)) true [] (nnext 2 (some row)) = R
  obtain ⟨o, b, s⟩ := R
  simp only
  by_cases hh : s = some [] ∧ b = true
  · obtain ⟨rfl, rfl⟩ := hh
    rw [if_pos ⟨rfl, rfl⟩]
    by_cases h2 : chkB o n = 0
    · rw [if_pos h2]; simp [h2]
    · rw [if_neg h2]; simp [h2]
  · rw [if_neg hh]
    refine ⟨⟨fun h9 => absurd h9 (by decide), fun h9 => ?_⟩, fun h9 => absurd h9 (by decide)⟩
    simp only [Bool.and_eq_true, decide_eq_true_eq] at h9
    exact absurd ⟨h9.1.2, h9.1.1⟩ hh
theorem pgPf_rd {M : Nat} {st : Option (List UInt8)} (n : Int) (hm : stL st ≤ M) (h : stL st ≤ 1048576) : (pgPf M n st).2 = (rdPf st).2 ∧ ((pgPf M n st).1.2 = true → (pgPf M n st).1 = (rdPf st).1) ∧ ((rdPf st).1.2 = true → chkB (rdPf st).1.1.es n = 0 → (pgPf M n st).1.2 = true) := by
  have l1 : stL (nnext 8 (nnext 8 st)) ≤ stL st := Nat.le_trans (nnext_stL _ _) (nnext_stL _ _)
  obtain ⟨a1, a2⟩ := row_free (m := M) (m' := 1048576) (st := nnext 8 (nnext 8 st)) (by omega) (by omega)
  have l2 : (rval 1048576 (nnext 8 (nnext 8 st))).length ≤ 1048576 := Nat.le_trans (rval_stL _ _) (by omega)
  obtain ⟨b1, b2⟩ := parseG_row n l2
  unfold pgPf rdPf
  rw [a1, a2]
  generalize rval 1048576 (nnext 8 (nnext 8 st)) = row at *
  refine ⟨rfl, fun h9 => ?_, fun h9 h8 => ?_⟩
  · simp only [decide_eq_true_eq] at h9 ⊢
    rw [b2 h9, (b1.1 h9).1]
    simp [h9]
  · simp only [decide_eq_true_eq] at h9 h8 ⊢
    exact b1.2 ⟨h9, h8⟩
theorem rdPf_stLp (st : Option (List UInt8)) : stL (rdPf st).2 ≤ stL st := Nat.le_trans (rnext_stL _ _) (Nat.le_trans (nnext_stL _ _) (nnext_stL _ _))
theorem pgMany_rd {M : Nat} (n : Int) : ∀ (k : Nat) (st : Option (List UInt8)), stL st ≤ M → stL st ≤ 1048576 → (rdMany (pgPf M n) k st).2 = (rdMany rdPf k st).2 ∧ ((rdMany (pgPf M n) k st).1.all (·.2) = true → (rdMany (pgPf M n) k st).1 = (rdMany rdPf k st).1) ∧ ((rdMany rdPf k st).1.all (·.2) = true → (∀ q ∈ (rdMany rdPf k st).1, chkB q.1.es n = 0) → (rdMany (pgPf M n) k st).1.all (·.2) = true)
  | 0, st, _, _ => ⟨rfl, fun _ => rfl, fun _ _ => rfl⟩
  | k + 1, none, _, _ => by rw [rdMany_none, rdMany_none]; exact ⟨rfl, fun _ => rfl, fun _ _ => rfl⟩
  | k + 1, some xs, hm, h => by
    rw [rdMany_some, rdMany_some]
    obtain ⟨a1, a2, a3⟩ := pgPf_rd (M := M) (st := some xs) n hm h
    have hs := rdPf_stLp (some xs)
    obtain ⟨b1, b2, b3⟩ := pgMany_rd (M := M) n k (rdPf (some xs)).2 (by omega) (by omega)
    rw [a1]
    refine ⟨b1, fun h9 => ?_, fun h9 h8 => ?_⟩
    · simp only [List.all_cons, Bool.and_eq_true] at h9
      simp only
      rw [a2 h9.1, b2 h9.2]
    · simp only [List.all_cons, Bool.and_eq_true] at h9 ⊢
      exact ⟨a3 h9.1 (h8 _ (List.mem_cons_self ..)), b3 h9.2 (fun q hq => h8 q (List.mem_cons_of_mem _ hq))⟩
theorem rdMany_stLp {α : Type} {rd : Option (List UInt8) → α × Option (List UInt8)} (h : ∀ st, stL (rd st).2 ≤ stL st) : ∀ (k : Nat) (st : Option (List UInt8)), stL (rdMany rd k st).2 ≤ stL st
  | 0, _ => Nat.le_refl _
  | k + 1, none => by rw [rdMany_none]; exact Nat.le_refl _
  | k + 1, some xs => by rw [rdMany_some]; exact Nat.le_trans (rdMany_stLp h k _) (h _)
theorem rdAll_stLp {α : Type} {rd : Option (List UInt8) → α × Option (List UInt8)} (h : ∀ st, stL (rd st).2 ≤ stL st) : ∀ (k : Nat) (st : Option (List UInt8)), stL (rdAll rd k st).2 ≤ stL st
  | 0, _ => Nat.le_refl _
  | k + 1, st => by simp only [rdAll]; exact Nat.le_trans (rdAll_stLp h k _) (h st)
theorem rdMany_to_none {α : Type} (rd : Option (List UInt8) → α × Option (List UInt8)) (k : Nat) : (rdMany rd k none).2 = none := by rw [rdMany_none]
theorem cnext_stL_ (m : Nat) (st : Option (List UInt8)) : stL (cnext m st) ≤ stL st := by
  unfold cnext
  split
  · exact nnext_stL _ _
  · cases st <;> simp [stL]
theorem rdPfs_to_none (m : Nat) : (rdPfs m none).2 = none := by unfold rdPfs; rw [cnext_of_none]; exact rdMany_to_none _ _
theorem rdPos_to_none : (rdPos none).2 = none := by unfold rdPos; rw [cnext_of_none]; exact rdMany_to_none _ _
theorem pgPos_rd (st : Option (List UInt8)) : (pgPos st).2 = (rdPos st).2 ∧ ((rdPos st).2 ≠ none → pgPos st = rdPos st) := rdAll_many rdPo_none _ _
theorem rdPo_stLp (st : Option (List UInt8)) : stL (rdPo st).2 ≤ stL st := Nat.le_trans (nnext_stL _ _) (nnext_stL _ _)
theorem pgPfs_rd {M m : Nat} (n : Int) (st : Option (List UInt8)) (hm : stL st ≤ M) (h : stL st ≤ 1048576) : (pgPfs M m n st).2 = (rdPfs m st).2 ∧ ((rdPfs m st).2 ≠ none → ((pgPfs M m n st).1.all (·.2) = true → (pgPfs M m n st).1 = (rdPfs m st).1) ∧ ((rdPfs m st).1.all (·.2) = true → (∀ q ∈ (rdPfs m st).1, chkB q.1.es n = 0) → (pgPfs M m n st).1.all (·.2) = true)) := by
  have hc := cnext_stL_ m st
  obtain ⟨a1, a2⟩ := rdAll_many (rd := pgPf M n) (pgPf_none M n) (cval m st) (cnext m st)
  obtain ⟨b1, b2, b3⟩ := pgMany_rd (M := M) n (cval m st) (cnext m st) (by omega) (by omega)
  unfold pgPfs rdPfs
  refine ⟨a1.trans b1, fun h9 => ?_⟩
  rw [a2 (by rw [b1]; exact h9)]
  exact ⟨b2, b3⟩
/-- the program's way to read a change tells what the document's tells -/
theorem pgParse_eq {xs : List UInt8} (n : Int) (h : xs.length ≤ 1048576) : pgParse xs n = parseCh xs n := by
  unfold pgParse parseCh
  by_cases hb : badN n = true
  · rw [if_pos hb, if_pos hb]
  rw [if_neg hb, if_neg hb]
  have l0 : stL (nnext 8 (nnext 8 (some xs))) ≤ xs.length := Nat.le_trans (nnext_stL _ _) (Nat.le_trans (nnext_stL _ _) (Nat.le_refl _))
  unfold pgCh rdCh
  generalize sx 8 (nval 8 (some xs)) = v1
  generalize sx 8 (nval 8 (nnext 8 (some xs))) = v2
  generalize nnext 8 (nnext 8 (some xs)) = s0 at *
  obtain ⟨p1, p2⟩ := pgPos_rd s0
  have l1 : stL (rdPos s0).2 ≤ stL s0 := Nat.le_trans (rdMany_stLp rdPo_stLp _ _) (cnext_stL_ _ _)
  rw [p1]
  obtain ⟨q1, q2⟩ := pgPfs_rd (M := xs.length) (m := 8) n (rdPos s0).2 (by omega) (by omega)
  have l2 : stL (rdPfs 8 (rdPos s0).2).2 ≤ stL (rdPos s0).2 := Nat.le_trans (rdMany_stLp rdPf_stLp _ _) (cnext_stL_ _ _)
  rw [q1]
  obtain ⟨r1, r2⟩ := pgPfs_rd (M := xs.length) (m := 64) n (rdPfs 8 (rdPos s0).2).2 (by omega) (by omega)
  unfold finCh
  simp only
  rw [r1]
  by_cases hl : (rdPfs 64 (rdPfs 8 (rdPos s0).2).2).2 = some []
  · have n3 : (rdPfs 64 (rdPfs 8 (rdPos s0).2).2).2 ≠ none := by rw [hl]; exact fun h => nomatch h
    have n2 : (rdPfs 8 (rdPos s0).2).2 ≠ none := fun h9 => by rw [h9] at n3; exact n3 (rdPfs_to_none _)
    have n1 : (rdPos s0).2 ≠ none := fun h9 => by rw [h9] at n2; exact n2 (rdPfs_to_none _)
    rw [p2 n1]
    obtain ⟨q2, q3⟩ := q2 n2
    obtain ⟨r2, r3⟩ := r2 n3
    generalize (rdPos s0).1 = ps at *
    generalize (pgPfs xs.length 8 n (rdPos s0).2).1 = A at *
    generalize (rdPfs 8 (rdPos s0).2).1 = A' at *
    generalize (pgPfs xs.length 64 n (rdPfs 8 (rdPos s0).2).2).1 = B at *
    generalize (rdPfs 64 (rdPfs 8 (rdPos s0).2).2).1 = B' at *
    by_cases hf : (A.all (·.2) && B.all (·.2)) = true
    · simp only [Bool.and_eq_true] at hf
      rw [q2 hf.1, r2 hf.2]
    · rw [if_neg (fun h9 => hf h9.2.1)]
      rw [if_neg]
      rintro ⟨_, h8, h7⟩
      simp only [Bool.and_eq_true] at h8
      unfold rightB at h7
      simp only [Bool.and_eq_true] at h7
      refine hf ?_
      rw [Bool.and_eq_true]
      exact ⟨q3 h8.1 (fun q hq => ppB_chk h7.1.2 q.1 (List.mem_map.2 ⟨q, hq, rfl⟩)), r3 h8.2 (fun q hq => pdB_chk h7.2 q.1 (List.mem_map.2 ⟨q, hq, rfl⟩))⟩
  · rw [if_neg (fun h9 => hl h9.1), if_neg (fun h9 => hl h9.1)]

end Go.Proofs.Ytheecifgbkdecaa

namespace Go.Proofs.Ytheecifgbkdecaa
open Go.RowKit

theorem tval_short {v : Nat} : ∀ {s : Option (List UInt8)}, stL s < v → tval v s = [] ∧ nnext v s = none
 | none, _ => ⟨rfl, rfl⟩
 | some xs, h => by
  have h9 : ¬ v ≤ xs.length := by simp only [stL] at h; omega
  rw [tval_some, nnext_some, if_neg h9, if_neg h9]
  exact ⟨rfl, rfl⟩
/-- a row that isn't too long is the same by both bounds -/
theorem rval_low {M : Nat} {st : Option (List UInt8)} (hM : stL st ≤ M) (h : (rval M st).length ≤ 1048576) : rval M st = rval 1048576 st ∧ rnext M st = rnext 1048576 st := by
 have hs := nnext_stL 4 st
 unfold rval rnext at *
 generalize nval 4 st = v at *
 generalize nnext 4 st = s at *
 by_cases h1 : v ≤ 1048576
 ·rw [if_pos h1, if_pos h1]
  by_cases h2 : v ≤ M
  ·rw [if_pos h2, if_pos h2]; exact ⟨rfl, rfl⟩
  ·rw [if_neg h2, if_neg h2]
   obtain ⟨a, b⟩ := tval_short (v := v) (s := s) (by omega)
   rw [a, b]; exact ⟨rfl, rfl⟩
 ·rw [if_neg h1, if_neg h1]
  by_cases h2 : v ≤ M
  ·rw [if_pos h2, if_pos h2] at *
   cases s with
   | none => exact ⟨rfl, rfl⟩
   | some xs =>
    by_cases h3 : v ≤ xs.length
    ·rw [tval_some, if_pos h3, List.length_take] at h; omega
    ·rw [tval_some, nnext_some, if_neg h3, if_neg h3]; exact ⟨rfl, rfl⟩
  ·rw [if_neg h2, if_neg h2]; exact ⟨rfl, rfl⟩
/-- no row on the way is too long -/
def rowsLow (M : Nat) : Nat → Option (List UInt8) → Prop
 | 0, _ => True
 | k + 1, st => (rval M (nnext 1 st)).length ≤ 1000000 ∧ rowsLow M k (rnext M (nnext 1 st))
def nvGo (M : Nat) (n : Int) : Nat → List Sg → Option (List UInt8) → List Sg × Bool × Option (List UInt8)
 | 0, l, st => (l, true, st)
 | k + 1, l, st => if (parseCh (rval M (nnext 1 st)) n).2 = 0 then nvGo M n k (l ++ [⟨((nval 1 st : Nat) : Int), (parseCh (rval M (nnext 1 st)) n).1⟩]) (rnext M (nnext 1 st)) else (l, false, st)
def finP (view : Int) (r : List Sg × Bool × Option (List UInt8)) (n : Int) : (Int × List Sg) × Int := if r.2.1 = true ∧ r.2.2 = some [] ∧ chkNv view r.1 n = 0 then ((view, r.1), 0) else ((0, []), 2)
def pgNv (xs : List UInt8) (n : Int) : (Int × List Sg) × Int := if badN n = true then ((0, []), 1) else finP (sx 8 (nval 8 (some xs))) (nvGo xs.length n (cval n.toNat (nnext 8 (some xs))) [] (cnext n.toNat (nnext 8 (some xs)))) n
def NvLow (xs : List UInt8) (n : Int) : Prop := rowsLow xs.length (cval n.toNat (nnext 8 (some xs))) (cnext n.toNat (nnext 8 (some xs)))

theorem parseCh_nil (n : Int) : (parseCh [] n).2 ≠ 0 := by
 unfold parseCh
 by_cases hb : badN n = true
 ·rw [if_pos hb]; decide
 rw [if_neg hb]
 have e : (rdCh (some [])).2.2 = none := by
  unfold rdCh
  simp only
  have e8 : nnext 8 (nnext 8 (some ([] : List UInt8))) = none := rfl
  rw [e8, rdPos_to_none, rdPfs_to_none]
  exact rdPfs_to_none _
 unfold finCh
 rw [if_neg (fun h9 => by rw [e] at h9; exact absurd h9.1 (by decide))]
 decide
theorem rval_of_none (M : Nat) : rval M none = [] := by unfold rval; split <;> rfl
theorem nvGo_rd {M : Nat} (n : Int) : ∀ (k : Nat) (l : List Sg) (st : Option (List UInt8)), stL st ≤ M → rowsLow M k st → ((nvGo M n k l st).2.1 = true → (nvGo M n k l st).2.2 = (rdMany (rdSg n) k st).2 ∧ (rdMany (rdSg n) k st).1.all (·.2) = true ∧ (nvGo M n k l st).1 = l ++ (rdMany (rdSg n) k st).1.map (·.1)) ∧ ((nvGo M n k l st).2.1 = false → (rdMany (rdSg n) k st).2 ≠ some [] ∨ (rdMany (rdSg n) k st).1.all (·.2) = false)
 | 0, l, st, _, _ => ⟨fun _ => ⟨rfl, rfl, by simp [nvGo, rdMany_zero]⟩, fun h => by simp [nvGo] at h⟩
 | k + 1, l, none, _, _ => by
  rw [rdMany_none]
  unfold nvGo
  rw [show nnext 1 none = none from rfl, rval_of_none, if_neg (parseCh_nil n)]
  exact ⟨fun h => (nomatch h), fun _ => .inl (fun h => nomatch h)⟩
 | k + 1, l, some xs, hM, h => by
  obtain ⟨h1, h2⟩ := h
  have hs := nnext_stL 1 (some xs)
  obtain ⟨a1, a2⟩ := rval_low (M := M) (st := nnext 1 (some xs)) (by omega) (by omega)
  rw [rdMany_some]
  unfold nvGo rdSg
  simp only
  rw [← a1, ← a2]
  by_cases h0 : (parseCh (rval M (nnext 1 (some xs))) n).2 = 0
  ·rw [if_pos h0]
   have hs2 := rnext_stL M (nnext 1 (some xs))
   obtain ⟨b1, b2⟩ := nvGo_rd (M := M) n k (l ++ [⟨((nval 1 (some xs) : Nat) : Int), (parseCh (rval M (nnext 1 (some xs))) n).1⟩]) (rnext M (nnext 1 (some xs))) (by omega) h2
   refine ⟨fun h9 => ?_, fun h9 => ?_⟩
   ·obtain ⟨c1, c2, c3⟩ := b1 h9
    refine ⟨c1, ?_, ?_⟩
    ·simp only [List.all_cons, decide_eq_true h0, Bool.true_and]; exact c2
    ·rw [c3, List.append_assoc]; rfl
   ·rcases b2 h9 with c | c
    ·exact .inl c
    ·refine .inr ?_
     simp only [List.all_cons, decide_eq_true h0, Bool.true_and]; exact c
  ·rw [if_neg h0]
   refine ⟨fun h9 => (nomatch h9), fun _ => .inr ?_⟩
   simp only [List.all_cons, decide_eq_false h0, Bool.false_and]
theorem rdMany_full {α : Type} {rd : Option (List UInt8) → α × Option (List UInt8)} : ∀ (k : Nat) (st : Option (List UInt8)), (rdMany rd k st).2 ≠ none → (rdMany rd k st).1.length = k
 | 0, _, _ => rfl
 | k + 1, none, h => by rw [rdMany_none] at h; exact absurd rfl h
 | k + 1, some xs, h => by
  rw [rdMany_some] at h ⊢
  simp only [List.length_cons]
  rw [rdMany_full k _ h]
theorem pgNv_eq {xs : List UInt8} {n : Int} (h : NvLow xs n) : pgNv xs n = parseNv xs n := by
 unfold pgNv parseNv
 by_cases hb : badN n = true
 ·rw [if_pos hb, if_pos hb]
 rw [if_neg hb, if_neg hb]
 have hbn : badN n = false := by simpa using hb
 obtain ⟨n1, n7⟩ := badN_le hbn
 unfold NvLow at h
 have hl : stL (nnext 8 (some xs)) ≤ xs.length := Nat.le_trans (nnext_stL _ _) (Nat.le_refl _)
 generalize sx 8 (nval 8 (some xs)) = view
 generalize nnext 8 (some xs) = s at *
 by_cases hv : nval 2 s ≤ n.toNat
 ·have e1 : cval n.toNat s = nval 2 s := if_pos hv
  have e2 : cnext n.toNat s = nnext 2 s := if_pos hv
  have e3 : cval 7 s = nval 2 s := if_pos (by omega)
  have e4 : cnext 7 s = nnext 2 s := if_pos (by omega)
  rw [e1, e2] at h ⊢
  rw [e3, e4]
  have hs := nnext_stL 2 s
  obtain ⟨b1, b2⟩ := nvGo_rd (M := xs.length) n (nval 2 s) [] (nnext 2 s) (by omega) h
  generalize nvGo xs.length n (nval 2 s) [] (nnext 2 s) = G at *
  generalize rdMany (rdSg n) (nval 2 s) (nnext 2 s) = D at *
  obtain ⟨g1, g2, g3⟩ := G
  obtain ⟨d1, d2⟩ := D
  simp only at b1 b2
  unfold finP finNv
  simp only
  cases g2 with
  | false =>
   rw [if_neg (fun h9 => by cases h9.1), if_neg]
   rintro ⟨h9, h8, _⟩
   rcases b2 rfl with c | c
   ·exact c h9
   ·rw [c] at h8; cases h8
  | true =>
   obtain ⟨c1, c2, c3⟩ := b1 rfl
   rw [List.nil_append] at c3
   subst c1 c3
   by_cases hq : g3 = some [] ∧ chkNv view (d1.map (·.1)) n = 0
   ·rw [if_pos ⟨rfl, hq.1, hq.2⟩, if_pos ⟨hq.1, c2, hq.2⟩]
   ·rw [if_neg (fun h9 => hq h9.2), if_neg (fun h9 => hq ⟨h9.1, h9.2.2⟩)]
 ·have e1 : cval n.toNat s = 0 := if_neg hv
  have e2 : cnext n.toNat s = none := if_neg hv
  rw [e1, e2]
  unfold finP finNv nvGo
  rw [if_neg (fun h9 => nomatch h9.2.1), if_neg]
  rintro ⟨h9, _, h8⟩
  obtain ⟨_, h7, _⟩ := chkNv_0 h8
  have h6 := rdMany_full (rd := rdSg n) (cval 7 s) (cnext 7 s) (by rw [h9]; exact fun h => nomatch h)
  rw [List.length_map, h6] at h7
  by_cases hv7 : nval 2 s ≤ 7
  ·have e3 : cval 7 s = nval 2 s := if_pos hv7
   rw [e3] at h7
   omega
  ·have e4 : cnext 7 s = none := if_neg hv7
   rw [e4, rdMany_none] at h9
   cases h9
theorem rowsLow_short {M : Nat} : ∀ (k : Nat) (st : Option (List UInt8)), stL st ≤ 1000000 → rowsLow M k st
 | 0, _, _ => trivial
 | k + 1, _, h => ⟨Nat.le_trans (rval_stL _ _) (Nat.le_trans (nnext_stL _ _) h), rowsLow_short k _ (Nat.le_trans (rnext_stL _ _) (Nat.le_trans (nnext_stL _ _) h))⟩
theorem nvLow_short {xs : List UInt8} (n : Int) (h : xs.length ≤ 1000000) : NvLow xs n :=
 rowsLow_short _ _ (Nat.le_trans (cnext_stL_ _ _) (Nat.le_trans (nnext_stL _ _) (by simp only [stL]; exact h)))
theorem nnext_beB (v k : Nat) (ys : List UInt8) : nnext k (some (beB v k ++ ys)) = some ys := by
 have hl := beB_length v k
 rw [nnext_some, if_pos (by simp [hl]), List.drop_append_of_le_length (by omega), List.drop_of_length_le (by omega)]
 rfl
theorem rowsLow_enc {M : Nat} (hM : M < 4294967296) : ∀ (l : List Sg), (∀ s ∈ l, (encCh s.ch).length ≤ 800000 ∧ (encCh s.ch).length ≤ M) → rowsLow M l.length (some (encAll encSg l))
 | [], _ => trivial
 | s :: l, h => by
  obtain ⟨h1, h2⟩ := h s (List.mem_cons_self ..)
  have e : some (encAll encSg (s :: l)) = some (beB (u64N s.fr) 1 ++ (rowB (encCh s.ch) ++ encAll encSg l)) := by simp only [encAll, encSg, List.append_assoc]
  have e1 : nnext 1 (some (encAll encSg (s :: l))) = some (rowB (encCh s.ch) ++ encAll encSg l) := by rw [e]; exact nnext_beB _ 1 _
  obtain ⟨a1, a2⟩ := r_front h2 hM (encAll encSg l)
  show (rval M (nnext 1 (some (encAll encSg (s :: l))))).length ≤ 1000000 ∧ rowsLow M l.length (rnext M (nnext 1 (some (encAll encSg (s :: l)))))
  rw [e1, a1, a2]
  exact ⟨by omega, rowsLow_enc hM l (fun x hx => h x (List.mem_cons_of_mem _ hx))⟩
theorem encAll_mem (s : Sg) : ∀ {l : List Sg}, s ∈ l → (encCh s.ch).length ≤ (encAll encSg l).length
 | x :: l, h => by
  simp only [encAll, List.length_append]
  rcases List.mem_cons.1 h with rfl | h
  ·simp only [encSg, rowB, List.length_append]; omega
  ·have := encAll_mem s h; omega
theorem nvLow_enc {view : Int} {l : List Sg} (n : Int) (hf : fewNv l = true) (hd : ∀ s ∈ l, ∀ p ∈ s.ch.po, p.dg.length = 32) : NvLow (encNv view l) n := by
 obtain ⟨f1, f2⟩ := fewNv_low hf
 have hL := encNv_len (view := view) hf hd
 unfold NvLow
 have e : nnext 8 (some (encNv view l)) = some (beB l.length 2 ++ encAll encSg l) := by unfold encNv; exact nnext_beB _ 8 _
 have e65 : (256 : Nat) ^ 2 = 65536 := by decide
 obtain ⟨a1, a2⟩ := n_front (v := l.length) (k := 2) (by omega) (encAll encSg l)
 rw [e]
 unfold cval cnext
 rw [a1, a2]
 by_cases h : l.length ≤ n.toNat
 ·rw [if_pos h, if_pos h]
  have hE : (encAll encSg l).length ≤ (encNv view l).length := by unfold encNv; simp only [List.length_append]; omega
  exact rowsLow_enc (by omega) l (fun s hs => ⟨encCh_len (f1 s hs) (hd s hs), Nat.le_trans (encAll_mem s hs) hE⟩)
 ·rw [if_neg h, if_neg h]
  trivial
def ParseNW : Prop := ∀ (xs : List UInt8) (N : Int) (A : Option Addr) (n c : Nat) (w : World), By w (fun _ => True) A n xs → n ≤ c → c ≤ maxLen → n ≤ 10000000 → NvLow xs N → Calls Try.prog 27 #[.slice A n c, .int .i64 N] w (NvOut w (parseNv xs N).1 (parseNv xs N).2)

end Go.Proofs.Ytheecifgbkdecaa

namespace Go.Proofs.Ytheecifgbkdecaa
open Go.RowKit
theorem Sl.one_ {w : World} {k g : Nat} {e : TypeId} {q : List Value} (h : Blk w g e q) : Sl w k (some ⟨g, 0, none⟩) 1 [q] :=
 ⟨rfl, fun _ => ⟨g, 0, rfl, fun i cs hi => by
  cases i with
  | zero =>
   simp at hi
   subst hi
   intro j u hu
   have := h.cellAt hu
   simpa using this
  | succ i => simp at hi⟩⟩

theorem wpList_build_one {P : Program} {ops : Array Oper} {rest : List Oper} {o : Oper} {a : Act} {w : World} {Q : Exit → Act → World → Prop} (hgd : o.guard = none) (s e : TypeId) (x0 : Operand) (ho : o.op = .buildSlice s 1 #[(0, x0)])
  (p0 : Value) (cs : List Value) (h0 : a.eval x0 = p0)
  (hrun : (Instr.buildSlice s 1 #[(0, p0)]).run P w = .ok (.slice (some ⟨w.heap.size, 0, none⟩) 1 1) (w.alloc (.cells cs.toArray e)))
  (h : ∀ g w', g = w.heap.size → Blk w' g e cs → Below w.heap.size w w' → wpList P ops Q rest (a.put o.dst (.slice (some ⟨g, 0, none⟩) 1 1)) w') : wpList P ops Q (o :: rest) a w :=
 wpList_plain hgd fun K hK => by
  unfold Oper.wp execOp
  simp only [ho, Sem.run_bind, List.map_toArray, List.map_cons, List.map_nil, h0, hrun, Result.andThen_ok]
  exact hK _ _ (h _ _ rfl (Blk.fresh rfl rfl) ((Below.refl _ w).alloc (Nat.le_refl _) _))
def po0 : Po := ⟨0, List.replicate 32 0⟩
def pf9 : Pf := ⟨9, 0, []⟩
def c0 : Ch := ⟨1, 0, [po0], [], []⟩
def c1 : Ch := ⟨1, 0, [po0], [pf9], []⟩
theorem Try.build_po0 (w : World) : (Instr.build 52 #[]).run Try.prog w = .ok (.agg (Po.cells po0).toArray) w := by kernel_rfl
theorem Try.bs_po0 (w : World) : (Instr.buildSlice 22 1 #[(0, .agg (Po.cells po0).toArray)]).run Try.prog w = .ok (.slice (some ⟨w.heap.size, 0, none⟩) 1 1) (w.alloc (.cells (Po.cells po0).toArray 52)) := by kernel_rfl
end Go.Proofs.Ytheecifgbkdecaa
