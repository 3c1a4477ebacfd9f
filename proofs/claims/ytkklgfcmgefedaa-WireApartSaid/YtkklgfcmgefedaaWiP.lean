/-
  Messages of the wire, plain: what may be, its bytes, what bytes tell.
-/
import Derived.Test.YtkklgfcmgefedaaRqP
namespace Go.Proofs.Ytkklgfcmgefedaa

structure Ms where
  kd : Int
  fr : Int
  bd : List UInt8
  ts : List (List UInt8)
def Ms.no : Ms := ⟨0, 0, [], []⟩
def Ms.eqb (a b : Ms) : Bool := (a.kd == b.kd) && (a.fr == b.fr) && (a.bd == b.bd) && (a.ts == b.ts)
theorem Ms.eqb_iff {a b : Ms} : a.eqb b = true ↔ a = b := by
  obtain ⟨k, f, x, t⟩ := a
  obtain ⟨k', f', x', t'⟩ := b
  simp [Ms.eqb, and_assoc]
theorem Ms.eqb_self (a : Ms) : a.eqb a = true := Ms.eqb_iff.2 rfl
def encM (m : Ms) : List UInt8 := beB (u64N m.kd) 1 ++ (beB (u64N m.fr) 1 ++ (rowB m.bd ++ (beB m.ts.length 2 ++ encAll encTg m.ts)))
theorem encTg_len : ∀ ts : List (List UInt8), (∀ t ∈ ts, t.length = 32) → (encAll encTg ts).length = 32 * ts.length
  | [], _ => rfl
  | t :: ts, h => by
    have h1 := encTg_len ts (fun x hx => h x (List.mem_cons_of_mem _ hx))
    have h2 := h t (List.mem_cons_self ..)
    simp only [encAll, encTg, List.length_append, List.length_cons] at h1 ⊢
    omega
theorem encM_len (m : Ms) (h : ∀ t ∈ m.ts, t.length = 32) : (encM m).length = 8 + m.bd.length + 32 * m.ts.length := by
  have h1 := encTg_len m.ts h
  unfold encM rowB
  simp only [List.length_append, beB_length, h1]
  omega
/-- kind and sender may be -/
def formM (m : Ms) : Bool := decide (1 ≤ m.kd) && decide (m.kd ≤ 12) && decide (0 ≤ m.fr) && decide (m.fr ≤ 63)
def chkM (m : Ms) : Int := if formM m = false then 2 else if 7 < m.ts.length then 4 else if 1048576 < (encM m).length then 3 else 0
theorem chkM_iff {m : Ms} : chkM m = 0 ↔ formM m = true ∧ m.ts.length ≤ 7 ∧ (encM m).length ≤ 1048576 := by
  unfold chkM
  cases hf : formM m with
  | false => simp
  | true =>
    by_cases h1 : 7 < m.ts.length
    · simp [h1] <;> omega
    · by_cases h2 : 1048576 < (encM m).length
      · simp [h1, h2] <;> omega
      · simp [h1, h2] <;> omega
theorem formM_iff {m : Ms} : formM m = true ↔ (1 ≤ m.kd ∧ m.kd ≤ 12) ∧ (0 ≤ m.fr ∧ m.fr ≤ 63) := by
  simp [formM, and_assoc]
/-- a reader's way through a message -/
def rdM (xs : List UInt8) : Ms × Option (List UInt8) :=
  (⟨nval 1 (some xs), nval 1 (nnext 1 (some xs)), rval 1048576 (nnext 1 (nnext 1 (some xs))), (rdMany rdTg (cval 7 (rnext 1048576 (nnext 1 (nnext 1 (some xs))))) (cnext 7 (rnext 1048576 (nnext 1 (nnext 1 (some xs)))))).1⟩,
   (rdMany rdTg (cval 7 (rnext 1048576 (nnext 1 (nnext 1 (some xs))))) (cnext 7 (rnext 1048576 (nnext 1 (nnext 1 (some xs)))))).2)
theorem rdM_front (m : Ms) (ys : List UInt8) (hk : 0 ≤ m.kd ∧ m.kd < 256) (hf : 0 ≤ m.fr ∧ m.fr < 256) (hb : m.bd.length ≤ 1048576) (hn : m.ts.length ≤ 7) (ht : ∀ t ∈ m.ts, t.length = 32) : rdM (encM m ++ ys) = (m, some ys) := by
  obtain ⟨k, f, bd, ts⟩ := m
  simp only at hk hf hb hn ht
  unfold rdM encM
  simp only [List.append_assoc]
  obtain ⟨a1, a2⟩ := n_front (v := u64N k) (k := 1) (by rw [e1]; unfold u64N; omega) (beB (u64N f) 1 ++ (rowB bd ++ (beB ts.length 2 ++ (encAll encTg ts ++ ys))))
  obtain ⟨b1, b2⟩ := n_front (v := u64N f) (k := 1) (by rw [e1]; unfold u64N; omega) (rowB bd ++ (beB ts.length 2 ++ (encAll encTg ts ++ ys)))
  obtain ⟨c1, c2⟩ := r_front (most := 1048576) (row := bd) hb (by omega) (beB ts.length 2 ++ (encAll encTg ts ++ ys))
  obtain ⟨d1, d2⟩ := c_front (most := 7) (n := ts.length) hn (by omega) (encAll encTg ts ++ ys)
  have d := rdMany_front (rd := rdTg) (f := encTg) (ok := fun t => t.length = 32) (fun t ys ht => rdTg_front t ys ht) ts ys ht
  rw [a1, a2, b1, b2, c1, c2, d1, d2, d]
  have e : ((u64N k : Nat) : Int) = k := by unfold u64N; omega
  have e' : ((u64N f : Nat) : Int) = f := by unfold u64N; omega
  rw [e, e']
theorem rdMany_tags : ∀ (n : Nat) (st : Option (List UInt8)), ∀ t ∈ (rdMany rdTg n st).1, t.length = 32
  | 0, _, t, h => by simp [rdMany_zero] at h
  | n + 1, none, t, h => by simp [rdMany_none] at h
  | n + 1, some xs, t, h => by
    rw [rdMany_some] at h
    rcases List.mem_cons.1 h with rfl | h
    · unfold rdTg tagOf
      simp only
      split
      · assumption
      · simp
    · exact rdMany_tags n _ t h
theorem rdM_tags (xs : List UInt8) : (∀ t ∈ (rdM xs).1.ts, t.length = 32) ∧ (rdM xs).1.ts.length ≤ 7 := by
  refine ⟨rdMany_tags _ _, Nat.le_trans (rdMany_len _ _) ?_⟩
  unfold cval
  split <;> omega
theorem rdM_back {xs r : List UInt8} (h : (rdM xs).2 = some r) : xs = encM (rdM xs).1 ++ r := by
  unfold rdM at h
  simp only at h
  obtain ⟨h1, h2⟩ := rdMany_back (rd := rdTg) (f := encTg) rdTg_back _ _ _ h
  obtain ⟨h3, h4⟩ := c_back h1
  obtain ⟨h5, h6⟩ := r_back h3
  have h7 := n_back h5
  have h8 := n_back h7
  have v1 := nval_lt 1 (some xs)
  have v2 := nval_lt 1 (nnext 1 (some xs))
  rw [e1] at v1 v2
  unfold encM rdM
  simp only
  rw [u64N_nat (by omega), u64N_nat (by omega), h2]
  simp only [List.append_assoc]
  exact Option.some.inj h8
def parseM (xs : List UInt8) : Ms × Int :=
  if 1048576 < xs.length then (Ms.no, 3) else if (rdM xs).2 = some [] ∧ chkM (rdM xs).1 = 0 then ((rdM xs).1, 0) else (Ms.no, 2)
theorem parseM_more {m : Ms} (h : chkM m = 0) (ht : ∀ t ∈ m.ts, t.length = 32) (ys : List UInt8) : parseM (encM m ++ ys) = if 1048576 < (encM m ++ ys).length then (Ms.no, 3) else if ys = [] then (m, 0) else (Ms.no, 2) := by
  obtain ⟨h1, h2, h3⟩ := chkM_iff.1 h
  obtain ⟨hk, hf⟩ := formM_iff.1 h1
  have hl := encM_len m ht
  have hr := rdM_front m ys (by omega) (by omega) (by omega) h2 ht
  unfold parseM
  rw [hr]
  simp [h]
theorem parseM_back {m : Ms} (h : chkM m = 0) (ht : ∀ t ∈ m.ts, t.length = 32) : parseM (encM m) = (m, 0) := by
  have h9 := parseM_more h ht []
  rw [List.append_nil] at h9
  rw [h9, if_neg (by have := (chkM_iff.1 h).2.2; omega), if_pos rfl]
theorem parseM_ok {m : Ms} (h : chkM m = 0) (ht : ∀ t ∈ m.ts, t.length = 32) (ys : List UInt8) : (parseM (encM m ++ ys)).2 = 0 ↔ ys = [] := by
  rw [parseM_more h ht]
  by_cases h1 : 1048576 < (encM m ++ ys).length
  · rw [if_pos h1]
    refine ⟨fun h9 => absurd h9 (by decide), fun h9 => ?_⟩
    subst h9
    rw [List.append_nil] at h1
    have := (chkM_iff.1 h).2.2
    omega
  · rw [if_neg h1]
    by_cases h2 : ys = []
    · simp [h2]
    · simp [h2]
theorem encM_inj {m o : Ms} (h : chkM m = 0) (ht : ∀ t ∈ m.ts, t.length = 32) (h' : chkM o = 0) (ht' : ∀ t ∈ o.ts, t.length = 32) : encM m = encM o ↔ m = o := by
  refine ⟨fun e => ?_, fun e => by rw [e]⟩
  have a := parseM_back h ht
  have b := parseM_back h' ht'
  rw [e, b] at a
  exact (congrArg Prod.fst a).symm
theorem parseM_fits (xs : List UInt8) : (∀ t ∈ (parseM xs).1.ts, t.length = 32) ∧ (parseM xs).1.ts.length ≤ 7 := by
  unfold parseM
  split
  · exact ⟨by simp [Ms.no], by simp [Ms.no]⟩
  · split
    · exact rdM_tags xs
    · exact ⟨by simp [Ms.no], by simp [Ms.no]⟩

end Go.Proofs.Ytkklgfcmgefedaa
