/-
  The program's way to read a request, by plain functions: it tells what the document's way tells. No walk here.
-/
import Derived.Test.YtgbobemhogeeeaaRqE
import Derived.Test.YtgbobemhogeeeaaRqR
namespace Go.Proofs.Ytgbobemhogeeeaa
open Go.RowKit

theorem rnext_stL (m : Nat) (st : Option (List UInt8)) : stL (rnext m st) ≤ stL st := by
  unfold rnext
  split
  · exact Nat.le_trans (nnext_stL _ _) (nnext_stL _ _)
  · exact Nat.zero_le _
theorem nnext_more {k : Nat} {st : Option (List UInt8)} (h : stL st < k) : nnext k st = none ∧ tval k st = [] := by
  cases st with
  | none => exact ⟨rfl, rfl⟩
  | some r =>
    have h' : ¬ k ≤ r.length := by simpa [stL] using h
    rw [nnext_some, tval_some, if_neg h', if_neg h']
    exact ⟨rfl, rfl⟩
/-- A row's bound doesn't matter where no more is left. -/
theorem row_free {m m' : Nat} {st : Option (List UInt8)} (h : stL st ≤ m) (h' : stL st ≤ m') : rval m st = rval m' st ∧ rnext m st = rnext m' st := by
  have key : ∀ k : Nat, stL st ≤ k → rval k st = tval (nval 4 st) (nnext 4 st) ∧ rnext k st = nnext (nval 4 st) (nnext 4 st) := by
    intro k hk
    unfold rval rnext
    by_cases hl : nval 4 st ≤ k
    · rw [if_pos hl, if_pos hl]; exact ⟨rfl, rfl⟩
    · rw [if_neg hl, if_neg hl]
      obtain ⟨h1, h2⟩ := nnext_more (k := nval 4 st) (st := nnext 4 st) (Nat.lt_of_le_of_lt (nnext_stL _ _) (by omega))
      exact ⟨h2.symm, h1.symm⟩
  exact ⟨(key m h).1.trans (key m' h').1.symm, (key m h).2.trans (key m' h').2.symm⟩
theorem rdCr_free {m m' : Nat} {st : Option (List UInt8)} (h : stL st ≤ m) (h' : stL st ≤ m') : rdCr m st = rdCr m' st := by
  have l1 : stL (nnext 1 (nnext 8 (nnext 1 st))) ≤ stL st := Nat.le_trans (nnext_stL _ _) (Nat.le_trans (nnext_stL _ _) (nnext_stL _ _))
  obtain ⟨a1, a2⟩ := row_free (m := m) (m' := m') (st := nnext 1 (nnext 8 (nnext 1 st))) (by omega) (by omega)
  have l2 : stL (nnext 8 (nnext 8 (rnext m' (nnext 1 (nnext 8 (nnext 1 st)))))) ≤ stL st := Nat.le_trans (nnext_stL _ _) (Nat.le_trans (nnext_stL _ _) (Nat.le_trans (rnext_stL _ _) l1))
  obtain ⟨b1, b2⟩ := row_free (m := m) (m' := m') (st := nnext 8 (nnext 8 (rnext m' (nnext 1 (nnext 8 (nnext 1 st)))))) (by omega) (by omega)
  unfold rdCr
  rw [a1, a2, b1, b2]
theorem parseCr_free {m m' : Nat} {xs : List UInt8} (N : Int) (h : xs.length ≤ m) (h' : xs.length ≤ m') : parseCr m xs N = parseCr m' xs N := by
  unfold parseCr
  rw [rdCr_free (m := m) (m' := m') (st := some xs) h h']
theorem rdAll_length {α : Type} (rd : Option (List UInt8) → α × Option (List UInt8)) : ∀ (n : Nat) (st : Option (List UInt8)), (rdAll rd n st).1.length = n
  | 0, _ => rfl
  | n + 1, st => by simp [rdAll, rdAll_length rd n]
theorem rdAll_none {α : Type} {rd : Option (List UInt8) → α × Option (List UInt8)} (hn : (rd none).2 = none) : ∀ n : Nat, (rdAll rd n none).2 = none
  | 0 => rfl
  | n + 1 => by simp only [rdAll]; rw [hn]; exact rdAll_none hn n
theorem rdEn_none (n : Nat) : (rdEn n none).2 = none := by
  unfold rdEn
  simp only
  exact rdAll_none rfl n
/-- Where nothing failed both ways read the same. -/
theorem rd_same {α : Type} {rd : Option (List UInt8) → α × Option (List UInt8)} (hn : (rd none).2 = none) : ∀ (n : Nat) (st : Option (List UInt8)), (rdAll rd n st).2 ≠ none ∨ (rdMany rd n st).2 ≠ none → rdMany rd n st = rdAll rd n st
  | 0, _, _ => rfl
  | n + 1, none, h => by
    rcases h with h | h
    · exact absurd (rdAll_none hn (n + 1)) h
    · rw [rdMany_none] at h; exact absurd rfl h
  | n + 1, some xs, h => by
    rw [rdMany_some] at h ⊢
    simp only [rdAll] at h ⊢
    rw [rd_same hn n _ h]
theorem rdEn_mem (n k : Nat) (st : Option (List UInt8)) : ∀ e ∈ (rdAll (rdEn n) k st).1, 0 ≤ e.og ∧ (e.ts.length : Int) = n := by
  induction k generalizing st with
  | zero => intro e h; cases h
  | succ k ih =>
    intro e h
    simp only [rdAll] at h
    rcases List.mem_cons.1 h with rfl | h
    · exact ⟨by simp [rdEn], by simp [rdEn, rdAll_length]⟩
    · exact ih _ e h

/-- which request bytes tell, read the program's way -/
def parseP (xs : List UInt8) (N : Int) : Rq × Int :=
  if N < 1 ∨ 7 < N then (Rq.no, 1)
  else if (rdAll (rdEn N.toNat) (cval N.toNat (rnext xs.length (some xs))) (cnext N.toNat (rnext xs.length (some xs)))).2 = some [] ∧ risE N (-1) (rdAll (rdEn N.toNat) (cval N.toNat (rnext xs.length (some xs))) (cnext N.toNat (rnext xs.length (some xs)))).1 = true then
    (if (parseCr (rval xs.length (some xs)).length (rval xs.length (some xs)) N).2 = 0 then (⟨(parseCr (rval xs.length (some xs)).length (rval xs.length (some xs)) N).1, (rdAll (rdEn N.toNat) (cval N.toNat (rnext xs.length (some xs))) (cnext N.toNat (rnext xs.length (some xs)))).1⟩, 0) else (Rq.no, (parseCr (rval xs.length (some xs)).length (rval xs.length (some xs)) N).2))
  else (Rq.no, 2)
theorem parseP_eq {m : Nat} {xs : List UInt8} (N : Int) (h : xs.length ≤ m) : parseP xs N = parseRq m xs N := by
  unfold parseP parseRq rdRq
  by_cases hN : N < 1 ∨ 7 < N
  · rw [if_pos hN, if_pos hN]
  rw [if_neg hN, if_neg hN]
  obtain ⟨a1, a2⟩ := row_free (m := xs.length) (m' := m) (st := some xs) (Nat.le_refl _) h
  rw [a1, a2]
  have hl := rval_stL m (some xs)
  rw [parseCr_free (m := (rval m (some xs)).length) (m' := m) N (Nat.le_refl _) (Nat.le_trans hl h)]
  generalize rnext m (some xs) = s1
  simp only
  have hk : cval N.toNat s1 ≤ N.toNat := cval_le_ _ _
  have hNn : (N.toNat : Int) = N := by omega
  generalize cval N.toNat s1 = k at *
  generalize cnext N.toNat s1 = s2
  by_cases hf : (rdAll (rdEn N.toNat) k s2).2 = some []
  · have hs := rd_same (rdEn_none N.toNat) k s2 (.inl (by rw [hf]; simp))
    rw [hs]
    have hm := rdEn_mem N.toNat k s2
    have he : risE N (-1) (rdAll (rdEn N.toNat) k s2).1 = endsOk N (rdAll (rdEn N.toNat) k s2).1 := by
      rw [risE_none N _ (fun e h => (hm e h).1) (fun e h => by rw [(hm e h).2, hNn])]
      unfold endsOk
      rw [rdAll_length, show decide ((k : Int) ≤ N) = true by simp; omega, Bool.and_true]
    rw [he]
  · rw [if_neg (fun h => hf h.1)]
    by_cases hg : (rdMany (rdEn N.toNat) k s2).2 = some []
    · have hs := rd_same (rdEn_none N.toNat) k s2 (.inr (by rw [hg]; simp))
      rw [hs] at hg
      exact absurd hg hf
    · rw [if_neg (fun h => hg h.1)]

/-- A call that hands back a request and an error. -/
def RqOut (w : World) (q : Rq) (er : Int) (e : Ending) (w' : World) : Prop :=
  ∃ (A : Option Addr) (m c : Nat), e = .returned (.tuple #[.agg #[.int .i64 q.co.cl, .int .i64 q.co.sp, .int .i64 q.co.op, .string (ba q.co.lt), .int .i64 q.co.a, .int .i64 q.co.b, .string (ba q.co.tx), .slice A m c], .int .i64 er]) ∧ EsIn w' A m q.es ∧ m ≤ c ∧ c ≤ maxLen ∧ Below w.heap.size w w'
theorem one8 (a b : ByteArray) (i j k p q : Int) (A : Option Addr) (n c : Nat) : ([.int .i64 i, .int .i64 j, .int .i64 k, .string a, .int .i64 p, .int .i64 q, .string b, .slice A n c] : List Value).toArray.all (·.oneCell') = true := by simp [Value.oneCell']
theorem Try.zero_rq (w : World) : (zeroValue 26).run Try.prog w = .ok (.agg #[.int .i64 0, .int .i64 0, .int .i64 0, .string (ba []), .int .i64 0, .int .i64 0, .string (ba []), .slice none 0 0]) w := by kernel_rfl
theorem Try.build_rq0 (w : World) : (Instr.build 26 #[]).run Try.prog w = .ok (.agg #[.int .i64 0, .int .i64 0, .int .i64 0, .string (ba []), .int .i64 0, .int .i64 0, .string (ba []), .slice none 0 0]) w := by kernel_rfl
theorem Try.build_rq (a b : ByteArray) (i j k p q : Int) (A : Option Addr) (n c : Nat) (w : World) : (Instr.build 26 #[(0, .agg #[.int .i64 i, .int .i64 j, .int .i64 k, .string a, .int .i64 p, .int .i64 q, .string b]), (1, .slice A n c)]).run Try.prog w = .ok (.agg #[.int .i64 i, .int .i64 j, .int .i64 k, .string a, .int .i64 p, .int .i64 q, .string b, .slice A n c]) w := by kernel_rfl

end Go.Proofs.Ytgbobemhogeeeaa
