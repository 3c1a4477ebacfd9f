/-
  A ledger, by plain functions: names, what may be, find, with, told, the same. No walk here.
-/
import Derived.Test.YtkklgfcmgefedaaLtP
namespace Go.Proofs.Ytkklgfcmgefedaa
open Go.RowKit

/-- An outcome: its client, number, result. -/
structure Oc where
  cl : Int
  sp : Int
  rs : Int
def Oc.eqb (a b : Oc) : Bool := (a.cl == b.cl) && (a.sp == b.sp) && (a.rs == b.rs)
theorem Oc.eqb_iff {a b : Oc} : a.eqb b = true ↔ a = b := by
  obtain ⟨a1, a2, a3⟩ := a
  obtain ⟨b1, b2, b3⟩ := b
  simp only [Oc.eqb, Bool.and_eq_true, beq_iff_eq, Oc.mk.injEq]
  exact ⟨fun ⟨⟨h1, h2⟩, h3⟩ => ⟨h1, h2, h3⟩, fun ⟨h1, h2, h3⟩ => ⟨⟨h1, h2⟩, h3⟩⟩
def Oc.no : Oc := ⟨0, 0, 0⟩
def Oc.cells (o : Oc) : List Value := [.int .i64 o.cl, .int .i64 o.sp, .int .i64 o.rs]
/-- A ledger. -/
structure Lg where
  sq : Int
  tt : Int
  ls : List Lt
  os : List Oc
/-- whether two lists are the same, one by one -/
def allB {α : Type} (p : α → α → Bool) : List α → List α → Bool
  | [], [] => true
  | x :: xs, y :: ys => p x y && allB p xs ys
  | _, _ => false
theorem allB_iff {α : Type} {p : α → α → Bool} (hp : ∀ a b, p a b = true ↔ a = b) : ∀ {xs ys : List α}, allB p xs ys = true ↔ xs = ys
  | [], [] => by simp [allB]
  | [], _ :: _ => by simp [allB]
  | _ :: _, [] => by simp [allB]
  | x :: xs, y :: ys => by simp [allB, hp, allB_iff hp]
theorem allB_len {α : Type} {p : α → α → Bool} : ∀ {xs ys : List α}, allB p xs ys = true → xs.length = ys.length
  | [], [], _ => rfl
  | [], _ :: _, h => by simp [allB] at h
  | _ :: _, [], h => by simp [allB] at h
  | x :: xs, y :: ys, h => by
    simp only [allB, Bool.and_eq_true] at h
    simp [allB_len h.2]
/-- whether two ledgers are the same -/
def Lg.same (a b : Lg) : Bool := (a.sq == b.sq) && (a.tt == b.tt) && allB Lt.eqb a.ls b.ls && allB Oc.eqb a.os b.os
theorem Lg.same_iff {a b : Lg} : a.same b = true ↔ a = b := by
  obtain ⟨a1, a2, a3, a4⟩ := a
  obtain ⟨b1, b2, b3, b4⟩ := b
  simp only [Lg.same, Bool.and_eq_true, beq_iff_eq, Lg.mk.injEq, allB_iff (p := Lt.eqb) (fun _ _ => Lt.eqb_iff), allB_iff (p := Oc.eqb) (fun _ _ => Oc.eqb_iff)]
  exact ⟨fun ⟨⟨⟨h1, h2⟩, h3⟩, h4⟩ => ⟨h1, h2, h3, h4⟩, fun ⟨h1, h2, h3, h4⟩ => ⟨⟨⟨h1, h2⟩, h3⟩, h4⟩⟩
theorem Lg.same_self (a : Lg) : a.same a = true := Lg.same_iff.2 rfl
def Lg.no : Lg := ⟨0, 0, [], []⟩

/-- a letter, a digit or "-" -/
def nmB (x : UInt8) : Bool := (decide (97 ≤ x.toNat) && decide (x.toNat ≤ 122)) || (decide (48 ≤ x.toNat) && decide (x.toNat ≤ 57)) || (x.toNat == 45)
def isNm (l : List UInt8) : Bool := l.all nmB && decide (1 ≤ l.length) && decide (l.length ≤ 16)
theorem isNm_len {l : List UInt8} (h : isNm l = true) : 1 ≤ l.length ∧ l.length ≤ 16 := by simp [isNm] at h; exact ⟨by omega, h.2⟩

/-- one text ahead of another one -/
def ltS (a b : List UInt8) : Bool := Op.bytesLess a b
theorem ltS_dec (a b : List UInt8) : ltS a b = decide (a < b) := by
  unfold ltS
  induction a generalizing b with
  | nil => cases b <;> simp [Op.bytesLess]
  | cons x xs ih =>
    cases b with
    | nil => simp [Op.bytesLess]
    | cons y ys =>
      rw [Op.bytesLess]
      by_cases h1 : x < y
      · simp [h1, List.cons_lt_cons_iff]
      · by_cases h2 : x = y
        · subst h2
          simp [ih ys]
        · have h3 : (x == y) = false := by simpa using h2
          simp [List.cons_lt_cons_iff, h1, h2]
theorem ltS_irrefl (a : List UInt8) : ltS a a = false := by rw [ltS_dec]; simp [List.lt_irrefl a]
theorem ltS_asymm {a b : List UInt8} (h : ltS a b = true) : ltS b a = false := by
  rw [ltS_dec] at h ⊢
  simpa using List.le_of_lt (by simpa using h)
theorem ltS_trans {a b c : List UInt8} (h : ltS a b = true) (h2 : ltS b c = true) : ltS a c = true := by
  rw [ltS_dec] at *
  simp only [decide_eq_true_eq] at *
  exact List.lt_trans h h2
theorem ltS_total {a b : List UInt8} (h : a ≠ b) (h2 : ltS a b = false) : ltS b a = true := by
  rw [ltS_dec] at *
  simp only [decide_eq_true_eq, decide_eq_false_iff_not] at *
  by_cases h3 : b < a
  · exact h3
  · exact absurd (List.le_antisymm (List.not_lt.1 h3) (List.not_lt.1 h2)) h

/-- a letter that may stand in a ledger -/
def ltOk (x : Lt) : Bool := isNm x.nm && decide (1 ≤ x.st) && decide (x.st ≤ 7) && decide (1 ≤ x.am) && isM x.am && isM x.du && decide (x.po.length ≤ 200) && decide (x.pa.length ≤ 200)
/-- rising by names, behind an earlier one -/
def lsOk : Option Lt → List Lt → Bool
  | _, [] => true
  | none, x :: xs => ltOk x && lsOk (some x) xs
  | some p, x :: xs => ltS p.nm x.nm && ltOk x && lsOk (some x) xs
def ocOk (o : Oc) : Bool := decide (0 ≤ o.cl) && decide (o.cl ≤ 63) && decide (1 ≤ o.sp) && decide (o.sp ≤ 1099511627776) && decide (0 ≤ o.rs) && decide (o.rs ≤ 99)
def osOk : Option Oc → List Oc → Bool
  | _, [] => true
  | none, x :: xs => ocOk x && osOk (some x) xs
  | some p, x :: xs => decide (p.cl < x.cl) && ocOk x && osOk (some x) xs
/-- whether it may be -/
def Lg.right (l : Lg) : Bool := decide (0 ≤ l.sq) && decide (l.sq ≤ 1048576) && isM l.tt && decide (l.os.length ≤ 4) && decide (l.ls.length ≤ 16) && lsOk none l.ls && osOk none l.os

/-- the first letter of a name -/
def findL (nm : List UInt8) : List Lt → Option Lt
  | [] => none
  | x :: xs => if x.nm = nm then some x else findL nm xs
def lastL (c : Int) : List Oc → Option Oc
  | [] => none
  | x :: xs => if x.cl = c then some x else lastL c xs
/-- a letter put in its place -/
def putL (there : Bool) (x : Lt) : List Lt → List Lt
  | [] => [x]
  | y :: ys => if there then (if y.nm = x.nm then x :: ys else y :: putL there x ys) else (if ltS x.nm y.nm then x :: y :: ys else y :: putL there x ys)
def withL (l : Lg) (x : Lt) : Lg × Int :=
  if isNm x.nm = false then (Lg.no, 7)
  else if 16 < (putL (findL x.nm l.ls).isSome x l.ls).length then (Lg.no, 11) else (⟨l.sq, l.tt, putL (findL x.nm l.ls).isSome x l.ls, l.os⟩, 0)
def putO (there : Bool) (o : Oc) : List Oc → List Oc
  | [] => [o]
  | y :: ys => if there then (if y.cl = o.cl then o :: ys else y :: putO there o ys) else (if o.cl < y.cl then o :: y :: ys else y :: putO there o ys)
def toldL (l : Lg) (o : Oc) : Lg := ⟨l.sq, l.tt, l.ls, putO (lastL o.cl l.os).isSome o l.os⟩
theorem putL_len (there : Bool) (x : Lt) : ∀ ls : List Lt, (putL there x ls).length ≤ ls.length + 1
  | [] => by simp [putL]
  | y :: ys => by
    have := putL_len there x ys
    unfold putL
    split <;> split <;> simp <;> omega
theorem putO_len (there : Bool) (x : Oc) : ∀ ls : List Oc, (putO there x ls).length ≤ ls.length + 1
  | [] => by simp [putO]
  | y :: ys => by
    have := putO_len there x ys
    unfold putO
    split <;> split <;> simp <;> omega

end Go.Proofs.Ytkklgfcmgefedaa
