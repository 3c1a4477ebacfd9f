/-
  ClL0 ClBk ChW
-/
import Derived.Test.YtheecifgbkdecaaSR27
import Derived.Test.YtheecifgbkdecaaSR30
import Derived.BigGuard
import Derived.Test.YtheecifgbkdecaaSR25
namespace Go.Proofs.Ytheecifgbkdecaa
open Go.RowKit

def fewE (y : Ey) : Bool := decide (y.co.lt.length ≤ 100) && decide (y.co.tx.length ≤ 300)
def fewP (p : Pf) : Bool := decide (p.es.length ≤ 10) && p.es.all fewE
def fewPs (l : List Pf) : Bool := decide (l.length ≤ 80) && l.all fewP
def fewCh (c : Ch) : Bool := fewPs c.pp && fewPs c.pd && decide (c.po.length ≤ 20)
theorem fewP_low {p : Pf} (h : fewP p = true) : p.es.length ≤ 10 ∧ ∀ y ∈ p.es, y.co.lt.length ≤ 100 ∧ y.co.tx.length ≤ 300 := by
  unfold fewP fewE at h
  simp only [Bool.and_eq_true, decide_eq_true_eq, List.all_eq_true] at h
  exact h
theorem fewCh_low {c : Ch} (h : fewCh c = true) : (c.pp.length ≤ 80 ∧ ∀ p ∈ c.pp, fewP p = true) ∧ (c.pd.length ≤ 80 ∧ ∀ p ∈ c.pd, fewP p = true) ∧ c.po.length ≤ 20 := by
  unfold fewCh fewPs at h
  simp only [Bool.and_eq_true, decide_eq_true_eq, List.all_eq_true] at h
  exact ⟨h.1.1, h.1.2, h.2⟩
theorem encB_len18 {es : List Ey} (h : ∀ y ∈ es, y.co.lt.length ≤ 100 ∧ y.co.tx.length ≤ 300) : (encB es).length ≤ 2 + es.length * 439 := by
  have : (encAll encEy es).length ≤ es.length * 439 := by
    induction es with
    | nil => simp [encAll]
    | cons y es ih =>
      have h1 := h y (List.mem_cons_self ..)
      have h2 := ih (fun z hz => h z (List.mem_cons_of_mem _ hz))
      simp only [encAll, List.length_append, List.length_cons, encEy_len]
      rw [Nat.add_mul, Nat.one_mul]
      omega
  unfold encB
  rw [List.length_append, beB_length]
  omega
theorem encPfs_len {l : List Pf} (hn : l.length ≤ 80) (h : ∀ p ∈ l, fewP p = true) : (encPfs l).length ≤ 354000 := by
  have : ∀ l : List Pf, (∀ p ∈ l, fewP p = true) → (encAll encPf l).length ≤ l.length * 4412 := fun l => by
    induction l with
    | nil => intro _; simp [encAll]
    | cons p l ih =>
      intro h
      have h2 := ih (fun z hz => h z (List.mem_cons_of_mem _ hz))
      obtain ⟨h3, h4⟩ := fewP_low (h p (List.mem_cons_self ..))
      have h5 := encB_len18 h4
      simp only [encAll, List.length_append, List.length_cons, encPf_len]
      rw [Nat.add_mul, Nat.one_mul]
      omega
  have h9 := this l h
  have h8 : l.length * 4412 ≤ 80 * 4412 := Nat.mul_le_mul hn (Nat.le_refl _)
  unfold encPfs
  rw [List.length_append, beB_length]
  omega
theorem encPos_len {l : List Po} (hn : l.length ≤ 20) (h : ∀ p ∈ l, p.dg.length = 32) : (encPos l).length ≤ 900 := by
  have : ∀ l : List Po, (∀ p ∈ l, p.dg.length = 32) → (encAll encPo l).length = l.length * 40 := fun l => by
    induction l with
    | nil => intro _; simp [encAll]
    | cons p l ih =>
      intro h
      have h2 := ih (fun z hz => h z (List.mem_cons_of_mem _ hz))
      have h3 := h p (List.mem_cons_self ..)
      simp only [encAll, List.length_append, List.length_cons, encPo, beB_length, h2, h3]
      omega
  unfold encPos
  rw [List.length_append, beB_length, this l h]
  omega
theorem encCh_len {c : Ch} (h : fewCh c = true) (hd : ∀ p ∈ c.po, p.dg.length = 32) : (encCh c).length ≤ 800000 := by
  obtain ⟨h1, h2, h3⟩ := fewCh_low h
  have a := encPos_len h3 hd
  have b := encPfs_len h1.1 h1.2
  have d := encPfs_len h2.1 h2.2
  unfold encCh
  simp only [List.length_append, beB_length]
  omega
theorem Low.of_few {p : Pf} (h : fewP p = true) : p.Low := by
  obtain ⟨h1, h2⟩ := fewP_low h
  exact ⟨by omega, fun y hy => by have := h2 y hy; omega⟩

def FixedC : Prop := ∀ w : World, Calls Try.prog 8 #[] w fun e w' => e = .returned (.bool true) ∧ Below w.heap.size w w'
def ParseCW : Prop := ∀ (xs : List UInt8) (N : Int) (A : Option Addr) (n c : Nat) (w : World), By w (fun _ => True) A n xs → n ≤ c → c ≤ maxLen → n ≤ 1000000 → Calls Try.prog 14 #[.slice A n c, .int .i64 N] w (ChOut w (parseCh xs N).1 (parseCh xs N).2)
def BytesCW : Prop := ∀ (c : Ch) (P Q R : Pl) (w : World), ChIn w P Q R c → fewCh c = true → Calls Try.prog 10 #[.agg (Ch.cells c P Q R).toArray] w (Byt w (encCh c))
def CheckCW : Prop := ∀ (c : Ch) (P Q R : Pl) (N : Int) (w : World), ChIn w P Q R c → fewCh c = true → Calls Try.prog 11 #[.agg (Ch.cells c P Q R).toArray, .int .i64 N] w fun e w' => e = .returned (.int .i64 (chkCh c N)) ∧ Below w.heap.size w w'
theorem one5h (c : Ch) (P Q R : Pl) : (Ch.cells c P Q R).toArray.all (·.oneCell') = true := by simp [Ch.cells, Value.oneCell']

end Go.Proofs.Ytheecifgbkdecaa

namespace Go.Proofs.Ytheecifgbkdecaa
open Go.RowKit
/-- what a change's reading gives of its numbers -/
def Ch.InR (c : Ch) : Prop := In64 c.vw ∧ In64 c.lw ∧ (∀ p ∈ c.po, In64 p.sq) ∧ (∀ p ∈ c.pp, In64 p.sq ∧ In64 p.vw ∧ ∀ y ∈ p.es, y.In) ∧ ∀ p ∈ c.pd, In64 p.sq ∧ In64 p.vw ∧ ∀ y ∈ p.es, y.In
theorem ppB_all {vw lw n : Int} : ∀ {q : Option Int} {l : List Pf}, ppB vw lw n q l = true → ∀ p ∈ l, prfB vw lw n p = true
  | _, [], _, p, hp => by cases hp
  | q, x :: l, h, p, hp => by
    unfold ppB at h
    simp only [Bool.and_eq_true] at h
    rcases List.mem_cons.1 hp with rfl | hp
    · exact h.1.1
    · exact ppB_all h.2 p hp
theorem pdB_all {vw lw n : Int} : ∀ {q : Option (Int × Int)} {l : List Pf}, pdB vw lw n q l = true → ∀ p ∈ l, prfB vw lw n p = true
  | _, [], _, p, hp => by cases hp
  | q, x :: l, h, p, hp => by
    unfold pdB at h
    simp only [Bool.and_eq_true] at h
    rcases List.mem_cons.1 hp with rfl | hp
    · exact h.1.1
    · exact pdB_all h.2 p hp
theorem prfB_chk {vw lw n : Int} {p : Pf} (h : prfB vw lw n p = true) : chkB p.es n = 0 := by
  unfold prfB at h
  simp only [Bool.and_eq_true, decide_eq_true_eq] at h
  exact h.2
/-- a change that may be is told by its bytes -/
theorem parse18_back {c : Ch} {N : Int} (hf : fewCh c = true) (hi : c.InR) (hd : ∀ p ∈ c.po, p.dg.length = 32) (h : chkCh c N = 0) : parseCh (encCh c) N = (c, 0) := by
  unfold chkCh at h
  by_cases hb : badN N = true
  · rw [if_pos hb] at h; exact absurd h (by decide)
  · rw [if_neg hb] at h
    by_cases hr : rightB c N = true
    · obtain ⟨h1, h2, _⟩ := fewCh_low hf
      have hr2 := hr
      unfold rightB at hr2
      simp only [Bool.and_eq_true] at hr2
      have lo : ∀ p : Pf, fewP p = true → (encB p.es).length ≤ 1048576 := fun p hp => by
        obtain ⟨h3, h4⟩ := fewP_low hp
        have h5 := encB_len18 h4
        have h6 : p.es.length * 439 ≤ 10 * 439 := Nat.mul_le_mul h3 (Nat.le_refl _)
        omega
      refine parseCh_enc c (by simpa using hb) hr hi.1 hi.2.1 (fun p hp => ⟨hi.2.2.1 p hp, hd p hp⟩) (fun p hp => ?_) (fun p hp => ?_)
      · obtain ⟨a, b, d⟩ := hi.2.2.2.1 p hp
        exact ⟨a, b, prfB_chk (ppB_all hr2.1.2 p hp), d, lo p (h1.2 p hp)⟩
      · obtain ⟨a, b, d⟩ := hi.2.2.2.2 p hp
        exact ⟨a, b, prfB_chk (pdB_all hr2.2 p hp), d, lo p (h2.2 p hp)⟩
    · rw [if_neg hr] at h; exact absurd h (by decide)

end Go.Proofs.Ytheecifgbkdecaa

namespace Go.Proofs.Ytheecifgbkdecaa
open Go.RowKit
section
variable {w w' : World} {B B' : Nat}
theorem ChOwn.off {P Q R : Pl} {C : Ch} {g : Nat} (h : ChOwn w B P Q R C) (hg : w.grownBy w' (some g)) (hl : g < B) : ChOwn w' B P Q R C := ⟨h.1.off hg hl, h.2.1.off hg hl, h.2.2.off hg hl⟩
theorem ChOwn.through {P Q R : Pl} {C : Ch} (h : ChOwn w B P Q R C) (hb : Below w.heap.size w w') : ChOwn w' B P Q R C := ⟨h.1.through hb, h.2.1.through hb, h.2.2.through hb⟩
theorem ChOwn.weak {P Q R : Pl} {C : Ch} (h : ChOwn w B P Q R C) (hB : B' ≤ B) : ChOwn w B' P Q R C := ⟨h.1.weak hB, h.2.1.weak hB, h.2.2.weak hB⟩
end

end Go.Proofs.Ytheecifgbkdecaa
