/-
  Joined: SoQ.
-/
import Derived.Test.YtkpgjcahmpekbaaSO31
import Derived.Test.YtkpgjcahmpekbaaSO29
namespace Go.Proofs.Ytkpgjcahmpekbaa
open Go.RowKit

def oneX (lies : Nat → Bool) (says one : List UInt8) (w : Nat) : List UInt8 := if lies w = true then one else says
def oneV (lies : Nat → Bool) (says one : List UInt8) (w : Nat) : Wl := match (oneX lies says one w)[w]? with
 | some b => [((w : Int), dg1 (b % 2 + 1))]
 | none => []
def oneC (lies : Nat → Bool) (says one : List UInt8) : Nat → Wl
 | 0 => []
 | w + 1 => oneC lies says one w ++ oneV lies says one w
theorem oneC_lt {lies : Nat → Bool} {says one : List UInt8} : ∀ {n : Nat} {x : Int × List UInt8}, x ∈ oneC lies says one n → ∃ j : Nat, j < n ∧ x.1 = j
 | 0, _, h => nomatch h
 | n + 1, x, h => by
  rcases List.mem_append.1 h with h | h
  ·obtain ⟨j, h1, h2⟩ := oneC_lt h
   exact ⟨j, by omega, h2⟩
  ·unfold oneV at h
   split at h
   ·rw [List.mem_singleton.1 h]; exact ⟨n, by omega, rfl⟩
   ·cases h
theorem oneC_len {lies : Nat → Bool} {says one : List UInt8} : ∀ n : Nat, (oneC lies says one n).length ≤ n
 | 0 => Nat.le_refl _
 | n + 1 => by
  have h1 := oneC_len (lies := lies) (says := says) (one := one) n
  unfold oneC oneV
  rw [List.length_append]
  split <;> simp <;> omega
theorem saidW_no : ∀ {l : Wl} {who : Int} {d : List UInt8}, (∀ x ∈ l, x.1 ≠ who) → saidW l who d = 0
 | [], _, _, _ => rfl
 | x :: l, who, d, h => by
  unfold saidW
  rw [if_neg (h x (List.mem_cons_self ..))]
  exact saidW_no (fun y hy => h y (List.mem_cons_of_mem _ hy))
/-- the slot when w of them have said -/
def oneS (k : Nat) (b : UInt8) (lies : Nat → Bool) (says one : List UInt8) (w : Nat) : Slt := ⟨(3 * k + 1 : Nat), true, dg1 b, [], [], oneC lies says one w⟩
theorem oneS_zero (k : Nat) (b : UInt8) (lies : Nat → Bool) (says one : List UInt8) : propS (Slt.no (3 * k + 1 : Nat)) (dg1 b) [] = (oneS k b lies says one 0, 0) := by
 unfold propS Slt.no oneS oneC
 simp
theorem oneS_low (k : Nat) (b : UInt8) (lies : Nat → Bool) (says one : List UInt8) (w : Nat) (hk : k = 1 ∨ k = 2) (hw : w ≤ 3 * k + 1) : SlLow (oneS k b lies says one w) :=
 ⟨by simp [oneS]; omega, by simp [oneS]; omega, by simp [oneS], by have := oneC_len (lies := lies) (says := says) (one := one) w; simp [oneS]; omega, by simp [oneS]⟩
theorem oneS_says {k : Nat} {b x : UInt8} {lies : Nat → Bool} {says one : List UInt8} {w : Nat} (hw : w < 3 * k + 1) (h : (oneX lies says one w)[w]? = some x) : commS (oneS k b lies says one w) w (dg1 (x % 2 + 1)) = (oneS k b lies says one (w + 1), 0) := by
 have h1 : voteE ((3 * k + 1 : Nat) : Int) (oneC lies says one w) w (dg1 (x % 2 + 1)) = 0 := by
  unfold voteE
  rw [if_neg (by omega)]
  exact saidW_no (fun y hy => by obtain ⟨j, h2, h3⟩ := oneC_lt hy; rw [h3]; omega)
 unfold commS voteW oneS
 simp only
 rw [h1, if_pos rfl]
 simp [oneC, oneV, h]
theorem oneS_quiet {k : Nat} {b : UInt8} {lies : Nat → Bool} {says one : List UInt8} {w : Nat} (h : (oneX lies says one w)[w]? = none) : oneS k b lies says one (w + 1) = oneS k b lies says one w := by
 simp [oneS, oneC, oneV, h]
/-- who votes so -/
def oneP (lies : Nat → Bool) (says one : List UInt8) (b : UInt8) (w : Nat) : Bool := match (oneX lies says one w)[w]? with
 | some x => x % 2 + 1 == b
 | none => false
theorem dg1_beq (a b : UInt8) : (dg1 a == dg1 b) = (a == b) := by
 unfold dg1
 rw [List.cons_beq_cons]
 simp
theorem oneC_cnt (lies : Nat → Bool) (says one : List UInt8) (b : UInt8) : ∀ n : Nat, cntW (oneC lies says one n) (dg1 b) = cntN (oneP lies says one b) n
 | 0 => rfl
 | n + 1 => by
  have h1 := oneC_cnt lies says one b n
  unfold cntW at h1 ⊢
  unfold oneC cntN oneV oneP
  rw [List.filter_append, List.length_append, h1]
  congr 1
  split
  ·rename_i x hx
   rw [List.filter_cons, List.filter_nil]
   simp only [dg1_beq]
   split <;> rfl
  ·rfl
theorem one_never {k : Nat} (liars : List UInt8) (says one two : List UInt8) (hl : liars.length ≤ k) (lies : Nat → Bool) (hlies : ∀ w, lies w = liars.any (fun l => l.toNat % (3 * k + 1) == w)) :
  ¬ (commB (oneS k 1 lies says one (3 * k + 1)) = true ∧ commB (oneS k 2 lies says two (3 * k + 1)) = true) := by
 rintro ⟨h1, h2⟩
 have hf : fltN ((3 * k + 1 : Nat) : Int) = k := by unfold fltN; split <;> omega
 simp only [commB, oneS, Bool.true_and, decide_eq_true_eq, hf, oneC_cnt] at h1 h2
 refine quorums_meet (k := k) (oneP lies says one 1) (oneP lies says two 2) (liars.map (fun l => l.toNat % (3 * k + 1))) (by simpa using hl) (fun w ha hb => ?_) ⟨by omega, by omega⟩
 have h3 : lies w = true := by
  cases hw : lies w with
  | true => rfl
  | false =>
   unfold oneP oneX at ha hb
   simp only [hw, Bool.false_eq_true, if_false] at ha hb
   cases hs : says[w]? with
   | none => rw [hs] at ha; simp at ha
   | some x =>
    rw [hs] at ha hb
    simp only [beq_iff_eq] at ha hb
    rw [ha] at hb
    exact absurd hb (by decide)
 rw [hlies] at h3
 simpa [List.any_map, Function.comp_def] using h3

end Go.Proofs.Ytkpgjcahmpekbaa
