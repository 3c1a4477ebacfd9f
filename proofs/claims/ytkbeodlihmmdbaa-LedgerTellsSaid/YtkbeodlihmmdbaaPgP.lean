/-
  Where the first one with a key stands, or would stand; what is put there: by plain functions, for any elements. No walk here.
-/
import Derived.Test.YtkbeodlihmmdbaaPgA
namespace Go.Proofs.Ytkbeodlihmmdbaa
open Go.RowKit

section
variable {α : Type}
/-- the first place at which p holds, or -1 -/
def ixF (p : α → Bool) (l : List α) : Int := match l.findIdx? p with | some i => (i : Int) | none => -1
/-- where the first stands that compares as the same; else, and then it is false, where the first stands that is greater -/
def plc (c : α → Int) (l : List α) : Nat × Bool := match l.findIdx? (fun x => c x == 0) with | some i => (i, true) | none => (l.findIdx (fun x => decide (0 < c x)), false)
theorem findIdx?_none_of {p : α → Bool} {l : List α} (h : ∀ x ∈ l, p x = false) : l.findIdx? p = none := by
  rw [List.findIdx?_eq_none_iff]
  simpa using h
theorem findIdx?_of {p : α → Bool} : ∀ {l : List α} {i : Nat} {x : α}, l[i]? = some x → p x = true → (∀ j y, j < i → l[j]? = some y → p y = false) → l.findIdx? p = some i
  | [], i, x, h, _, _ => by simp at h
  | y :: ys, 0, x, h, hp, _ => by
    simp at h
    subst h
    simp [List.findIdx?_cons, hp]
  | y :: ys, i + 1, x, h, hp, hb => by
    have h0 : p y = false := hb 0 y (by omega) rfl
    have h1 := findIdx?_of (l := ys) (i := i) (x := x) (by simpa using h) hp (fun j z hj hz => hb (j + 1) z (by omega) (by simpa using hz))
    simp [List.findIdx?_cons, h0, h1]
theorem findIdx_of_none {p : α → Bool} {l : List α} (h : l.findIdx? p = none) : l.findIdx p = l.length := by
  rw [List.findIdx?_eq_none_iff] at h
  exact List.findIdx_eq_length.2 (by simpa using h)
theorem findIdx_of_some {p : α → Bool} : ∀ {l : List α} {i : Nat}, l.findIdx? p = some i → l.findIdx p = i ∧ ∃ x, l[i]? = some x ∧ p x = true
  | [], i, h => by simp at h
  | y :: ys, i, h => by
    rw [List.findIdx?_cons] at h
    rw [List.findIdx_cons]
    cases hp : p y with
    | true =>
      rw [hp] at h
      simp at h
      subst h
      exact ⟨by simp, y, rfl, hp⟩
    | false =>
      rw [hp] at h
      simp at h
      obtain ⟨k, hk, rfl⟩ := h
      obtain ⟨h1, x, h2, h3⟩ := findIdx_of_some hk
      exact ⟨by simp [h1], x, by simpa using h2, h3⟩
/-- rising strictly, one by one -/
def ris (lt : α → α → Bool) : List α → Bool
  | x :: y :: ys => lt x y && ris lt (y :: ys)
  | _ => true
theorem ris_first {lt : α → α → Bool} (ht : ∀ a b c, lt a b = true → lt b c = true → lt a c = true) : ∀ {l : List α} {x : α}, ris lt (x :: l) = true → ∀ y ∈ l, lt x y = true
  | [], _, _, y, hy => by cases hy
  | z :: zs, x, h, y, hy => by
    simp only [ris, Bool.and_eq_true] at h
    rcases List.mem_cons.1 hy with rfl | hy
    · exact h.1
    · exact ht _ _ _ h.1 (ris_first ht h.2 y hy)
theorem ris_tail {lt : α → α → Bool} {x : α} {l : List α} (h : ris lt (x :: l) = true) : ris lt l = true := by
  cases l with
  | nil => rfl
  | cons y ys =>
    simp only [ris, Bool.and_eq_true] at h
    exact h.2
theorem ris_pair {lt : α → α → Bool} (ht : ∀ a b c, lt a b = true → lt b c = true → lt a c = true) : ∀ {l : List α}, ris lt l = true → ∀ {j k : Nat} {y z : α}, j < k → l[j]? = some y → l[k]? = some z → lt y z = true
  | [], _, _, _, _, _, _, h, _ => by simp at h
  | x :: xs, h, 0, k + 1, y, z, _, hy, hz => by
    simp at hy hz
    subst hy
    exact ris_first ht h z (List.mem_of_getElem? hz)
  | x :: xs, h, j + 1, k + 1, y, z, hj, hy, hz => ris_pair ht (ris_tail h) (j := j) (k := k) (by omega) (by simpa using hy) (by simpa using hz)
/-- rising at each place -/
theorem ris_iff {lt : α → α → Bool} : ∀ {l : List α}, ris lt l = true ↔ ∀ i x y, l[i]? = some x → l[i + 1]? = some y → lt x y = true
  | [] => by simp [ris]
  | [x] => by
    simp only [ris, true_iff]
    intro i a b _ h
    simp at h
  | x :: y :: ys => by
    rw [ris, Bool.and_eq_true, ris_iff]
    constructor
    · rintro ⟨h1, h2⟩ i a b ha hb
      cases i with
      | zero => simp at ha hb; subst ha hb; exact h1
      | succ i => exact h2 i a b (by simpa using ha) (by simpa using hb)
    · intro h
      exact ⟨h 0 x y rfl rfl, fun i a b ha hb => h (i + 1) a b (by simpa using ha) (by simpa using hb)⟩
theorem plc_cut {c : α → Int} {l : List α} {i : Nat} (hm : ∀ (j k : Nat) (y z : α), j < k → l[j]? = some y → l[k]? = some z → 0 ≤ c y → 0 < c z) (hlo : ∀ (j : Nat) (y : α), j < i → l[j]? = some y → c y < 0) (hhi : ∀ (j : Nat) (y : α), i ≤ j → l[j]? = some y → 0 ≤ c y) (hi : i ≤ l.length) :
    plc c l = (i, match l[i]? with | some y => c y == 0 | none => false) := by
  unfold plc
  cases hx : l[i]? with
  | none =>
    have hl : l.length = i := by have := List.getElem?_eq_none_iff.1 hx; omega
    have h1 : l.findIdx? (fun x => c x == 0) = none := findIdx?_none_of fun x hx => by
      obtain ⟨j, hj, rfl⟩ := List.mem_iff_getElem.1 hx
      have := hlo j _ (by omega) (List.getElem?_eq_getElem hj)
      simp; omega
    have h2 : l.findIdx (fun x => decide (0 < c x)) = l.length := findIdx_of_none (findIdx?_none_of fun x hx => by
      obtain ⟨j, hj, rfl⟩ := List.mem_iff_getElem.1 hx
      have := hlo j _ (by omega) (List.getElem?_eq_getElem hj)
      simp; omega)
    rw [h1]
    simp only
    rw [h2, hl]
  | some y =>
    have hy := hhi i y (Nat.le_refl _) hx
    by_cases h0 : c y = 0
    · have h1 : l.findIdx? (fun x => c x == 0) = some i := findIdx?_of hx (by simpa using h0) fun j z hj hz => by
        have := hlo j z hj hz
        simp; omega
      rw [h1]
      simp [h0]
    · have h1 : l.findIdx? (fun x => c x == 0) = none := findIdx?_none_of fun x hx2 => by
        obtain ⟨j, hj, rfl⟩ := List.mem_iff_getElem.1 hx2
        have hj2 := List.getElem?_eq_getElem hj
        rcases Nat.lt_trichotomy j i with h | h | h
        · have := hlo j _ h hj2
          simp; omega
        · subst h
          rw [hx] at hj2
          injection hj2 with hj2
          rw [← hj2]
          simpa using h0
        · have := hm i j _ _ h hx hj2 hy
          simp; omega
      have h2 : l.findIdx? (fun x => decide (0 < c x)) = some i := findIdx?_of hx (by simp; omega) fun j z hj hz => by
        have := hlo j z hj hz
        simp; omega
      rw [h1]
      simp only
      rw [(findIdx_of_some h2).1]
      have h3 : (c y == 0) = false := by simpa using h0
      rw [h3]
theorem plc_le (c : α → Int) (l : List α) : (plc c l).1 ≤ l.length := by
  unfold plc
  split
  · rename_i i h
    obtain ⟨_, x, h2, _⟩ := findIdx_of_some h
    exact Nat.le_of_lt (List.getElem?_eq_some_iff.1 h2).1
  · exact List.findIdx_le_length
theorem plc_lt {c : α → Int} {l : List α} (h : (plc c l).2 = true) : ∃ x, l[(plc c l).1]? = some x ∧ c x = 0 := by
  unfold plc at h ⊢
  split
  · rename_i i h1
    obtain ⟨_, x, h2, h3⟩ := findIdx_of_some h1
    exact ⟨x, h2, by simpa using h3⟩
  · rename_i h1
    rw [h1] at h
    cases h
/-- what is put -/
def putP (c : α → Int) (x : α) (l : List α) : List α := l.take (plc c l).1 ++ [x] ++ l.drop (if (plc c l).2 then (plc c l).1 + 1 else (plc c l).1)
/-- what is found -/
def getP (c : α → Int) (l : List α) : Option α := if (plc c l).2 then l[(plc c l).1]? else none
theorem plc_cons (c : α → Int) (y : α) (ys : List α) : plc c (y :: ys) = if c y = 0 then (0, true) else if (plc c ys).2 then ((plc c ys).1 + 1, true) else if 0 < c y then (0, false) else ((plc c ys).1 + 1, false) := by
  unfold plc
  rw [List.findIdx?_cons, List.findIdx_cons]
  by_cases h : c y = 0
  · simp [h]
  · have hb : (c y == 0) = false := by simpa using h
    rw [hb, if_neg h]
    cases hf : ys.findIdx? (fun x => c x == 0) with
    | some i => simp
    | none =>
      by_cases hg : 0 < c y
      · simp [hg]
      · simp [hg]
end

theorem cmpS_pos {a b : List UInt8} : 0 < cmpS a b ↔ ltS b a = true := by
  unfold cmpS
  split
  · rename_i h
    exact ⟨fun h2 => absurd h2 (by decide), fun h2 => by rw [ltS_asymm h] at h2; cases h2⟩
  · rename_i h
    split
    · rename_i h2
      subst h2
      exact ⟨fun h2 => absurd h2 (by decide), fun h2 => by rw [ltS_irrefl] at h2; cases h2⟩
    · rename_i h2
      exact ⟨fun _ => ltS_total h2 (by simpa using h), fun _ => by decide⟩
theorem cmpS_zero {a b : List UInt8} : cmpS a b = 0 ↔ a = b := by
  unfold cmpS
  split
  · rename_i h
    exact ⟨fun h2 => absurd h2 (by decide), fun h2 => by rw [h2, ltS_irrefl] at h; cases h⟩
  · split
    · rename_i h; exact ⟨fun _ => h, fun _ => rfl⟩
    · rename_i h; exact ⟨fun h2 => absurd h2 (by decide), fun h2 => absurd h2 h⟩
theorem cmpS_neg {a b : List UInt8} : cmpS a b < 0 ↔ ltS a b = true := by
  unfold cmpS
  split
  · rename_i h; exact ⟨fun _ => h, fun _ => by decide⟩
  · rename_i h
    split
    · exact ⟨fun h2 => absurd h2 (by decide), fun h2 => absurd h2 h⟩
    · exact ⟨fun h2 => absurd h2 (by decide), fun h2 => absurd h2 h⟩
theorem cmpI_pos {a b : Int} : 0 < cmpI a b ↔ b < a := by unfold cmpI; split <;> (try split) <;> omega
theorem cmpI_zero {a b : Int} : cmpI a b = 0 ↔ a = b := by unfold cmpI; split <;> (try split) <;> omega
theorem cmpI_neg {a b : Int} : cmpI a b < 0 ↔ a < b := by unfold cmpI; split <;> (try split) <;> omega
/-- the document's ways, by the same words -/
theorem getP_find (nm : List UInt8) : ∀ ls : List Lt, getP (fun x => cmpS x.nm nm) ls = findL nm ls
  | [] => rfl
  | y :: ys => by
    have ih := getP_find nm ys
    unfold getP at ih ⊢
    rw [plc_cons, findL_cons]
    by_cases h : y.nm = nm
    · have h0 : cmpS y.nm nm = 0 := cmpS_zero.2 h
      rw [if_pos h0, if_pos h]
      simp
    · have h0 : cmpS y.nm nm ≠ 0 := fun e => h (cmpS_zero.1 e)
      rw [if_neg h0, if_neg h, ← ih]
      cases hp : (plc (fun x => cmpS x.nm nm) ys).2 with
      | true => simp
      | false =>
        simp only [Bool.false_eq_true, if_false]
        split <;> simp
theorem getP_last (cl : Int) : ∀ os : List Oc, getP (fun x => cmpI x.cl cl) os = lastL cl os
  | [] => rfl
  | y :: ys => by
    have ih := getP_last cl ys
    unfold getP at ih ⊢
    rw [plc_cons, lastL_cons]
    by_cases h : y.cl = cl
    · have h0 : cmpI y.cl cl = 0 := cmpI_zero.2 h
      rw [if_pos h0, if_pos h]
      simp
    · have h0 : cmpI y.cl cl ≠ 0 := fun e => h (cmpI_zero.1 e)
      rw [if_neg h0, if_neg h, ← ih]
      cases hp : (plc (fun x => cmpI x.cl cl) ys).2 with
      | true => simp
      | false =>
        simp only [Bool.false_eq_true, if_false]
        split <;> simp
theorem findL_some_iff {nm : List UInt8} {ls : List Lt} : (findL nm ls).isSome = (plc (fun x => cmpS x.nm nm) ls).2 := by
  rw [← getP_find]
  unfold getP
  cases h : (plc (fun x => cmpS x.nm nm) ls).2 with
  | true =>
    obtain ⟨x, hx, _⟩ := plc_lt h
    simp [hx]
  | false => simp
theorem lastL_some_iff {cl : Int} {os : List Oc} : (lastL cl os).isSome = (plc (fun x => cmpI x.cl cl) os).2 := by
  rw [← getP_last]
  unfold getP
  cases h : (plc (fun x => cmpI x.cl cl) os).2 with
  | true =>
    obtain ⟨x, hx, _⟩ := plc_lt h
    simp [hx]
  | false => simp
theorem putP_lt (x : Lt) (ls : List Lt) : putP (fun y => cmpS y.nm x.nm) x ls = putL (findL x.nm ls).isSome x ls := by
  rw [findL_some_iff]
  induction ls with
  | nil => rfl
  | cons y ys ih =>
    unfold putP at ih ⊢
    rw [plc_cons]
    by_cases h : y.nm = x.nm
    · have h0 : cmpS y.nm x.nm = 0 := cmpS_zero.2 h
      rw [if_pos h0]
      simp [putL, h]
    · have h0 : cmpS y.nm x.nm ≠ 0 := fun e => h (cmpS_zero.1 e)
      rw [if_neg h0]
      cases hp : (plc (fun y => cmpS y.nm x.nm) ys).2 with
      | true =>
        rw [hp] at ih
        simp only [if_true] at ih ⊢
        simp only [putL, if_true, if_neg h, ← ih]
        simp
      | false =>
        rw [hp] at ih
        simp only [Bool.false_eq_true, if_false] at ih ⊢
        by_cases hg : 0 < cmpS y.nm x.nm
        · have hl := cmpS_pos.1 hg
          simp [hg, putL, hl]
        · have hl : ltS x.nm y.nm = false := by
            cases hl : ltS x.nm y.nm
            · rfl
            · exact absurd (cmpS_pos.2 hl) hg
          rw [if_neg hg]
          simp only [putL, Bool.false_eq_true, if_false, hl, ← ih]
          simp
theorem putP_oc (x : Oc) (ls : List Oc) : putP (fun y => cmpI y.cl x.cl) x ls = putO (lastL x.cl ls).isSome x ls := by
  rw [lastL_some_iff]
  induction ls with
  | nil => rfl
  | cons y ys ih =>
    unfold putP at ih ⊢
    rw [plc_cons]
    by_cases h : y.cl = x.cl
    · have h0 : cmpI y.cl x.cl = 0 := cmpI_zero.2 h
      rw [if_pos h0]
      simp [putO, h]
    · have h0 : cmpI y.cl x.cl ≠ 0 := fun e => h (cmpI_zero.1 e)
      rw [if_neg h0]
      cases hp : (plc (fun y => cmpI y.cl x.cl) ys).2 with
      | true =>
        rw [hp] at ih
        simp only [if_true] at ih ⊢
        simp only [putO, if_true, if_neg h, ← ih]
        simp
      | false =>
        rw [hp] at ih
        simp only [Bool.false_eq_true, if_false] at ih ⊢
        by_cases hg : 0 < cmpI y.cl x.cl
        · have hl := cmpI_pos.1 hg
          simp [hg, putO, hl]
        · have hl : ¬ x.cl < y.cl := fun hl => hg (cmpI_pos.2 hl)
          rw [if_neg hg]
          simp only [putO, Bool.false_eq_true, if_false, hl, ← ih]
          simp
/-- in a list that rises, how its elements compare to a key rises -/
theorem mono_lt {ls : List Lt} (h : ris (fun a b => ltS a.nm b.nm) ls = true) (nm : List UInt8) : ∀ (j k : Nat) (y z : Lt), j < k → ls[j]? = some y → ls[k]? = some z → 0 ≤ cmpS y.nm nm → 0 < cmpS z.nm nm := fun j k y z hj hy hz h0 => by
  have h1 : ltS y.nm z.nm = true := ris_pair (lt := fun a b : Lt => ltS a.nm b.nm) (fun a b c => ltS_trans) h hj hy hz
  rw [cmpS_pos]
  by_cases e : y.nm = nm
  · rw [← e]; exact h1
  · have h2 : ltS y.nm nm = false := by
      cases hl : ltS y.nm nm
      · rfl
      · have := cmpS_neg.2 hl; omega
    exact ltS_trans (ltS_total e h2) h1
theorem mono_oc {ls : List Oc} (h : ris (fun a b : Oc => decide (a.cl < b.cl)) ls = true) (c : Int) : ∀ (j k : Nat) (y z : Oc), j < k → ls[j]? = some y → ls[k]? = some z → 0 ≤ cmpI y.cl c → 0 < cmpI z.cl c := fun j k y z hj hy hz h0 => by
  have h1 : decide (y.cl < z.cl) = true := ris_pair (lt := fun a b : Oc => decide (a.cl < b.cl)) (fun a b c h h' => by simp only [decide_eq_true_eq] at h h' ⊢; omega) h hj hy hz
  simp at h1
  rw [cmpI_pos]
  have h2 : ¬ y.cl < c := fun hl => by have := cmpI_neg.2 hl; omega
  omega

/-- Elements of a slice. -/
theorem Sl.at_lt {w : World} {A : Option Addr} {n : Nat} {ls : List Lt} (h : Sl w 6 A n (ls.map Lt.cells)) {i : Nat} (hi : i < n) : ∃ g o x, A = some ⟨g, o, none⟩ ∧ ls[i]? = some x ∧ x ∈ ls ∧ ls.drop i = x :: ls.drop (i + 1) ∧ w.rangeAt g (o + i * 6) x.cells :=
  LgIn.lt_at (l := ⟨0, 0, ls, []⟩) (B := none) (m := 0) ⟨h, Sl.none_⟩ hi
theorem Sl.at_oc {w : World} {B : Option Addr} {n : Nat} {os : List Oc} (h : Sl w 3 B n (os.map Oc.cells)) {i : Nat} (hi : i < n) : ∃ g o x, B = some ⟨g, o, none⟩ ∧ os[i]? = some x ∧ x ∈ os ∧ os.drop i = x :: os.drop (i + 1) ∧ w.rangeAt g (o + i * 3) x.cells :=
  LgIn.oc_at (l := ⟨0, 0, [], os⟩) (A := none) (n := 0) ⟨Sl.none_, h⟩ hi

end Go.Proofs.Ytkbeodlihmmdbaa
