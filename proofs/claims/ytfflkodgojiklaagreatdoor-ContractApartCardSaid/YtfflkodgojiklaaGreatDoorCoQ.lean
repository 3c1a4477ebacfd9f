/-
  Lists that rise by a key: what is found behind a put, what rises, when two are the same; letters and outcomes so. No walk here.
-/
import Derived.Test.YtfflkodgojiklaaGreatDoorCoDP
namespace Go.Proofs.YtfflkodgojiklaaGreatDoor
open Go.RowKit

section
variable {α κ : Type} [DecidableEq κ]
def findG (key : α → κ) (k : κ) : List α → Option α
  | [] => none
  | x :: xs => if key x = k then some x else findG key k xs
def putG (key : α → κ) (lt : κ → κ → Bool) (there : Bool) (x : α) : List α → List α
  | [] => [x]
  | y :: ys => if there then (if key y = key x then x :: ys else y :: putG key lt there x ys) else (if lt (key x) (key y) then x :: y :: ys else y :: putG key lt there x ys)
def srtG (key : α → κ) (lt : κ → κ → Bool) (l : List α) : Prop := l.Pairwise fun a b => lt (key a) (key b) = true
variable {key : α → κ} {lt : κ → κ → Bool}
theorem findG_mem {k : κ} {x : α} : ∀ {l : List α}, findG key k l = some x → x ∈ l ∧ key x = k
  | [], h => by cases h
  | y :: ys, h => by
    unfold findG at h
    by_cases e : key y = k
    · rw [if_pos e] at h
      injection h with h
      subst h
      exact ⟨List.mem_cons_self, e⟩
    · rw [if_neg e] at h
      have := findG_mem h
      exact ⟨List.mem_cons_of_mem _ this.1, this.2⟩
theorem findG_none {k : κ} : ∀ {l : List α}, findG key k l = none ↔ ∀ x ∈ l, key x ≠ k
  | [] => by simp [findG]
  | y :: ys => by
    unfold findG
    by_cases e : key y = k
    · rw [if_pos e]
      constructor
      · intro h; cases h
      · intro h; exact absurd e (h y List.mem_cons_self)
    · rw [if_neg e, findG_none]
      constructor
      · intro h x hx
        rcases List.mem_cons.1 hx with rfl | hx
        · exact e
        · exact h x hx
      · intro h x hx; exact h x (List.mem_cons_of_mem _ hx)
theorem findG_other {k : κ} {x : α} (hk : key x ≠ k) (there : Bool) : ∀ l : List α, findG key k (putG key lt there x l) = findG key k l
  | [] => by simp [putG, findG, hk]
  | y :: ys => by
    unfold putG
    cases there with
    | true =>
      rw [if_pos rfl]
      by_cases e : key y = key x
      · rw [if_pos e]
        have e2 : key y ≠ k := fun h => hk (e ▸ h)
        simp [findG, hk, e2]
      · rw [if_neg e]
        have := findG_other hk true ys
        simp [findG, this]
    | false =>
      rw [if_neg (by simp)]
      by_cases e : lt (key x) (key y) = true
      · rw [if_pos e]
        simp [findG, hk]
      · rw [if_neg e]
        have := findG_other hk false ys
        simp [findG, this]
theorem findG_true {x : α} : ∀ {l : List α}, (findG key (key x) l).isSome = true → findG key (key x) (putG key lt true x l) = some x
  | [], h => by simp [findG] at h
  | y :: ys, h => by
    unfold putG
    rw [if_pos rfl]
    by_cases e : key y = key x
    · rw [if_pos e]; simp [findG]
    · rw [if_neg e]
      unfold findG at h ⊢
      rw [if_neg e] at h ⊢
      exact findG_true h
theorem findG_false {x : α} : ∀ {l : List α}, (∀ y ∈ l, key y ≠ key x) → findG key (key x) (putG key lt false x l) = some x
  | [], _ => by simp [putG, findG]
  | y :: ys, h => by
    unfold putG
    rw [if_neg (by simp)]
    by_cases e : lt (key x) (key y) = true
    · rw [if_pos e]; simp [findG]
    · rw [if_neg e]
      unfold findG
      rw [if_neg (h y List.mem_cons_self)]
      exact findG_false fun z hz => h z (List.mem_cons_of_mem _ hz)
theorem findG_self (x : α) (l : List α) : findG key (key x) (putG key lt (findG key (key x) l).isSome x l) = some x := by
  cases h : findG key (key x) l with
  | none => exact findG_false (findG_none.1 h)
  | some y => exact findG_true (by rw [h]; rfl)
theorem putG_mem {z x : α} (there : Bool) : ∀ {l : List α}, z ∈ putG key lt there x l → z = x ∨ z ∈ l
  | [], h => by simp [putG] at h; exact .inl h
  | y :: ys, h => by
    unfold putG at h
    cases there with
    | true =>
      rw [if_pos rfl] at h
      by_cases e : key y = key x
      · rw [if_pos e] at h
        rcases List.mem_cons.1 h with rfl | h
        · exact .inl rfl
        · exact .inr (List.mem_cons_of_mem _ h)
      · rw [if_neg e] at h
        rcases List.mem_cons.1 h with rfl | h
        · exact .inr List.mem_cons_self
        · rcases putG_mem true h with h | h
          · exact .inl h
          · exact .inr (List.mem_cons_of_mem _ h)
    | false =>
      rw [if_neg (by simp)] at h
      by_cases e : lt (key x) (key y) = true
      · rw [if_pos e] at h
        rcases List.mem_cons.1 h with rfl | h
        · exact .inl rfl
        · exact .inr h
      · rw [if_neg e] at h
        rcases List.mem_cons.1 h with rfl | h
        · exact .inr List.mem_cons_self
        · rcases putG_mem false h with h | h
          · exact .inl h
          · exact .inr (List.mem_cons_of_mem _ h)
theorem srt_true {x : α} : ∀ {l : List α}, srtG key lt l → (findG key (key x) l).isSome = true → srtG key lt (putG key lt true x l)
  | [], _, h => by simp [findG] at h
  | y :: ys, hs, h => by
    unfold srtG at hs ⊢
    rw [List.pairwise_cons] at hs
    unfold putG
    rw [if_pos rfl]
    by_cases e : key y = key x
    · rw [if_pos e, List.pairwise_cons]
      exact ⟨fun z hz => e ▸ hs.1 z hz, hs.2⟩
    · rw [if_neg e, List.pairwise_cons]
      unfold findG at h
      rw [if_neg e] at h
      refine ⟨fun z hz => ?_, srt_true hs.2 h⟩
      rcases putG_mem true hz with rfl | hz
      · obtain ⟨q, hq⟩ := Option.isSome_iff_exists.1 h
        have := findG_mem hq
        rw [← this.2]
        exact hs.1 q this.1
      · exact hs.1 z hz
theorem srt_false (tr : ∀ a b c, lt a b = true → lt b c = true → lt a c = true) (tot : ∀ a b, a ≠ b → lt a b = false → lt b a = true) {x : α} : ∀ {l : List α}, srtG key lt l → (∀ y ∈ l, key y ≠ key x) → srtG key lt (putG key lt false x l)
  | [], _, _ => by simp [putG, srtG]
  | y :: ys, hs, h => by
    unfold srtG at hs ⊢
    have hs0 := hs
    rw [List.pairwise_cons] at hs
    unfold putG
    rw [if_neg (by simp)]
    by_cases e : lt (key x) (key y) = true
    · rw [if_pos e, List.pairwise_cons]
      refine ⟨fun z hz => ?_, hs0⟩
      rcases List.mem_cons.1 hz with rfl | hz
      · exact e
      · exact tr _ _ _ e (hs.1 z hz)
    · rw [if_neg e, List.pairwise_cons]
      refine ⟨fun z hz => ?_, srt_false tr tot hs.2 fun z hz => h z (List.mem_cons_of_mem _ hz)⟩
      rcases putG_mem false hz with rfl | hz
      · exact tot _ _ (fun e2 => h y List.mem_cons_self e2.symm) (by simpa using e)
      · exact hs.1 z hz
theorem srt_put (tr : ∀ a b c, lt a b = true → lt b c = true → lt a c = true) (tot : ∀ a b, a ≠ b → lt a b = false → lt b a = true) (x : α) {l : List α} (hs : srtG key lt l) : srtG key lt (putG key lt (findG key (key x) l).isSome x l) := by
  cases h : findG key (key x) l with
  | none => exact srt_false tr tot hs (findG_none.1 h)
  | some y => exact srt_true hs (by rw [h]; rfl)
theorem srt_ext (irr : ∀ a, lt a a = false) (tr : ∀ a b c, lt a b = true → lt b c = true → lt a c = true) : ∀ {xs ys : List α}, srtG key lt xs → srtG key lt ys → (∀ k, findG key k xs = findG key k ys) → xs = ys
  | [], [], _, _, _ => rfl
  | [], y :: ys, _, _, h => by have := h (key y); simp [findG] at this
  | x :: xs, [], _, _, h => by have := h (key x); simp [findG] at this
  | x :: xs, y :: ys, hx, hy, h => by
    unfold srtG at hx hy
    rw [List.pairwise_cons] at hx hy
    have hxy : x = y := by
      have h1 := h (key x)
      have h2 := h (key y)
      by_cases e : key y = key x
      · simp [findG, e] at h1
        exact h1
      · have e2 : key x ≠ key y := fun q => e q.symm
        simp [findG, e] at h1
        simp [findG, e2] at h2
        have m1 := findG_mem h1.symm
        have m2 := findG_mem h2
        have l1 := hy.1 x m1.1
        have l2 := hx.1 y m2.1
        have := tr _ _ _ l1 l2
        rw [irr] at this
        cases this
    subst hxy
    have ht : ∀ k, findG key k xs = findG key k ys := fun k => by
      by_cases e : key x = k
      · have n1 : findG key k xs = none := findG_none.2 fun z hz q => by
          have := hx.1 z hz
          rw [q, ← e, irr] at this
          cases this
        have n2 : findG key k ys = none := findG_none.2 fun z hz q => by
          have := hy.1 z hz
          rw [q, ← e, irr] at this
          cases this
        rw [n1, n2]
      · have := h k
        simpa [findG, e] using this
    rw [srt_ext irr tr hx.2 hy.2 ht]
/-- Two puts of unlike keys may go in any order. -/
theorem put_swap (irr : ∀ a, lt a a = false) (tr : ∀ a b c, lt a b = true → lt b c = true → lt a c = true) (tot : ∀ a b, a ≠ b → lt a b = false → lt b a = true) {x y : α} (hne : key x ≠ key y) {l : List α} (hs : srtG key lt l) :
    putG key lt (findG key (key y) (putG key lt (findG key (key x) l).isSome x l)).isSome y (putG key lt (findG key (key x) l).isSome x l) = putG key lt (findG key (key x) (putG key lt (findG key (key y) l).isSome y l)).isSome x (putG key lt (findG key (key y) l).isSome y l) := by
  refine srt_ext irr tr (srt_put tr tot y (srt_put tr tot x hs)) (srt_put tr tot x (srt_put tr tot y hs)) fun k => ?_
  by_cases e1 : key y = k
  · subst e1
    rw [findG_self, findG_other hne, findG_self]
  · rw [findG_other e1]
    by_cases e2 : key x = k
    · subst e2
      rw [findG_self, findG_self]
    · rw [findG_other e2, findG_other e2, findG_other e1]
end

theorem findL_G (k : List UInt8) : ∀ l : List Lt, findL k l = findG Lt.nm k l
  | [] => rfl
  | x :: xs => by unfold findL findG; rw [findL_G k xs]
theorem lastL_G (k : Int) : ∀ l : List Oc, lastL k l = findG Oc.cl k l
  | [] => rfl
  | x :: xs => by unfold lastL findG; rw [lastL_G k xs]
def ltI (a b : Int) : Bool := decide (a < b)
theorem putL_G (t : Bool) (x : Lt) : ∀ l : List Lt, putL t x l = putG Lt.nm ltS t x l
  | [] => rfl
  | y :: ys => by unfold putL putG; rw [putL_G t x ys]
theorem putO_G (t : Bool) (x : Oc) : ∀ l : List Oc, putO t x l = putG Oc.cl ltI t x l
  | [] => rfl
  | y :: ys => by
    unfold putO putG
    rw [putO_G t x ys]
    unfold ltI
    simp only [decide_eq_true_eq]
theorem ltI_irr (a : Int) : ltI a a = false := by simp [ltI]
theorem ltI_tr (a b c : Int) (h : ltI a b = true) (h2 : ltI b c = true) : ltI a c = true := by simp [ltI] at *; omega
theorem ltI_tot (a b : Int) (h : a ≠ b) (h2 : ltI a b = false) : ltI b a = true := by simp [ltI] at *; omega
/-- the letters, rising -/
theorem lsOk_some {p : Lt} : ∀ {ls : List Lt}, lsOk (some p) ls = true ↔ (∀ x ∈ ls, ltS p.nm x.nm = true) ∧ (∀ x ∈ ls, ltOk x = true) ∧ srtG Lt.nm ltS ls
  | [] => by simp [lsOk, srtG]
  | x :: xs => by
    unfold lsOk srtG
    rw [Bool.and_eq_true, Bool.and_eq_true, lsOk_some, List.pairwise_cons]
    constructor
    · rintro ⟨⟨h1, h2⟩, h3, h4, h5⟩
      refine ⟨fun y hy => ?_, fun y hy => ?_, h3, h5⟩
      · rcases List.mem_cons.1 hy with rfl | hy
        · exact h1
        · exact ltS_trans h1 (h3 y hy)
      · rcases List.mem_cons.1 hy with rfl | hy
        · exact h2
        · exact h4 y hy
    · rintro ⟨h1, h2, h3, h4⟩
      exact ⟨⟨h1 x List.mem_cons_self, h2 x List.mem_cons_self⟩, h3, fun y hy => h2 y (List.mem_cons_of_mem _ hy), h4⟩
theorem lsOk_iff : ∀ {ls : List Lt}, lsOk none ls = true ↔ (∀ x ∈ ls, ltOk x = true) ∧ srtG Lt.nm ltS ls
  | [] => by simp [lsOk, srtG]
  | x :: xs => by
    unfold lsOk srtG
    rw [Bool.and_eq_true, lsOk_some, List.pairwise_cons]
    constructor
    · rintro ⟨h2, h3, h4, h5⟩
      refine ⟨fun y hy => ?_, h3, h5⟩
      rcases List.mem_cons.1 hy with rfl | hy
      · exact h2
      · exact h4 y hy
    · rintro ⟨h2, h3, h4⟩
      exact ⟨h2 x List.mem_cons_self, h3, fun y hy => h2 y (List.mem_cons_of_mem _ hy), h4⟩
theorem osOk_some {p : Oc} : ∀ {ls : List Oc}, osOk (some p) ls = true ↔ (∀ x ∈ ls, ltI p.cl x.cl = true) ∧ (∀ x ∈ ls, ocOk x = true) ∧ srtG Oc.cl ltI ls
  | [] => by simp [osOk, srtG]
  | x :: xs => by
    unfold osOk srtG
    rw [Bool.and_eq_true, Bool.and_eq_true, osOk_some, List.pairwise_cons]
    constructor
    · rintro ⟨⟨h1, h2⟩, h3, h4, h5⟩
      refine ⟨fun y hy => ?_, fun y hy => ?_, h3, h5⟩
      · rcases List.mem_cons.1 hy with rfl | hy
        · exact h1
        · exact ltI_tr _ _ _ h1 (h3 y hy)
      · rcases List.mem_cons.1 hy with rfl | hy
        · exact h2
        · exact h4 y hy
    · rintro ⟨h1, h2, h3, h4⟩
      exact ⟨⟨h1 x List.mem_cons_self, h2 x List.mem_cons_self⟩, h3, fun y hy => h2 y (List.mem_cons_of_mem _ hy), h4⟩
theorem osOk_iff : ∀ {ls : List Oc}, osOk none ls = true ↔ (∀ x ∈ ls, ocOk x = true) ∧ srtG Oc.cl ltI ls
  | [] => by simp [osOk, srtG]
  | x :: xs => by
    unfold osOk srtG
    rw [Bool.and_eq_true, osOk_some, List.pairwise_cons]
    constructor
    · rintro ⟨h2, h3, h4, h5⟩
      refine ⟨fun y hy => ?_, h3, h5⟩
      rcases List.mem_cons.1 hy with rfl | hy
      · exact h2
      · exact h4 y hy
    · rintro ⟨h2, h3, h4⟩
      exact ⟨h2 x List.mem_cons_self, h3, fun y hy => h2 y (List.mem_cons_of_mem _ hy), h4⟩

/-! ### What an entry leaves -/
theorem told_last (l : Lg) (o : Oc) : lastL o.cl (toldL l o).os = some o := by
  show lastL o.cl (putO (lastL o.cl l.os).isSome o l.os) = some o
  rw [putO_G, lastL_G, lastL_G]
  exact findG_self o l.os
theorem do_kept (l : Lg) (y : Ey) (n : Int) (h : (doL l y n).2 ≠ 0) : (doL l y n).1.tt = l.tt ∧ (doL l y n).1.ls = l.ls := by
  unfold doL at h ⊢
  by_cases h1 : staleL l y.co = true
  · rw [if_pos h1]; exact ⟨rfl, rfl⟩
  rw [if_neg h1] at h ⊢
  by_cases h2 : chkC y.co n ≠ 0
  · rw [if_pos h2]; exact ⟨rfl, rfl⟩
  rw [if_neg h2] at h ⊢
  have h3 := (resD_led l y n).2 h
  unfold toldL
  simp only
  rw [h3]
  exact ⟨rfl, rfl⟩
/-- What is OK was not stale, and may be; each step was OK. -/
theorem do_steps (l : Lg) (y : Ey) (n : Int) (h : (doL l y n).2 = 0) : staleL l y.co = false ∧ chkC y.co n = 0 ∧ (resD l y n).2 = 0 ∧ doL l y n = (toldL (finL l y) ⟨y.co.cl, y.co.sp, 0⟩, 0) := by
  unfold doL at h ⊢
  by_cases h1 : staleL l y.co = true
  · rw [if_pos h1] at h; cases h
  rw [if_neg h1] at h ⊢
  by_cases h2 : chkC y.co n ≠ 0
  · rw [if_pos h2] at h; exact absurd h h2
  rw [if_neg h2] at h ⊢
  have h3 : (resD l y n).2 = 0 := h
  refine ⟨by simpa using h1, by simpa using h2, h3, ?_⟩
  rw [(resD_led l y n).1 h3, h3]
theorem res_steps (l : Lg) (y : Ey) (n : Int) (h : (resD l y n).2 = 0) : ¬ ((findR (findL y.co.lt l.ls)).2 = false ∧ y.co.op ≠ 1) ∧ (readL l y.co n).2 = 0 ∧ (readL l y.co n).1.hold y.ms = true ∧
    (stepL (oldL l y.co) y.co.op y.co.a y.co.b y.co.tx).2 = 0 ∧ (withL l (nextD (oldL l y.co) y.co)).2 = 0 ∧ (payL y.co.op (withL l (nextD (oldL l y.co) y.co)).1.tt (nextD (oldL l y.co) y.co).am).2 = 0 := by
  unfold resD at h
  by_cases h0 : (findR (findL y.co.lt l.ls)).2 = false ∧ y.co.op ≠ 1
  · rw [if_pos h0] at h; cases h
  rw [if_neg h0] at h
  by_cases h1 : (readL l y.co n).2 ≠ 0
  · rw [if_pos h1] at h; cases h
  rw [if_neg h1] at h
  by_cases h2 : (readL l y.co n).1.hold y.ms = false
  · rw [if_pos h2] at h; cases h
  rw [if_neg h2] at h
  by_cases h3 : (stepL (oldL l y.co) y.co.op y.co.a y.co.b y.co.tx).2 ≠ 0
  · rw [if_pos h3] at h; exact absurd h h3
  rw [if_neg h3] at h
  by_cases h4 : (withL l (nextD (oldL l y.co) y.co)).2 ≠ 0
  · rw [if_pos h4] at h; exact absurd h h4
  rw [if_neg h4] at h
  by_cases h5 : (payL y.co.op (withL l (nextD (oldL l y.co) y.co)).1.tt (nextD (oldL l y.co) y.co).am).2 ≠ 0
  · rw [if_pos h5] at h; exact absurd h h5
  exact ⟨h0, by simpa using h1, by simpa using h2, by simpa using h3, by simpa using h4, by simpa using h5⟩
/-- Done twice, it is stale. -/
theorem do_again (l : Lg) (y : Ey) (n : Int) (h : (doL l y n).2 = 0) : doL (doL l y n).1 y n = ((doL l y n).1, 10) := by
  have h1 := (do_steps l y n h).2.2.2
  have hs : staleL (doL l y n).1 y.co = true := by
    rw [h1]
    unfold staleL
    have h2 : lastL y.co.cl (toldL (finL l y) ⟨y.co.cl, y.co.sp, 0⟩).os = some ⟨y.co.cl, y.co.sp, 0⟩ := told_last (finL l y) ⟨y.co.cl, y.co.sp, 0⟩
    rw [h2]
    simp
  generalize (doL l y n).1 = m at hs
  unfold doL
  rw [if_pos hs]
theorem step_apply {x : Lt} {c : Cr} (h : (stepL x c.op c.a c.b c.tx).2 = 0) (ho : c.op = 1) : x.st = 0 := by
  unfold stepL at h
  by_cases h0 : nextL x.st c.op = 0
  · rw [if_pos h0] at h
    simp only at h
    split at h <;> cases h
  · rw [ho] at h0
    unfold nextL at h0
    rw [if_pos rfl] at h0
    by_cases h1 : x.st = 0
    · exact h1
    · rw [if_neg h1] at h0
      exact absurd rfl h0

end Go.Proofs.YtfflkodgojiklaaGreatDoor
