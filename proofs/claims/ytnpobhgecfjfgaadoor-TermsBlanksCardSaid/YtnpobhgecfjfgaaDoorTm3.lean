/-
  How great what is read may be; blanks laid between the parts of a printed policy make a text of it. No walk here.
-/
import Derived.Test.YtnpobhgecfjfgaaDoorTm2
namespace Go.Proofs.YtnpobhgecfjfgaaDoor

theorem bareP_len : ∀ (t : List UInt8), (bareP t).length ≤ t.length
  | [] => Nat.le_refl _
  | x :: t => by
    have := bareP_len t
    show (if x = 32 then bareP t else x :: t).length ≤ _
    split <;> simp <;> omega
theorem numP_len {t r : List UInt8} {v : Nat} (h : numP t = some (v, r)) : r.length + 1 ≤ t.length := by
  have hd : ∀ t : List UInt8, (digP t).length ≤ t.length := fun t => by
    induction t with
    | nil => exact Nat.le_refl _
    | cons x t ih => rw [digP_cons]; split <;> simp; exact ih
  rw [numP_of rfl] at h
  split at h
  · cases h
  · rename_i hn
    injection h with h
    injection h with _ h
    have h1 := hd t
    rw [← h, List.length_drop]
    omega
theorem begP_len : ∀ {s t : List UInt8}, begP s t = true → s.length ≤ t.length
  | [], _, _ => Nat.zero_le _
  | x :: s, [], h => by cases h
  | x :: s, y :: t, h => by
    rw [begP_cons, Bool.and_eq_true] at h
    have := begP_len h.2
    simpa using this
/-- What a reader of policies takes. -/
def Takes (k : Nat) (p : List UInt8 → Option (Fm × List UInt8)) : Prop := ∀ t f r, p t = some (f, r) → f.size + r.length ≤ t.length ∧ f.depth ≤ k
theorem loopP_takes {k : Nat} {p : List UInt8 → Option (Fm × List UInt8)} (hp : Takes k p) : ∀ (n : Nat) (t : List UInt8) (l : List Fm) (r : List UInt8), 1 ≤ t.length → loopP p n t = some (l, r) → Fm.sizes l + r.length + 1 ≤ t.length ∧ Fm.depths l ≤ k
  | 0, _, _, _, _, h => by cases h
  | n + 1, t, l, r, ht, h => by
    rw [loopP_succ] at h
    cases hq : p (t.drop 1) with
    | none => rw [hq] at h; cases h
    | some q =>
      obtain ⟨f, rest⟩ := q
      rw [hq] at h
      simp only at h
      obtain ⟨h1, h2⟩ := hp _ _ _ hq
      rw [List.length_drop] at h1
      have h3 := bareP_len rest
      by_cases ha : begP [41] (bareP rest) = true
      · rw [if_pos ha] at h
        injection h with h
        injection h with e1 e2
        subst e1 e2
        simp only [Fm.sizes, Fm.depths, List.length_drop]
        exact ⟨by omega, by omega⟩
      · rw [if_neg ha] at h
        by_cases hb : begP [44] (bareP rest) = true
        · rw [if_pos hb] at h
          cases hl : loopP p n (bareP rest) with
          | none => rw [hl] at h; cases h
          | some q2 =>
            obtain ⟨l2, r2⟩ := q2
            rw [hl] at h
            simp only at h
            injection h with h
            injection h with e1 e2
            subst e1 e2
            have := begP_len hb
            obtain ⟨h4, h5⟩ := loopP_takes hp n _ _ _ (by simpa using this) hl
            simp only [Fm.sizes, Fm.depths]
            exact ⟨by omega, by omega⟩
        · rw [if_neg hb] at h
          cases h
theorem rowP_takes {k : Nat} {p : List UInt8 → Option (Fm × List UInt8)} (hp : Takes k p) {t : List UInt8} {l : List Fm} {r : List UInt8} (h : rowP p t = some (l, r)) : Fm.sizes l + r.length + 1 ≤ t.length ∧ Fm.depths l ≤ k := by
  unfold rowP at h
  split at h
  · rename_i hb
    have h1 := begP_len hb
    have h2 := bareP_len t
    obtain ⟨h3, h4⟩ := loopP_takes hp _ _ _ _ (by simpa using h1) h
    exact ⟨by omega, h4⟩
  · cases h
theorem polP_succ (k : Nat) (t : List UInt8) : polP (k + 1) t =
    if begP [97, 108, 108] (bareP t) then (match rowP (polP k) ((bareP t).drop 3) with | none => none | some (l, r) => some (.mk 0 l.length l, r))
    else if begP [97, 110, 121] (bareP t) then (match rowP (polP k) ((bareP t).drop 3) with | none => none | some (l, r) => some (.mk 0 1 l, r))
    else match numP (bareP t) with
      | none => none
      | some (v, rest) => if begP [111, 102] (bareP rest) then
          (match rowP (polP k) ((bareP rest).drop 2) with | none => none | some (l, r) => if 1 ≤ v ∧ v ≤ 99 then some (.mk 0 v l, r) else none)
        else some (.mk v 0 [], rest) := rfl
theorem polP_takes : ∀ k, Takes k (polP k)
  | 0 => fun t f r h => by cases h
  | k + 1 => fun t f r h => by
    have ih := polP_takes k
    have hb := bareP_len t
    have node : ∀ (u : List UInt8) (o a : Int) (l : List Fm), u.length ≤ t.length → rowP (polP k) u = some (l, r) → (Fm.mk o a l).size + r.length ≤ t.length ∧ (Fm.mk o a l).depth ≤ k + 1 := fun u o a l hu hr => by
      obtain ⟨h1, h2⟩ := rowP_takes ih hr
      simp only [Fm.size, Fm.depth]
      exact ⟨by omega, by omega⟩
    rw [polP_succ] at h
    split at h
    · cases hr : rowP (polP k) ((bareP t).drop 3) with
      | none => rw [hr] at h; cases h
      | some q =>
        obtain ⟨l, r2⟩ := q
        rw [hr] at h
        simp only at h
        injection h with h
        injection h with e1 e2
        subst e1 e2
        exact node _ _ _ _ (by rw [List.length_drop]; omega) hr
    · split at h
      · cases hr : rowP (polP k) ((bareP t).drop 3) with
        | none => rw [hr] at h; cases h
        | some q =>
          obtain ⟨l, r2⟩ := q
          rw [hr] at h
          simp only at h
          injection h with h
          injection h with e1 e2
          subst e1 e2
          exact node _ _ _ _ (by rw [List.length_drop]; omega) hr
      · cases hn : numP (bareP t) with
        | none => rw [hn] at h; cases h
        | some q =>
          obtain ⟨v, rest⟩ := q
          rw [hn] at h
          simp only at h
          have h1 := numP_len hn
          have h2 := bareP_len rest
          split at h
          · cases hr : rowP (polP k) ((bareP rest).drop 2) with
            | none => rw [hr] at h; cases h
            | some q =>
              obtain ⟨l, r2⟩ := q
              rw [hr] at h
              simp only at h
              split at h
              · injection h with h
                injection h with e1 e2
                subst e1 e2
                exact node _ _ _ _ (by rw [List.length_drop]; omega) hr
              · cases h
          · injection h with h
            injection h with e1 e2
            subst e1 e2
            simp only [Fm.size, Fm.sizes, Fm.depth, Fm.depths]
            exact ⟨by omega, by omega⟩

/-! Blanks between the parts. -/
def isSep (x : UInt8) : Bool := decide (x = 40) || decide (x = 41) || decide (x = 44)
def isOp (x : UInt8) : Bool := decide (x = 40) || decide (x = 44)
/-- t is s with blanks ahead of '(', ',', ')' and behind '(', ','; p: whether one of these two stands ahead -/
def Ins : Bool → List UInt8 → List UInt8 → Prop
  | _, [], t => t = []
  | p, x :: s, t => ∃ b t', isBl b ∧ (b = [] ∨ p = true ∨ isSep x = true) ∧ t = b ++ x :: t' ∧ Ins (isOp x) s t'
/-- a word goes through as it is -/
theorem ins_word : ∀ (w : List UInt8) (p : Bool) (s t : List UInt8), w ≠ [] → (∀ x, x ∈ w → isSep x = false ∧ isOp x = false) → Ins p (w ++ s) t → ∃ b t2, isBl b ∧ (p = false → b = []) ∧ t = b ++ (w ++ t2) ∧ Ins false s t2
  | [], _, _, _, h, _, _ => absurd rfl h
  | [x], p, s, t, _, hw, ⟨b, t', hb, hc, e, hi⟩ => by
    have hx := hw x (by simp)
    refine ⟨b, t', hb, fun hp => ?_, by simpa using e, by rw [hx.2] at hi; exact hi⟩
    rcases hc with h | h | h
    · exact h
    · rw [hp] at h; cases h
    · rw [hx.1] at h; cases h
  | x :: y :: w, p, s, t, _, hw, ⟨b, t', hb, hc, e, hi⟩ => by
    have hx := hw x (by simp)
    rw [hx.2] at hi
    obtain ⟨b2, t2, hb2, hn, e2, h2⟩ := ins_word (y :: w) false s t' (by simp) (fun z hz => hw z (by simp at hz ⊢; exact .inr hz)) hi
    rw [hn rfl] at e2
    refine ⟨b, t2, hb, fun hp => ?_, by rw [e, e2]; rfl, h2⟩
    rcases hc with h | h | h
    · exact h
    · rw [hp] at h; cases h
    · rw [hx.1] at h; cases h
theorem dg_sep : ∀ n : Fin 10, isSep (dg n.val) = false ∧ isOp (dg n.val) = false := by decide
theorem digs_sep {n : Nat} (h : n < 100) : digs n ≠ [] ∧ ∀ x, x ∈ digs n → isSep x = false ∧ isOp x = false := by
  by_cases h1 : n < 10
  · rw [digs_one h1]
    exact ⟨by simp, fun x hx => by rw [List.mem_singleton.1 hx]; exact dg_sep ⟨n, h1⟩⟩
  · rw [digs_two (by omega) h]
    refine ⟨by simp, fun x hx => ?_⟩
    rcases List.mem_cons.1 hx with rfl | hx
    · exact dg_sep ⟨n / 10, by omega⟩
    · rw [List.mem_singleton.1 hx]; exact dg_sep ⟨n % 10, by omega⟩
theorem headP_sep {a : Int} {n : Nat} (h1 : 1 ≤ a) (h2 : a ≤ (n : Int)) (hn : n ≤ 99) : headP a n ≠ [] ∧ ∀ x, x ∈ headP a n → isSep x = false ∧ isOp x = false := by
  unfold headP
  split
  · exact ⟨by simp, by decide⟩
  · split
    · exact ⟨by simp, by decide⟩
    · have h := digs_sep (n := a.toNat) (by omega)
      refine ⟨by simp, fun x hx => ?_⟩
      rcases List.mem_append.1 hx with hx | hx
      · exact h.2 x hx
      · have h9 : ∀ x, x ∈ ([111, 102] : List UInt8) → isSep x = false ∧ isOp x = false := by decide
        exact h9 x hx
mutual
theorem ins_print : ∀ (f : Fm) (p : Bool) (s t : List UInt8), f.rng 7 = true → f.size ≤ 99 → Ins p (printP f ++ s) t → ∃ b t1 t2, isBl b ∧ (p = false → b = []) ∧ Sp f t1 ∧ Ins false s t2 ∧ t = b ++ (t1 ++ t2)
  | .mk o a [], p, s, t, hr, _, h => by
    have ho : 0 ≤ o ∧ o < 7 := by simp [Fm.rng] at hr; omega
    have hw := digs_sep (n := o.toNat) (by omega)
    obtain ⟨b, t2, hb, hp, e, hi⟩ := ins_word (digs o.toNat) p s t hw.1 hw.2 h
    exact ⟨b, digs o.toNat, t2, hb, hp, rfl, hi, e⟩
  | .mk o a (k :: ks), p, s, t, hr, hz, h => by
    simp only [Fm.rng, Bool.and_eq_true, decide_eq_true_eq] at hr
    obtain ⟨hrs, ⟨h1, h2⟩, _⟩ := hr
    simp only [Fm.rngs, Bool.and_eq_true] at hrs
    simp only [Fm.size, Fm.sizes] at hz
    have hl := Fm.length_sizes ks
    have hw := headP_sep h1 h2 (by have := k.size_pos; omega)
    have e0 : printP (.mk o a (k :: ks)) ++ s = headP a (ks.length + 1) ++ (40 :: (printP k ++ (tailP ks ++ s))) := by
      show headP a (ks.length + 1) ++ 40 :: (printP k ++ tailP ks) ++ s = _
      simp
    rw [e0] at h
    obtain ⟨b, t2, hb, hp, e, b', t3, hb', _, e2, hi⟩ := ins_word _ p _ t hw.1 hw.2 h
    obtain ⟨c, t4, t5, hc, _, hs, hi2, e3⟩ := ins_print k _ _ t3 hrs.1 (by omega) hi
    obtain ⟨u, t6, hu, hi3, e4⟩ := ins_tail ks _ t5 hrs.2 (by omega) hi2
    refine ⟨b, headP a (ks.length + 1) ++ (b' ++ 40 :: (c ++ (t4 ++ u))), t6, hb, hp, ⟨b', c, t4, u, hb', hc, hs, hu, rfl⟩, hi3, ?_⟩
    rw [e, e2, e3, e4]
    simp
theorem ins_tail : ∀ (ks : List Fm) (s t : List UInt8), Fm.rngs 7 ks = true → Fm.sizes ks ≤ 99 → Ins false (tailP ks ++ s) t → ∃ u t2, SpT ks u ∧ Ins false s t2 ∧ t = u ++ t2
  | [], s, t, _, _, ⟨b, t', hb, _, e, hi⟩ => ⟨b ++ [41], t', ⟨b, hb, rfl⟩, hi, by rw [e]; simp⟩
  | k :: ks, s, t, hr, hz, ⟨b, t', hb, _, e, hi⟩ => by
    simp only [Fm.rngs, Bool.and_eq_true] at hr
    simp only [Fm.sizes] at hz
    have e9 : (printP k ++ tailP ks).append s = printP k ++ (tailP ks ++ s) := List.append_assoc _ _ _
    rw [e9] at hi
    obtain ⟨c, t4, t5, hc, _, hs, hi2, e3⟩ := ins_print k _ _ t' hr.1 (by omega) hi
    obtain ⟨u, t6, hu, hi3, e4⟩ := ins_tail ks _ t5 hr.2 (by omega) hi2
    refine ⟨b ++ 44 :: (c ++ (t4 ++ u)), t6, ⟨b, c, t4, u, hb, hc, hs, hu, rfl⟩, hi3, ?_⟩
    rw [e, e3, e4]
    simp
end
/-- A printed policy with blanks between its parts is a text of it. -/
theorem ins_sp {f : Fm} {t : List UInt8} (hr : f.rng 7 = true) (hz : f.size ≤ 99) (h : Ins false (printP f) t) : Sp f t := by
  have h' : Ins false (printP f ++ []) t := by rw [List.append_nil]; exact h
  obtain ⟨b, t1, t2, _, hb, hs, hi, e⟩ := ins_print f false [] t hr hz h'
  have e2 : t2 = [] := hi
  rw [hb rfl, e2, List.nil_append, List.append_nil] at e
  rw [e]
  exact hs

end Go.Proofs.YtnpobhgecfjfgaaDoor
