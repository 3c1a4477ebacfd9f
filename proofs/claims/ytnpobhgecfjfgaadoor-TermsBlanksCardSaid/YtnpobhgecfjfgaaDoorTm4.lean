/-
  The program's way to read a policy, by plain functions; it tells what the document's tells. No walk here.
-/
import Derived.Test.YtnpobhgecfjfgaaDoorTm3
import Derived.Test.YtnpobhgecfjfgaaDoorRN
namespace Go.Proofs.YtnpobhgecfjfgaaDoor

/-- letters of one kind at its beginning -/
def spanP (q : UInt8 → Bool) : List UInt8 → List UInt8 | [] => [] | x :: t => if q x then x :: spanP q t else []
def isBk (x : UInt8) : Bool := decide (x = 32)
def isLt (x : UInt8) : Bool := decide (97 ≤ x.toNat) && decide (x.toNat ≤ 122)
theorem spanP_cons (q : UInt8 → Bool) (x : UInt8) (t : List UInt8) : spanP q (x :: t) = if q x then x :: spanP q t else [] := rfl
theorem spanP_dg : ∀ t, spanP isDg t = digP t
  | [] => rfl
  | x :: t => by rw [spanP_cons, digP_cons, spanP_dg t]
theorem spanP_bk : ∀ t, t.drop (spanP isBk t).length = bareP t
  | [] => rfl
  | x :: t => by
    rw [spanP_cons]
    by_cases h : x = 32
    · have e : isBk x = true := by simp [isBk, h]
      rw [e, if_pos rfl, List.length_cons, List.drop_succ_cons, spanP_bk t, h]
      rfl
    · have e : isBk x = false := by simp [isBk, h]
      rw [e, bareP_ne _ h]
      rfl
theorem spanP_le (q : UInt8 → Bool) : ∀ t, (spanP q t).length ≤ t.length
  | [] => Nat.le_refl _
  | x :: t => by
    have := spanP_le q t
    rw [spanP_cons]
    split <;> simp
    omega
theorem spanP_mem (q : UInt8 → Bool) : ∀ {t x}, x ∈ spanP q t → q x = true
  | [], _, h => by cases h
  | y :: t, x, h => by
    rw [spanP_cons] at h
    split at h
    · rcases List.mem_cons.1 h with rfl | h
      · assumption
      · exact spanP_mem q h
    · cases h
/-- digits as a number -/
def numD (d : List UInt8) : Option Nat := if d.length = 0 ∨ 4 < d.length ∨ (1 < d.length ∧ d.head? = some 48) then none else some (valP 0 d)
def howQ (d w : List UInt8) (n : Nat) : Option Nat :=
  if w = [111, 102] then (match numD d with | none => none | some v => if 1 ≤ v ∧ v ≤ 99 then some v else none)
  else if d ≠ [] then none
  else if w = [97, 108, 108] then some n
  else if w = [97, 110, 121] then some 1 else none
def loopQ (p : List UInt8 → Option (Fm × List UInt8)) : Nat → List UInt8 → Option (List Fm × List UInt8)
  | 0, _ => none
  | n + 1, t => match p t with
    | none => none
    | some (f, r) => if begP [44] r then (match loopQ p n (bareP (r.drop 1)) with | none => none | some (l, r') => some (f :: l, r'))
      else if begP [41] r then some ([f], bareP (r.drop 1)) else none
def kidsQ (p : List UInt8 → Option (Fm × List UInt8)) (t : List UInt8) : Option (List Fm × List UInt8) :=
  if begP [40] t then loopQ p t.length (bareP (t.drop 1)) else none
def t1Q (t : List UInt8) : List UInt8 := bareP (t.drop (digP t).length)
def wQ (t : List UInt8) : List UInt8 := spanP isLt (t1Q t)
def t2Q (t : List UInt8) : List UInt8 := bareP ((t1Q t).drop (wQ t).length)
def proP : Nat → List UInt8 → Option (Fm × List UInt8)
  | 0, _ => none
  | k + 1, t =>
    if wQ t = [] then (match numD (digP t) with | none => none | some v => some (.mk v 0 [], t2Q t))
    else match kidsQ (proP k) (t2Q t) with
      | none => none
      | some (l, r) => match howQ (digP t) (wQ t) l.length with
        | none => none
        | some a => some (.mk 0 a l, r)
theorem proP_succ (k : Nat) (t : List UInt8) : proP (k + 1) t =
    if wQ t = [] then (match numD (digP t) with | none => none | some v => some (.mk v 0 [], t2Q t))
    else match kidsQ (proP k) (t2Q t) with
      | none => none
      | some (l, r) => match howQ (digP t) (wQ t) l.length with
        | none => none
        | some a => some (.mk 0 a l, r) := rfl

def headLt : List UInt8 → Bool | [] => false | x :: _ => isLt x
theorem spanP_nil {q : UInt8 → Bool} {x : UInt8} {t : List UInt8} (h : q x = false) : spanP q (x :: t) = [] := by rw [spanP_cons, h]; rfl
theorem spanP_lt {t : List UInt8} : spanP isLt t = [] ↔ headLt t = false := by
  cases t with
  | nil => simp [spanP, headLt]
  | cons x t =>
    show spanP isLt (x :: t) = [] ↔ isLt x = false
    rw [spanP_cons]
    cases isLt x <;> simp
theorem begP_span (q : UInt8 → Bool) : ∀ t, begP (spanP q t) t = true
  | [] => rfl
  | x :: t => by
    rw [spanP_cons]
    cases q x with
    | false => rfl
    | true => simp only [if_true]; rw [begP_cons, begP_span q t]; simp
theorem bareP_idem : ∀ t, bareP (bareP t) = bareP t
  | [] => rfl
  | x :: t => by
    by_cases h : x = 32
    · subst h
      have e : bareP (32 :: t) = bareP t := rfl
      rw [e, bareP_idem t]
    · rw [bareP_ne _ h, bareP_ne _ h]
theorem bareP_head {t u : List UInt8} {x : UInt8} (h : bareP t = x :: u) : x ≠ 32 := by
  intro e
  subst e
  have h2 := bareP_idem t
  rw [h] at h2
  have e : bareP (32 :: u) = bareP u := rfl
  rw [e] at h2
  have := bareP_len u
  rw [h2] at this
  simp at this
  omega
theorem begP_false {x y : UInt8} {t : List UInt8} (h : x ≠ y) : begP [x] (y :: t) = false := by rw [begP_cons]; simp [h]
theorem lt_sep {x : UInt8} (h : isLt x = true) : x ≠ 32 ∧ x ≠ 40 ∧ x ≠ 41 ∧ x ≠ 44 ∧ isDg x = false := by
  have h1 : 97 ≤ x.toNat := by simp [isLt] at h; omega
  refine ⟨?_, ?_, ?_, ?_, ?_⟩
  · rintro rfl; exact absurd h1 (by decide)
  · rintro rfl; exact absurd h1 (by decide)
  · rintro rfl; exact absurd h1 (by decide)
  · rintro rfl; exact absurd h1 (by decide)
  · simp [isDg]; omega
theorem numP_numD (t : List UInt8) : numP t = (match numD (digP t) with | none => none | some v => some (v, t.drop (digP t).length)) := by
  have hh : 1 < (digP t).length → t.head? = (digP t).head? := by
    cases t with
    | nil => intro h; simp [digP] at h
    | cons x t =>
      rw [digP_cons]
      cases isDg x <;> simp
  rw [numP_of rfl]
  unfold numD
  by_cases h : (digP t).length = 0 ∨ 4 < (digP t).length ∨ (1 < (digP t).length ∧ t.head? = some 48)
  · rw [if_pos h, if_pos (by rcases h with h | h | ⟨h1, h2⟩; exact .inl h; exact .inr (.inl h); exact .inr (.inr ⟨h1, by rw [← hh h1]; exact h2⟩))]
  · rw [if_neg h, if_neg (by rintro (h1 | h1 | ⟨h1, h2⟩); exact h (.inl h1); exact h (.inr (.inl h1)); exact h (.inr (.inr ⟨h1, by rw [hh h1]; exact h2⟩)))]

def bareR : Option (List Fm × List UInt8) → Option (List Fm × List UInt8) | none => none | some (l, r) => some (l, bareP r)
def Agrees (p q : List UInt8 → Option (Fm × List UInt8)) : Prop := ∀ t, (∀ f r, p t = some (f, r) → q (bareP t) = some (f, bareP r) ∨ (q (bareP t) = none ∧ headLt (bareP r) = true)) ∧ (p t = none → q (bareP t) = none)
theorem headLt_beg {t : List UInt8} (h : headLt t = true) {x : UInt8} (hx : x = 40 ∨ x = 41 ∨ x = 44) : begP [x] t = false := by
  cases t with
  | nil => cases h
  | cons y t =>
    have h1 := lt_sep (show isLt y = true from h)
    refine begP_false ?_
    rcases hx with rfl | rfl | rfl
    · exact h1.2.1.symm
    · exact h1.2.2.1.symm
    · exact h1.2.2.2.1.symm
theorem loop_agrees {p q : List UInt8 → Option (Fm × List UInt8)} (ha : Agrees p q) : ∀ (n : Nat) (t : List UInt8), loopQ q n (bareP (t.drop 1)) = bareR (loopP p n t)
  | 0, _ => rfl
  | n + 1, t => by
    have h := ha (t.drop 1)
    rw [loopP_succ]
    show (match q (bareP (t.drop 1)) with | none => none | some (f, r) => if begP [44] r then (match loopQ q n (bareP (r.drop 1)) with | none => none | some (l, r') => some (f :: l, r')) else if begP [41] r then some ([f], bareP (r.drop 1)) else none) = _
    cases hp : p (t.drop 1) with
    | none => rw [h.2 hp]; rfl
    | some z =>
      obtain ⟨f, rest⟩ := z
      rcases h.1 f rest hp with e | ⟨e, hl⟩
      · rw [e]
        simp only
        cases h44 : begP [44] (bareP rest) with
        | true =>
          have h41 : begP [41] (bareP rest) = false := by
            cases hb : bareP rest with
            | nil => rfl
            | cons y u =>
              rw [hb, begP_cons, begP_nil] at h44
              simp at h44
              subst h44
              rfl
          rw [h41, if_pos rfl, if_neg (by simp), if_pos rfl, loop_agrees ha n (bareP rest)]
          cases loopP p n (bareP rest) with
          | none => rfl
          | some z => rfl
        | false =>
          cases begP [41] (bareP rest) with
          | true => rfl
          | false => rfl
      · rw [e]
        simp only
        rw [headLt_beg hl (.inr (.inl rfl)), headLt_beg hl (.inr (.inr rfl))]
        rfl
theorem kids_agrees {p q : List UInt8 → Option (Fm × List UInt8)} (ha : Agrees p q) (t : List UInt8) : kidsQ q (bareP t) = bareR (rowP p t) := by
  unfold kidsQ rowP
  cases begP [40] (bareP t) with
  | false => rfl
  | true => rw [if_pos rfl, if_pos rfl, loop_agrees ha]
theorem begP_app : ∀ {s t : List UInt8}, begP s t = true → t = s ++ t.drop s.length
  | [], t, _ => rfl
  | x :: s, [], h => by cases h
  | x :: s, y :: t, h => by
    rw [begP_cons, Bool.and_eq_true] at h
    obtain ⟨h1, h2⟩ := h
    have h1 : x = y := by simpa using h1
    subst h1
    rw [List.length_cons, List.drop_succ_cons, List.cons_append, ← begP_app h2]
/-- behind a word, letters go on: no bracket there -/
theorem row_letters {p : List UInt8 → Option (Fm × List UInt8)} {u : List UInt8} (h : spanP isLt u ≠ []) : rowP p u = none := by
  have hl : headLt u = true := by
    cases hh : headLt u with
    | true => rfl
    | false => exact absurd (spanP_lt.2 hh) h
  have hb : bareP u = u := by
    cases u with
    | nil => rfl
    | cons x u => exact bareP_ne _ (lt_sep (show isLt x = true from hl)).1
  unfold rowP
  rw [hb, headLt_beg hl (.inl rfl)]
  rfl
theorem span_word : ∀ (s u : List UInt8), (∀ x, x ∈ s → isLt x = true) → spanP isLt (s ++ u) = s ++ spanP isLt u
  | [], _, _ => rfl
  | x :: s, u, h => by
    rw [List.cons_append, spanP_cons, h x (by simp), if_pos rfl, span_word s u (fun y hy => h y (by simp [hy]))]
    rfl

/-- a word ahead of brackets, with digits d ahead of it -/
theorem word_agrees {p q : List UInt8 → Option (Fm × List UInt8)} (ha : Agrees p q) {t s u : List UInt8} (hs : ∀ x, x ∈ s → isLt x = true) (hne : s ≠ []) (h1 : t1Q t = s ++ u) :
    (wQ t = s ++ spanP isLt u) ∧ (spanP isLt u = [] → wQ t = s ∧ kidsQ q (t2Q t) = bareR (rowP p u)) ∧ (spanP isLt u ≠ [] → rowP p u = none) ∧ wQ t ≠ [] := by
  have hw : wQ t = s ++ spanP isLt u := by unfold wQ; rw [h1, span_word s u hs]
  refine ⟨hw, fun hn => ?_, row_letters, by rw [hw]; simp [hne]⟩
  have hw2 : wQ t = s := by rw [hw, hn, List.append_nil]
  refine ⟨hw2, ?_⟩
  have h2 : t2Q t = bareP u := by unfold t2Q; rw [hw2, h1, List.drop_append, List.drop_length]; simp
  rw [h2, kids_agrees ha]
theorem howQ_long {d s v : List UInt8} {n : Nat} (hv : v ≠ []) (hs : s = [97, 108, 108] ∨ s = [97, 110, 121] ∨ s = [111, 102]) : howQ d (s ++ v) n = none := by
  cases v with
  | nil => exact absurd rfl hv
  | cons x v =>
    unfold howQ
    rcases hs with rfl | rfl | rfl <;> simp
theorem three_lt : (∀ x, x ∈ ([97, 108, 108] : List UInt8) → isLt x = true) ∧ (∀ x, x ∈ ([97, 110, 121] : List UInt8) → isLt x = true) ∧ (∀ x, x ∈ ([111, 102] : List UInt8) → isLt x = true) := by decide

theorem pol_agrees : ∀ k, Agrees (polP k) (proP k)
  | 0 => fun t => ⟨fun f r h => (by cases h), fun _ => rfl⟩
  | k + 1 => fun t => by
    have ha := pol_agrees k
    rw [polP_succ, proP_succ]
    obtain ⟨b, hb⟩ : ∃ b, bareP t = b := ⟨_, rfl⟩
    have hbb : bareP b = b := by rw [← hb, bareP_idem]
    rw [hb]
    have word : ∀ (s : List UInt8) (a : Nat → Nat), (∀ x, x ∈ s → isLt x = true) → (s = [97, 108, 108] ∨ s = [97, 110, 121]) → (∀ n, howQ [] s n = some (a n)) → begP s b = true →
        (∀ (f : Fm) (r : List UInt8), (match rowP (polP k) (b.drop 3) with | none => none | some (l, r) => some (Fm.mk 0 (a l.length) l, r)) = some (f, r) →
          (if wQ b = [] then (match numD (digP b) with | none => none | some v => some (Fm.mk v 0 [], t2Q b)) else match kidsQ (proP k) (t2Q b) with | none => none | some (l, r) => match howQ (digP b) (wQ b) l.length with | none => none | some a => some (Fm.mk 0 a l, r)) = some (f, bareP r)) ∧
        ((match rowP (polP k) (b.drop 3) with | none => none | some (l, r) => some (Fm.mk 0 (a l.length) l, r)) = none →
          (if wQ b = [] then (match numD (digP b) with | none => none | some v => some (Fm.mk v 0 [], t2Q b)) else match kidsQ (proP k) (t2Q b) with | none => none | some (l, r) => match howQ (digP b) (wQ b) l.length with | none => none | some a => some (Fm.mk 0 a l, r)) = none) := by
      intro s a hs hsw hh hbeg
      have hl3 : s.length = 3 := by rcases hsw with rfl | rfl <;> rfl
      have happ := begP_app hbeg
      rw [hl3] at happ
      have hd : digP b = [] := by
        rw [happ]
        rcases hsw with rfl | rfl <;> rfl
      have ht1 : t1Q b = s ++ b.drop 3 := by unfold t1Q; rw [hd, List.length_nil, List.drop_zero, hbb]; exact happ
      obtain ⟨w1, w2, w3, w4⟩ := word_agrees ha hs (by rcases hsw with rfl | rfl <;> simp) ht1
      rw [if_neg w4, hd]
      by_cases hsp : spanP isLt (b.drop 3) = []
      · obtain ⟨w5, w6⟩ := w2 hsp
        rw [w5, w6]
        cases rowP (polP k) (b.drop 3) with
        | none => exact ⟨fun f r h => (by cases h), fun _ => rfl⟩
        | some z =>
          obtain ⟨l, r⟩ := z
          refine ⟨fun f r' h => ?_, fun h => by cases h⟩
          simp only [Option.some.injEq, Prod.mk.injEq] at h
          obtain ⟨rfl, rfl⟩ := h
          show (match howQ [] s l.length with | none => none | some a => some (Fm.mk 0 a l, bareP r)) = _
          rw [hh]
      · rw [w3 hsp, w1]
        refine ⟨fun f r h => (by cases h), fun _ => ?_⟩
        cases kidsQ (proP k) (t2Q b) with
        | none => rfl
        | some z =>
          obtain ⟨l, r⟩ := z
          simp only
          rw [howQ_long hsp (by rcases hsw with h | h; exact .inl h; exact .inr (.inl h))]
    cases hall : begP [97, 108, 108] b with
    | true =>
      obtain ⟨h1, h2⟩ := word [97, 108, 108] (fun n => n) three_lt.1 (.inl rfl) (fun n => rfl) hall
      rw [if_pos rfl]
      exact ⟨fun f r h => .inl (h1 f r h), h2⟩
    | false =>
      rw [if_neg (by simp)]
      cases hany : begP [97, 110, 121] b with
      | true =>
        obtain ⟨h1, h2⟩ := word [97, 110, 121] (fun _ => 1) three_lt.2.1 (.inr rfl) (fun n => rfl) hany
        rw [if_pos rfl]
        exact ⟨fun f r h => .inl (h1 f r h), h2⟩
      | false =>
        rw [if_neg (by simp), numP_numD]
        cases hn : numD (digP b) with
        | none =>
          refine ⟨fun f r h => (by cases h), fun _ => ?_⟩
          by_cases hw : wQ b = []
          · rw [if_pos hw]
          · rw [if_neg hw]
            cases kidsQ (proP k) (t2Q b) with
            | none => rfl
            | some z =>
              obtain ⟨l, r⟩ := z
              simp only
              have hh : howQ (digP b) (wQ b) l.length = none := by
                unfold howQ
                by_cases h1 : wQ b = [111, 102]
                · rw [if_pos h1, hn]
                · rw [if_neg h1]
                  by_cases h2 : digP b = []
                  · have ht1 : t1Q b = b := by unfold t1Q; rw [h2, List.length_nil, List.drop_zero, hbb]
                    have hsp := begP_span isLt b
                    have hwb : wQ b = spanP isLt b := by unfold wQ; rw [ht1]
                    rw [← hwb] at hsp
                    rw [if_neg (by simp [h2]), if_neg (fun e => by rw [e, hall] at hsp; cases hsp), if_neg (fun e => by rw [e, hany] at hsp; cases hsp)]
                  · rw [if_pos h2]
              rw [hh]
        | some v =>
          have hdn : digP b ≠ [] := by
            intro e
            rw [e] at hn
            cases hn
          simp only
          have ht1 : bareP (b.drop (digP b).length) = t1Q b := rfl
          rw [ht1]
          cases hof : begP [111, 102] (t1Q b) with
          | true =>
            rw [if_pos rfl]
            have happ := begP_app hof
            obtain ⟨w1, w2, w3, w4⟩ := word_agrees ha three_lt.2.2 (by simp) happ
            rw [if_neg w4]
            have hl2 : ([111, 102] : List UInt8).length = 2 := rfl
            rw [hl2] at w1 w2 w3
            by_cases hsp : spanP isLt ((t1Q b).drop 2) = []
            · obtain ⟨w5, w6⟩ := w2 hsp
              rw [w5, w6]
              cases rowP (polP k) ((t1Q b).drop 2) with
              | none => exact ⟨fun f r h => (by cases h), fun _ => rfl⟩
              | some z =>
                obtain ⟨l, r⟩ := z
                have hh : howQ (digP b) [111, 102] l.length = if 1 ≤ v ∧ v ≤ 99 then some v else none := by unfold howQ; rw [if_pos rfl, hn]
                simp only [bareR]
                rw [hh]
                by_cases hv : 1 ≤ v ∧ v ≤ 99
                · rw [if_pos hv, if_pos hv]
                  refine ⟨fun f r' h => .inl ?_, fun h => by cases h⟩
                  simp only [Option.some.injEq, Prod.mk.injEq] at h
                  obtain ⟨rfl, rfl⟩ := h
                  rfl
                · rw [if_neg hv, if_neg hv]
                  exact ⟨fun f r h => (by cases h), fun _ => rfl⟩
            · rw [w3 hsp, w1]
              refine ⟨fun f r h => (by cases h), fun _ => ?_⟩
              cases kidsQ (proP k) (t2Q b) with
              | none => rfl
              | some z =>
                obtain ⟨l, r⟩ := z
                simp only
                rw [howQ_long hsp (.inr (.inr rfl))]
          | false =>
            rw [if_neg (by simp)]
            refine ⟨fun f r h => ?_, fun h => by cases h⟩
            simp only [Option.some.injEq, Prod.mk.injEq] at h
            obtain ⟨rfl, rfl⟩ := h
            by_cases hw : wQ b = []
            · rw [if_pos hw]
              left
              have h2 : t2Q b = t1Q b := by
                unfold t2Q
                rw [hw, List.length_nil, List.drop_zero]
                exact bareP_idem _
              rw [h2]
              rfl
            · rw [if_neg hw]
              right
              have hlt : headLt (t1Q b) = true := by
                cases hh : headLt (t1Q b) with
                | true => rfl
                | false => exact absurd (spanP_lt.2 hh) hw
              refine ⟨?_, hlt⟩
              cases kidsQ (proP k) (t2Q b) with
              | none => rfl
              | some z =>
                obtain ⟨l, r⟩ := z
                simp only
                have hwo : wQ b ≠ [111, 102] := fun e => by
                  have hsp := begP_span isLt (t1Q b)
                  have : spanP isLt (t1Q b) = [111, 102] := e
                  rw [this, hof] at hsp
                  cases hsp
                have hh : howQ (digP b) (wQ b) l.length = none := by unfold howQ; rw [if_neg hwo, if_pos hdn]
                rw [hh]

end Go.Proofs.YtnpobhgecfjfgaaDoor
