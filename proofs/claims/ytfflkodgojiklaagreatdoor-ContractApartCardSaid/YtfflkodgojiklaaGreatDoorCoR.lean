/-
  What an entry that pays nothing puts; two such entries of unlike clients and letters may go in any order. What entries keep: rising letters and outcomes, and the total is what was paid. No walk here.
-/
import Derived.Test.YtfflkodgojiklaaGreatDoorCoMA
namespace Go.Proofs.YtfflkodgojiklaaGreatDoor
open Go.RowKit

/-! ### In any order -/
def staleO (o : Option Oc) (c : Cr) : Bool := match o with | none => false | some o => decide (c.sp ≤ o.sp)
/-- the letter that is put, the result that is told, the answer -/
def actD (o : Option Oc) (f : Option Lt) (y : Ey) (n : Int) : Option Lt × Option Int × Int :=
  if staleO o y.co = true then (none, none, 10) else if chkC y.co n ≠ 0 then (none, none, chkC y.co n)
  else if (findR f).2 = false ∧ y.co.op ≠ 1 then (none, some 7, 7)
  else if (parseP (if y.co.op = 1 then y.co.tx else (findR f).1.po) n).2 ≠ 0 then (none, some 2, 2)
  else if (parseP (if y.co.op = 1 then y.co.tx else (findR f).1.po) n).1.hold y.ms = false then (none, some 9, 9)
  else if (stepL (findR f).1 y.co.op y.co.a y.co.b y.co.tx).2 ≠ 0 then (none, some (stepL (findR f).1 y.co.op y.co.a y.co.b y.co.tx).2, (stepL (findR f).1 y.co.op y.co.a y.co.b y.co.tx).2)
  else (some (nextD (findR f).1 y.co), some 0, 0)
def putX (x : Option Lt) (ls : List Lt) : List Lt := match x with | none => ls | some x => putL (findL x.nm ls).isSome x ls
def putY (y : Ey) (r : Option Int) (os : List Oc) : List Oc := match r with | none => os | some r => putO (lastL y.co.cl os).isSome ⟨y.co.cl, y.co.sp, r⟩ os
def putA (l : Lg) (y : Ey) (a : Option Lt × Option Int × Int) : Lg := ⟨l.sq, l.tt, putX a.1 l.ls, putY y a.2.1 l.os⟩
theorem with_room {l : Lg} {x : Lt} (hn : isNm x.nm = true) (hl : l.ls.length ≤ 15) : withL l x = (⟨l.sq, l.tt, putL (findL x.nm l.ls).isSome x l.ls, l.os⟩, 0) := by
  unfold withL
  rw [if_neg (by simp [hn])]
  have := putL_len (findL x.nm l.ls).isSome x l.ls
  rw [if_neg (by omega)]
theorem doL_act (l : Lg) (y : Ey) (n : Int) (ho : y.co.op ≠ 7) (hl : l.ls.length ≤ 15) : doL l y n = (putA l y (actD (lastL y.co.cl l.os) (findL y.co.lt l.ls) y n), (actD (lastL y.co.cl l.os) (findL y.co.lt l.ls) y n).2.2) := by
  have hs : staleL l y.co = staleO (lastL y.co.cl l.os) y.co := rfl
  unfold doL actD
  rw [hs]
  by_cases h1 : staleO (lastL y.co.cl l.os) y.co = true
  · rw [if_pos h1, if_pos h1]; rfl
  rw [if_neg h1, if_neg h1]
  by_cases h2 : chkC y.co n ≠ 0
  · rw [if_pos h2, if_pos h2]; rfl
  rw [if_neg h2, if_neg h2]
  unfold resD
  have hold : oldL l y.co = (findR (findL y.co.lt l.ls)).1 := rfl
  have hread : readL l y.co n = parseP (if y.co.op = 1 then y.co.tx else (findR (findL y.co.lt l.ls)).1.po) n := rfl
  rw [hread, hold]
  by_cases h3 : (findR (findL y.co.lt l.ls)).2 = false ∧ y.co.op ≠ 1
  · rw [if_pos h3, if_pos h3]; rfl
  rw [if_neg h3, if_neg h3]
  by_cases h4 : (parseP (if y.co.op = 1 then y.co.tx else (findR (findL y.co.lt l.ls)).1.po) n).2 ≠ 0
  · rw [if_pos h4, if_pos h4]; rfl
  rw [if_neg h4, if_neg h4]
  by_cases h5 : (parseP (if y.co.op = 1 then y.co.tx else (findR (findL y.co.lt l.ls)).1.po) n).1.hold y.ms = false
  · rw [if_pos h5, if_pos h5]; rfl
  rw [if_neg h5, if_neg h5]
  by_cases h6 : (stepL (findR (findL y.co.lt l.ls)).1 y.co.op y.co.a y.co.b y.co.tx).2 ≠ 0
  · rw [if_pos h6, if_pos h6]; rfl
  rw [if_neg h6, if_neg h6]
  have hm : isNm (nextD (findR (findL y.co.lt l.ls)).1 y.co).nm = true := (chkC_iff.1 (by simpa using h2)).nm
  rw [with_room hm hl]
  rw [if_neg (by simp)]
  have hp : ∀ tt am, payL y.co.op tt am = (tt, 0) := fun tt am => by unfold payL; rw [if_neg ho]
  rw [hp]
  rw [if_neg (by simp)]
  rfl
theorem act_nm {o : Option Oc} {f : Option Lt} {y : Ey} {n : Int} {x : Lt} (h : (actD o f y n).1 = some x) : x.nm = y.co.lt := by
  unfold actD at h
  by_cases h1 : staleO o y.co = true
  · rw [if_pos h1] at h; cases h
  rw [if_neg h1] at h
  by_cases h2 : chkC y.co n ≠ 0
  · rw [if_pos h2] at h; cases h
  rw [if_neg h2] at h
  by_cases h3 : (findR f).2 = false ∧ y.co.op ≠ 1
  · rw [if_pos h3] at h; cases h
  rw [if_neg h3] at h
  by_cases h4 : (parseP (if y.co.op = 1 then y.co.tx else (findR f).1.po) n).2 ≠ 0
  · rw [if_pos h4] at h; cases h
  rw [if_neg h4] at h
  by_cases h5 : (parseP (if y.co.op = 1 then y.co.tx else (findR f).1.po) n).1.hold y.ms = false
  · rw [if_pos h5] at h; cases h
  rw [if_neg h5] at h
  by_cases h6 : (stepL (findR f).1 y.co.op y.co.a y.co.b y.co.tx).2 ≠ 0
  · rw [if_pos h6] at h; cases h
  rw [if_neg h6] at h
  injection h with h
  rw [← h]
  rfl
theorem putX_len (x : Option Lt) (ls : List Lt) : (putX x ls).length ≤ ls.length + 1 := by
  cases x with
  | none => exact Nat.le_succ _
  | some x => exact putL_len _ _ _
theorem find_putX {x : Option Lt} {k : List UInt8} (h : ∀ z, x = some z → z.nm ≠ k) (ls : List Lt) : findL k (putX x ls) = findL k ls := by
  cases x with
  | none => rfl
  | some z =>
    show findL k (putL _ z ls) = _
    simp only [putL_G, findL_G]
    exact findG_other (lt := ltS) (h z rfl) _ ls
theorem last_putY {y : Ey} {r : Option Int} {k : Int} (h : y.co.cl ≠ k) (os : List Oc) : lastL k (putY y r os) = lastL k os := by
  cases r with
  | none => rfl
  | some r =>
    show lastL k (putO _ _ os) = _
    simp only [putO_G, lastL_G]
    exact findG_other (key := Oc.cl) (lt := ltI) (x := ⟨y.co.cl, y.co.sp, r⟩) h _ os
theorem swapX {x z : Option Lt} (h : ∀ a b, x = some a → z = some b → a.nm ≠ b.nm) {ls : List Lt} (hs : srtG Lt.nm ltS ls) : putX z (putX x ls) = putX x (putX z ls) := by
  cases x with
  | none => rfl
  | some a =>
    cases z with
    | none => rfl
    | some b =>
      show putL (findL b.nm (putL (findL a.nm ls).isSome a ls)).isSome b (putL (findL a.nm ls).isSome a ls) = putL (findL a.nm (putL (findL b.nm ls).isSome b ls)).isSome a (putL (findL b.nm ls).isSome b ls)
      simp only [putL_G, findL_G]
      exact put_swap (key := Lt.nm) (lt := ltS) ltS_irrefl (fun _ _ _ h1 h2 => ltS_trans h1 h2) (fun _ _ h1 h2 => ltS_total h1 h2) (h a b rfl rfl) hs
theorem swapY {a b : Ey} {r s : Option Int} (h : a.co.cl ≠ b.co.cl) {os : List Oc} (hs : srtG Oc.cl ltI os) : putY b s (putY a r os) = putY a r (putY b s os) := by
  cases r with
  | none => rfl
  | some r =>
    cases s with
    | none => rfl
    | some s =>
      show putO (lastL b.co.cl (putO (lastL a.co.cl os).isSome ⟨a.co.cl, a.co.sp, r⟩ os)).isSome ⟨b.co.cl, b.co.sp, s⟩ (putO (lastL a.co.cl os).isSome ⟨a.co.cl, a.co.sp, r⟩ os) = putO (lastL a.co.cl (putO (lastL b.co.cl os).isSome ⟨b.co.cl, b.co.sp, s⟩ os)).isSome ⟨a.co.cl, a.co.sp, r⟩ (putO (lastL b.co.cl os).isSome ⟨b.co.cl, b.co.sp, s⟩ os)
      simp only [putO_G, lastL_G]
      exact put_swap (key := Oc.cl) (x := (⟨a.co.cl, a.co.sp, r⟩ : Oc)) (y := (⟨b.co.cl, b.co.sp, s⟩ : Oc)) ltI_irr ltI_tr ltI_tot h hs
/-- WHO HAS NOTHING TO DO WITH ONE ANOTHER MAY GO IN ANY ORDER. -/
theorem do_swap {l : Lg} {a b : Ey} {n : Int} (hr : l.right = true) (hl : l.ls.length ≤ 10) (hc : a.co.cl ≠ b.co.cl) (hn : a.co.lt ≠ b.co.lt) (ha : a.co.op ≠ 7) (hb : b.co.op ≠ 7) :
    (doL (doL l a n).1 b n).1 = (doL (doL l b n).1 a n).1 ∧ (doL l a n).2 = (doL (doL l b n).1 a n).2 ∧ (doL (doL l a n).1 b n).2 = (doL l b n).2 := by
  simp only [Lg.right, Bool.and_eq_true] at hr
  have h1 := (lsOk_iff.1 hr.1.2).2
  have h2 := (osOk_iff.1 hr.2).2
  rw [doL_act l a n ha (by omega), doL_act l b n hb (by omega)]
  generalize hA : actD (lastL a.co.cl l.os) (findL a.co.lt l.ls) a n = A
  generalize hB : actD (lastL b.co.cl l.os) (findL b.co.lt l.ls) b n = B
  have hAn : ∀ z, A.1 = some z → z.nm = a.co.lt := fun z hz => act_nm (by rw [hA]; exact hz)
  have hBn : ∀ z, B.1 = some z → z.nm = b.co.lt := fun z hz => act_nm (by rw [hB]; exact hz)
  have la : (putA l a A).ls.length ≤ 15 := by have : (putA l a A).ls.length ≤ l.ls.length + 1 := putX_len A.1 l.ls; omega
  have lb : (putA l b B).ls.length ≤ 15 := by have : (putA l b B).ls.length ≤ l.ls.length + 1 := putX_len B.1 l.ls; omega
  rw [doL_act (putA l a A) b n hb la, doL_act (putA l b B) a n ha lb]
  have f1 : findL b.co.lt (putA l a A).ls = findL b.co.lt l.ls := find_putX (fun z hz e => hn ((hAn z hz).symm.trans e)) l.ls
  have f2 : findL a.co.lt (putA l b B).ls = findL a.co.lt l.ls := find_putX (fun z hz e => hn (e.symm.trans (hBn z hz))) l.ls
  have g1 : lastL b.co.cl (putA l a A).os = lastL b.co.cl l.os := last_putY hc l.os
  have g2 : lastL a.co.cl (putA l b B).os = lastL a.co.cl l.os := last_putY (fun e => hc e.symm) l.os
  rw [f1, f2, g1, g2, hA, hB]
  refine ⟨?_, rfl, rfl⟩
  show (⟨l.sq, l.tt, putX B.1 (putX A.1 l.ls), putY b B.2.1 (putY a A.2.1 l.os)⟩ : Lg) = ⟨l.sq, l.tt, putX A.1 (putX B.1 l.ls), putY a A.2.1 (putY b B.2.1 l.os)⟩
  rw [swapX (fun x z hx hz e => hn ((hAn x hx).symm.trans (e.trans (hBn z hz)))) h1, swapY hc h2]

/-! ### What is kept -/
def paid1 (x : Lt) : Int := if x.st = 5 then x.am else 0
def paidS : List Lt → Int
  | [] => 0
  | x :: xs => paid1 x + paidS xs
theorem paid_false (x : Lt) : ∀ ls : List Lt, paidS (putL false x ls) = paidS ls + paid1 x
  | [] => by simp [putL, paidS]
  | y :: ys => by
    unfold putL
    rw [if_neg (by simp)]
    split
    · simp only [paidS]; omega
    · simp only [paidS, paid_false x ys]; omega
theorem paid_true {x o : Lt} : ∀ {ls : List Lt}, findL x.nm ls = some o → paidS (putL true x ls) = paidS ls - paid1 o + paid1 x
  | [], h => by cases h
  | y :: ys, h => by
    unfold putL
    rw [if_pos rfl]
    unfold findL at h
    by_cases e : y.nm = x.nm
    · rw [if_pos e] at h ⊢
      injection h with h
      subst h
      simp only [paidS]; omega
    · rw [if_neg e] at h ⊢
      simp only [paidS, paid_true h]; omega
theorem next_five {st op : Int} (h : nextL st op = 5) : op = 7 := by
  unfold nextL at h
  by_cases e : op = 7
  · exact e
  exfalso
  repeat' split at h
  all_goals omega
theorem next_pays {st : Int} (h : nextL st 7 ≠ 0) : nextL st 7 = 5 := by
  unfold nextL at h ⊢
  repeat rw [if_neg (by omega)] at h ⊢
  rw [if_pos rfl] at h ⊢
  split at h
  · rename_i e; rw [if_pos e]
  · exact absurd rfl h
theorem step_parts {x : Lt} {op a b : Int} {t : List UInt8} (h : (stepL x op a b t).2 = 0) : nextL x.st op ≠ 0 ∧ (changeL x op a b t).2 = 0 ∧ (stepL x op a b t).1 = ⟨(changeL x op a b t).1.nm, nextL x.st op, (changeL x op a b t).1.am, (changeL x op a b t).1.du, (changeL x op a b t).1.po, (changeL x op a b t).1.pa⟩ := by
  unfold stepL at h ⊢
  by_cases h0 : nextL x.st op = 0
  · rw [if_pos h0] at h
    simp only at h
    split at h <;> cases h
  rw [if_neg h0] at h ⊢
  by_cases h1 : (changeL x op a b t).2 ≠ 0
  · rw [if_pos h1] at h; exact absurd h h1
  rw [if_neg h1]
  exact ⟨h0, by simpa using h1, rfl⟩
structure LtIn (x : Lt) : Prop where
  st1 : 1 ≤ x.st
  st7 : x.st ≤ 7
  am1 : 1 ≤ x.am
  am2 : isM x.am = true
  du : isM x.du = true
  po : x.po.length ≤ 200
  pa : x.pa.length ≤ 200
theorem ltOk_iff {x : Lt} : ltOk x = true ↔ isNm x.nm = true ∧ LtIn x := by
  simp only [ltOk, Bool.and_eq_true, decide_eq_true_eq]
  exact ⟨fun ⟨⟨⟨⟨⟨⟨⟨h1, h2⟩, h3⟩, h4⟩, h5⟩, h6⟩, h7⟩, h8⟩ => ⟨h1, h2, h3, h4, h5, h6, h7, h8⟩, fun ⟨h1, h2, h3, h4, h5, h6, h7, h8⟩ => ⟨⟨⟨⟨⟨⟨⟨h1, h2⟩, h3⟩, h4⟩, h5⟩, h6⟩, h7⟩, h8⟩⟩
/-- A step that is OK makes a letter that may be. -/
theorem step_right {x : Lt} {op a b : Int} {t : List UInt8} (hx : op = 1 ∨ LtIn x) (h : (stepL x op a b t).2 = 0) : LtIn (stepL x op a b t).1 := by
  obtain ⟨h0, h1, h2⟩ := step_parts h
  have hr := nextL_rng x.st op
  rw [h2]
  have key : 1 ≤ (changeL x op a b t).1.am ∧ isM (changeL x op a b t).1.am = true ∧ isM (changeL x op a b t).1.du = true ∧ (changeL x op a b t).1.po.length ≤ 200 ∧ (changeL x op a b t).1.pa.length ≤ 200 := by
    by_cases e1 : op = 1
    · unfold changeL at h1 ⊢
      rw [if_pos e1] at h1 ⊢
      unfold applyL at h1 ⊢
      by_cases c1 : 200 < t.length
      · rw [if_pos c1] at h1; cases h1
      rw [if_neg c1] at h1 ⊢
      by_cases c2 : a < 1
      · rw [if_pos c2] at h1; cases h1
      rw [if_neg c2] at h1 ⊢
      by_cases c3 : isM a = false
      · rw [if_pos c3] at h1; cases h1
      rw [if_neg c3] at h1 ⊢
      by_cases c4 : isM b = false
      · rw [if_pos c4] at h1; cases h1
      rw [if_neg c4]
      exact ⟨by simp only; omega, by simpa using c3, by simpa using c4, by simp only; omega, by simp⟩
    have hl : LtIn x := hx.resolve_left e1
    by_cases e3 : op = 3
    · unfold changeL at h1 ⊢
      rw [if_neg e1, if_pos e3] at h1 ⊢
      have hm := isM_chg x.am a
      unfold amendL at h1 ⊢
      by_cases c1 : (chgM x.am a).2 ≠ 0
      · rw [if_pos c1] at h1; exact absurd h1 c1
      rw [if_neg c1] at h1 ⊢
      by_cases c2 : (chgM x.am a).1 = 0
      · rw [if_pos c2] at h1; cases h1
      rw [if_neg c2] at h1 ⊢
      by_cases c4 : isM b = false
      · rw [if_pos c4] at h1; cases h1
      rw [if_neg c4]
      have hy := isM_yes hm
      refine ⟨by simp only; omega, hm, ?_, hl.po, hl.pa⟩
      simp only
      split
      · exact hl.du
      · simpa using c4
    by_cases e4 : op = 4
    · unfold changeL at h1 ⊢
      rw [if_neg e1, if_neg e3, if_pos e4] at h1 ⊢
      unfold presentL at h1 ⊢
      by_cases c1 : 200 < t.length
      · rw [if_pos c1] at h1; cases h1
      rw [if_neg c1]
      exact ⟨hl.am1, hl.am2, hl.du, hl.po, by simp only; omega⟩
    unfold changeL
    rw [if_neg e1, if_neg e3, if_neg e4]
    by_cases e6 : op = 6
    · rw [if_pos e6]; exact ⟨hl.am1, hl.am2, hl.du, hl.po, by simp⟩
    rw [if_neg e6]
    by_cases e8 : op = 8
    · rw [if_pos e8]; exact ⟨hl.am1, hl.am2, hl.du, hl.po, hl.pa⟩
    · rw [if_neg e8]; exact ⟨hl.am1, hl.am2, hl.du, hl.po, hl.pa⟩
  exact ⟨by simp only; omega, by simp only; omega, key.1, key.2.1, key.2.2.1, key.2.2.2.1, key.2.2.2.2⟩
theorem step_pays {x : Lt} {a b : Int} {t : List UInt8} : (changeL x 7 a b t).1 = x := by
  unfold changeL
  simp
theorem step_err {x : Lt} {op a b : Int} {t : List UInt8} : 0 ≤ (stepL x op a b t).2 ∧ (stepL x op a b t).2 ≤ 99 := by
  have hc : ∀ u v, 0 ≤ (chgM u v).2 ∧ (chgM u v).2 ≤ 99 := fun u v => by
    unfold chgM outM
    split
    · split <;> simp
    · simp
  have hch : 0 ≤ (changeL x op a b t).2 ∧ (changeL x op a b t).2 ≤ 99 := by
    unfold changeL applyL amendL presentL expiryL
    have := hc x.am a
    repeat' split
    all_goals first | exact this | simp
  unfold stepL
  split
  · simp only; split <;> simp
  split
  · exact hch
  · simp

/-- what entries keep, from an empty ledger on -/
structure Inv (l : Lg) : Prop where
  ls : lsOk none l.ls = true
  ln : l.ls.length ≤ 16
  os : osOk none l.os = true
  cl : ∀ o ∈ l.os, 4 ≤ o.cl ∧ o.cl ≤ 7
  sq : l.sq = 0
  tt : l.tt = paidS l.ls
  tm : isM l.tt = true
theorem inv_none : Inv Lg.no := ⟨rfl, by simp [Lg.no], rfl, fun o ho => by simp [Lg.no] at ho, rfl, rfl, by decide⟩
theorem os_room : ∀ {os : List Oc} {a : Int}, srtG Oc.cl ltI os → (∀ o ∈ os, a ≤ o.cl ∧ o.cl ≤ 7) → (os.length : Int) ≤ 8 - a ∨ os = []
  | [], _, _, _ => .inr rfl
  | x :: xs, a, hs, h => by
    left
    unfold srtG at hs
    rw [List.pairwise_cons] at hs
    have hx := h x List.mem_cons_self
    have h1 := os_room (a := x.cl + 1) hs.2 fun o ho => ⟨by have := hs.1 o ho; simp [ltI] at this; omega, (h o (List.mem_cons_of_mem _ ho)).2⟩
    rcases h1 with h1 | h1
    · simp only [List.length_cons]; omega
    · subst h1; simp; omega
theorem Inv.os4 {l : Lg} (h : Inv l) : l.os.length ≤ 4 := by
  rcases os_room (a := 4) (osOk_iff.1 h.os).2 h.cl with h1 | h1
  · omega
  · rw [h1]; simp
theorem inv_told {l : Lg} {y : Ey} {r : Int} (h : Inv l) (hk : chkC y.co 4 = 0) (h0 : 0 ≤ r) (h9 : r ≤ 99) : Inv (toldL l ⟨y.co.cl, y.co.sp, r⟩) := by
  have hm := chkC_iff.1 hk
  have hos := osOk_iff.1 h.os
  have hmem : ∀ o ∈ (toldL l ⟨y.co.cl, y.co.sp, r⟩).os, o = ⟨y.co.cl, y.co.sp, r⟩ ∨ o ∈ l.os := fun o ho => by
    have ho2 : o ∈ putO (lastL y.co.cl l.os).isSome ⟨y.co.cl, y.co.sp, r⟩ l.os := ho
    rw [putO_G] at ho2
    exact putG_mem _ ho2
  have hn : ocOk ⟨y.co.cl, y.co.sp, r⟩ = true := by
    have a1 := hm.c0
    have a2 := hm.c1
    have a3 := hm.s0
    have a4 := hm.s1
    simp only [ocOk, Bool.and_eq_true, decide_eq_true_eq]
    refine ⟨⟨⟨⟨⟨?_, ?_⟩, ?_⟩, ?_⟩, ?_⟩, ?_⟩ <;> first | omega | assumption
  refine ⟨h.ls, h.ln, osOk_iff.2 ⟨fun o ho => ?_, ?_⟩, fun o ho => ?_, h.sq, h.tt, h.tm⟩
  · rcases hmem o ho with rfl | ho
    · exact hn
    · exact hos.1 o ho
  · show srtG Oc.cl ltI (putO (lastL y.co.cl l.os).isSome ⟨y.co.cl, y.co.sp, r⟩ l.os)
    rw [putO_G, lastL_G]
    exact srt_put (key := Oc.cl) ltI_tr ltI_tot (⟨y.co.cl, y.co.sp, r⟩ : Oc) hos.2
  · rcases hmem o ho with rfl | ho
    · have a1 := hm.c0; have a2 := hm.c1; exact ⟨by simp only; omega, by simp only; omega⟩
    · exact h.cl o ho
theorem res_err (l : Lg) (y : Ey) (n : Int) : 0 ≤ (resD l y n).2 ∧ (resD l y n).2 ≤ 99 := by
  have h1 := step_err (x := oldL l y.co) (op := y.co.op) (a := y.co.a) (b := y.co.b) (t := y.co.tx)
  have h2 : 0 ≤ (withL l (nextD (oldL l y.co) y.co)).2 ∧ (withL l (nextD (oldL l y.co) y.co)).2 ≤ 99 := by
    unfold withL
    repeat' split
    all_goals simp
  have h3 : ∀ tt am, 0 ≤ (payL y.co.op tt am).2 ∧ (payL y.co.op tt am).2 ≤ 99 := fun tt am => by
    unfold payL
    repeat' split
    all_goals simp
  unfold resD
  split
  · simp
  split
  · simp
  split
  · simp
  split
  · exact h1
  split
  · exact h2
  split
  · exact h3 _ _
  · simp
theorem inv_fin {l : Lg} {y : Ey} (h : Inv l) (hk : chkC y.co 4 = 0) (h0 : (resD l y 4).2 = 0) : Inv (finL l y) := by
  obtain ⟨hnf, _, _, hsp, hw, hp⟩ := res_steps l y 4 h0
  have hm := chkC_iff.1 hk
  have hls := lsOk_iff.1 h.ls
  obtain ⟨hn0, hc0, hse⟩ := step_parts hsp
  -- the letter as it stands
  have hold : y.co.op = 1 ∨ LtIn (oldL l y.co) := by
    by_cases e1 : y.co.op = 1
    · exact .inl e1
    right
    cases hf : findL y.co.lt l.ls with
    | none =>
      have : oldL l y.co = Lt.no := by unfold oldL; rw [hf]; rfl
      rw [this] at hn0
      exact absurd (next_none e1) hn0
    | some z =>
      have : oldL l y.co = z := by unfold oldL; rw [hf]; rfl
      rw [this]
      rw [findL_G] at hf
      exact (ltOk_iff.1 (hls.1 z (findG_mem hf).1)).2
  have hsr := step_right hold hsp
  have hx : ltOk (nextD (oldL l y.co) y.co) = true := ltOk_iff.2 ⟨hm.nm, hsr.st1, hsr.st7, hsr.am1, hsr.am2, hsr.du, hsr.po, hsr.pa⟩
  have hwe : withL l (nextD (oldL l y.co) y.co) = (⟨l.sq, l.tt, putL (findL y.co.lt l.ls).isSome (nextD (oldL l y.co) y.co) l.ls, l.os⟩, 0) ∧ (putL (findL y.co.lt l.ls).isSome (nextD (oldL l y.co) y.co) l.ls).length ≤ 16 := by
    have e : (nextD (oldL l y.co) y.co).nm = y.co.lt := rfl
    unfold withL at hw ⊢
    rw [e] at hw ⊢
    rw [if_neg (by simp [hm.nm])] at hw ⊢
    by_cases h16 : 16 < (putL (findL y.co.lt l.ls).isSome (nextD (oldL l y.co) y.co) l.ls).length
    · rw [if_pos h16] at hw; cases hw
    · rw [if_neg h16]; exact ⟨rfl, by omega⟩
  have e1 : (finL l y).ls = putL (findL y.co.lt l.ls).isSome (nextD (oldL l y.co) y.co) l.ls := by unfold finL; rw [hwe.1]
  have e2 : (finL l y).os = l.os := by unfold finL; rw [hwe.1]
  have e3 : (finL l y).sq = l.sq := by unfold finL; rw [hwe.1]
  have e4 : (finL l y).tt = (payL y.co.op l.tt (nextD (oldL l y.co) y.co).am).1 := by unfold finL; rw [hwe.1]
  rw [hwe.1] at hp
  simp only at hp
  -- what was paid
  have hnx : paid1 (nextD (oldL l y.co) y.co) = if y.co.op = 7 then (oldL l y.co).am else 0 := by
    have es : (nextD (oldL l y.co) y.co).st = nextL (oldL l y.co).st y.co.op := by
      show (stepL _ _ _ _ _).1.st = _
      rw [hse]
    unfold paid1
    by_cases e7 : y.co.op = 7
    · have ea : (nextD (oldL l y.co) y.co).am = (oldL l y.co).am := by
        show (stepL _ _ _ _ _).1.am = _
        rw [hse, e7]
        simp only
        rw [step_pays]
      rw [e7] at hn0 es
      rw [es, next_pays hn0, if_pos rfl, if_pos e7, ea]
    · rw [es, if_neg e7, if_neg (fun h5 => e7 (next_five h5))]
  have hps : paidS (finL l y).ls = paidS l.ls + (if y.co.op = 7 then (oldL l y.co).am else 0) := by
    rw [e1]
    cases hf : findL y.co.lt l.ls with
    | none =>
      show paidS (putL false _ l.ls) = _
      rw [paid_false, hnx]
    | some z =>
      have hz : oldL l y.co = z := by unfold oldL; rw [hf]; rfl
      have hz0 : paid1 z = 0 := by
        unfold paid1
        by_cases e5 : z.st = 5
        · rw [hz, e5] at hn0
          exact absurd (over_next y.co.op (by decide)) hn0
        · rw [if_neg e5]
      show paidS (putL true _ l.ls) = _
      rw [paid_true (x := nextD (oldL l y.co) y.co) (o := z) hf, hnx, hz0]
      omega
  have htt : (payL y.co.op l.tt (nextD (oldL l y.co) y.co).am).1 = l.tt + (if y.co.op = 7 then (oldL l y.co).am else 0) ∧ isM (payL y.co.op l.tt (nextD (oldL l y.co) y.co).am).1 = true := by
    unfold payL at hp ⊢
    by_cases e7 : y.co.op = 7
    · have ea : (nextD (oldL l y.co) y.co).am = (oldL l y.co).am := by
        show (stepL _ _ _ _ _).1.am = _
        rw [hse, e7]
        simp only
        rw [step_pays]
      rw [if_pos e7] at hp ⊢
      rw [ea] at hp ⊢
      rw [if_pos e7]
      by_cases ha : (addM l.tt (oldL l y.co).am).2 = 0
      · rw [if_pos ha]
        unfold addM at ha ⊢
        split at ha
        · rename_i hb
          rw [if_pos hb]
          unfold outM at ha ⊢
          split at ha
          · rename_i hc
            rw [if_pos hc]
            exact ⟨rfl, hc⟩
          · cases ha
        · cases ha
      · rw [if_neg ha] at hp; cases hp
    · rw [if_neg e7, if_neg e7]
      exact ⟨(Int.add_zero _).symm, h.tm⟩
  refine ⟨?_, ?_, ?_, ?_, ?_, ?_, ?_⟩
  · rw [e1]
    refine lsOk_iff.2 ⟨fun z hz => ?_, ?_⟩
    · rw [putL_G] at hz
      rcases putG_mem _ hz with rfl | hz
      · exact hx
      · exact hls.1 z hz
    · rw [putL_G, findL_G]
      exact srt_put (key := Lt.nm) (lt := ltS) (fun _ _ _ h1 h2 => ltS_trans h1 h2) (fun _ _ h1 h2 => ltS_total h1 h2) (nextD (oldL l y.co) y.co) hls.2
  · rw [e1]; exact hwe.2
  · rw [e2]; exact h.os
  · rw [e2]; exact h.cl
  · rw [e3]; exact h.sq
  · rw [e4, htt.1, hps, h.tt]
  · rw [e4]; exact htt.2
theorem inv_do {l : Lg} (h : Inv l) (y : Ey) : Inv (doL l y 4).1 := by
  unfold doL
  by_cases h1 : staleL l y.co = true
  · rw [if_pos h1]; exact h
  rw [if_neg h1]
  by_cases h2 : chkC y.co 4 ≠ 0
  · rw [if_pos h2]; exact h
  rw [if_neg h2]
  have hk : chkC y.co 4 = 0 := by simpa using h2
  have he := res_err l y 4
  have hr := resD_led l y 4
  simp only
  by_cases h0 : (resD l y 4).2 = 0
  · rw [hr.1 h0]; exact inv_told (inv_fin h hk h0) hk he.1 he.2
  · rw [hr.2 h0]; exact inv_told h hk he.1 he.2
def foldL (l : Lg) (es : List Ey) : Lg := es.foldl (fun l y => (doL l y 4).1) l
theorem inv_fold : ∀ {es : List Ey} {l : Lg}, Inv l → Inv (foldL l es)
  | [], _, h => h
  | y :: ys, _, h => inv_fold (es := ys) (inv_do h y)
theorem Inv.right {l : Lg} (h : Inv l) : (⟨1, l.tt, l.ls, l.os⟩ : Lg).right = true := by
  have := h.os4
  have := h.ln
  simp only [Lg.right, Bool.and_eq_true, decide_eq_true_eq]
  exact ⟨⟨⟨⟨⟨⟨by omega, by omega⟩, h.tm⟩, by omega⟩, by omega⟩, h.ls⟩, h.os⟩
theorem Inv.text {l : Lg} (h : Inv l) {y : Ey} (hy : fewE y = true) : (textL l y.co).length ≤ 1000 := by
  have h1 := old_po (c := y.co) (b := 200) (fun x hx => (ltOk_iff.1 ((lsOk_iff.1 h.ls).1 x hx)).2.po)
  simp [fewE] at hy
  unfold textL
  split <;> omega
theorem paid_rng : ∀ {ls : List Lt}, (∀ x ∈ ls, LtIn x) → 0 ≤ paidS ls ∧ paidS ls ≤ 1099511627776 * ls.length
  | [], _ => by simp [paidS]
  | x :: xs, h => by
    have h1 := paid_rng (ls := xs) fun z hz => h z (List.mem_cons_of_mem _ hz)
    have hx := h x List.mem_cons_self
    have hm := isM_yes hx.am2
    have : 0 ≤ paid1 x ∧ paid1 x ≤ 1099511627776 := by unfold paid1; split <;> omega
    simp only [paidS, List.length_cons]
    omega

end Go.Proofs.YtfflkodgojiklaaGreatDoor
