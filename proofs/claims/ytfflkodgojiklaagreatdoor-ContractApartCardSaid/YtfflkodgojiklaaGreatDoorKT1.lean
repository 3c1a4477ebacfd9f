/-
  Joined: Str Tm Tm2 Tm3 KR RA RN Tm4 RW RPol RPar.
-/
import Derived.Lib.OthersKept
import Derived.Deep.AppendLies
import Derived.Great.BuildSlice
import Derived.RegionTactic
import Derived.ChangeAlike
import Derived.Test.YtfflkodgojiklaaGreatDoorKF
import Derived.Test.YtfflkodgojiklaaGreatDoorKL
namespace Go.Proofs.YtfflkodgojiklaaGreatDoor

section

end

section
/-- without blanks at its beginning -/
def bareP : List UInt8 → List UInt8 | [] => [] | x :: t => if x = 32 then bareP t else x :: t
def isDg (x : UInt8) : Bool := decide (48 ≤ x.toNat) && decide (x.toNat ≤ 57)
/-- the digits at its beginning -/
def digP : List UInt8 → List UInt8 | [] => [] | x :: t => if isDg x then x :: digP t else []
def valP (v : Nat) : List UInt8 → Nat | [] => v | x :: t => valP (v * 10 + (x.toNat - 48)) t
/-- a number, and the rest -/
def numP (t : List UInt8) : Option (Nat × List UInt8) :=
  let d := digP t
  if d.length = 0 ∨ 4 < d.length ∨ (1 < d.length ∧ t.head? = some 48) then none else some (valP 0 d, t.drop d.length)
def begP : List UInt8 → List UInt8 → Bool | [], _ => true | _, [] => false | x :: s, y :: t => decide (x = y) && begP s t
/-- policies, each behind '(' or ',', up to ')' -/
def loopP (p : List UInt8 → Option (Fm × List UInt8)) : Nat → List UInt8 → Option (List Fm × List UInt8)
  | 0, _ => none
  | n + 1, t => match p (t.drop 1) with
    | none => none
    | some (f, rest) => if begP [41] (bareP rest) then some ([f], (bareP rest).drop 1)
      else if begP [44] (bareP rest) then (match loopP p n (bareP rest) with | none => none | some (l, r) => some (f :: l, r))
      else none
def rowP (p : List UInt8 → Option (Fm × List UInt8)) (t : List UInt8) : Option (List Fm × List UInt8) :=
  if begP [40] (bareP t) then loopP p (bareP t).length (bareP t) else none
/-- a policy, at most so deep, and the rest -/
def polP : Nat → List UInt8 → Option (Fm × List UInt8)
  | 0, _ => none
  | k + 1, t =>
    if begP [97, 108, 108] (bareP t) then (match rowP (polP k) ((bareP t).drop 3) with | none => none | some (l, r) => some (.mk 0 l.length l, r))
    else if begP [97, 110, 121] (bareP t) then (match rowP (polP k) ((bareP t).drop 3) with | none => none | some (l, r) => some (.mk 0 1 l, r))
    else match numP (bareP t) with
      | none => none
      | some (v, rest) => if begP [111, 102] (bareP rest) then
          (match rowP (polP k) ((bareP rest).drop 2) with | none => none | some (l, r) => if 1 ≤ v ∧ v ≤ 99 then some (.mk 0 v l, r) else none)
        else some (.mk v 0 [], rest)
/-- what a text tells -/
def parseP (t : List UInt8) (n : Int) : Fm × Int :=
  if 200 < t.length then (.mk 0 0 [], 3) else match polP 10 t with
    | none => (.mk 0 0 [], 2)
    | some (f, r) => if bareP r ≠ [] then (.mk 0 0 [], 2) else if f.check n ≠ 0 then (.mk 0 0 [], f.check n) else (f, 0)

def dg (n : Nat) : UInt8 := UInt8.ofNat (48 + n)
/-- a number's digits -/
def digs (n : Nat) : List UInt8 := if n < 10 then [dg n] else digs (n / 10) ++ [dg (n % 10)]
/-- what stands ahead of the bracket -/
def headP (a : Int) (n : Nat) : List UInt8 := if a = (n : Int) then [97, 108, 108] else if a = 1 then [97, 110, 121] else digs a.toNat ++ [111, 102]
mutual
/-- a policy's text -/
def printP : Fm → List UInt8
  | .mk o _ [] => digs o.toNat
  | .mk _ a (k :: ks) => headP a (ks.length + 1) ++ 40 :: printsP (k :: ks)
def printsP : List Fm → List UInt8
  | [] => [41]
  | k :: ks => printP k ++ tailP ks
def tailP : List Fm → List UInt8
  | [] => [41]
  | k :: ks => 44 :: (printP k ++ tailP ks)
end

def isBl (b : List UInt8) : Prop := ∀ x, x ∈ b → x = 32
mutual
/-- t is a text of a policy, with blanks or without -/
def Sp : Fm → List UInt8 → Prop
  | .mk o _ [], t => t = digs o.toNat
  | .mk _ a (k :: ks), t => ∃ b c s u, isBl b ∧ isBl c ∧ Sp k s ∧ SpT ks u ∧ t = headP a (ks.length + 1) ++ (b ++ 40 :: (c ++ (s ++ u)))
/-- what stands behind a kid -/
def SpT : List Fm → List UInt8 → Prop
  | [], u => ∃ b, isBl b ∧ u = b ++ [41]
  | k :: ks, u => ∃ b c s v, isBl b ∧ isBl c ∧ Sp k s ∧ SpT ks v ∧ u = b ++ 44 :: (c ++ (s ++ v))
end

theorem isBl_nil : isBl [] := fun _ h => by cases h
theorem isBl_tail {x : UInt8} {b : List UInt8} (h : isBl (x :: b)) : x = 32 ∧ isBl b := ⟨h x (by simp), fun y hy => h y (by simp [hy])⟩
theorem bareP_bl : ∀ {b : List UInt8} (t : List UInt8), isBl b → bareP (b ++ t) = bareP t
  | [], _, _ => rfl
  | x :: b, t, h => by
    obtain ⟨rfl, h2⟩ := isBl_tail h
    show (if (32 : UInt8) = 32 then bareP (b ++ t) else _) = _
    rw [if_pos rfl, bareP_bl t h2]
theorem bareP_ne {x : UInt8} (t : List UInt8) (h : x ≠ 32) : bareP (x :: t) = x :: t := by
  show (if x = 32 then _ else _) = _
  rw [if_neg h]
mutual
theorem sp_print : ∀ f : Fm, Sp f (printP f)
  | .mk _ _ [] => rfl
  | .mk _ _ (k :: ks) => ⟨[], [], printP k, tailP ks, isBl_nil, isBl_nil, sp_print k, spT_print ks, rfl⟩
theorem spT_print : ∀ ks : List Fm, SpT ks (tailP ks)
  | [] => ⟨[], isBl_nil, rfl⟩
  | k :: ks => ⟨[], [], printP k, tailP ks, isBl_nil, isBl_nil, sp_print k, spT_print ks, rfl⟩
end

/-- What may stand behind a policy. -/
def Ends (r : List UInt8) : Prop := r = [] ∨ ∃ x t, r = x :: t ∧ isDg x = false ∧ begP [111, 102] (bareP r) = false
theorem ends_nil : Ends [] := .inl rfl
theorem ends_bl {b t : List UInt8} {x : UInt8} (hb : isBl b) (hx : x = 41 ∨ x = 44) : Ends (b ++ x :: t) := by
  right
  have hbp : bareP (b ++ x :: t) = x :: t := by rw [bareP_bl _ hb, bareP_ne]; rcases hx with rfl | rfl <;> decide
  cases b with
  | nil => exact ⟨x, t, rfl, by rcases hx with rfl | rfl <;> decide, by rw [hbp]; rcases hx with rfl | rfl <;> rfl⟩
  | cons y b =>
    obtain ⟨rfl, _⟩ := isBl_tail hb
    exact ⟨32, b ++ x :: t, rfl, by decide, by rw [hbp]; rcases hx with rfl | rfl <;> rfl⟩
theorem ends_of {r : List UInt8} (h : Ends r) : begP [111, 102] (bareP r) = false := by
  rcases h with rfl | ⟨_, _, _, _, h⟩
  · rfl
  · exact h
theorem digP_cons (x : UInt8) (t : List UInt8) : digP (x :: t) = if isDg x then x :: digP t else [] := rfl
theorem digP_ends {r : List UInt8} (h : Ends r) : digP r = [] := by
  rcases h with rfl | ⟨x, t, rfl, h, _⟩
  · rfl
  · rw [digP_cons, h]; rfl

theorem dg_facts : ∀ n : Fin 10, isDg (dg n.val) = true ∧ (dg n.val).toNat - 48 = n.val ∧ dg n.val ≠ 32 ∧ dg n.val ≠ 97 ∧ (dg n.val = 48 → n.val = 0) := by decide
theorem dg_f {n : Nat} (h : n < 10) : isDg (dg n) = true ∧ (dg n).toNat - 48 = n ∧ dg n ≠ 32 ∧ dg n ≠ 97 ∧ (dg n = 48 → n = 0) := dg_facts ⟨n, h⟩
theorem digs_one {n : Nat} (h : n < 10) : digs n = [dg n] := by rw [digs, if_pos h]
theorem digs_two {n : Nat} (h : 10 ≤ n) (h2 : n < 100) : digs n = [dg (n / 10), dg (n % 10)] := by
  rw [digs, if_neg (by omega), digs_one (by omega)]
  rfl
theorem valP_one (x : UInt8) : valP 0 [x] = x.toNat - 48 := by show 0 * 10 + (x.toNat - 48) = _; rw [Nat.zero_mul, Nat.zero_add]
theorem valP_two (x y : UInt8) : valP 0 [x, y] = (x.toNat - 48) * 10 + (y.toNat - 48) := by show (0 * 10 + (x.toNat - 48)) * 10 + (y.toNat - 48) = _; rw [Nat.zero_mul, Nat.zero_add]
theorem numP_of {t d : List UInt8} (h : digP t = d) : numP t = if d.length = 0 ∨ 4 < d.length ∨ (1 < d.length ∧ t.head? = some 48) then none else some (valP 0 d, t.drop d.length) := by subst h; rfl
/-- A number that is printed is read. -/
theorem numP_digs {n : Nat} (h : n < 100) {r : List UInt8} (hr : digP r = []) : numP (digs n ++ r) = some (n, r) := by
  by_cases h1 : n < 10
  · rw [digs_one h1]
    have f := dg_f h1
    have e : digP (dg n :: r) = [dg n] := by rw [digP_cons, f.1, if_pos rfl, hr]
    simp only [List.cons_append, List.nil_append]
    have f2 := f.2.1
    rw [numP_of e, valP_one, f2, if_neg (by simp)]
    rfl
  · rw [digs_two (by omega) h]
    have f := dg_f (n := n / 10) (by omega)
    have g := dg_f (n := n % 10) (by omega)
    have e : digP (dg (n / 10) :: dg (n % 10) :: r) = [dg (n / 10), dg (n % 10)] := by rw [digP_cons, f.1, if_pos rfl, digP_cons, g.1, if_pos rfl, hr]
    have hne : dg (n / 10) ≠ 48 := fun h48 => by have := f.2.2.2.2 h48; omega
    have f2 := f.2.1
    have g2 := g.2.1
    simp only [List.cons_append, List.nil_append]
    have hn : n / 10 * 10 + n % 10 = n := by omega
    rw [numP_of e, valP_two, f2, g2, hn, if_neg (by simp [hne])]
    rfl
/-- It begins with a digit. -/
theorem digs_head {n : Nat} (h : n < 100) : ∃ x t, digs n = x :: t ∧ x ≠ 32 ∧ x ≠ 97 := by
  by_cases h1 : n < 10
  · exact ⟨_, _, digs_one h1, (dg_f h1).2.2.1, (dg_f h1).2.2.2.1⟩
  · have f := dg_f (n := n / 10) (by omega)
    exact ⟨_, _, digs_two (by omega) h, f.2.2.1, f.2.2.2.1⟩
end

section
theorem begP_cons (x y : UInt8) (s t : List UInt8) : begP (x :: s) (y :: t) = (decide (x = y) && begP s t) := rfl
theorem begP_nil (t : List UInt8) : begP [] t = true := by cases t <;> rfl
theorem loopP_succ (p : List UInt8 → Option (Fm × List UInt8)) (n : Nat) (t : List UInt8) : loopP p (n + 1) t = (match p (t.drop 1) with
    | none => none
    | some (f, rest) => if begP [41] (bareP rest) then some ([f], (bareP rest).drop 1)
      else if begP [44] (bareP rest) then (match loopP p n (bareP rest) with | none => none | some (l, r) => some (f :: l, r))
      else none) := rfl
theorem loopP_end {p : List UInt8 → Option (Fm × List UInt8)} {n : Nat} {x : UInt8} {t rest r : List UInt8} {f : Fm} (h : p t = some (f, rest)) (hr : bareP rest = 41 :: r) : loopP p (n + 1) (x :: t) = some ([f], r) := by
  rw [loopP_succ, List.drop_one, List.tail_cons, h]
  simp only
  rw [hr, begP_cons, begP_nil]
  rfl
theorem loopP_on {p : List UInt8 → Option (Fm × List UInt8)} {n : Nat} {x : UInt8} {t rest r r' : List UInt8} {f : Fm} {l : List Fm} (h : p t = some (f, rest)) (hr : bareP rest = 44 :: r) (hl : loopP p n (44 :: r) = some (l, r')) : loopP p (n + 1) (x :: t) = some (f :: l, r') := by
  rw [loopP_succ, List.drop_one, List.tail_cons, h]
  simp only
  rw [hr, begP_cons, begP_nil, begP_cons, begP_nil, hl]
  rfl
theorem rowP_of {p : List UInt8 → Option (Fm × List UInt8)} {t u : List UInt8} (h : bareP t = 40 :: u) : rowP p t = loopP p (u.length + 1) (40 :: u) := by
  unfold rowP
  rw [h, begP_cons, begP_nil]
  rfl
theorem polP_all {k : Nat} {t u r : List UInt8} {l : List Fm} (h : bareP t = 97 :: 108 :: 108 :: u) (hr : rowP (polP k) u = some (l, r)) : polP (k + 1) t = some (.mk 0 l.length l, r) := by
  show (if begP [97, 108, 108] (bareP t) then _ else _) = _
  rw [h, begP_cons, begP_cons, begP_cons, begP_nil, if_pos (by decide)]
  simp only [List.drop_succ_cons, List.drop_zero]
  rw [hr]
theorem polP_any {k : Nat} {t u r : List UInt8} {l : List Fm} (h : bareP t = 97 :: 110 :: 121 :: u) (hr : rowP (polP k) u = some (l, r)) : polP (k + 1) t = some (.mk 0 1 l, r) := by
  show (if begP [97, 108, 108] (bareP t) then _ else if begP [97, 110, 121] (bareP t) then _ else _) = _
  rw [h, begP_cons, begP_cons, begP_cons, begP_cons, begP_cons, begP_cons, begP_nil, if_neg (by simp), if_pos (by decide)]
  simp only [List.drop_succ_cons, List.drop_zero]
  rw [hr]
theorem polP_num {k v : Nat} {t u rest : List UInt8} {x : UInt8} (h : bareP t = x :: u) (hx : x ≠ 97) (hn : numP (x :: u) = some (v, rest)) :
    polP (k + 1) t = if begP [111, 102] (bareP rest) then (match rowP (polP k) ((bareP rest).drop 2) with | none => none | some (l, r) => if 1 ≤ v ∧ v ≤ 99 then some (.mk 0 v l, r) else none) else some (.mk v 0 [], rest) := by
  have hd : decide ((97 : UInt8) = x) = false := by simpa using fun e => hx e.symm
  show (if begP [97, 108, 108] (bareP t) then _ else if begP [97, 110, 121] (bareP t) then _ else _) = _
  rw [h, begP_cons, begP_cons, hd, Bool.false_and, Bool.false_and, if_neg (by simp), if_neg (by simp), hn]

theorem spT_len : ∀ {ks : List Fm} {u : List UInt8}, SpT ks u → ks.length < u.length
  | [], u, ⟨b, _, e⟩ => by rw [e]; simp
  | k :: ks, u, ⟨b, c, s, v, _, _, _, h, e⟩ => by
    have := spT_len h
    rw [e]
    simp
    omega
/-- what is read of a policy's text -/
def Reads (k : Nat) (f : Fm) : Prop := ∀ (t b r : List UInt8), Sp f t → isBl b → Ends r → polP k (b ++ (t ++ r)) = some (f, r)
theorem loop_sp (k : Nat) : ∀ (ks : List Fm) (k0 : Fm) (n : Nat) (x : UInt8) (c s u r : List UInt8), (∀ f, f ∈ k0 :: ks → Reads k f) → isBl c → Sp k0 s → SpT ks u → ks.length < n → loopP (polP k) n (x :: (c ++ (s ++ (u ++ r)))) = some (k0 :: ks, r)
  | [], k0, n + 1, x, c, s, u, r, hp, hc, hs, ⟨b, hb, e⟩, _ => by
    subst e
    have e2 : b ++ [41] ++ r = b ++ 41 :: r := by simp
    rw [e2]
    exact loopP_end (hp k0 (by simp) s c _ hs hc (ends_bl hb (.inl rfl))) (by rw [bareP_bl _ hb, bareP_ne _ (by decide)])
  | k1 :: ks, k0, n + 1, x, c, s, u, r, hp, hc, hs, ⟨b, c', s', v, hb, hc', hs', hv, e⟩, hn => by
    subst e
    have e2 : b ++ 44 :: (c' ++ (s' ++ v)) ++ r = b ++ 44 :: (c' ++ (s' ++ (v ++ r))) := by simp
    rw [e2]
    refine loopP_on (hp k0 (by simp) s c _ hs hc (ends_bl hb (.inr rfl))) (by rw [bareP_bl _ hb, bareP_ne _ (by decide)]) ?_
    exact loop_sp k ks k1 n 44 c' s' v r (fun f hf => hp f (by simp at hf ⊢; exact .inr hf)) hc' hs' hv (by simp at hn; omega)

theorem row_sp {k : Nat} {k0 : Fm} {ks : List Fm} {b c s u r : List UInt8} (hp : ∀ f, f ∈ k0 :: ks → Reads k f) (hb : isBl b) (hc : isBl c) (hs : Sp k0 s) (hu : SpT ks u) :
    rowP (polP k) (b ++ 40 :: (c ++ (s ++ (u ++ r)))) = some (k0 :: ks, r) := by
  rw [rowP_of (u := c ++ (s ++ (u ++ r))) (by rw [bareP_bl _ hb, bareP_ne _ (by decide)])]
  exact loop_sp k ks k0 _ 40 c s u r hp hc hs hu (by have := spT_len hu; simp; omega)

/-- EVERY TEXT OF A POLICY THAT MAY BE IS READ AS IT, with whatever stands behind it. -/
theorem reads_all (f : Fm) : ∀ k, f.rng 7 = true → f.size ≤ 99 → f.depth ≤ k → Reads k f := by
  induction f using Fm.ind with
  | h o a ks ih =>
    intro k hr hz hd t b r hs hb he
    cases ks with
    | nil =>
      have ho : 0 ≤ o ∧ o < 7 ∧ a = 0 := by simp [Fm.rng] at hr; omega
      cases k with
      | zero => simp [Fm.depth] at hd
      | succ k =>
        have ht : t = digs o.toNat := hs
        subst ht
        obtain ⟨x, u, hx, h32, h97⟩ := digs_head (n := o.toNat) (by omega)
        have hb2 : bareP (b ++ (digs o.toNat ++ r)) = x :: (u ++ r) := by
          rw [bareP_bl _ hb, hx]
          exact bareP_ne _ h32
        have hn : numP (x :: (u ++ r)) = some (o.toNat, r) := by
          have := numP_digs (n := o.toNat) (by omega) (digP_ends he)
          rw [hx] at this
          exact this
        rw [polP_num hb2 h97 hn, ends_of he, if_neg (by simp)]
        rw [ho.2.2, Int.toNat_of_nonneg ho.1]
    | cons k0 ks =>
      simp only [Fm.rng, Bool.and_eq_true, decide_eq_true_eq] at hr
      obtain ⟨hrs, ⟨h1, h2⟩, h3⟩ := hr
      simp only [Fm.size, Fm.sizes] at hz
      simp only [Fm.depth] at hd
      cases k with
      | zero => omega
      | succ k =>
        have hp : ∀ f, f ∈ k0 :: ks → Reads k f := fun f hf => ih f hf k (Fm.rngs_mem hrs hf) (by have := Fm.sizes_mem hf; simp only [Fm.sizes] at this; omega) (by have := Fm.depths_mem hf; omega)
        have hlen : ks.length + 1 ≤ 99 := by have := Fm.length_sizes ks; have := k0.size_pos; omega
        obtain ⟨b', c, s, u, hb', hc, hs', hu, ht⟩ := hs
        subst ht
        have hrow := row_sp (r := r) hp hb' hc hs' hu
        have eapp : ∀ hd' : List UInt8, b ++ (hd' ++ (b' ++ 40 :: (c ++ (s ++ u))) ++ r) = b ++ (hd' ++ (b' ++ 40 :: (c ++ (s ++ (u ++ r))))) := fun hd' => by simp
        rw [eapp]
        unfold headP
        subst h3
        by_cases hal : a = ((ks.length + 1 : Nat) : Int)
        · rw [if_pos hal]
          have := polP_all (k := k) (t := b ++ ([97, 108, 108] ++ (b' ++ 40 :: (c ++ (s ++ (u ++ r)))))) (by rw [bareP_bl _ hb]; exact bareP_ne _ (by decide)) hrow
          rw [this, hal]
          rfl
        · rw [if_neg hal]
          by_cases ha1 : a = 1
          · rw [if_pos ha1]
            have := polP_any (k := k) (t := b ++ ([97, 110, 121] ++ (b' ++ 40 :: (c ++ (s ++ (u ++ r)))))) (by rw [bareP_bl _ hb]; exact bareP_ne _ (by decide)) hrow
            rw [this, ha1]
          · rw [if_neg ha1]
            obtain ⟨x, y, hx, h32, h97⟩ := digs_head (n := a.toNat) (by omega)
            have hb2 : bareP (b ++ (digs a.toNat ++ [111, 102] ++ (b' ++ 40 :: (c ++ (s ++ (u ++ r)))))) = x :: (y ++ (111 :: 102 :: (b' ++ 40 :: (c ++ (s ++ (u ++ r)))))) := by
              rw [bareP_bl _ hb, hx]
              simp only [List.cons_append, List.append_assoc, List.nil_append]
              exact bareP_ne _ h32
            have hn : numP (x :: (y ++ (111 :: 102 :: (b' ++ 40 :: (c ++ (s ++ (u ++ r))))))) = some (a.toNat, 111 :: 102 :: (b' ++ 40 :: (c ++ (s ++ (u ++ r))))) := by
              have := numP_digs (n := a.toNat) (by omega) (r := 111 :: 102 :: (b' ++ 40 :: (c ++ (s ++ (u ++ r))))) (by rw [digP_cons]; rfl)
              rw [hx] at this
              exact this
            rw [polP_num hb2 h97 hn, bareP_ne _ (by decide), begP_cons, begP_cons, begP_nil, if_pos (by decide)]
            simp only [List.drop_succ_cons, List.drop_zero]
            rw [hrow]
            simp only
            rw [if_pos (by omega), Int.toNat_of_nonneg (by omega)]

/-- What is printed is read. -/
theorem parse_sp {f : Fm} {t : List UInt8} {n : Int} (hs : Sp f t) (hl : t.length ≤ 200) (hr : f.rng 7 = true) (hz : f.size ≤ 32) (hd : f.depth ≤ 5) (hc : f.check n = 0) : parseP t n = (f, 0) := by
  have h := reads_all f 10 hr (by omega) (by omega) t [] [] hs isBl_nil ends_nil
  rw [List.nil_append, List.append_nil] at h
  unfold parseP
  rw [if_neg (by omega), h]
  simp only
  rw [if_neg (by simp [bareP]), if_neg (by simp [hc])]
end

section
theorem bareP_len : ∀ (t : List UInt8), (bareP t).length ≤ t.length
  | [] => Nat.le_refl _
  | x :: t => by
    have := bareP_len t
    show (if x = 32 then bareP t else x :: t).length ≤ _
    split <;> simp <;> omega
theorem numP_len {t r : List UInt8} {v : Nat} (h : numP t = some (v, r)) : r.length + 1 ≤ t.length := by
  have hd : ∀ t : List UInt8, (digP t).length ≤ t.length := fun t => by
    induction t with
    | nil => exact Nat.le_refl _
    | cons x t ih => rw [digP_cons]; split <;> simp; exact ih
  rw [numP_of rfl] at h
  split at h
  · cases h
  · rename_i hn
    injection h with h
    injection h with _ h
    have h1 := hd t
    rw [← h, List.length_drop]
    omega
theorem begP_len : ∀ {s t : List UInt8}, begP s t = true → s.length ≤ t.length
  | [], _, _ => Nat.zero_le _
  | x :: s, [], h => by cases h
  | x :: s, y :: t, h => by
    rw [begP_cons, Bool.and_eq_true] at h
    have := begP_len h.2
    simpa using this
/-- What a reader of policies takes. -/
def Takes (k : Nat) (p : List UInt8 → Option (Fm × List UInt8)) : Prop := ∀ t f r, p t = some (f, r) → f.size + r.length ≤ t.length ∧ f.depth ≤ k
theorem loopP_takes {k : Nat} {p : List UInt8 → Option (Fm × List UInt8)} (hp : Takes k p) : ∀ (n : Nat) (t : List UInt8) (l : List Fm) (r : List UInt8), 1 ≤ t.length → loopP p n t = some (l, r) → Fm.sizes l + r.length + 1 ≤ t.length ∧ Fm.depths l ≤ k
  | 0, _, _, _, _, h => by cases h
  | n + 1, t, l, r, ht, h => by
    rw [loopP_succ] at h
    cases hq : p (t.drop 1) with
    | none => rw [hq] at h; cases h
    | some q =>
      obtain ⟨f, rest⟩ := q
      rw [hq] at h
      simp only at h
      obtain ⟨h1, h2⟩ := hp _ _ _ hq
      rw [List.length_drop] at h1
      have h3 := bareP_len rest
      by_cases ha : begP [41] (bareP rest) = true
      · rw [if_pos ha] at h
        injection h with h
        injection h with e1 e2
        subst e1 e2
        simp only [Fm.sizes, Fm.depths, List.length_drop]
        exact ⟨by omega, by omega⟩
      · rw [if_neg ha] at h
        by_cases hb : begP [44] (bareP rest) = true
        · rw [if_pos hb] at h
          cases hl : loopP p n (bareP rest) with
          | none => rw [hl] at h; cases h
          | some q2 =>
            obtain ⟨l2, r2⟩ := q2
            rw [hl] at h
            simp only at h
            injection h with h
            injection h with e1 e2
            subst e1 e2
            have := begP_len hb
            obtain ⟨h4, h5⟩ := loopP_takes hp n _ _ _ (by simpa using this) hl
            simp only [Fm.sizes, Fm.depths]
            exact ⟨by omega, by omega⟩
        · rw [if_neg hb] at h
          cases h
theorem rowP_takes {k : Nat} {p : List UInt8 → Option (Fm × List UInt8)} (hp : Takes k p) {t : List UInt8} {l : List Fm} {r : List UInt8} (h : rowP p t = some (l, r)) : Fm.sizes l + r.length + 1 ≤ t.length ∧ Fm.depths l ≤ k := by
  unfold rowP at h
  split at h
  · rename_i hb
    have h1 := begP_len hb
    have h2 := bareP_len t
    obtain ⟨h3, h4⟩ := loopP_takes hp _ _ _ _ (by simpa using h1) h
    exact ⟨by omega, h4⟩
  · cases h
theorem polP_succ (k : Nat) (t : List UInt8) : polP (k + 1) t =
    if begP [97, 108, 108] (bareP t) then (match rowP (polP k) ((bareP t).drop 3) with | none => none | some (l, r) => some (.mk 0 l.length l, r))
    else if begP [97, 110, 121] (bareP t) then (match rowP (polP k) ((bareP t).drop 3) with | none => none | some (l, r) => some (.mk 0 1 l, r))
    else match numP (bareP t) with
      | none => none
      | some (v, rest) => if begP [111, 102] (bareP rest) then
          (match rowP (polP k) ((bareP rest).drop 2) with | none => none | some (l, r) => if 1 ≤ v ∧ v ≤ 99 then some (.mk 0 v l, r) else none)
        else some (.mk v 0 [], rest) := rfl
theorem polP_takes : ∀ k, Takes k (polP k)
  | 0 => fun t f r h => by cases h
  | k + 1 => fun t f r h => by
    have ih := polP_takes k
    have hb := bareP_len t
    have node : ∀ (u : List UInt8) (o a : Int) (l : List Fm), u.length ≤ t.length → rowP (polP k) u = some (l, r) → (Fm.mk o a l).size + r.length ≤ t.length ∧ (Fm.mk o a l).depth ≤ k + 1 := fun u o a l hu hr => by
      obtain ⟨h1, h2⟩ := rowP_takes ih hr
      simp only [Fm.size, Fm.depth]
      exact ⟨by omega, by omega⟩
    rw [polP_succ] at h
    split at h
    · cases hr : rowP (polP k) ((bareP t).drop 3) with
      | none => rw [hr] at h; cases h
      | some q =>
        obtain ⟨l, r2⟩ := q
        rw [hr] at h
        simp only at h
        injection h with h
        injection h with e1 e2
        subst e1 e2
        exact node _ _ _ _ (by rw [List.length_drop]; omega) hr
    · split at h
      · cases hr : rowP (polP k) ((bareP t).drop 3) with
        | none => rw [hr] at h; cases h
        | some q =>
          obtain ⟨l, r2⟩ := q
          rw [hr] at h
          simp only at h
          injection h with h
          injection h with e1 e2
          subst e1 e2
          exact node _ _ _ _ (by rw [List.length_drop]; omega) hr
      · cases hn : numP (bareP t) with
        | none => rw [hn] at h; cases h
        | some q =>
          obtain ⟨v, rest⟩ := q
          rw [hn] at h
          simp only at h
          have h1 := numP_len hn
          have h2 := bareP_len rest
          split at h
          · cases hr : rowP (polP k) ((bareP rest).drop 2) with
            | none => rw [hr] at h; cases h
            | some q =>
              obtain ⟨l, r2⟩ := q
              rw [hr] at h
              simp only at h
              split at h
              · injection h with h
                injection h with e1 e2
                subst e1 e2
                exact node _ _ _ _ (by rw [List.length_drop]; omega) hr
              · cases h
          · injection h with h
            injection h with e1 e2
            subst e1 e2
            simp only [Fm.size, Fm.sizes, Fm.depth, Fm.depths]
            exact ⟨by omega, by omega⟩

/-! Blanks between the parts. -/
def isSep (x : UInt8) : Bool := decide (x = 40) || decide (x = 41) || decide (x = 44)
def isOp (x : UInt8) : Bool := decide (x = 40) || decide (x = 44)
/-- t is s with blanks ahead of '(', ',', ')' and behind '(', ','; p: whether one of these two stands ahead -/
def Ins : Bool → List UInt8 → List UInt8 → Prop
  | _, [], t => t = []
  | p, x :: s, t => ∃ b t', isBl b ∧ (b = [] ∨ p = true ∨ isSep x = true) ∧ t = b ++ x :: t' ∧ Ins (isOp x) s t'
/-- a word goes through as it is -/
theorem ins_word : ∀ (w : List UInt8) (p : Bool) (s t : List UInt8), w ≠ [] → (∀ x, x ∈ w → isSep x = false ∧ isOp x = false) → Ins p (w ++ s) t → ∃ b t2, isBl b ∧ (p = false → b = []) ∧ t = b ++ (w ++ t2) ∧ Ins false s t2
  | [], _, _, _, h, _, _ => absurd rfl h
  | [x], p, s, t, _, hw, ⟨b, t', hb, hc, e, hi⟩ => by
    have hx := hw x (by simp)
    refine ⟨b, t', hb, fun hp => ?_, by simpa using e, by rw [hx.2] at hi; exact hi⟩
    rcases hc with h | h | h
    · exact h
    · rw [hp] at h; cases h
    · rw [hx.1] at h; cases h
  | x :: y :: w, p, s, t, _, hw, ⟨b, t', hb, hc, e, hi⟩ => by
    have hx := hw x (by simp)
    rw [hx.2] at hi
    obtain ⟨b2, t2, hb2, hn, e2, h2⟩ := ins_word (y :: w) false s t' (by simp) (fun z hz => hw z (by simp at hz ⊢; exact .inr hz)) hi
    rw [hn rfl] at e2
    refine ⟨b, t2, hb, fun hp => ?_, by rw [e, e2]; rfl, h2⟩
    rcases hc with h | h | h
    · exact h
    · rw [hp] at h; cases h
    · rw [hx.1] at h; cases h
theorem dg_sep : ∀ n : Fin 10, isSep (dg n.val) = false ∧ isOp (dg n.val) = false := by decide
theorem digs_sep {n : Nat} (h : n < 100) : digs n ≠ [] ∧ ∀ x, x ∈ digs n → isSep x = false ∧ isOp x = false := by
  by_cases h1 : n < 10
  · rw [digs_one h1]
    exact ⟨by simp, fun x hx => by rw [List.mem_singleton.1 hx]; exact dg_sep ⟨n, h1⟩⟩
  · rw [digs_two (by omega) h]
    refine ⟨by simp, fun x hx => ?_⟩
    rcases List.mem_cons.1 hx with rfl | hx
    · exact dg_sep ⟨n / 10, by omega⟩
    · rw [List.mem_singleton.1 hx]; exact dg_sep ⟨n % 10, by omega⟩
theorem headP_sep {a : Int} {n : Nat} (h1 : 1 ≤ a) (h2 : a ≤ (n : Int)) (hn : n ≤ 99) : headP a n ≠ [] ∧ ∀ x, x ∈ headP a n → isSep x = false ∧ isOp x = false := by
  unfold headP
  split
  · exact ⟨by simp, by decide⟩
  · split
    · exact ⟨by simp, by decide⟩
    · have h := digs_sep (n := a.toNat) (by omega)
      refine ⟨by simp, fun x hx => ?_⟩
      rcases List.mem_append.1 hx with hx | hx
      · exact h.2 x hx
      · have h9 : ∀ x, x ∈ ([111, 102] : List UInt8) → isSep x = false ∧ isOp x = false := by decide
        exact h9 x hx
mutual
theorem ins_print : ∀ (f : Fm) (p : Bool) (s t : List UInt8), f.rng 7 = true → f.size ≤ 99 → Ins p (printP f ++ s) t → ∃ b t1 t2, isBl b ∧ (p = false → b = []) ∧ Sp f t1 ∧ Ins false s t2 ∧ t = b ++ (t1 ++ t2)
  | .mk o a [], p, s, t, hr, _, h => by
    have ho : 0 ≤ o ∧ o < 7 := by simp [Fm.rng] at hr; omega
    have hw := digs_sep (n := o.toNat) (by omega)
    obtain ⟨b, t2, hb, hp, e, hi⟩ := ins_word (digs o.toNat) p s t hw.1 hw.2 h
    exact ⟨b, digs o.toNat, t2, hb, hp, rfl, hi, e⟩
  | .mk o a (k :: ks), p, s, t, hr, hz, h => by
    simp only [Fm.rng, Bool.and_eq_true, decide_eq_true_eq] at hr
    obtain ⟨hrs, ⟨h1, h2⟩, _⟩ := hr
    simp only [Fm.rngs, Bool.and_eq_true] at hrs
    simp only [Fm.size, Fm.sizes] at hz
    have hl := Fm.length_sizes ks
    have hw := headP_sep h1 h2 (by have := k.size_pos; omega)
    have e0 : printP (.mk o a (k :: ks)) ++ s = headP a (ks.length + 1) ++ (40 :: (printP k ++ (tailP ks ++ s))) := by
      show headP a (ks.length + 1) ++ 40 :: (printP k ++ tailP ks) ++ s = _
      simp
    rw [e0] at h
    obtain ⟨b, t2, hb, hp, e, b', t3, hb', _, e2, hi⟩ := ins_word _ p _ t hw.1 hw.2 h
    obtain ⟨c, t4, t5, hc, _, hs, hi2, e3⟩ := ins_print k _ _ t3 hrs.1 (by omega) hi
    obtain ⟨u, t6, hu, hi3, e4⟩ := ins_tail ks _ t5 hrs.2 (by omega) hi2
    refine ⟨b, headP a (ks.length + 1) ++ (b' ++ 40 :: (c ++ (t4 ++ u))), t6, hb, hp, ⟨b', c, t4, u, hb', hc, hs, hu, rfl⟩, hi3, ?_⟩
    rw [e, e2, e3, e4]
    simp
theorem ins_tail : ∀ (ks : List Fm) (s t : List UInt8), Fm.rngs 7 ks = true → Fm.sizes ks ≤ 99 → Ins false (tailP ks ++ s) t → ∃ u t2, SpT ks u ∧ Ins false s t2 ∧ t = u ++ t2
  | [], s, t, _, _, ⟨b, t', hb, _, e, hi⟩ => ⟨b ++ [41], t', ⟨b, hb, rfl⟩, hi, by rw [e]; simp⟩
  | k :: ks, s, t, hr, hz, ⟨b, t', hb, _, e, hi⟩ => by
    simp only [Fm.rngs, Bool.and_eq_true] at hr
    simp only [Fm.sizes] at hz
    have e9 : (printP k ++ tailP ks).append s = printP k ++ (tailP ks ++ s) := List.append_assoc _ _ _
    rw [e9] at hi
    obtain ⟨c, t4, t5, hc, _, hs, hi2, e3⟩ := ins_print k _ _ t' hr.1 (by omega) hi
    obtain ⟨u, t6, hu, hi3, e4⟩ := ins_tail ks _ t5 hr.2 (by omega) hi2
    refine ⟨b ++ 44 :: (c ++ (t4 ++ u)), t6, ⟨b, c, t4, u, hb, hc, hs, hu, rfl⟩, hi3, ?_⟩
    rw [e, e3, e4]
    simp
end
/-- A printed policy with blanks between its parts is a text of it. -/
theorem ins_sp {f : Fm} {t : List UInt8} (hr : f.rng 7 = true) (hz : f.size ≤ 99) (h : Ins false (printP f) t) : Sp f t := by
  have h' : Ins false (printP f ++ []) t := by rw [List.append_nil]; exact h
  obtain ⟨b, t1, t2, _, hb, hs, hi, e⟩ := ins_print f false [] t hr hz h'
  have e2 : t2 = [] := hi
  rw [hb rfl, e2, List.nil_append, List.append_nil] at e
  rw [e]
  exact hs
end

section
open Go.RowKit
/-- The cells of a row of kids. -/
def KRow (w : World) (Q : Nat → Prop) : List Fm → List Value → Prop
  | [], xs => xs = []
  | k :: ks, xs => ∃ A n c ys, xs = [.int .i64 k.org, .int .i64 k.nd, .slice A n c] ++ ys ∧ k.In w Q A n ∧ KRow w Q ks ys
section
variable {w w' : World} {Q Q' : Nat → Prop}
theorem KRow.len : ∀ {ks : List Fm} {xs : List Value}, KRow w Q ks xs → xs.length = ks.length * 3
  | [], _, h => by rw [h]; rfl
  | k :: ks, xs, ⟨A, n, c, ys, e, _, h⟩ => by
    have := KRow.len h
    rw [e]
    simp
    omega
theorem KRow.snoc {k : Fm} {A : Option Addr} {n c : Nat} (hk : k.In w Q A n) : ∀ {ks : List Fm} {xs : List Value}, KRow w Q ks xs → KRow w Q (ks ++ [k]) (xs ++ [.int .i64 k.org, .int .i64 k.nd, .slice A n c])
  | [], _, h => ⟨A, n, c, [], by rw [h]; rfl, hk, rfl⟩
  | x :: ks, xs, ⟨A', n', c', ys, e, h1, h2⟩ => ⟨A', n', c', ys ++ [.int .i64 k.org, .int .i64 k.nd, .slice A n c], by rw [e, List.append_assoc], h1, KRow.snoc hk h2⟩
theorem KRow.keep (hk : ∀ g, Q g → g < w.heap.size → w'.heap[g]? = w.heap[g]?) (hq : ∀ g, Q g → g < w.heap.size → Q' g) : ∀ {ks : List Fm} {xs : List Value}, KRow w Q ks xs → KRow w' Q' ks xs
  | [], _, h => h
  | x :: _, _, ⟨A', n', c', ys, e, h1, h2⟩ =>
    ⟨A', n', c', ys, e, Fm.In.weak (fun g hg _ => hq g hg.1 hg.2) x A' n' (Fm.In.keep (fun g hg => hk g hg.1 hg.2) x A' n' h1.lt), KRow.keep hk hq h2⟩
theorem KRow.row {g : Nat} : ∀ {ks : List Fm} {xs : List Value} (o : Nat), KRow w Q ks xs → w.rangeAt g o xs → Fm.InRow w Q g o ks
  | [], _, _, _, _ => trivial
  | x :: ks, xs, o, ⟨A, n, c, ys, e, h1, h2⟩, hr => by
    subst e
    refine ⟨⟨A, n, c, fun j u hu => hr j u (by rw [List.getElem?_append_left (List.getElem?_eq_some_iff.1 hu).1]; exact hu), h1⟩, KRow.row (o + 3) h2 fun j u hu => ?_⟩
    have h3 := hr (3 + j) u (by rw [List.getElem?_append_right (by simp)]; simpa using hu)
    rw [← Nat.add_assoc] at h3
    exact h3
end

/-- v is the call's own slice of these kids: its memory from B on, each kid's in blocks of its own. -/
def Kids (w : World) (B : Nat) (v : Value) (ks : List Fm) : Prop :=
  ∃ xs, w.ownsRow B 44 3 v ks.length xs ∧ KRow w (fun b => B ≤ b ∧ v.ownBlock ≠ some b) ks xs
section
variable {w w' : World} {B : Nat} {v : Value} {ks : List Fm}
theorem Kids.nil (w : World) (B : Nat) : Kids w B (.slice none 0 0) [] := ⟨[], World.ownsRow_nil w _ _ _, rfl⟩
theorem Kids.keep (h : Kids w B v ks) (hk : ∀ b, B ≤ b → b < w.heap.size → w'.heap[b]? = w.heap[b]?) : Kids w' B v ks := by
  obtain ⟨xs, ho, hr⟩ := h
  refine ⟨xs, ⟨ho.1, ?_⟩, hr.keep (fun g hg hl => hk g hg.1 hl) fun _ hg _ => hg⟩
  rcases ho.2 with h | ⟨g, cap, cur, hv, hb, hg, h1⟩
  · exact .inl h
  · exact .inr ⟨g, cap, cur, hv, hb, (hk g hb (Array.getElem?_eq_some_iff.1 hg).1).trans hg, h1⟩
theorem Kids.through (h : Kids w B v ks) (hb : Below w.heap.size w w') : Kids w' B v ks := h.keep fun b _ hl => hb.block b hl
theorem Kids.alloc (h : Kids w B v ks) (o : Obj) : Kids (w.alloc o) B v ks := h.through ((Below.refl _ w).alloc (Nat.le_refl _) o)
theorem Kids.drew (h : Kids w B v ks) : Kids w.drew B v ks := h.through (Below.refl _ w).drew
theorem Kids.drewN (h : Kids w B v ks) (n : Nat) : Kids (w.drewN n) B v ks := h.through ⟨rfl, rfl, rfl, Nat.le_refl _, fun _ _ => rfl⟩
/-- A block below B is turned. -/
theorem Kids.only {g : Nat} (h : Kids w B v ks) (hb : w.grownBy w' (some g)) (hg : g < B) : Kids w' B v ks :=
  h.keep fun b hB hl => hb.block b hl (fun e => by have := Option.some.inj e; omega)
theorem Kids.out (h : Kids w B v ks) : ∃ A c, v = .slice A ks.length c ∧ ∀ o a, (Fm.mk o a ks).In w (B ≤ ·) A ks.length := by
  obtain ⟨xs, ho, hr⟩ := h
  rcases ho.2 with ⟨hv, hn⟩ | ⟨g, cap, cur, hv, hb, hg, hc, hm, hs, ht⟩
  · rw [hn]
    exact ⟨none, 0, hv, fun o a => ⟨hn, by omega, fun h0 => absurd h0 (by omega)⟩⟩
  · refine ⟨_, cap, hv, fun o a => ⟨rfl, by omega, fun _ => ⟨g, 0, rfl, hb, ?_⟩⟩⟩
    refine KRow.row 0 (hr.keep (Q' := (B ≤ ·)) (fun _ _ _ => rfl) fun _ hg _ => hg.1) fun j u hu => ?_
    have hj := (List.getElem?_eq_some_iff.1 hu).1
    have hl := ho.1
    rw [Nat.zero_add, cell_of_row w g j _ _ _ hg, ← Array.getElem?_toList, ← List.getElem?_take_of_lt (show j < ks.length * 3 by omega), ht, hu]
/-- Behind an append of a kid that was made later than all of it. -/
theorem Kids.snoc {C : Nat} {k : Fm} {A : Option Addr} {n c : Nat} (hk : k.In w (C ≤ ·) A n) (hC : B ≤ C) (hv : ∀ b, v.ownBlock = some b → b < C) {w0 : World} (hw : Below w.heap.size w w0) {g cap : Nat} {w' : World} {xs : List Value}
    (hr : KRow w (fun b => B ≤ b ∧ v.ownBlock ≠ some b) ks xs)
    (ho : w'.ownsRow B 44 3 (.slice (some ⟨g, 0, none⟩) (ks.length + 1) cap) (ks.length + 1) (xs ++ [.int .i64 k.org, .int .i64 k.nd, .slice A n c])) (hg : w0.grownBy w' v.ownBlock) (hat : v.ownBlock = some g ∨ g = w0.heap.size) :
    Kids w' B (.slice (some ⟨g, 0, none⟩) (ks.length + 1) cap) (ks ++ [k]) := by
  have hs := hw.size
  refine ⟨_, by rw [List.length_append]; exact ho, KRow.keep (w := w) (Q := fun b => B ≤ b ∧ v.ownBlock ≠ some b) (fun b hb hl => ?_) (fun b hb hl => ⟨hb.1, fun e => ?_⟩) (KRow.snoc (Fm.In.weak (fun b hb _ => ⟨by omega, fun e => by have := hv b e; omega⟩) k A n hk) hr)⟩
  · rw [hg.block b (by omega) (fun e => hb.2 e.symm), hw.block b hl]
  · have e2 : g = b := Option.some.inj e
    subst e2
    rcases hat with e3 | e3
    · exact hb.2 e3
    · omega
end

theorem Tryz.info_fm3 : (Tryz.prog.info? 44).map (fun i => (i.zero, i.size, i.bytes)) = some (some (.agg #[.int .i64 0, .int .i64 0, .slice none 0 0]), 3, 40) := by kernel_rfl

set_option maxRecDepth 100000 in
/-- '[]Formula{f}' -/
theorem run_build_fm (w : World) (q : List Value) (hq : q.length = 3) : (Instr.buildSlice 42 1 #[(0, .agg q.toArray)]).run Tryz.prog w = .ok (.slice (some ⟨w.heap.size, 0, none⟩) 1 1) (w.alloc (.cells q.toArray 44)) := by
  have hi := Tryz.info_fm3
  obtain ⟨i, hi, he⟩ := Option.map_eq_some_iff.1 hi
  injection he with h1 he
  injection he with h2 h3
  refine run_buildSlice (P := Tryz.prog) w 42 44 1 _ q.toArray i _ Tryz.underlying42 hi h1 (by omega) (by omega) ?_
  have h := Great.fill_whole (s := 3) (by omega) [.agg q.toArray] ((Array.range (1 * i.size)).map fun x => (Value.agg #[.int .i64 0, .int .i64 0, .slice none 0 0]).cells[x % (Value.agg #[.int .i64 0, .int .i64 0, .slice none 0 0]).cells.size]!) (fun v hv => by
    obtain rfl : v = _ := by simpa using hv
    show q.toArray.size = 3
    simpa using hq) (by simp [h2])
  rw [h2] at h ⊢
  have e : ([Value.agg q.toArray].flatMap fun v => v.cells.toList) = q := by simp [Value.cells]
  rw [e] at h
  exact h
theorem wpList_build_fm {ops : Array Oper} {rest : List Oper} {o : Oper} {a : Act} {w : World} {Q : Exit → Act → World → Prop} (hgd : o.guard = none) (x : Operand) (ho : o.op = .buildSlice 42 1 #[(0, x)])
    (q : List Value) (hx : a.eval x = .agg q.toArray) (hq : q.length = 3)
    (h : wpList Tryz.prog ops Q rest (a.put o.dst (.slice (some ⟨w.heap.size, 0, none⟩) 1 1)) (w.alloc (.cells q.toArray 44))) : wpList Tryz.prog ops Q (o :: rest) a w := by
  exact wpList_plain hgd fun _ hK => by
    unfold Oper.wp execOp
    simp only [ho, Sem.run_bind, List.map_toArray, List.map_cons, List.map_nil, hx, run_build_fm w q hq, Result.andThen_ok]
    exact hK _ _ h
/-- A cell of a row that is known whole. -/
theorem row_cell' {w : World} {g : Nat} {t : TypeId} {cs : List Value} (h : Blk w g t cs) : ∀ j u, cs[j]? = some u → w.cell? ((⟨g, 0, none⟩ : Addr).add j) = some u := fun j u hu => by
  have e : (⟨g, 0, none⟩ : Addr).add j = ⟨g, j, none⟩ := by unfold Addr.add; split <;> simp_all
  rw [e]
  exact h.cellAt hu
end

section
open Go.RowKit
theorem bareP_cons (x : UInt8) (t : List UInt8) : bareP (x :: t) = if x = 32 then bareP t else x :: t := rfl

set_option maxHeartbeats 2000000 in
theorem bare_any (t : List UInt8) (w : World) :
    Calls Tryz.prog 27 #[.string (ba t)] w fun e w' => e = .returned (.string (ba (bareP t))) ∧ w = w' := by
  have hsz := ba_size
  go_enter Tryz.func27, Tryz.ntmps27
  go_wp2
  go_loop [0] (fun sv => ∃ u : List UInt8, sv = .string (ba u) ∧ u.length ≤ t.length ∧ Hid (bareP u = bareP t)) (fun sv => match sv with | .string b => b.size | _ => 0)
  case atStart => exact ⟨t, rfl, Nat.le_refl _, Lib.hid rfl⟩
  case round =>
    obtain ⟨u, rfl, hu, hb⟩ := hrel
    cases u with
    | nil =>
      go_wp2
      go_ret
      exact ⟨by rw [← hb.out]; rfl, rfl⟩
    | cons x u =>
      have hi := run_index_ba Tryz.underlying9 (x :: u) .i64 0 0 rfl x rfl
      have hs := run_from_ba Tryz.underlying9 (x :: u) .i64 1 1 rfl (by simp)
      rw [List.drop_succ_cons, List.drop_zero] at hs
      have hl : (x :: u).length = u.length + 1 := rfl
      rw [hl] at hu
      by_cases hx : x = 32
      · subst hx
        have hv : ((32 : UInt8).toNat : Int) = 32 := rfl
        go_wp2
        go_round
        case rel => exact ⟨u, rfl, by omega, Lib.hid hb.out⟩
        case measure => simp [ba_size]
      · have hv : ((x.toNat : Int) == 32) = false := by
          have : x.toNat ≠ 32 := fun e => hx (UInt8.toNat_inj.1 e)
          simp; omega
        go_wp2
        go_ret
        exact ⟨by rw [← hb.out, bareP_cons, if_neg hx]; rfl, rfl⟩

theorem begP_iff : ∀ (s t : List UInt8), begP s t = decide (s.length ≤ t.length ∧ t.take s.length = s)
  | [], t => by simp [begP]
  | x :: s, [] => by simp [begP]
  | x :: s, y :: t => by
    rw [begP_cons, begP_iff s t, Bool.eq_iff_iff]
    simp only [Bool.and_eq_true, decide_eq_true_eq, List.length_cons, List.take_succ_cons, List.cons.injEq]
    constructor
    · rintro ⟨rfl, h1, h2⟩
      exact ⟨by omega, rfl, h2⟩
    · rintro ⟨h1, h2, h3⟩
      exact ⟨h2.symm, by omega, h3⟩

set_option maxHeartbeats 2000000 in
theorem begins_any (t s : List UInt8) (w : World) :
    Calls Tryz.prog 45 #[.string (ba t), .string (ba s)] w fun e w' => e = .returned (.bool (begP s t)) ∧ w = w' := by
  have hsz := ba_size
  have hli := ba_list
  by_cases hl : s.length ≤ t.length
  · have hsl := run_to_ba Tryz.underlying9 t .i64 s.length s.length rfl hl
    obtain ⟨v, hv⟩ : ∃ v, (t.take s.length == s) = v := ⟨_, rfl⟩
    have hb : begP s t = v := by
      rw [← hv, begP_iff, Bool.eq_iff_iff]
      simp [hl]
    rw [hb]
    have HB := Lib.hid hb
    clear hb
    go_enter Tryz.func45, Tryz.ntmps45
    go_wp2
    go_ret
    exact ⟨rfl, rfl⟩
  · have hb : begP s t = false := by
      rw [begP_iff]
      simp [hl]
    rw [hb]
    have HB := Lib.hid hb
    clear hb
    go_enter Tryz.func45, Tryz.ntmps45
    go_wp2
    go_ret
    exact ⟨rfl, rfl⟩
end

section
open Go.RowKit
theorem valP_snoc (x : UInt8) : ∀ (l : List UInt8) (v : Nat), valP v (l ++ [x]) = valP v l * 10 + (x.toNat - 48)
  | [], _ => rfl
  | y :: l, v => valP_snoc x l (v * 10 + (y.toNat - 48))
theorem isDg_iff (x : UInt8) : isDg x = true ↔ 48 ≤ x.toNat ∧ x.toNat ≤ 57 := by simp [isDg]
theorem digP_mem : ∀ {t : List UInt8} {x : UInt8}, x ∈ digP t → isDg x = true
  | [], _, h => by cases h
  | y :: t, x, h => by
    rw [digP_cons] at h
    split at h
    · rcases List.mem_cons.1 h with rfl | h
      · assumption
      · exact digP_mem h
    · cases h
theorem valP_lt : ∀ (l : List UInt8) (v m : Nat), (∀ x, x ∈ l → isDg x = true) → v < m → valP v l < m * 10 ^ l.length
  | [], v, m, _, h => by show v < m * 1; omega
  | x :: l, v, m, hl, h => by
    have hx := (isDg_iff x).1 (hl x (by simp))
    have h1 := valP_lt l (v * 10 + (x.toNat - 48)) (m * 10) (fun y hy => hl y (by simp [hy])) (by omega)
    show valP (v * 10 + (x.toNat - 48)) l < _
    rw [List.length_cons, Nat.pow_succ]
    have e : m * (10 ^ l.length * 10) = m * 10 * 10 ^ l.length := by rw [Nat.mul_comm (10 ^ l.length) 10, Nat.mul_assoc]
    omega
theorem digP_take : ∀ (t : List UInt8), t.take (digP t).length = digP t
  | [] => rfl
  | x :: t => by
    rw [digP_cons]
    split
    · rw [List.length_cons, List.take_succ_cons, digP_take t]
    · rfl
theorem digP_le (t : List UInt8) : (digP t).length ≤ t.length := by
  have h := congrArg List.length (digP_take t)
  rw [List.length_take] at h
  omega
/-- the byte behind so many digits -/
theorem digP_at : ∀ (t : List UInt8) (n : Nat), n ≤ (digP t).length → (n < (digP t).length ↔ ∃ x, t[n]? = some x ∧ isDg x = true)
  | [], n, h => by simp [digP] at h ⊢
  | x :: t, n, h => by
    rw [digP_cons] at h ⊢
    cases hx : isDg x with
    | false =>
      rw [hx] at h
      simp at h
      subst h
      simp [hx]
    | true =>
      rw [hx] at h
      simp only [if_true, List.length_cons] at h ⊢
      cases n with
      | zero => simp [hx]
      | succ n =>
        have := digP_at t n (by omega)
        simp only [List.getElem?_cons_succ]
        rw [← this]
        omega
theorem take_succ' {l : List UInt8} {n : Nat} {x : UInt8} (h : l[n]? = some x) : l.take (n + 1) = l.take n ++ [x] := by
  rw [List.take_add_one, h]; rfl

/-- what number tells -/
def numVT (t : List UInt8) : Int := match numP t with | none => 0 | some (v, _) => v
def numR (t : List UInt8) : List UInt8 := match numP t with | none => t | some (_, r) => r
def numO (t : List UInt8) : Bool := (numP t).isSome
theorem num_bad {t : List UInt8} (h : (digP t).length = 0 ∨ 4 < (digP t).length ∨ (1 < (digP t).length ∧ t.head? = some 48)) : numVT t = 0 ∧ numR t = t ∧ numO t = false := by
  unfold numVT numR numO
  rw [numP_of rfl, if_pos h]
  exact ⟨rfl, rfl, rfl⟩
theorem num_good {t : List UInt8} (h : ¬ ((digP t).length = 0 ∨ 4 < (digP t).length ∨ (1 < (digP t).length ∧ t.head? = some 48))) : numVT t = valP 0 (digP t) ∧ numR t = t.drop (digP t).length ∧ numO t = true := by
  unfold numVT numR numO
  rw [numP_of rfl, if_neg h]
  exact ⟨rfl, rfl, rfl⟩

theorem ret_num {t r : List UInt8} {v : Int} {o : Bool} (h : numVT t = v ∧ numR t = r ∧ numO t = o) : Ending.returned (Value.tuple #[.int .i64 v, .string (ba r), .bool o]) = Ending.returned (.tuple #[.int .i64 (numVT t), .string (ba (numR t)), .bool (numO t)]) := by
  obtain ⟨rfl, rfl, rfl⟩ := h
  rfl

set_option maxHeartbeats 4000000 in
theorem number_any (t : List UInt8) (hl : t.length ≤ 1000000) (w : World) :
    Calls Tryz.prog 47 #[.string (ba t)] w fun e w' => e = .returned (.tuple #[.int .i64 (numVT t), .string (ba (numR t)), .bool (numO t)]) ∧ Below w.heap.size w w' := by
  have hsz := ba_size
  have hD := digP_le t
  obtain ⟨d, hd⟩ : ∃ d, d = (digP t).length := ⟨_, rfl⟩
  rw [← hd] at hD
  have HD := Lib.hid hd
  clear hd
  have hidx : ∀ (n : Nat) (x : UInt8), t[n]? = some x → ∀ W, (Instr.index 9 (.string (ba t)) (.int .i64 (n : Int))).run Tryz.prog W = .ok (.int .u8 x.toNat) W := fun n x hx W => run_index_ba Tryz.underlying9 t .i64 n n rfl x hx W
  have HI := Lib.hid hidx
  clear hidx
  go_enter Tryz.func47, Tryz.ntmps47
  go_wp2
  go_loop [5, 6] (fun a b => ∃ n v : Nat, a = .int .i64 (n : Int) ∧ b = .int .i64 (v : Int) ∧ n ≤ d ∧ v ≤ 99999 ∧ Hid (v = valP 0 ((digP t).take (min n 5)))) (fun a _ => match a with | .int _ i => d - i.toNat | _ => 0)
  case atStart => exact ⟨0, 0, rfl, rfl, Nat.zero_le _, by omega, Lib.hid rfl⟩
  case round =>
    obtain ⟨n, v, rfl, rfl, hn, hv, hV⟩ := hrel
    by_cases hnd : n < d
    · obtain ⟨x, hx, hdg⟩ := (digP_at t n (by rw [← HD.out]; omega)).1 (by rw [← HD.out]; exact hnd)
      have hx2 : (digP t)[n]? = some x := by
        rw [← digP_take t, ← HD.out, List.getElem?_take_of_lt hnd]
        exact hx
      obtain ⟨y, hy⟩ : ∃ y, y = x.toNat := ⟨_, rfl⟩
      have hi := HI.out n x hx
      have hb := (isDg_iff x).1 hdg
      rw [← hy] at hi hb
      have hlt : (n : Int) < t.length := by omega
      by_cases h5 : n < 5
      · have hval : valP 0 ((digP t).take (min (n + 1) 5)) = v * 10 + (y - 48) := by
          rw [Nat.min_eq_left (by omega), take_succ' hx2, valP_snoc, ← hy, hV.out, Nat.min_eq_left (by omega)]
        have hlen : valP 0 ((digP t).take (min (n + 1) 5)) < 1 * 10 ^ ((digP t).take (min (n + 1) 5)).length := valP_lt _ 0 1 (fun z hz => digP_mem (List.mem_of_mem_take hz)) (by omega)
        have hpow : 10 ^ ((digP t).take (min (n + 1) 5)).length ≤ 10 ^ 5 := Nat.pow_le_pow_right (by omega) (by rw [List.length_take]; omega)
        have hb9 : v * 10 + (y - 48) ≤ 99999 := by rw [← hval]; omega
        have HX := Lib.hid hval
        clear hval hlen hpow hx hx2 hy hdg
        go_wp2
        go_round
        case rel => exact ⟨n + 1, v * 10 + (y - 48), by norm_cast, by congr 1; omega, by omega, by omega, Lib.hid HX.out.symm⟩
        case measure => simp; omega
      · have hval : v = valP 0 ((digP t).take (min (n + 1) 5)) := by rw [hV.out, Nat.min_eq_right (by omega), Nat.min_eq_right (by omega)]
        have HX := Lib.hid hval
        clear hval hx hx2 hy hdg
        go_wp2
        go_round
        case rel => exact ⟨n + 1, v, by norm_cast, rfl, by omega, hv, Lib.hid HX.out⟩
        case measure => simp; omega
    · have hnd2 : n = d := by omega
      subst hnd2
      have hdr := run_from_ba Tryz.underlying9 t .i64 n n rfl hD
      have hbad : n = 0 ∨ 4 < n ∨ (1 < n ∧ t.head? = some 48) → numVT t = 0 ∧ numR t = t ∧ numO t = false := fun h => num_bad (by rw [← HD.out]; exact h)
      have hgood : ¬ (n = 0 ∨ 4 < n ∨ (1 < n ∧ t.head? = some 48)) → numVT t = v ∧ numR t = t.drop n ∧ numO t = true := fun h => by
        have h1 := num_good (t := t) (by rw [← HD.out]; exact h)
        have h2 : v = valP 0 (digP t) := by rw [hV.out, Nat.min_eq_left (by omega), List.take_of_length_le (by rw [← HD.out]; omega)]
        rw [h2, HD.out]
        exact h1
      have hstop : (t.length ≤ n) ∨ ∃ x, t[n]? = some x ∧ (x.toNat < 48 ∨ 57 < x.toNat) := by
        rcases Nat.lt_or_ge n t.length with hlt | hge
        · refine .inr ⟨t[n], List.getElem?_eq_getElem hlt, ?_⟩
          have h1 := digP_at t n (by rw [← HD.out]; exact Nat.le_refl _)
          rw [← HD.out] at h1
          have h2 : ¬ isDg t[n] = true := fun h => by have := h1.2 ⟨_, List.getElem?_eq_getElem hlt, h⟩; omega
          rw [isDg_iff] at h2
          omega
        · exact .inl hge
      have HB := Lib.hid hbad
      have HG := Lib.hid hgood
      clear hbad hgood hn hv hV
      have h0 : ∀ x, t[0]? = some x → ∀ W, (Instr.index 9 (.string (ba t)) (.int .i64 0)).run Tryz.prog W = .ok (.int .u8 x.toNat) W := fun x hx W => run_index_ba Tryz.underlying9 t .i64 0 0 rfl x hx W
      have H0 := Lib.hid h0
      clear h0
      have hh : t.head? = t[0]? := by cases t <;> rfl
      have HH := Lib.hid hh
      clear hh
      rcases hstop with hge | ⟨x, hx, hlo | hhi⟩
      · have hlt : ¬ ((n : Int) < t.length) := by omega
        clear hge
        by_cases hz : n = 0
        · have HHH := Lib.hid (HB.out (.inl hz))
          clear hnd
          subst hz
          go_wp2
          try (go_region; go_wp2)
          have hh1 := HHH.out
          (try simp only [Exit.inBlock, Exit.then]); refine bodyPost_ret (results_tmp3 rfl _ _ _) rfl ?_
          exact ⟨ret_num hh1, by first | exact Below.refl _ _ | exact (Below.refl _ _).drew⟩
        · have hzb : ((n : Int) == 0) = false := by simp; omega
          by_cases h4 : 4 < n
          · have hh1 := HB.out (.inr (.inl h4))
            have HHH := Lib.hid hh1
            clear hh1
            go_wp2
            try (go_region; go_wp2)
            (try simp only [Exit.inBlock, Exit.then]); refine bodyPost_ret (results_tmp3 rfl _ _ _) rfl ?_
            have hh1 := HHH.out
            exact ⟨ret_num hh1, by first | exact Below.refl _ _ | exact (Below.refl _ _).drew⟩
          · by_cases h1 : 1 < n
            · obtain ⟨z, hz0⟩ : ∃ z, t[0]? = some z := ⟨_, List.getElem?_eq_getElem (by omega)⟩
              have hi0 := H0.out z hz0
              by_cases h48 : z = 48
              · subst h48
                have hh1 := HB.out (.inr (.inr ⟨h1, by rw [HH.out, hz0]⟩))
                have HHH := Lib.hid hh1
                clear hh1 hz0
                have e48 : ((48 : UInt8).toNat : Int) = 48 := rfl
                go_wp2
                try (go_region; go_wp2)
                (try simp only [Exit.inBlock, Exit.then]); refine bodyPost_ret (results_tmp3 rfl _ _ _) rfl ?_
                have hh1 := HHH.out
                exact ⟨ret_num hh1, by first | exact Below.refl _ _ | exact (Below.refl _ _).drew⟩
              · have hh1 := HG.out (fun h => by rcases h with h | h | ⟨_, h⟩ <;> first | omega | (rw [HH.out, hz0] at h; exact h48 (Option.some.inj h)))
                have HHH := Lib.hid hh1
                clear hh1 hz0
                have hz48b : ((z.toNat : Int) == 48) = false := by
                  have : z.toNat ≠ 48 := fun e => h48 (UInt8.toNat_inj.1 (by rw [e]; rfl))
                  simp; omega
                clear h48
                go_wp2
                try (go_region; go_wp2)
                (try simp only [Exit.inBlock, Exit.then]); refine bodyPost_ret (results_tmp3 rfl _ _ _) rfl ?_
                have hh1 := HHH.out
                exact ⟨ret_num hh1, by first | exact Below.refl _ _ | exact (Below.refl _ _).drew⟩
            · have hh1 := HG.out (fun h => by rcases h with h | h | ⟨h, _⟩ <;> omega)
              have HHH := Lib.hid hh1
              clear hh1
              go_wp2
              try (go_region; go_wp2)
              (try simp only [Exit.inBlock, Exit.then]); refine bodyPost_ret (results_tmp3 rfl _ _ _) rfl ?_
              have hh1 := HHH.out
              exact ⟨ret_num hh1, by first | exact Below.refl _ _ | exact (Below.refl _ _).drew⟩
      · have hi := HI.out n x hx
        obtain ⟨y, hy⟩ : ∃ y, y = x.toNat := ⟨_, rfl⟩
        rw [← hy] at hi hlo
        have hlt : (n : Int) < t.length := by have := (List.getElem?_eq_some_iff.1 hx).1; omega
        clear hx hy
        by_cases hz : n = 0
        · have HHH := Lib.hid (HB.out (.inl hz))
          clear hnd
          subst hz
          have hi2 : ∀ W, (Instr.index 9 (.string (ba t)) (.int .i64 0)).run Tryz.prog W = .ok (.int .u8 y) W := hi
          go_wp2
          try (go_region; go_wp2)
          have hh1 := HHH.out
          (try simp only [Exit.inBlock, Exit.then]); refine bodyPost_ret (results_tmp3 rfl _ _ _) rfl ?_
          exact ⟨ret_num hh1, by first | exact Below.refl _ _ | exact (Below.refl _ _).drew⟩
        · have hzb : ((n : Int) == 0) = false := by simp; omega
          by_cases h4 : 4 < n
          · have hh1 := HB.out (.inr (.inl h4))
            have HHH := Lib.hid hh1
            clear hh1
            go_wp2
            try (go_region; go_wp2)
            (try simp only [Exit.inBlock, Exit.then]); refine bodyPost_ret (results_tmp3 rfl _ _ _) rfl ?_
            have hh1 := HHH.out
            exact ⟨ret_num hh1, by first | exact Below.refl _ _ | exact (Below.refl _ _).drew⟩
          · by_cases h1 : 1 < n
            · obtain ⟨z, hz0⟩ : ∃ z, t[0]? = some z := ⟨_, List.getElem?_eq_getElem (by omega)⟩
              have hi0 := H0.out z hz0
              by_cases h48 : z = 48
              · subst h48
                have hh1 := HB.out (.inr (.inr ⟨h1, by rw [HH.out, hz0]⟩))
                have HHH := Lib.hid hh1
                clear hh1 hz0
                have e48 : ((48 : UInt8).toNat : Int) = 48 := rfl
                go_wp2
                try (go_region; go_wp2)
                (try simp only [Exit.inBlock, Exit.then]); refine bodyPost_ret (results_tmp3 rfl _ _ _) rfl ?_
                have hh1 := HHH.out
                exact ⟨ret_num hh1, by first | exact Below.refl _ _ | exact (Below.refl _ _).drew⟩
              · have hh1 := HG.out (fun h => by rcases h with h | h | ⟨_, h⟩ <;> first | omega | (rw [HH.out, hz0] at h; exact h48 (Option.some.inj h)))
                have HHH := Lib.hid hh1
                clear hh1 hz0
                have hz48b : ((z.toNat : Int) == 48) = false := by
                  have : z.toNat ≠ 48 := fun e => h48 (UInt8.toNat_inj.1 (by rw [e]; rfl))
                  simp; omega
                clear h48
                go_wp2
                try (go_region; go_wp2)
                (try simp only [Exit.inBlock, Exit.then]); refine bodyPost_ret (results_tmp3 rfl _ _ _) rfl ?_
                have hh1 := HHH.out
                exact ⟨ret_num hh1, by first | exact Below.refl _ _ | exact (Below.refl _ _).drew⟩
            · have hh1 := HG.out (fun h => by rcases h with h | h | ⟨h, _⟩ <;> omega)
              have HHH := Lib.hid hh1
              clear hh1
              go_wp2
              try (go_region; go_wp2)
              (try simp only [Exit.inBlock, Exit.then]); refine bodyPost_ret (results_tmp3 rfl _ _ _) rfl ?_
              have hh1 := HHH.out
              exact ⟨ret_num hh1, by first | exact Below.refl _ _ | exact (Below.refl _ _).drew⟩
      · have hi := HI.out n x hx
        obtain ⟨y, hy⟩ : ∃ y, y = x.toNat := ⟨_, rfl⟩
        rw [← hy] at hi hhi
        have hlt : (n : Int) < t.length := by have := (List.getElem?_eq_some_iff.1 hx).1; omega
        clear hx hy
        by_cases hz : n = 0
        · have HHH := Lib.hid (HB.out (.inl hz))
          clear hnd
          subst hz
          have hi2 : ∀ W, (Instr.index 9 (.string (ba t)) (.int .i64 0)).run Tryz.prog W = .ok (.int .u8 y) W := hi
          go_wp2
          try (go_region; go_wp2)
          have hh1 := HHH.out
          (try simp only [Exit.inBlock, Exit.then]); refine bodyPost_ret (results_tmp3 rfl _ _ _) rfl ?_
          exact ⟨ret_num hh1, by first | exact Below.refl _ _ | exact (Below.refl _ _).drew⟩
        · have hzb : ((n : Int) == 0) = false := by simp; omega
          by_cases h4 : 4 < n
          · have hh1 := HB.out (.inr (.inl h4))
            have HHH := Lib.hid hh1
            clear hh1
            go_wp2
            try (go_region; go_wp2)
            (try simp only [Exit.inBlock, Exit.then]); refine bodyPost_ret (results_tmp3 rfl _ _ _) rfl ?_
            have hh1 := HHH.out
            exact ⟨ret_num hh1, by first | exact Below.refl _ _ | exact (Below.refl _ _).drew⟩
          · by_cases h1 : 1 < n
            · obtain ⟨z, hz0⟩ : ∃ z, t[0]? = some z := ⟨_, List.getElem?_eq_getElem (by omega)⟩
              have hi0 := H0.out z hz0
              by_cases h48 : z = 48
              · subst h48
                have hh1 := HB.out (.inr (.inr ⟨h1, by rw [HH.out, hz0]⟩))
                have HHH := Lib.hid hh1
                clear hh1 hz0
                have e48 : ((48 : UInt8).toNat : Int) = 48 := rfl
                go_wp2
                try (go_region; go_wp2)
                (try simp only [Exit.inBlock, Exit.then]); refine bodyPost_ret (results_tmp3 rfl _ _ _) rfl ?_
                have hh1 := HHH.out
                exact ⟨ret_num hh1, by first | exact Below.refl _ _ | exact (Below.refl _ _).drew⟩
              · have hh1 := HG.out (fun h => by rcases h with h | h | ⟨_, h⟩ <;> first | omega | (rw [HH.out, hz0] at h; exact h48 (Option.some.inj h)))
                have HHH := Lib.hid hh1
                clear hh1 hz0
                have hz48b : ((z.toNat : Int) == 48) = false := by
                  have : z.toNat ≠ 48 := fun e => h48 (UInt8.toNat_inj.1 (by rw [e]; rfl))
                  simp; omega
                clear h48
                go_wp2
                try (go_region; go_wp2)
                (try simp only [Exit.inBlock, Exit.then]); refine bodyPost_ret (results_tmp3 rfl _ _ _) rfl ?_
                have hh1 := HHH.out
                exact ⟨ret_num hh1, by first | exact Below.refl _ _ | exact (Below.refl _ _).drew⟩
            · have hh1 := HG.out (fun h => by rcases h with h | h | ⟨h, _⟩ <;> omega)
              have HHH := Lib.hid hh1
              clear hh1
              go_wp2
              try (go_region; go_wp2)
              (try simp only [Exit.inBlock, Exit.then]); refine bodyPost_ret (results_tmp3 rfl _ _ _) rfl ?_
              have hh1 := HHH.out
              exact ⟨ret_num hh1, by first | exact Below.refl _ _ | exact (Below.refl _ _).drew⟩
end

section
/-- letters of one kind at its beginning -/
def spanP (q : UInt8 → Bool) : List UInt8 → List UInt8 | [] => [] | x :: t => if q x then x :: spanP q t else []
def isBk (x : UInt8) : Bool := decide (x = 32)
def isLt (x : UInt8) : Bool := decide (97 ≤ x.toNat) && decide (x.toNat ≤ 122)
theorem spanP_cons (q : UInt8 → Bool) (x : UInt8) (t : List UInt8) : spanP q (x :: t) = if q x then x :: spanP q t else [] := rfl
theorem spanP_dg : ∀ t, spanP isDg t = digP t
  | [] => rfl
  | x :: t => by rw [spanP_cons, digP_cons, spanP_dg t]
theorem spanP_bk : ∀ t, t.drop (spanP isBk t).length = bareP t
  | [] => rfl
  | x :: t => by
    rw [spanP_cons]
    by_cases h : x = 32
    · have e : isBk x = true := by simp [isBk, h]
      rw [e, if_pos rfl, List.length_cons, List.drop_succ_cons, spanP_bk t, h]
      rfl
    · have e : isBk x = false := by simp [isBk, h]
      rw [e, bareP_ne _ h]
      rfl
theorem spanP_le (q : UInt8 → Bool) : ∀ t, (spanP q t).length ≤ t.length
  | [] => Nat.le_refl _
  | x :: t => by
    have := spanP_le q t
    rw [spanP_cons]
    split <;> simp
    omega
theorem spanP_mem (q : UInt8 → Bool) : ∀ {t x}, x ∈ spanP q t → q x = true
  | [], _, h => by cases h
  | y :: t, x, h => by
    rw [spanP_cons] at h
    split at h
    · rcases List.mem_cons.1 h with rfl | h
      · assumption
      · exact spanP_mem q h
    · cases h
/-- digits as a number -/
def numD (d : List UInt8) : Option Nat := if d.length = 0 ∨ 4 < d.length ∨ (1 < d.length ∧ d.head? = some 48) then none else some (valP 0 d)
def howQ (d w : List UInt8) (n : Nat) : Option Nat :=
  if w = [111, 102] then (match numD d with | none => none | some v => if 1 ≤ v ∧ v ≤ 99 then some v else none)
  else if d ≠ [] then none
  else if w = [97, 108, 108] then some n
  else if w = [97, 110, 121] then some 1 else none
def loopQ (p : List UInt8 → Option (Fm × List UInt8)) : Nat → List UInt8 → Option (List Fm × List UInt8)
  | 0, _ => none
  | n + 1, t => match p t with
    | none => none
    | some (f, r) => if begP [44] r then (match loopQ p n (bareP (r.drop 1)) with | none => none | some (l, r') => some (f :: l, r'))
      else if begP [41] r then some ([f], bareP (r.drop 1)) else none
def kidsQ (p : List UInt8 → Option (Fm × List UInt8)) (t : List UInt8) : Option (List Fm × List UInt8) :=
  if begP [40] t then loopQ p t.length (bareP (t.drop 1)) else none
def t1Q (t : List UInt8) : List UInt8 := bareP (t.drop (digP t).length)
def wQ (t : List UInt8) : List UInt8 := spanP isLt (t1Q t)
def t2Q (t : List UInt8) : List UInt8 := bareP ((t1Q t).drop (wQ t).length)
def proP : Nat → List UInt8 → Option (Fm × List UInt8)
  | 0, _ => none
  | k + 1, t =>
    if wQ t = [] then (match numD (digP t) with | none => none | some v => some (.mk v 0 [], t2Q t))
    else match kidsQ (proP k) (t2Q t) with
      | none => none
      | some (l, r) => match howQ (digP t) (wQ t) l.length with
        | none => none
        | some a => some (.mk 0 a l, r)
theorem proP_succ (k : Nat) (t : List UInt8) : proP (k + 1) t =
    if wQ t = [] then (match numD (digP t) with | none => none | some v => some (.mk v 0 [], t2Q t))
    else match kidsQ (proP k) (t2Q t) with
      | none => none
      | some (l, r) => match howQ (digP t) (wQ t) l.length with
        | none => none
        | some a => some (.mk 0 a l, r) := rfl

def headLt : List UInt8 → Bool | [] => false | x :: _ => isLt x
theorem spanP_nil {q : UInt8 → Bool} {x : UInt8} {t : List UInt8} (h : q x = false) : spanP q (x :: t) = [] := by rw [spanP_cons, h]; rfl
theorem spanP_lt {t : List UInt8} : spanP isLt t = [] ↔ headLt t = false := by
  cases t with
  | nil => simp [spanP, headLt]
  | cons x t =>
    show spanP isLt (x :: t) = [] ↔ isLt x = false
    rw [spanP_cons]
    cases isLt x <;> simp
theorem begP_span (q : UInt8 → Bool) : ∀ t, begP (spanP q t) t = true
  | [] => rfl
  | x :: t => by
    rw [spanP_cons]
    cases q x with
    | false => rfl
    | true => simp only [if_true]; rw [begP_cons, begP_span q t]; simp
theorem bareP_idem : ∀ t, bareP (bareP t) = bareP t
  | [] => rfl
  | x :: t => by
    by_cases h : x = 32
    · subst h
      have e : bareP (32 :: t) = bareP t := rfl
      rw [e, bareP_idem t]
    · rw [bareP_ne _ h, bareP_ne _ h]
theorem bareP_head {t u : List UInt8} {x : UInt8} (h : bareP t = x :: u) : x ≠ 32 := by
  intro e
  subst e
  have h2 := bareP_idem t
  rw [h] at h2
  have e : bareP (32 :: u) = bareP u := rfl
  rw [e] at h2
  have := bareP_len u
  rw [h2] at this
  simp at this
  omega
theorem begP_false {x y : UInt8} {t : List UInt8} (h : x ≠ y) : begP [x] (y :: t) = false := by rw [begP_cons]; simp [h]
theorem lt_sep {x : UInt8} (h : isLt x = true) : x ≠ 32 ∧ x ≠ 40 ∧ x ≠ 41 ∧ x ≠ 44 ∧ isDg x = false := by
  have h1 : 97 ≤ x.toNat := by simp [isLt] at h; omega
  refine ⟨?_, ?_, ?_, ?_, ?_⟩
  · rintro rfl; exact absurd h1 (by decide)
  · rintro rfl; exact absurd h1 (by decide)
  · rintro rfl; exact absurd h1 (by decide)
  · rintro rfl; exact absurd h1 (by decide)
  · simp [isDg]; omega
theorem numP_numD (t : List UInt8) : numP t = (match numD (digP t) with | none => none | some v => some (v, t.drop (digP t).length)) := by
  have hh : 1 < (digP t).length → t.head? = (digP t).head? := by
    cases t with
    | nil => intro h; simp [digP] at h
    | cons x t =>
      rw [digP_cons]
      cases isDg x <;> simp
  rw [numP_of rfl]
  unfold numD
  by_cases h : (digP t).length = 0 ∨ 4 < (digP t).length ∨ (1 < (digP t).length ∧ t.head? = some 48)
  · rw [if_pos h, if_pos (by rcases h with h | h | ⟨h1, h2⟩; exact .inl h; exact .inr (.inl h); exact .inr (.inr ⟨h1, by rw [← hh h1]; exact h2⟩))]
  · rw [if_neg h, if_neg (by rintro (h1 | h1 | ⟨h1, h2⟩); exact h (.inl h1); exact h (.inr (.inl h1)); exact h (.inr (.inr ⟨h1, by rw [hh h1]; exact h2⟩)))]

def bareR : Option (List Fm × List UInt8) → Option (List Fm × List UInt8) | none => none | some (l, r) => some (l, bareP r)
def Agrees (p q : List UInt8 → Option (Fm × List UInt8)) : Prop := ∀ t, (∀ f r, p t = some (f, r) → q (bareP t) = some (f, bareP r) ∨ (q (bareP t) = none ∧ headLt (bareP r) = true)) ∧ (p t = none → q (bareP t) = none)
theorem headLt_beg {t : List UInt8} (h : headLt t = true) {x : UInt8} (hx : x = 40 ∨ x = 41 ∨ x = 44) : begP [x] t = false := by
  cases t with
  | nil => cases h
  | cons y t =>
    have h1 := lt_sep (show isLt y = true from h)
    refine begP_false ?_
    rcases hx with rfl | rfl | rfl
    · exact h1.2.1.symm
    · exact h1.2.2.1.symm
    · exact h1.2.2.2.1.symm
theorem loop_agrees {p q : List UInt8 → Option (Fm × List UInt8)} (ha : Agrees p q) : ∀ (n : Nat) (t : List UInt8), loopQ q n (bareP (t.drop 1)) = bareR (loopP p n t)
  | 0, _ => rfl
  | n + 1, t => by
    have h := ha (t.drop 1)
    rw [loopP_succ]
    show (match q (bareP (t.drop 1)) with | none => none | some (f, r) => if begP [44] r then (match loopQ q n (bareP (r.drop 1)) with | none => none | some (l, r') => some (f :: l, r')) else if begP [41] r then some ([f], bareP (r.drop 1)) else none) = _
    cases hp : p (t.drop 1) with
    | none => rw [h.2 hp]; rfl
    | some z =>
      obtain ⟨f, rest⟩ := z
      rcases h.1 f rest hp with e | ⟨e, hl⟩
      · rw [e]
        simp only
        cases h44 : begP [44] (bareP rest) with
        | true =>
          have h41 : begP [41] (bareP rest) = false := by
            cases hb : bareP rest with
            | nil => rfl
            | cons y u =>
              rw [hb, begP_cons, begP_nil] at h44
              simp at h44
              subst h44
              rfl
          rw [h41, if_pos rfl, if_neg (by simp), if_pos rfl, loop_agrees ha n (bareP rest)]
          cases loopP p n (bareP rest) with
          | none => rfl
          | some z => rfl
        | false =>
          cases begP [41] (bareP rest) with
          | true => rfl
          | false => rfl
      · rw [e]
        simp only
        rw [headLt_beg hl (.inr (.inl rfl)), headLt_beg hl (.inr (.inr rfl))]
        rfl
theorem kids_agrees {p q : List UInt8 → Option (Fm × List UInt8)} (ha : Agrees p q) (t : List UInt8) : kidsQ q (bareP t) = bareR (rowP p t) := by
  unfold kidsQ rowP
  cases begP [40] (bareP t) with
  | false => rfl
  | true => rw [if_pos rfl, if_pos rfl, loop_agrees ha]
theorem begP_app : ∀ {s t : List UInt8}, begP s t = true → t = s ++ t.drop s.length
  | [], t, _ => rfl
  | x :: s, [], h => by cases h
  | x :: s, y :: t, h => by
    rw [begP_cons, Bool.and_eq_true] at h
    obtain ⟨h1, h2⟩ := h
    have h1 : x = y := by simpa using h1
    subst h1
    rw [List.length_cons, List.drop_succ_cons, List.cons_append, ← begP_app h2]
/-- behind a word, letters go on: no bracket there -/
theorem row_letters {p : List UInt8 → Option (Fm × List UInt8)} {u : List UInt8} (h : spanP isLt u ≠ []) : rowP p u = none := by
  have hl : headLt u = true := by
    cases hh : headLt u with
    | true => rfl
    | false => exact absurd (spanP_lt.2 hh) h
  have hb : bareP u = u := by
    cases u with
    | nil => rfl
    | cons x u => exact bareP_ne _ (lt_sep (show isLt x = true from hl)).1
  unfold rowP
  rw [hb, headLt_beg hl (.inl rfl)]
  rfl
theorem span_word : ∀ (s u : List UInt8), (∀ x, x ∈ s → isLt x = true) → spanP isLt (s ++ u) = s ++ spanP isLt u
  | [], _, _ => rfl
  | x :: s, u, h => by
    rw [List.cons_append, spanP_cons, h x (by simp), if_pos rfl, span_word s u (fun y hy => h y (by simp [hy]))]
    rfl

/-- a word ahead of brackets, with digits d ahead of it -/
theorem word_agrees {p q : List UInt8 → Option (Fm × List UInt8)} (ha : Agrees p q) {t s u : List UInt8} (hs : ∀ x, x ∈ s → isLt x = true) (hne : s ≠ []) (h1 : t1Q t = s ++ u) :
    (wQ t = s ++ spanP isLt u) ∧ (spanP isLt u = [] → wQ t = s ∧ kidsQ q (t2Q t) = bareR (rowP p u)) ∧ (spanP isLt u ≠ [] → rowP p u = none) ∧ wQ t ≠ [] := by
  have hw : wQ t = s ++ spanP isLt u := by unfold wQ; rw [h1, span_word s u hs]
  refine ⟨hw, fun hn => ?_, row_letters, by rw [hw]; simp [hne]⟩
  have hw2 : wQ t = s := by rw [hw, hn, List.append_nil]
  refine ⟨hw2, ?_⟩
  have h2 : t2Q t = bareP u := by unfold t2Q; rw [hw2, h1, List.drop_append, List.drop_length]; simp
  rw [h2, kids_agrees ha]
theorem howQ_long {d s v : List UInt8} {n : Nat} (hv : v ≠ []) (hs : s = [97, 108, 108] ∨ s = [97, 110, 121] ∨ s = [111, 102]) : howQ d (s ++ v) n = none := by
  cases v with
  | nil => exact absurd rfl hv
  | cons x v =>
    unfold howQ
    rcases hs with rfl | rfl | rfl <;> simp
theorem three_lt : (∀ x, x ∈ ([97, 108, 108] : List UInt8) → isLt x = true) ∧ (∀ x, x ∈ ([97, 110, 121] : List UInt8) → isLt x = true) ∧ (∀ x, x ∈ ([111, 102] : List UInt8) → isLt x = true) := by decide

theorem pol_agrees : ∀ k, Agrees (polP k) (proP k)
  | 0 => fun t => ⟨fun f r h => (by cases h), fun _ => rfl⟩
  | k + 1 => fun t => by
    have ha := pol_agrees k
    rw [polP_succ, proP_succ]
    obtain ⟨b, hb⟩ : ∃ b, bareP t = b := ⟨_, rfl⟩
    have hbb : bareP b = b := by rw [← hb, bareP_idem]
    rw [hb]
    have word : ∀ (s : List UInt8) (a : Nat → Nat), (∀ x, x ∈ s → isLt x = true) → (s = [97, 108, 108] ∨ s = [97, 110, 121]) → (∀ n, howQ [] s n = some (a n)) → begP s b = true →
        (∀ (f : Fm) (r : List UInt8), (match rowP (polP k) (b.drop 3) with | none => none | some (l, r) => some (Fm.mk 0 (a l.length) l, r)) = some (f, r) →
          (if wQ b = [] then (match numD (digP b) with | none => none | some v => some (Fm.mk v 0 [], t2Q b)) else match kidsQ (proP k) (t2Q b) with | none => none | some (l, r) => match howQ (digP b) (wQ b) l.length with | none => none | some a => some (Fm.mk 0 a l, r)) = some (f, bareP r)) ∧
        ((match rowP (polP k) (b.drop 3) with | none => none | some (l, r) => some (Fm.mk 0 (a l.length) l, r)) = none →
          (if wQ b = [] then (match numD (digP b) with | none => none | some v => some (Fm.mk v 0 [], t2Q b)) else match kidsQ (proP k) (t2Q b) with | none => none | some (l, r) => match howQ (digP b) (wQ b) l.length with | none => none | some a => some (Fm.mk 0 a l, r)) = none) := by
      intro s a hs hsw hh hbeg
      have hl3 : s.length = 3 := by rcases hsw with rfl | rfl <;> rfl
      have happ := begP_app hbeg
      rw [hl3] at happ
      have hd : digP b = [] := by
        rw [happ]
        rcases hsw with rfl | rfl <;> rfl
      have ht1 : t1Q b = s ++ b.drop 3 := by unfold t1Q; rw [hd, List.length_nil, List.drop_zero, hbb]; exact happ
      obtain ⟨w1, w2, w3, w4⟩ := word_agrees ha hs (by rcases hsw with rfl | rfl <;> simp) ht1
      rw [if_neg w4, hd]
      by_cases hsp : spanP isLt (b.drop 3) = []
      · obtain ⟨w5, w6⟩ := w2 hsp
        rw [w5, w6]
        cases rowP (polP k) (b.drop 3) with
        | none => exact ⟨fun f r h => (by cases h), fun _ => rfl⟩
        | some z =>
          obtain ⟨l, r⟩ := z
          refine ⟨fun f r' h => ?_, fun h => by cases h⟩
          simp only [Option.some.injEq, Prod.mk.injEq] at h
          obtain ⟨rfl, rfl⟩ := h
          show (match howQ [] s l.length with | none => none | some a => some (Fm.mk 0 a l, bareP r)) = _
          rw [hh]
      · rw [w3 hsp, w1]
        refine ⟨fun f r h => (by cases h), fun _ => ?_⟩
        cases kidsQ (proP k) (t2Q b) with
        | none => rfl
        | some z =>
          obtain ⟨l, r⟩ := z
          simp only
          rw [howQ_long hsp (by rcases hsw with h | h; exact .inl h; exact .inr (.inl h))]
    cases hall : begP [97, 108, 108] b with
    | true =>
      obtain ⟨h1, h2⟩ := word [97, 108, 108] (fun n => n) three_lt.1 (.inl rfl) (fun n => rfl) hall
      rw [if_pos rfl]
      exact ⟨fun f r h => .inl (h1 f r h), h2⟩
    | false =>
      rw [if_neg (by simp)]
      cases hany : begP [97, 110, 121] b with
      | true =>
        obtain ⟨h1, h2⟩ := word [97, 110, 121] (fun _ => 1) three_lt.2.1 (.inr rfl) (fun n => rfl) hany
        rw [if_pos rfl]
        exact ⟨fun f r h => .inl (h1 f r h), h2⟩
      | false =>
        rw [if_neg (by simp), numP_numD]
        cases hn : numD (digP b) with
        | none =>
          refine ⟨fun f r h => (by cases h), fun _ => ?_⟩
          by_cases hw : wQ b = []
          · rw [if_pos hw]
          · rw [if_neg hw]
            cases kidsQ (proP k) (t2Q b) with
            | none => rfl
            | some z =>
              obtain ⟨l, r⟩ := z
              simp only
              have hh : howQ (digP b) (wQ b) l.length = none := by
                unfold howQ
                by_cases h1 : wQ b = [111, 102]
                · rw [if_pos h1, hn]
                · rw [if_neg h1]
                  by_cases h2 : digP b = []
                  · have ht1 : t1Q b = b := by unfold t1Q; rw [h2, List.length_nil, List.drop_zero, hbb]
                    have hsp := begP_span isLt b
                    have hwb : wQ b = spanP isLt b := by unfold wQ; rw [ht1]
                    rw [← hwb] at hsp
                    rw [if_neg (by simp [h2]), if_neg (fun e => by rw [e, hall] at hsp; cases hsp), if_neg (fun e => by rw [e, hany] at hsp; cases hsp)]
                  · rw [if_pos h2]
              rw [hh]
        | some v =>
          have hdn : digP b ≠ [] := by
            intro e
            rw [e] at hn
            cases hn
          simp only
          have ht1 : bareP (b.drop (digP b).length) = t1Q b := rfl
          rw [ht1]
          cases hof : begP [111, 102] (t1Q b) with
          | true =>
            rw [if_pos rfl]
            have happ := begP_app hof
            obtain ⟨w1, w2, w3, w4⟩ := word_agrees ha three_lt.2.2 (by simp) happ
            rw [if_neg w4]
            have hl2 : ([111, 102] : List UInt8).length = 2 := rfl
            rw [hl2] at w1 w2 w3
            by_cases hsp : spanP isLt ((t1Q b).drop 2) = []
            · obtain ⟨w5, w6⟩ := w2 hsp
              rw [w5, w6]
              cases rowP (polP k) ((t1Q b).drop 2) with
              | none => exact ⟨fun f r h => (by cases h), fun _ => rfl⟩
              | some z =>
                obtain ⟨l, r⟩ := z
                have hh : howQ (digP b) [111, 102] l.length = if 1 ≤ v ∧ v ≤ 99 then some v else none := by unfold howQ; rw [if_pos rfl, hn]
                simp only [bareR]
                rw [hh]
                by_cases hv : 1 ≤ v ∧ v ≤ 99
                · rw [if_pos hv, if_pos hv]
                  refine ⟨fun f r' h => .inl ?_, fun h => by cases h⟩
                  simp only [Option.some.injEq, Prod.mk.injEq] at h
                  obtain ⟨rfl, rfl⟩ := h
                  rfl
                · rw [if_neg hv, if_neg hv]
                  exact ⟨fun f r h => (by cases h), fun _ => rfl⟩
            · rw [w3 hsp, w1]
              refine ⟨fun f r h => (by cases h), fun _ => ?_⟩
              cases kidsQ (proP k) (t2Q b) with
              | none => rfl
              | some z =>
                obtain ⟨l, r⟩ := z
                simp only
                rw [howQ_long hsp (.inr (.inr rfl))]
          | false =>
            rw [if_neg (by simp)]
            refine ⟨fun f r h => ?_, fun h => by cases h⟩
            simp only [Option.some.injEq, Prod.mk.injEq] at h
            obtain ⟨rfl, rfl⟩ := h
            by_cases hw : wQ b = []
            · rw [if_pos hw]
              left
              have h2 : t2Q b = t1Q b := by
                unfold t2Q
                rw [hw, List.length_nil, List.drop_zero]
                exact bareP_idem _
              rw [h2]
              rfl
            · rw [if_neg hw]
              right
              have hlt : headLt (t1Q b) = true := by
                cases hh : headLt (t1Q b) with
                | true => rfl
                | false => exact absurd (spanP_lt.2 hh) hw
              refine ⟨?_, hlt⟩
              cases kidsQ (proP k) (t2Q b) with
              | none => rfl
              | some z =>
                obtain ⟨l, r⟩ := z
                simp only
                have hwo : wQ b ≠ [111, 102] := fun e => by
                  have hsp := begP_span isLt (t1Q b)
                  have : spanP isLt (t1Q b) = [111, 102] := e
                  rw [this, hof] at hsp
                  cases hsp
                have hh : howQ (digP b) (wQ b) l.length = none := by unfold howQ; rw [if_neg hwo, if_pos hdn]
                rw [hh]
end

section
open Go.RowKit
def PolOut (B : Nat) (r : Option (Fm × List UInt8)) (e : Ending) (w' : World) : Prop :=
  match r with
  | none => ∃ o a A n c s, e = .returned (.tuple #[.agg #[.int .i64 o, .int .i64 a, .slice A n c], .string s, .bool false])
  | some (f, r) => ∃ A n c, e = .returned (.tuple #[f.val A n c, .string (ba r), .bool true]) ∧ f.In w' (B ≤ ·) A n
def RowOut (B : Nat) (r : Option (List Fm × List UInt8)) (e : Ending) (w' : World) : Prop :=
  match r with
  | none => ∃ A n c s, e = .returned (.tuple #[.slice A n c, .string s, .bool false])
  | some (l, r) => ∃ A c, e = .returned (.tuple #[.slice A l.length c, .string (ba r), .bool true]) ∧ ∀ o a, (Fm.mk o a l).In w' (B ≤ ·) A l.length
theorem PolOut.bad {B : Nat} {r : Option (Fm × List UInt8)} {e : Ending} {w' : World} (h : PolOut B r e w') (hr : r = none) : ∃ o a A n c s, e = .returned (.tuple #[.agg #[.int .i64 o, .int .i64 a, .slice A n c], .string s, .bool false]) := by
  subst hr; exact h
theorem PolOut.good {B : Nat} {r : Option (Fm × List UInt8)} {e : Ending} {w' : World} {f : Fm} {t : List UInt8} (h : PolOut B r e w') (hr : r = some (f, t)) : ∃ A n c, e = .returned (.tuple #[.agg #[.int .i64 f.org, .int .i64 f.nd, .slice A n c], .string (ba t), .bool true]) ∧ f.In w' (B ≤ ·) A n := by
  subst hr; exact h
theorem RowOut.bad {B : Nat} {r : Option (List Fm × List UInt8)} {e : Ending} {w' : World} (h : RowOut B r e w') (hr : r = none) : ∃ A n c s, e = .returned (.tuple #[.slice A n c, .string s, .bool false]) := by
  subst hr; exact h
theorem RowOut.good {B : Nat} {r : Option (List Fm × List UInt8)} {e : Ending} {w' : World} {l : List Fm} {t : List UInt8} (h : RowOut B r e w') (hr : r = some (l, t)) : ∃ A c, e = .returned (.tuple #[.slice A l.length c, .string (ba t), .bool true]) ∧ ∀ o a, (Fm.mk o a l).In w' (B ≤ ·) A l.length := by
  subst hr; exact h
theorem RowOut.mk_bad {B : Nat} {r : Option (List Fm × List UInt8)} {w' : World} {A : Option Addr} {n c : Nat} {s : ByteArray} (hr : r = none) : RowOut B r (.returned (.tuple #[.slice A n c, .string s, .bool false])) w' := by
  subst hr; exact ⟨A, n, c, s, rfl⟩
theorem RowOut.mk_good {B : Nat} {r : Option (List Fm × List UInt8)} {w' : World} {v : Value} {l : List Fm} {t : List UInt8} (hr : r = some (l, t)) (h : Kids w' B v l) : RowOut B r (.returned (.tuple #[v, .string (ba t), .bool true])) w' := by
  subst hr
  obtain ⟨A, c, rfl, h2⟩ := h.out
  exact ⟨A, c, rfl, h2⟩
theorem begP_split {x : UInt8} {t : List UInt8} (h : begP [x] t = true) : t = x :: t.drop 1 := by
  cases t with
  | nil => cases h
  | cons y t =>
    rw [begP_cons, begP_nil] at h
    simp at h
    subst h
    rfl

/-- what the loop has found so far, and will find -/
def preP (l : List Fm) : Option (List Fm × List UInt8) → Option (List Fm × List UInt8) | none => none | some (l', r) => some (l ++ l', r)

set_option maxHeartbeats 8000000 in
set_option maxRecDepth 100000 in
theorem row_any (k : Nat) (d : Int) (hd : 0 ≤ d ∧ d ≤ 10)
    (hP : ∀ (t : List UInt8) (w : World), t.length ≤ 1000 → Calls Tryz.prog 26 #[.string (ba t), .int .i64 (d + 1)] w fun e w' => PolOut w.heap.size (polP k t) e w' ∧ Below w.heap.size w w')
    (t : List UInt8) (w : World) (ht : t.length ≤ 1000) :
    Calls Tryz.prog 46 #[.string (ba t), .int .i64 d] w fun e w' => RowOut w.heap.size (rowP (polP k) t) e w' ∧ Below w.heap.size w w' := by
  have HP := Lib.hid hP
  have hbg : ∀ x t W, Calls Tryz.prog 45 #[.string (ba t), .string ⟨#[x]⟩] W fun e w' => e = .returned (.bool (begP [x] t)) ∧ W = w' := fun x t W => begins_any t [x] W
  have HG := Lib.hid hbg
  clear hP hbg
  obtain ⟨i0, hi, hz0, hz1, hz2⟩ := info_parts Tryz.info_fm3
  go_enter Tryz.func46, Tryz.ntmps46
  cases h40 : begP [40] (bareP t) with
  | false =>
    have hR : rowP (polP k) t = none := by unfold rowP; rw [h40]; rfl
    have HR := Lib.hid hR
    clear hR
    go_wp2_with (first
      | (go_at_call 27; (with_reducible refine (bare_any _ _).mono ?_); rintro e w1 ⟨rfl, rfl⟩)
      | (go_at_call 45; (with_reducible refine (HG.out _ _ _).mono ?_); rintro e w2 ⟨rfl, rfl⟩))
    (try simp only [Exit.inBlock, Exit.then]); refine bodyPost_ret (results_tmp3 rfl _ _ _) rfl ?_
    exact ⟨RowOut.mk_bad HR.out, Below.refl _ _⟩
  | true =>
    have hbl := bareP_len t
    have hsp := begP_split h40
    have hR : rowP (polP k) t = preP [] (loopP (polP k) (bareP t).length (bareP t)) := by
      unfold rowP
      rw [h40, if_pos rfl]
      cases loopP (polP k) (bareP t).length (bareP t) with
      | none => rfl
      | some q => rfl
    have h1 : 1 ≤ (bareP t).length := by rw [hsp]; simp
    clear hsp
    have HR := Lib.hid hR
    clear hR
    go_wp2_with (first
      | (go_at_call 27; (with_reducible refine (bare_any _ _).mono ?_); rintro e w1 ⟨rfl, rfl⟩)
      | (go_at_call 45; (with_reducible refine (HG.out _ _ _).mono ?_); rintro e w2 ⟨rfl, rfl⟩))
    go_loopw [0, 7] (fun tv sv wr => ∃ (u : List UInt8) (l : List Fm) (m : Nat) (ov : Value), tv = .string (ba u) ∧ ov = sv ∧ 1 ≤ u.length ∧ u.length ≤ m ∧ l.length + u.length ≤ t.length ∧ Kids wr w.heap.size ov l ∧ Below w.heap.size w wr ∧ Hid (rowP (polP k) t = preP l (loopP (polP k) m u))) (fun tv _ _ => match tv with | .string b => b.size | _ => 0)
    case atStart => exact ⟨bareP t, [], _, _, rfl, rfl, h1, Nat.le_refl _, by simpa using hbl, Kids.nil _ _, Below.refl _ _, HR⟩
    case round =>
      obtain ⟨u, l, m, ov, rfl, rfl, h1u, hum, hlu, hk, hb, hrw⟩ := hrel
      cases u with
      | nil => simp at h1u
      | cons x u =>
        cases m with
        | zero => simp at hum
        | succ m =>
          simp only [List.length_cons] at hum hlu
          have hsl := run_from_ba Tryz.underlying9 (x :: u) .i64 1 1 rfl (by simp)
          rw [List.drop_succ_cons, List.drop_zero] at hsl
          have hL := loopP_succ (polP k) m (x :: u)
          rw [List.drop_succ_cons, List.drop_zero] at hL
          have hcall : ∀ W, Calls Tryz.prog 26 #[.string (ba u), .int .i64 (d + 1)] W fun e w' => PolOut W.heap.size (polP k u) e w' ∧ Below W.heap.size W w' := fun W => HP.out u W (by omega)
          have HC := Lib.hid hcall
          have HK := Lib.hid hk
          have HX := Lib.hid hb
          clear hcall hk hb h1u
          cases hp : polP k u with
          | none =>
            rw [hp] at hL
            have hfin : rowP (polP k) t = none := by rw [hrw.out, hL]; rfl
            have HF := Lib.hid hfin
            have HPp := Lib.hid hp
            clear hfin hp hL hrw
            go_wp2_with (go_at_call 26; (with_reducible refine (HC.out _).mono ?_); rintro e w1 ⟨ho, hb⟩; obtain ⟨o, a, A, n, c, s, rfl⟩ := PolOut.bad ho HPp.out; have HX1 := Lib.hid (below_step HX.out hb); clear hb ho)
            (try simp only [Exit.inBlock, Exit.then]); refine bodyPost_ret (results_tmp3 rfl _ _ _) rfl ?_
            exact ⟨RowOut.mk_bad HF.out, HX1.out.alloc (by have := HX1.out.size; omega) _⟩
          | some q =>
            obtain ⟨f, r⟩ := q
            rw [hp] at hL
            simp only at hL
            obtain ⟨htk, _⟩ := polP_takes k u f r hp
            have hbr := bareP_len r
            have hfp := f.size_pos
            have hOB : ∀ b, ov.ownBlock = some b → b < wr.heap.size := fun b hb => by
              obtain ⟨xs, hO, _⟩ := HK.out
              exact (hO.lt b hb).2
            have HOB := Lib.hid hOB
            have HPp := Lib.hid hp
            clear hp hOB
            cases h41 : begP [41] (bareP r) with
            | true =>
              rw [h41, if_pos rfl] at hL
              have hfin : rowP (polP k) t = some (l ++ [f], (bareP r).drop 1) := by rw [hrw.out, hL]; rfl
              have HF := Lib.hid hfin
              clear hfin hL hrw
              have hsp := begP_split h41
              have hsl2 := run_from_ba Tryz.underlying9 (bareP r) .i64 1 1 rfl (by rw [hsp]; simp)
              clear hsp
              go_wp2_with (first
              | (go_at_call 26; (with_reducible refine (HC.out _).mono ?_); rintro e w1 ⟨ho, hb⟩; obtain ⟨A, n, c, rfl, hf⟩ := PolOut.good ho HPp.out; obtain ⟨xs, hO, hQ⟩ := HK.out.through hb; have HXb := Lib.hid hb; have HX1 := Lib.hid (below_step HX.out hb); have HFI := Lib.hid hf; have HO := Lib.hid ((hO.alloc (.cells #[.int .i64 f.org, .int .i64 f.nd, .slice A n c] 44)).alloc (.cells #[.int .i64 f.org, .int .i64 f.nd, .slice A n c] 44)); have HQ := Lib.hid hQ; have HB8 : Hid (Blk (w1.alloc (.cells #[.int .i64 f.org, .int .i64 f.nd, .slice A n c] 44)) w1.heap.size 44 [.int .i64 f.org, .int .i64 f.nd, .slice A n c]) := Lib.hid (Blk.fresh rfl rfl); clear hb ho hf hO hQ)
              | (refine wpList_load_blk rfl 44 (.tmp 8) rfl w1.heap.size rfl 44 [.int .i64 f.org, .int .i64 f.nd, .slice A n c] _ HB8.out Tryz.underlying44 rfl (by kernel_rfl) ?_)
              | (refine wpList_build_fm rfl (.tmp 30) rfl [.int .i64 f.org, .int .i64 f.nd, .slice A n c] rfl rfl ?_)
              | (at_builtin; refine wpList_append_lies _ rfl (.tmp 29) (.tmp 31) 42 rfl w.heap.size 44 i0 _ 3 40 Tryz.underlying42 hi hz0 hz1 hz2 rfl (by decide) ov l.length xs rfl HO.out ⟨(w1.alloc (.cells #[.int .i64 f.org, .int .i64 f.nd, .slice A n c] 44)).heap.size, 0, none⟩ 1 1 [.int .i64 f.org, .int .i64 f.nd, .slice A n c] rfl rfl (row_cell' (w := (w1.alloc (.cells #[.int .i64 f.org, .int .i64 f.nd, .slice A n c] 44)).alloc (.cells #[.int .i64 f.org, .int .i64 f.nd, .slice A n c] 44)) (Blk.fresh rfl rfl)) (fun u hu => by simp at hu; rcases hu with rfl | rfl | rfl <;> rfl) (by omega) (by unfold maxLen; omega) (by omega) (by have := HX1.out.size; simp; omega) _ rfl ?_; intro gk cap w4 ho4 hg4 hat hlt; have HK4 := Lib.hid (Kids.snoc HFI.out HX.out.size HOB.out ((Below.refl w1.heap.size w1).alloc (Nat.le_refl _) (.cells #[.int .i64 f.org, .int .i64 f.nd, .slice A n c] 44) |>.alloc (by simp) (.cells #[.int .i64 f.org, .int .i64 f.nd, .slice A n c] 44)) HQ.out ho4 hg4 hat); have HX4 : Hid (Below w.heap.size w w4) := Lib.hid ((((HX1.out.alloc (by have := HX1.out.size; omega) (.cells #[.int .i64 f.org, .int .i64 f.nd, .slice A n c] 44)).alloc (by have := HX1.out.size; simp; omega) (.cells #[.int .i64 f.org, .int .i64 f.nd, .slice A n c] 44)).grown hg4 (by have := HX1.out.size; simp; omega) (fun k hk => (HO.out.lt k hk).1))); clear ho4 hg4 hat hlt)
              | (go_at_call 27; (with_reducible refine (bare_any _ _).mono ?_); rintro e w5 ⟨rfl, rfl⟩)
              | (go_at_call 45; (with_reducible refine (HG.out _ _ _).mono ?_); rintro e w5 ⟨rfl, rfl⟩; (try rw [h41]); (try rw [h44])))
              go_region
              go_wp2
              (try simp only [Exit.inBlock, Exit.then]); refine bodyPost_ret (results_tmp3 rfl _ _ _) rfl ?_
              exact ⟨RowOut.mk_good (HF.out.trans (by rw [List.drop_one])) HK4.out.drew, HX4.out.drew⟩
            | false =>
              rw [h41, if_neg (by simp)] at hL
              cases h44 : begP [44] (bareP r) with
              | true =>
                rw [h44, if_pos rfl] at hL
                have hfin : rowP (polP k) t = preP (l ++ [f]) (loopP (polP k) m (bareP r)) := by
                  rw [hrw.out, hL]
                  cases loopP (polP k) m (bareP r) with
                  | none => rfl
                  | some q => simp [preP]
                have HF := Lib.hid hfin
                have hsp := begP_split h44
                have h1b : 1 ≤ (bareP r).length := by rw [hsp]; simp
                clear hfin hL hrw hsp
                go_wp2_with (first
              | (go_at_call 26; (with_reducible refine (HC.out _).mono ?_); rintro e w1 ⟨ho, hb⟩; obtain ⟨A, n, c, rfl, hf⟩ := PolOut.good ho HPp.out; obtain ⟨xs, hO, hQ⟩ := HK.out.through hb; have HXb := Lib.hid hb; have HX1 := Lib.hid (below_step HX.out hb); have HFI := Lib.hid hf; have HO := Lib.hid ((hO.alloc (.cells #[.int .i64 f.org, .int .i64 f.nd, .slice A n c] 44)).alloc (.cells #[.int .i64 f.org, .int .i64 f.nd, .slice A n c] 44)); have HQ := Lib.hid hQ; have HB8 : Hid (Blk (w1.alloc (.cells #[.int .i64 f.org, .int .i64 f.nd, .slice A n c] 44)) w1.heap.size 44 [.int .i64 f.org, .int .i64 f.nd, .slice A n c]) := Lib.hid (Blk.fresh rfl rfl); clear hb ho hf hO hQ)
              | (refine wpList_load_blk rfl 44 (.tmp 8) rfl w1.heap.size rfl 44 [.int .i64 f.org, .int .i64 f.nd, .slice A n c] _ HB8.out Tryz.underlying44 rfl (by kernel_rfl) ?_)
              | (refine wpList_build_fm rfl (.tmp 30) rfl [.int .i64 f.org, .int .i64 f.nd, .slice A n c] rfl rfl ?_)
              | (at_builtin; refine wpList_append_lies _ rfl (.tmp 29) (.tmp 31) 42 rfl w.heap.size 44 i0 _ 3 40 Tryz.underlying42 hi hz0 hz1 hz2 rfl (by decide) ov l.length xs rfl HO.out ⟨(w1.alloc (.cells #[.int .i64 f.org, .int .i64 f.nd, .slice A n c] 44)).heap.size, 0, none⟩ 1 1 [.int .i64 f.org, .int .i64 f.nd, .slice A n c] rfl rfl (row_cell' (w := (w1.alloc (.cells #[.int .i64 f.org, .int .i64 f.nd, .slice A n c] 44)).alloc (.cells #[.int .i64 f.org, .int .i64 f.nd, .slice A n c] 44)) (Blk.fresh rfl rfl)) (fun u hu => by simp at hu; rcases hu with rfl | rfl | rfl <;> rfl) (by omega) (by unfold maxLen; omega) (by omega) (by have := HX1.out.size; simp; omega) _ rfl ?_; intro gk cap w4 ho4 hg4 hat hlt; have HK4 := Lib.hid (Kids.snoc HFI.out HX.out.size HOB.out ((Below.refl w1.heap.size w1).alloc (Nat.le_refl _) (.cells #[.int .i64 f.org, .int .i64 f.nd, .slice A n c] 44) |>.alloc (by simp) (.cells #[.int .i64 f.org, .int .i64 f.nd, .slice A n c] 44)) HQ.out ho4 hg4 hat); have HX4 : Hid (Below w.heap.size w w4) := Lib.hid ((((HX1.out.alloc (by have := HX1.out.size; omega) (.cells #[.int .i64 f.org, .int .i64 f.nd, .slice A n c] 44)).alloc (by have := HX1.out.size; simp; omega) (.cells #[.int .i64 f.org, .int .i64 f.nd, .slice A n c] 44)).grown hg4 (by have := HX1.out.size; simp; omega) (fun k hk => (HO.out.lt k hk).1))); clear ho4 hg4 hat hlt)
              | (go_at_call 27; (with_reducible refine (bare_any _ _).mono ?_); rintro e w5 ⟨rfl, rfl⟩)
              | (go_at_call 45; (with_reducible refine (HG.out _ _ _).mono ?_); rintro e w5 ⟨rfl, rfl⟩; (try rw [h41]); (try rw [h44])))
                go_round
                case rel => exact ⟨bareP r, l ++ [f], m, _, rfl, rfl, h1b, by omega, by simp; omega, HK4.out, HX4.out, HF⟩
                case measure => simp [ba_size]; omega
              | false =>
                rw [h44, if_neg (by simp)] at hL
                have hfin : rowP (polP k) t = none := by rw [hrw.out, hL]; rfl
                have HF := Lib.hid hfin
                clear hfin hL hrw
                go_wp2_with (first
              | (go_at_call 26; (with_reducible refine (HC.out _).mono ?_); rintro e w1 ⟨ho, hb⟩; obtain ⟨A, n, c, rfl, hf⟩ := PolOut.good ho HPp.out; obtain ⟨xs, hO, hQ⟩ := HK.out.through hb; have HXb := Lib.hid hb; have HX1 := Lib.hid (below_step HX.out hb); have HFI := Lib.hid hf; have HO := Lib.hid ((hO.alloc (.cells #[.int .i64 f.org, .int .i64 f.nd, .slice A n c] 44)).alloc (.cells #[.int .i64 f.org, .int .i64 f.nd, .slice A n c] 44)); have HQ := Lib.hid hQ; have HB8 : Hid (Blk (w1.alloc (.cells #[.int .i64 f.org, .int .i64 f.nd, .slice A n c] 44)) w1.heap.size 44 [.int .i64 f.org, .int .i64 f.nd, .slice A n c]) := Lib.hid (Blk.fresh rfl rfl); clear hb ho hf hO hQ)
              | (refine wpList_load_blk rfl 44 (.tmp 8) rfl w1.heap.size rfl 44 [.int .i64 f.org, .int .i64 f.nd, .slice A n c] _ HB8.out Tryz.underlying44 rfl (by kernel_rfl) ?_)
              | (refine wpList_build_fm rfl (.tmp 30) rfl [.int .i64 f.org, .int .i64 f.nd, .slice A n c] rfl rfl ?_)
              | (at_builtin; refine wpList_append_lies _ rfl (.tmp 29) (.tmp 31) 42 rfl w.heap.size 44 i0 _ 3 40 Tryz.underlying42 hi hz0 hz1 hz2 rfl (by decide) ov l.length xs rfl HO.out ⟨(w1.alloc (.cells #[.int .i64 f.org, .int .i64 f.nd, .slice A n c] 44)).heap.size, 0, none⟩ 1 1 [.int .i64 f.org, .int .i64 f.nd, .slice A n c] rfl rfl (row_cell' (w := (w1.alloc (.cells #[.int .i64 f.org, .int .i64 f.nd, .slice A n c] 44)).alloc (.cells #[.int .i64 f.org, .int .i64 f.nd, .slice A n c] 44)) (Blk.fresh rfl rfl)) (fun u hu => by simp at hu; rcases hu with rfl | rfl | rfl <;> rfl) (by omega) (by unfold maxLen; omega) (by omega) (by have := HX1.out.size; simp; omega) _ rfl ?_; intro gk cap w4 ho4 hg4 hat hlt; have HK4 := Lib.hid (Kids.snoc HFI.out HX.out.size HOB.out ((Below.refl w1.heap.size w1).alloc (Nat.le_refl _) (.cells #[.int .i64 f.org, .int .i64 f.nd, .slice A n c] 44) |>.alloc (by simp) (.cells #[.int .i64 f.org, .int .i64 f.nd, .slice A n c] 44)) HQ.out ho4 hg4 hat); have HX4 : Hid (Below w.heap.size w w4) := Lib.hid ((((HX1.out.alloc (by have := HX1.out.size; omega) (.cells #[.int .i64 f.org, .int .i64 f.nd, .slice A n c] 44)).alloc (by have := HX1.out.size; simp; omega) (.cells #[.int .i64 f.org, .int .i64 f.nd, .slice A n c] 44)).grown hg4 (by have := HX1.out.size; simp; omega) (fun k hk => (HO.out.lt k hk).1))); clear ho4 hg4 hat hlt)
              | (go_at_call 27; (with_reducible refine (bare_any _ _).mono ?_); rintro e w5 ⟨rfl, rfl⟩)
              | (go_at_call 45; (with_reducible refine (HG.out _ _ _).mono ?_); rintro e w5 ⟨rfl, rfl⟩; (try rw [h41]); (try rw [h44])))
                (try simp only [Exit.inBlock, Exit.then]); refine bodyPost_ret (results_tmp3 rfl _ _ _) rfl ?_
                exact ⟨RowOut.mk_bad HF.out, HX4.out⟩
end

section
open Go.RowKit
theorem results_cell_row_tmp2 {P : Program} {fn : Func} {p u v : Tmp} {ty : TypeId} (h : fn.results = #[.cell p ty, .tmp u, .tmp v]) (tmps : Array Value) (w : World) (g : Nat) (t : TypeId) (cs : Array Value) (fr : Nat × Nat) (d : TypeDesc)
    (hp : tmps.getD p undef = .pointer (some ⟨g, 0, none⟩)) (hg : w.heap[g]? = some (.cells cs t fr))
    (hu : P.underlying ty = some d) (hd : (match d with | .struct _ | .array _ _ => true | _ => false) = true) (hi : (P.info? ty).map (·.size) = some cs.size) :
    (results fn tmps).run P w = .ok (.tuple #[.agg cs, tmps.getD u undef, tmps.getD v undef]) w := by
  have hp' : tmps[p]?.getD undef = .pointer (some ⟨g, 0, none⟩) := by simpa using hp
  simp [results, h, hp', asAddr, run_loadVar_row w g t ty cs fr d hg hu hd hi]
/-- What lies from C on stands, where a block below C alone is turned. -/
theorem Fm.In.past {w w' : World} {f : Fm} {A : Option Addr} {n C g : Nat} (h : f.In w (C ≤ ·) A n) (hb : w.grownBy w' (some g)) (hg : g < C) : f.In w' (C ≤ ·) A n :=
  Fm.In.weak (fun _ h _ => h.1) f A n (Fm.In.keep (fun k hk => hb.block k hk.2 (fun e => by have := Option.some.inj e; omega)) f A n h.lt)
theorem Fm.In.from_ {w : World} {f : Fm} {A : Option Addr} {n B C : Nat} (h : f.In w (C ≤ ·) A n) (hB : B ≤ C) : f.In w (B ≤ ·) A n :=
  Fm.In.weak (fun _ h _ => by omega) f A n h
theorem PolOut.mk_bad {B : Nat} {r : Option (Fm × List UInt8)} {w' : World} {o a : Int} {A : Option Addr} {n c : Nat} {s : ByteArray} (hr : r = none) : PolOut B r (.returned (.tuple #[.agg #[.int .i64 o, .int .i64 a, .slice A n c], .string s, .bool false])) w' := by
  subst hr; exact ⟨o, a, A, n, c, s, rfl⟩
theorem PolOut.mk_good {B : Nat} {r : Option (Fm × List UInt8)} {w' : World} {o a : Int} {ks : List Fm} {A : Option Addr} {n c : Nat} {t : List UInt8} (hr : r = some (.mk o a ks, t)) (h : (Fm.mk o a ks).In w' (B ≤ ·) A n) : PolOut B r (.returned (.tuple #[.agg #[.int .i64 o, .int .i64 a, .slice A n c], .string (ba t), .bool true])) w' := by
  subst hr; exact ⟨A, n, c, rfl, h⟩
theorem below_block {B : Nat} {v w w' : World} {g : Nat} (h : Below B v w) (hg : w.grownBy w' (some g)) (hB : B ≤ g) (hv : B ≤ v.heap.size) : Below B v w' :=
  h.grown hg (by have := h.size; omega) (fun k hk => by have := Option.some.inj hk; omega)

theorem one3 (a b : Int) (A : Option Addr) (n c : Nat) : ([Value.int .i64 a, .int .i64 b, .slice A n c].toArray).all (·.oneCell') = true := by kernel_rfl
theorem valP_4 {l : List UInt8} (h : ∀ x, x ∈ l → isDg x = true) (h4 : l.length ≤ 4) : valP 0 l ≤ 9999 := by
  have h1 := valP_lt l 0 1 h (by omega)
  have h2 : 10 ^ l.length ≤ 10 ^ 4 := Nat.pow_le_pow_right (by omega) h4
  omega
theorem numP_lt {t r : List UInt8} {v : Nat} (h : numP t = some (v, r)) : v ≤ 9999 := by
  rw [numP_of rfl] at h
  split at h
  · cases h
  · injection h with h
    injection h with h1 _
    rw [← h1]
    exact valP_4 (fun x hx => digP_mem hx) (by omega)

set_option maxHeartbeats 8000000 in
set_option maxRecDepth 100000 in
theorem pol_step (k : Nat) (d : Int) (hd : 0 ≤ d ∧ d ≤ 10)
    (hP : ∀ (t : List UInt8) (w : World), t.length ≤ 1000 → Calls Tryz.prog 26 #[.string (ba t), .int .i64 (d + 1)] w fun e w' => PolOut w.heap.size (polP k t) e w' ∧ Below w.heap.size w w')
    (t : List UInt8) (w : World) (ht : t.length ≤ 1000) :
    Calls Tryz.prog 26 #[.string (ba t), .int .i64 d] w fun e w' => PolOut w.heap.size (polP (k + 1) t) e w' ∧ Below w.heap.size w w' := by
  have hpol := polP_succ k t
  have hbl := bareP_len t
  have hrow : ∀ u W, u.length ≤ 1000 → Calls Tryz.prog 46 #[.string (ba u), .int .i64 d] W fun e w' => RowOut W.heap.size (rowP (polP k) u) e w' ∧ Below W.heap.size W w' := fun u W hu => row_any k d hd hP u W hu
  have HRow := Lib.hid hrow
  have hba : ∀ t W, Calls Tryz.prog 45 #[.string (ba t), .string ⟨#[97, 108, 108]⟩] W fun e w' => e = .returned (.bool (begP [97, 108, 108] t)) ∧ W = w' := fun t W => begins_any t [97, 108, 108] W
  have hbn : ∀ t W, Calls Tryz.prog 45 #[.string (ba t), .string ⟨#[97, 110, 121]⟩] W fun e w' => e = .returned (.bool (begP [97, 110, 121] t)) ∧ W = w' := fun t W => begins_any t [97, 110, 121] W
  have hbo : ∀ t W, Calls Tryz.prog 45 #[.string (ba t), .string ⟨#[111, 102]⟩] W fun e w' => e = .returned (.bool (begP [111, 102] t)) ∧ W = w' := fun t W => begins_any t [111, 102] W
  have HBA := Lib.hid hba
  have HBN := Lib.hid hbn
  have HBO := Lib.hid hbo
  have HX : Hid (Below w.heap.size w (w.alloc (.cells #[.int .i64 0, .int .i64 0, .slice none 0 0] 44))) := Lib.hid ((Below.refl _ w).alloc (Nat.le_refl _) _)
  have HB : Hid (Blk (w.alloc (.cells #[.int .i64 0, .int .i64 0, .slice none 0 0] 44)) w.heap.size 44 [.int .i64 0, .int .i64 0, .slice none 0 0]) := Lib.hid (Blk.fresh rfl rfl)
  have hbare := bare_any t
  obtain ⟨b, hb⟩ : ∃ b, bareP t = b := ⟨_, rfl⟩
  rw [hb] at hpol hbl hbare
  have HBare := Lib.hid hbare
  clear hba hbn hbo hrow hP hbare hb
  go_enter Tryz.func26, Tryz.ntmps26
  cases hall : begP [97, 108, 108] b with
  | true =>
    rw [hall, if_pos rfl] at hpol
    have hl3 := begP_len hall
    simp only [List.length_cons, List.length_nil] at hl3
    have hsl := run_from_ba Tryz.underlying9 b .i64 3 3 rfl (by omega)
    have hrw := fun W => HRow.out (b.drop 3) W (by rw [List.length_drop]; omega)
    have HR := Lib.hid hrw
    clear hrw
    cases hr : rowP (polP k) (b.drop 3) with
    | none =>
      rw [hr] at hpol
      simp only at hpol
      have HRp := Lib.hid hr
      clear hr
      have hfin : polP (k + 1) t = none := hpol
      have HFin := Lib.hid hfin
      clear hfin hpol
      go_wp2_with (first
        | (go_at_call 27; (with_reducible refine (HBare.out _).mono ?_); rintro e w5 ⟨rfl, rfl⟩)
        | (go_at_call 45; (with_reducible refine (HBA.out _ _).mono ?_); rintro e w5 ⟨rfl, rfl⟩; (try rw [hall]))
        | (go_at_call 46; (with_reducible refine (HR.out _).mono ?_); rintro e w1 ⟨ho, hb⟩; obtain ⟨A, n, c, s, rfl⟩ := RowOut.bad ho HRp.out; have HX1 := Lib.hid (below_step HX.out hb); have HB := Lib.hid (HB.out.through hb); clear hb ho)
        | (refine wpList_store_blk rfl 44 (.tmp 4) (.tmp 42) rfl w.heap.size [.int .i64 0, .int .i64 (n : Int), .slice A n c] rfl rfl 44 [.int .i64 0, .int .i64 0, .slice none 0 0] HB.out (by kernel_rfl) rfl (one3 _ _ _ _ _) ?_; intro wr hbr hgr; have HBr := Lib.hid hbr; have HGr := Lib.hid hgr; clear hbr hgr))
      (try simp only [Exit.inBlock, Exit.then]); refine bodyPost_ret (results_cell_row_tmp2 rfl _ _ w.heap.size 44 _ (0, 0) _ rfl HBr.out Tryz.underlying44 rfl (by kernel_rfl)) rfl ?_
      exact ⟨PolOut.mk_bad HFin.out, below_block HX1.out HGr.out (Nat.le_refl _) (Nat.le_refl _)⟩
    | some q =>
      obtain ⟨l, r⟩ := q
      rw [hr] at hpol
      simp only at hpol
      have HRp := Lib.hid hr
      clear hr
      have hfin : polP (k + 1) t = some (.mk 0 (l.length : Int) l, r) := hpol
      have HFin := Lib.hid hfin
      clear hfin hpol
      go_wp2_with (first
        | (go_at_call 27; (with_reducible refine (HBare.out _).mono ?_); rintro e w5 ⟨rfl, rfl⟩)
        | (go_at_call 45; (with_reducible refine (HBA.out _ _).mono ?_); rintro e w5 ⟨rfl, rfl⟩; (try rw [hall]))
        | (go_at_call 46; (with_reducible refine (HR.out _).mono ?_); rintro e w1 ⟨ho, hb⟩; obtain ⟨A, c, rfl, hin⟩ := RowOut.good ho HRp.out; have HLt := Lib.hid HB.out.lt; have HX1 := Lib.hid (below_step HX.out hb); have HB := Lib.hid (HB.out.through hb); have HIN := Lib.hid hin; clear hb ho hin)
        | (refine wpList_store_blk rfl 44 (.tmp 4) (.tmp 42) rfl w.heap.size [.int .i64 0, .int .i64 (l.length : Int), .slice A l.length c] rfl rfl 44 [.int .i64 0, .int .i64 0, .slice none 0 0] HB.out (by kernel_rfl) rfl (one3 _ _ _ _ _) ?_; intro wr hbr hgr; have HBr := Lib.hid hbr; have HGr := Lib.hid hgr; clear hbr hgr))
      (try simp only [Exit.inBlock, Exit.then]); refine bodyPost_ret (results_cell_row_tmp2 rfl _ _ w.heap.size 44 _ (0, 0) _ rfl HBr.out Tryz.underlying44 rfl (by kernel_rfl)) rfl ?_
      exact ⟨PolOut.mk_good HFin.out (((HIN.out _ _).past HGr.out HLt.out).from_ (Nat.le_of_lt HLt.out)), below_block HX1.out HGr.out (Nat.le_refl _) (Nat.le_refl _)⟩
  | false =>
    rw [hall, if_neg (by simp)] at hpol
    cases hany : begP [97, 110, 121] b with
    | true =>
      rw [hany, if_pos rfl] at hpol
      have hl3 := begP_len hany
      simp only [List.length_cons, List.length_nil] at hl3
      have hsl := run_from_ba Tryz.underlying9 b .i64 3 3 rfl (by omega)
      have hrw := fun W => HRow.out (b.drop 3) W (by rw [List.length_drop]; omega)
      have HR := Lib.hid hrw
      clear hrw
      cases hr : rowP (polP k) (b.drop 3) with
      | none =>
        rw [hr] at hpol
        simp only at hpol
        have HRp := Lib.hid hr
        clear hr
        have hfin : polP (k + 1) t = none := hpol
        have HFin := Lib.hid hfin
        clear hfin hpol
        go_wp2_with (first
          | (go_at_call 27; (with_reducible refine (HBare.out _).mono ?_); rintro e w5 ⟨rfl, rfl⟩)
          | (go_at_call 45; (with_reducible refine (HBA.out _ _).mono ?_); rintro e w5 ⟨rfl, rfl⟩; (try rw [hall]))
          | (go_at_call 45; (with_reducible refine (HBN.out _ _).mono ?_); rintro e w5 ⟨rfl, rfl⟩; (try rw [hany]))
          | (go_at_call 46; (with_reducible refine (HR.out _).mono ?_); rintro e w1 ⟨ho, hb⟩; obtain ⟨A, n, c, s, rfl⟩ := RowOut.bad ho HRp.out; have HX1 := Lib.hid (below_step HX.out hb); have HB := Lib.hid (HB.out.through hb); clear hb ho)
          | (refine wpList_store_blk rfl 44 (.tmp 4) (.tmp 42) rfl w.heap.size [.int .i64 0, .int .i64 1, .slice A n c] rfl rfl 44 [.int .i64 0, .int .i64 0, .slice none 0 0] HB.out (by kernel_rfl) rfl (one3 _ _ _ _ _) ?_; intro wr hbr hgr; have HBr := Lib.hid hbr; have HGr := Lib.hid hgr; clear hbr hgr))
        (try simp only [Exit.inBlock, Exit.then]); refine bodyPost_ret (results_cell_row_tmp2 rfl _ _ w.heap.size 44 _ (0, 0) _ rfl HBr.out Tryz.underlying44 rfl (by kernel_rfl)) rfl ?_
        exact ⟨PolOut.mk_bad HFin.out, below_block HX1.out HGr.out (Nat.le_refl _) (Nat.le_refl _)⟩
      | some q =>
        obtain ⟨l, r⟩ := q
        rw [hr] at hpol
        simp only at hpol
        have HRp := Lib.hid hr
        clear hr
        have hfin : polP (k + 1) t = some (.mk 0 1 l, r) := hpol
        have HFin := Lib.hid hfin
        clear hfin hpol
        go_wp2_with (first
          | (go_at_call 27; (with_reducible refine (HBare.out _).mono ?_); rintro e w5 ⟨rfl, rfl⟩)
          | (go_at_call 45; (with_reducible refine (HBA.out _ _).mono ?_); rintro e w5 ⟨rfl, rfl⟩; (try rw [hall]))
          | (go_at_call 45; (with_reducible refine (HBN.out _ _).mono ?_); rintro e w5 ⟨rfl, rfl⟩; (try rw [hany]))
          | (go_at_call 46; (with_reducible refine (HR.out _).mono ?_); rintro e w1 ⟨ho, hb⟩; obtain ⟨A, c, rfl, hin⟩ := RowOut.good ho HRp.out; have HLt := Lib.hid HB.out.lt; have HX1 := Lib.hid (below_step HX.out hb); have HB := Lib.hid (HB.out.through hb); have HIN := Lib.hid hin; clear hb ho hin)
          | (refine wpList_store_blk rfl 44 (.tmp 4) (.tmp 42) rfl w.heap.size [.int .i64 0, .int .i64 1, .slice A l.length c] rfl rfl 44 [.int .i64 0, .int .i64 0, .slice none 0 0] HB.out (by kernel_rfl) rfl (one3 _ _ _ _ _) ?_; intro wr hbr hgr; have HBr := Lib.hid hbr; have HGr := Lib.hid hgr; clear hbr hgr))
        (try simp only [Exit.inBlock, Exit.then]); refine bodyPost_ret (results_cell_row_tmp2 rfl _ _ w.heap.size 44 _ (0, 0) _ rfl HBr.out Tryz.underlying44 rfl (by kernel_rfl)) rfl ?_
        exact ⟨PolOut.mk_good HFin.out (((HIN.out _ _).past HGr.out HLt.out).from_ (Nat.le_of_lt HLt.out)), below_block HX1.out HGr.out (Nat.le_refl _) (Nat.le_refl _)⟩
    | false =>
      rw [hany, if_neg (by simp)] at hpol
      have hnum := number_any b (by omega)
      cases hn : numP b with
      | none =>
        rw [hn] at hpol
        simp only at hpol
        have e1 : numVT b = 0 := by unfold numVT; rw [hn]
        have e2 : numR b = b := by unfold numR; rw [hn]
        have e3 : numO b = false := by unfold numO; rw [hn]; rfl
        rw [e1, e2, e3] at hnum
        have HN := Lib.hid hnum
        clear hnum e1 e2 e3 hn
        have hfin : polP (k + 1) t = none := hpol
        have HFin := Lib.hid hfin
        clear hfin hpol
        go_wp2_with (first
          | (go_at_call 27; (with_reducible refine (HBare.out _).mono ?_); rintro e w5 ⟨rfl, rfl⟩)
          | (go_at_call 45; (with_reducible refine (HBA.out _ _).mono ?_); rintro e w5 ⟨rfl, rfl⟩; (try rw [hall]))
          | (go_at_call 45; (with_reducible refine (HBN.out _ _).mono ?_); rintro e w5 ⟨rfl, rfl⟩; (try rw [hany]))
          | (go_at_call 47; (with_reducible refine (HN.out _).mono ?_); rintro e w9 ⟨rfl, hb⟩; have HX := Lib.hid (below_step HX.out hb); have HB := Lib.hid (HB.out.through hb); clear hb)
          | (refine wpList_store_blk rfl 44 (.tmp 4) (.tmp 53) rfl w.heap.size [.int .i64 0, .int .i64 0, .slice none 0 0] rfl rfl 44 [.int .i64 0, .int .i64 0, .slice none 0 0] HB.out (by kernel_rfl) rfl (one3 _ _ _ _ _) ?_; intro wr hbr hgr; have HBr := Lib.hid hbr; have HGr := Lib.hid hgr; clear hbr hgr))
        (try simp only [Exit.inBlock, Exit.then]); refine bodyPost_ret (results_cell_row_tmp2 rfl _ _ w.heap.size 44 _ (0, 0) _ rfl HBr.out Tryz.underlying44 rfl (by kernel_rfl)) rfl ?_
        exact ⟨PolOut.mk_bad HFin.out, below_block HX.out HGr.out (Nat.le_refl _) (Nat.le_refl _)⟩
      | some q =>
        obtain ⟨v, rest⟩ := q
        rw [hn] at hpol
        simp only at hpol
        have e1 : numVT b = (v : Int) := by unfold numVT; rw [hn]
        have e2 : numR b = rest := by unfold numR; rw [hn]
        have e3 : numO b = true := by unfold numO; rw [hn]; rfl
        rw [e1, e2, e3] at hnum
        have HN := Lib.hid hnum
        have hnl := numP_len hn
        have hv4 : v ≤ 9999 := numP_lt hn
        clear hnum e1 e2 e3 hn
        have hbl2 := bareP_len rest
        have hbare2 := bare_any rest
        obtain ⟨b2, hb2⟩ : ∃ b2, bareP rest = b2 := ⟨_, rfl⟩
        rw [hb2] at hpol hbl2 hbare2
        have HBare2 := Lib.hid hbare2
        clear hbare2 hb2
        cases hof : begP [111, 102] b2 with
        | false =>
          rw [hof, if_neg (by simp)] at hpol
          have hfin : polP (k + 1) t = some (.mk v 0 [], rest) := hpol
          have HFin := Lib.hid hfin
          clear hfin hpol
          go_wp2_with (first
            | (go_at_call 27; (with_reducible refine (HBare.out _).mono ?_); rintro e w5 ⟨rfl, rfl⟩)
            | (go_at_call 45; (with_reducible refine (HBA.out _ _).mono ?_); rintro e w5 ⟨rfl, rfl⟩; (try rw [hall]))
            | (go_at_call 45; (with_reducible refine (HBN.out _ _).mono ?_); rintro e w5 ⟨rfl, rfl⟩; (try rw [hany]))
            | (go_at_call 47; (with_reducible refine (HN.out _).mono ?_); rintro e w9 ⟨rfl, hb⟩; have HX := Lib.hid (below_step HX.out hb); have HB := Lib.hid (HB.out.through hb); clear hb)
            | (go_at_call 27; (with_reducible refine (HBare2.out _).mono ?_); rintro e w5 ⟨rfl, rfl⟩)
            | (go_at_call 45; (with_reducible refine (HBO.out _ _).mono ?_); rintro e w5 ⟨rfl, rfl⟩; (try rw [hof]))
            | (refine wpList_store_blk rfl 44 (.tmp 4) (.tmp 60) rfl w.heap.size [.int .i64 (v : Int), .int .i64 0, .slice none 0 0] rfl rfl 44 [.int .i64 0, .int .i64 0, .slice none 0 0] HB.out (by kernel_rfl) rfl (one3 _ _ _ _ _) ?_; intro wr hbr hgr; have HBr := Lib.hid hbr; have HGr := Lib.hid hgr; clear hbr hgr))
          (try simp only [Exit.inBlock, Exit.then]); refine bodyPost_ret (results_cell_row_tmp2 rfl _ _ w.heap.size 44 _ (0, 0) _ rfl HBr.out Tryz.underlying44 rfl (by kernel_rfl)) rfl ?_
          exact ⟨PolOut.mk_good HFin.out (⟨rfl, by omega, fun h0 => absurd h0 (by omega)⟩), below_block HX.out HGr.out (Nat.le_refl _) (Nat.le_refl _)⟩
        | true =>
          rw [hof, if_pos rfl] at hpol
          have hl2 := begP_len hof
          simp only [List.length_cons, List.length_nil] at hl2
          have hsl := run_from_ba Tryz.underlying9 b2 .i64 2 2 rfl (by omega)
          have hrw := fun W => HRow.out (b2.drop 2) W (by rw [List.length_drop]; omega)
          have HR := Lib.hid hrw
          clear hrw
          cases hr : rowP (polP k) (b2.drop 2) with
          | none =>
            rw [hr] at hpol
            simp only at hpol
            have HRp := Lib.hid hr
            clear hr
            have hfin : polP (k + 1) t = none := hpol
            have HFin := Lib.hid hfin
            clear hfin hpol
            go_wp2_with (first
              | (go_at_call 27; (with_reducible refine (HBare.out _).mono ?_); rintro e w5 ⟨rfl, rfl⟩)
              | (go_at_call 45; (with_reducible refine (HBA.out _ _).mono ?_); rintro e w5 ⟨rfl, rfl⟩; (try rw [hall]))
              | (go_at_call 45; (with_reducible refine (HBN.out _ _).mono ?_); rintro e w5 ⟨rfl, rfl⟩; (try rw [hany]))
              | (go_at_call 47; (with_reducible refine (HN.out _).mono ?_); rintro e w9 ⟨rfl, hb⟩; have HX := Lib.hid (below_step HX.out hb); have HB := Lib.hid (HB.out.through hb); clear hb)
              | (go_at_call 27; (with_reducible refine (HBare2.out _).mono ?_); rintro e w5 ⟨rfl, rfl⟩)
              | (go_at_call 45; (with_reducible refine (HBO.out _ _).mono ?_); rintro e w5 ⟨rfl, rfl⟩; (try rw [hof]))
              | (go_at_call 46; (with_reducible refine (HR.out _).mono ?_); rintro e w1 ⟨ho, hb⟩; obtain ⟨A, n, c, s, rfl⟩ := RowOut.bad ho HRp.out; have HX1 := Lib.hid (below_step HX.out hb); have HB := Lib.hid (HB.out.through hb); clear hb ho)
              | (refine wpList_store_blk rfl 44 (.tmp 4) (.tmp 73) rfl w.heap.size [.int .i64 0, .int .i64 (v : Int), .slice A n c] rfl rfl 44 [.int .i64 0, .int .i64 0, .slice none 0 0] HB.out (by kernel_rfl) rfl (one3 _ _ _ _ _) ?_; intro wr hbr hgr; have HBr := Lib.hid hbr; have HGr := Lib.hid hgr; clear hbr hgr))
            (try simp only [Exit.inBlock, Exit.then]); refine bodyPost_ret (results_cell_row_tmp2 rfl _ _ w.heap.size 44 _ (0, 0) _ rfl HBr.out Tryz.underlying44 rfl (by kernel_rfl)) rfl ?_
            exact ⟨PolOut.mk_bad HFin.out, below_block HX1.out HGr.out (Nat.le_refl _) (Nat.le_refl _)⟩
          | some q =>
            obtain ⟨l, r⟩ := q
            rw [hr] at hpol
            simp only at hpol
            have HRp := Lib.hid hr
            clear hr
            by_cases hv1 : 1 ≤ v
            · by_cases hv2 : v ≤ 99
              · rw [if_pos ⟨hv1, hv2⟩] at hpol
                have hv5 : decide ((v : Int) ≤ 99) = true := by simp; omega
                have hfin : polP (k + 1) t = some (.mk 0 v l, r) := hpol
                have HFin := Lib.hid hfin
                clear hfin hpol
                go_wp2_with (first
                  | (go_at_call 27; (with_reducible refine (HBare.out _).mono ?_); rintro e w5 ⟨rfl, rfl⟩)
                  | (go_at_call 45; (with_reducible refine (HBA.out _ _).mono ?_); rintro e w5 ⟨rfl, rfl⟩; (try rw [hall]))
                  | (go_at_call 45; (with_reducible refine (HBN.out _ _).mono ?_); rintro e w5 ⟨rfl, rfl⟩; (try rw [hany]))
                  | (go_at_call 47; (with_reducible refine (HN.out _).mono ?_); rintro e w9 ⟨rfl, hb⟩; have HX := Lib.hid (below_step HX.out hb); have HB := Lib.hid (HB.out.through hb); clear hb)
                  | (go_at_call 27; (with_reducible refine (HBare2.out _).mono ?_); rintro e w5 ⟨rfl, rfl⟩)
                  | (go_at_call 45; (with_reducible refine (HBO.out _ _).mono ?_); rintro e w5 ⟨rfl, rfl⟩; (try rw [hof]))
                  | (go_at_call 46; (with_reducible refine (HR.out _).mono ?_); rintro e w1 ⟨ho, hb⟩; obtain ⟨A, c, rfl, hin⟩ := RowOut.good ho HRp.out; have HLt := Lib.hid HB.out.lt; have HX1 := Lib.hid (below_step HX.out hb); have HB := Lib.hid (HB.out.through hb); have HIN := Lib.hid hin; clear hb ho hin)
                  | (refine wpList_store_blk rfl 44 (.tmp 4) (.tmp 73) rfl w.heap.size [.int .i64 0, .int .i64 (v : Int), .slice A l.length c] rfl rfl 44 [.int .i64 0, .int .i64 0, .slice none 0 0] HB.out (by kernel_rfl) rfl (one3 _ _ _ _ _) ?_; intro wr hbr hgr; have HBr := Lib.hid hbr; have HGr := Lib.hid hgr; clear hbr hgr))
                (try simp only [Exit.inBlock, Exit.then]); refine bodyPost_ret (results_cell_row_tmp2 rfl _ _ w.heap.size 44 _ (0, 0) _ rfl HBr.out Tryz.underlying44 rfl (by kernel_rfl)) rfl ?_
                exact ⟨PolOut.mk_good HFin.out (((HIN.out _ _).past HGr.out HLt.out).from_ (Nat.le_of_lt HLt.out)), below_block HX1.out HGr.out (Nat.le_refl _) (Nat.le_refl _)⟩
              · rw [if_neg (fun h => hv2 h.2)] at hpol
                have hv3 : ¬ ((v : Int) ≤ 99) := by omega
                have hv4 : decide ((v : Int) ≤ 99) = false := by simp; omega
                have hfin : polP (k + 1) t = none := hpol
                have HFin := Lib.hid hfin
                clear hfin hpol
                go_wp2_with (first
                  | (go_at_call 27; (with_reducible refine (HBare.out _).mono ?_); rintro e w5 ⟨rfl, rfl⟩)
                  | (go_at_call 45; (with_reducible refine (HBA.out _ _).mono ?_); rintro e w5 ⟨rfl, rfl⟩; (try rw [hall]))
                  | (go_at_call 45; (with_reducible refine (HBN.out _ _).mono ?_); rintro e w5 ⟨rfl, rfl⟩; (try rw [hany]))
                  | (go_at_call 47; (with_reducible refine (HN.out _).mono ?_); rintro e w9 ⟨rfl, hb⟩; have HX := Lib.hid (below_step HX.out hb); have HB := Lib.hid (HB.out.through hb); clear hb)
                  | (go_at_call 27; (with_reducible refine (HBare2.out _).mono ?_); rintro e w5 ⟨rfl, rfl⟩)
                  | (go_at_call 45; (with_reducible refine (HBO.out _ _).mono ?_); rintro e w5 ⟨rfl, rfl⟩; (try rw [hof]))
                  | (go_at_call 46; (with_reducible refine (HR.out _).mono ?_); rintro e w1 ⟨ho, hb⟩; obtain ⟨A, c, rfl, hin⟩ := RowOut.good ho HRp.out; have HLt := Lib.hid HB.out.lt; have HX1 := Lib.hid (below_step HX.out hb); have HB := Lib.hid (HB.out.through hb); have HIN := Lib.hid hin; clear hb ho hin)
                  | (refine wpList_store_blk rfl 44 (.tmp 4) (.tmp 73) rfl w.heap.size [.int .i64 0, .int .i64 (v : Int), .slice A l.length c] rfl rfl 44 [.int .i64 0, .int .i64 0, .slice none 0 0] HB.out (by kernel_rfl) rfl (one3 _ _ _ _ _) ?_; intro wr hbr hgr; have HBr := Lib.hid hbr; have HGr := Lib.hid hgr; clear hbr hgr))
                (try simp only [Exit.inBlock, Exit.then]); refine bodyPost_ret (results_cell_row_tmp2 rfl _ _ w.heap.size 44 _ (0, 0) _ rfl HBr.out Tryz.underlying44 rfl (by kernel_rfl)) rfl ?_
                exact ⟨PolOut.mk_bad HFin.out, below_block HX1.out HGr.out (Nat.le_refl _) (Nat.le_refl _)⟩
            · rw [if_neg (fun h => hv1 h.1)] at hpol
              have hfin : polP (k + 1) t = none := hpol
              have HFin := Lib.hid hfin
              clear hfin hpol
              go_wp2_with (first
                | (go_at_call 27; (with_reducible refine (HBare.out _).mono ?_); rintro e w5 ⟨rfl, rfl⟩)
                | (go_at_call 45; (with_reducible refine (HBA.out _ _).mono ?_); rintro e w5 ⟨rfl, rfl⟩; (try rw [hall]))
                | (go_at_call 45; (with_reducible refine (HBN.out _ _).mono ?_); rintro e w5 ⟨rfl, rfl⟩; (try rw [hany]))
                | (go_at_call 47; (with_reducible refine (HN.out _).mono ?_); rintro e w9 ⟨rfl, hb⟩; have HX := Lib.hid (below_step HX.out hb); have HB := Lib.hid (HB.out.through hb); clear hb)
                | (go_at_call 27; (with_reducible refine (HBare2.out _).mono ?_); rintro e w5 ⟨rfl, rfl⟩)
                | (go_at_call 45; (with_reducible refine (HBO.out _ _).mono ?_); rintro e w5 ⟨rfl, rfl⟩; (try rw [hof]))
                | (go_at_call 46; (with_reducible refine (HR.out _).mono ?_); rintro e w1 ⟨ho, hb⟩; obtain ⟨A, c, rfl, hin⟩ := RowOut.good ho HRp.out; have HLt := Lib.hid HB.out.lt; have HX1 := Lib.hid (below_step HX.out hb); have HB := Lib.hid (HB.out.through hb); have HIN := Lib.hid hin; clear hb ho hin)
                | (refine wpList_store_blk rfl 44 (.tmp 4) (.tmp 73) rfl w.heap.size [.int .i64 0, .int .i64 (v : Int), .slice A l.length c] rfl rfl 44 [.int .i64 0, .int .i64 0, .slice none 0 0] HB.out (by kernel_rfl) rfl (one3 _ _ _ _ _) ?_; intro wr hbr hgr; have HBr := Lib.hid hbr; have HGr := Lib.hid hgr; clear hbr hgr))
              (try simp only [Exit.inBlock, Exit.then]); refine bodyPost_ret (results_cell_row_tmp2 rfl _ _ w.heap.size 44 _ (0, 0) _ rfl HBr.out Tryz.underlying44 rfl (by kernel_rfl)) rfl ?_
              exact ⟨PolOut.mk_bad HFin.out, below_block HX1.out HGr.out (Nat.le_refl _) (Nat.le_refl _)⟩
end

section
open Go.RowKit
set_option maxHeartbeats 2000000 in
theorem pol_zero (t : List UInt8) (w : World) :
    Calls Tryz.prog 26 #[.string (ba t), .int .i64 11] w fun e w' => PolOut w.heap.size (polP 0 t) e w' ∧ Below w.heap.size w w' := by
  have HX : Hid (Below w.heap.size w (w.alloc (.cells #[.int .i64 0, .int .i64 0, .slice none 0 0] 44))) := Lib.hid ((Below.refl _ w).alloc (Nat.le_refl _) _)
  have HB : Hid (Blk (w.alloc (.cells #[.int .i64 0, .int .i64 0, .slice none 0 0] 44)) w.heap.size 44 [.int .i64 0, .int .i64 0, .slice none 0 0]) := Lib.hid (Blk.fresh rfl rfl)
  go_enter Tryz.func26, Tryz.ntmps26
  go_wp2_with (first
    | (go_at_call 27; (with_reducible refine (bare_any _ _).mono ?_); rintro e w5 ⟨rfl, rfl⟩)
    | (refine wpList_store_blk rfl 44 (.tmp 4) (.tmp 20) rfl w.heap.size [.int .i64 0, .int .i64 0, .slice none 0 0] rfl rfl 44 [.int .i64 0, .int .i64 0, .slice none 0 0] HB.out (by kernel_rfl) rfl (one3 _ _ _ _ _) ?_; intro wr hbr hgr; have HBr := Lib.hid hbr; have HGr := Lib.hid hgr; clear hbr hgr))
  (try simp only [Exit.inBlock, Exit.then]); refine bodyPost_ret (results_cell_row_tmp2 rfl _ _ w.heap.size 44 _ (0, 0) _ rfl HBr.out Tryz.underlying44 rfl (by kernel_rfl)) rfl ?_
  exact ⟨PolOut.mk_bad rfl, below_block HX.out HGr.out (Nat.le_refl _) (Nat.le_refl _)⟩

theorem pol_all : ∀ (k : Nat) (d : Int), d = 11 - (k : Int) → k ≤ 10 → ∀ (t : List UInt8) (w : World), t.length ≤ 1000 →
    Calls Tryz.prog 26 #[.string (ba t), .int .i64 d] w fun e w' => PolOut w.heap.size (polP k t) e w' ∧ Below w.heap.size w w'
  | 0, d, hd, _, t, w, _ => by
    have e : d = 11 := by omega
    rw [e]
    exact pol_zero t w
  | k + 1, d, hd, hk, t, w, ht => pol_step k d (by omega) (fun t w ht => pol_all k (d + 1) (by omega) (by omega) t w ht) t w ht

/-- What a Parse answers. -/
def ParseOut (B : Nat) (p : Fm × Int) (e : Ending) (w' : World) : Prop :=
  ∃ A m c, e = .returned (.tuple #[p.1.val A m c, .int .i64 p.2]) ∧ p.1.In w' (B ≤ ·) A m
theorem ParseOut.err {B : Nat} {p : Fm × Int} {w' : World} {x : Int} (h : p = (.mk 0 0 [], x)) : ParseOut B p (.returned (.tuple #[.agg #[.int .i64 0, .int .i64 0, .slice none 0 0], .int .i64 x])) w' := by
  subst h
  exact ⟨none, 0, 0, rfl, rfl, by omega, fun h0 => absurd h0 (by omega)⟩
theorem ParseOut.mk_good {B : Nat} {p : Fm × Int} {w' : World} {f : Fm} {A : Option Addr} {n c : Nat} (hp : p = (f, 0)) (h : f.In w' (B ≤ ·) A n) : ParseOut B p (.returned (.tuple #[.agg #[.int .i64 f.org, .int .i64 f.nd, .slice A n c], .int .i64 0])) w' := by
  subst hp
  exact ⟨A, n, c, rfl, h⟩

theorem parse_long {t : List UInt8} {n : Int} (h : 200 < t.length) : parseP t n = (.mk 0 0 [], 3) := by unfold parseP; rw [if_pos h]
theorem parse_none {t : List UInt8} {n : Int} (h : ¬ 200 < t.length) (hp : polP 10 t = none) : parseP t n = (.mk 0 0 [], 2) := by unfold parseP; rw [if_neg h, hp]
theorem parse_rest {t r : List UInt8} {n : Int} {f : Fm} (h : ¬ 200 < t.length) (hp : polP 10 t = some (f, r)) (hr : bareP r ≠ []) : parseP t n = (.mk 0 0 [], 2) := by unfold parseP; rw [if_neg h, hp]; simp only; rw [if_pos hr]
theorem parse_check {t r : List UInt8} {n : Int} {f : Fm} (h : ¬ 200 < t.length) (hp : polP 10 t = some (f, r)) (hr : bareP r = []) (hc : f.check n ≠ 0) : parseP t n = (.mk 0 0 [], f.check n) := by unfold parseP; rw [if_neg h, hp]; simp only; rw [if_neg (by simp [hr]), if_pos hc]
theorem parse_ok {t r : List UInt8} {n : Int} {f : Fm} (h : ¬ 200 < t.length) (hp : polP 10 t = some (f, r)) (hr : bareP r = []) (hc : f.check n = 0) : parseP t n = (f, 0) := by unfold parseP; rw [if_neg h, hp]; simp only; rw [if_neg (by simp [hr]), if_neg (by simp [hc])]
theorem ba_nil : (⟨#[]⟩ : ByteArray).toList = [] := ba_list []

set_option maxHeartbeats 8000000 in
set_option maxRecDepth 100000 in
theorem rparse_any (t : List UInt8) (n : Int) (w : World) (ht : t.length ≤ 1000) :
    Calls Tryz.prog 11 #[.string (ba t), .int .i64 n] w fun e w' => ParseOut w.heap.size (parseP t n) e w' ∧ Below w.heap.size w w' := by
  have HX : Hid (Below w.heap.size w (w.alloc (.cells #[.int .i64 0, .int .i64 0, .slice none 0 0] 44))) := Lib.hid ((Below.refl _ w).alloc (Nat.le_refl _) _)
  have HB : Hid (Blk (w.alloc (.cells #[.int .i64 0, .int .i64 0, .slice none 0 0] 44)) w.heap.size 44 [.int .i64 0, .int .i64 0, .slice none 0 0]) := Lib.hid (Blk.fresh rfl rfl)
  have hsz := ba_size
  have hli := ba_list
  have hnil := ba_nil
  have hpl : ∀ W, Calls Tryz.prog 26 #[.string (ba t), .int .i64 1] W fun e w' => PolOut W.heap.size (polP 10 t) e w' ∧ Below W.heap.size W w' := fun W => pol_all 10 1 (by omega) (by omega) t W ht
  have HPl := Lib.hid hpl
  clear hpl
  go_enter Tryz.func11, Tryz.ntmps11
  by_cases hlong : 200 < t.length
  · have HFin := Lib.hid (parse_long (n := n) hlong)
    go_wp2_with (first
      | (refine wpList_store_blk rfl 44 (.tmp 4) (.tmp 13) rfl w.heap.size [.int .i64 0, .int .i64 0, .slice none 0 0] rfl rfl 44 [.int .i64 0, .int .i64 0, .slice none 0 0] HB.out (by kernel_rfl) rfl (one3 _ _ _ _ _) ?_; intro wr hbr hgr; have HBr := Lib.hid hbr; have HGr := Lib.hid hgr; clear hbr hgr))
    (try simp only [Exit.inBlock, Exit.then]); refine bodyPost_ret (results_cell_row_tmp1 rfl _ _ w.heap.size 44 _ (0, 0) _ rfl HBr.out Tryz.underlying44 rfl (by kernel_rfl)) rfl ?_
    exact ⟨ParseOut.err HFin.out, below_block HX.out HGr.out (Nat.le_refl _) (Nat.le_refl _)⟩
  · have hl9 : t.length ≤ 200 := by omega
    cases hp : polP 10 t with
    | none =>
      have HFin := Lib.hid (parse_none (n := n) hlong hp)
      have HPp := Lib.hid hp
      clear hp
      go_wp2_with (first
        | (go_at_call 26; (with_reducible refine (HPl.out _).mono ?_); rintro e w1 ⟨ho, hb⟩; obtain ⟨o, a, A, m, c, s, rfl⟩ := PolOut.bad ho HPp.out; have HX1 := Lib.hid ((below_step HX.out hb).alloc (by have := hb.size; simp at this; omega) (.cells #[.int .i64 o, .int .i64 a, .slice A m c] 44)); have HB := Lib.hid ((HB.out.through hb).alloc (.cells #[.int .i64 o, .int .i64 a, .slice A m c] 44)); clear hb ho)
        | (refine wpList_store_blk rfl 44 (.tmp 4) (.tmp 27) rfl w.heap.size [.int .i64 0, .int .i64 0, .slice none 0 0] rfl rfl 44 [.int .i64 0, .int .i64 0, .slice none 0 0] HB.out (by kernel_rfl) rfl (one3 _ _ _ _ _) ?_; intro wr hbr hgr; have HBr := Lib.hid hbr; have HGr := Lib.hid hgr; clear hbr hgr))
      (try simp only [Exit.inBlock, Exit.then]); refine bodyPost_ret (results_cell_row_tmp1 rfl _ _ w.heap.size 44 _ (0, 0) _ rfl HBr.out Tryz.underlying44 rfl (by kernel_rfl)) rfl ?_
      exact ⟨ParseOut.err HFin.out, below_block HX1.out HGr.out (Nat.le_refl _) (Nat.le_refl _)⟩
    | some q =>
      obtain ⟨f, r⟩ := q
      have hbare := bare_any r
      obtain ⟨b, hb⟩ : ∃ b, bareP r = b := ⟨_, rfl⟩
      rw [hb] at hbare
      have HBare := Lib.hid hbare
      have HPp := Lib.hid hp
      clear hbare
      have htk := polP_takes 10 t f r hp
      cases b with
      | cons x b =>
        have HFin := Lib.hid (parse_rest (n := n) hlong hp (by rw [hb]; simp))
        clear hp hb htk
        go_wp2_with (first
          | (go_at_call 26; (with_reducible refine (HPl.out _).mono ?_); rintro e w1 ⟨ho, hb⟩; obtain ⟨A, m, c, rfl, hf⟩ := PolOut.good ho HPp.out; have HX1 := Lib.hid ((below_step HX.out hb).alloc (by have := hb.size; simp at this; omega) (.cells #[.int .i64 f.org, .int .i64 f.nd, .slice A m c] 44)); have HLt := Lib.hid HB.out.lt; have HB := Lib.hid ((HB.out.through hb).alloc (.cells #[.int .i64 f.org, .int .i64 f.nd, .slice A m c] 44)); have HI := Lib.hid (hf.alloc (.cells #[.int .i64 f.org, .int .i64 f.nd, .slice A m c] 44)); have HB6 : Hid (Blk (w1.alloc (.cells #[.int .i64 f.org, .int .i64 f.nd, .slice A m c] 44)) w1.heap.size 44 [.int .i64 f.org, .int .i64 f.nd, .slice A m c]) := Lib.hid (Blk.fresh rfl rfl); clear hb ho hf)
          | (go_at_call 27; (with_reducible refine (HBare.out _).mono ?_); rintro e w5 ⟨rfl, rfl⟩)
          | (refine wpList_store_blk rfl 44 (.tmp 4) (.tmp 27) rfl w.heap.size [.int .i64 0, .int .i64 0, .slice none 0 0] rfl rfl 44 [.int .i64 0, .int .i64 0, .slice none 0 0] HB.out (by kernel_rfl) rfl (one3 _ _ _ _ _) ?_; intro wr hbr hgr; have HBr := Lib.hid hbr; have HGr := Lib.hid hgr; clear hbr hgr))
        (try simp only [Exit.inBlock, Exit.then]); refine bodyPost_ret (results_cell_row_tmp1 rfl _ _ w.heap.size 44 _ (0, 0) _ rfl HBr.out Tryz.underlying44 rfl (by kernel_rfl)) rfl ?_
        exact ⟨ParseOut.err HFin.out, below_block HX1.out HGr.out (Nat.le_refl _) (Nat.le_refl _)⟩
      | nil =>
        have hcall : ∀ (A : Option Addr) (m c : Nat) (W : World), f.In W (fun _ => True) A m → Calls Tryz.prog 28 #[.agg #[.int .i64 f.org, .int .i64 f.nd, .slice A m c], .int .i64 n] W fun e w' => e = .returned (.int .i64 (f.check n)) ∧ Below W.heap.size W w' := fun A m c W hin => rcheck_any f n A m c W ⟨by omega, by omega⟩ hin
        have HC := Lib.hid hcall
        clear hcall
        by_cases hc : f.check n = 0
        · have HFin := Lib.hid (parse_ok (n := n) hlong hp hb hc)
          rw [hc] at HC
          clear hp hb htk hc
          go_wp2_with (first
            | (go_at_call 26; (with_reducible refine (HPl.out _).mono ?_); rintro e w1 ⟨ho, hb⟩; obtain ⟨A, m, c, rfl, hf⟩ := PolOut.good ho HPp.out; have HX1 := Lib.hid ((below_step HX.out hb).alloc (by have := hb.size; simp at this; omega) (.cells #[.int .i64 f.org, .int .i64 f.nd, .slice A m c] 44)); have HLt := Lib.hid HB.out.lt; have HB := Lib.hid ((HB.out.through hb).alloc (.cells #[.int .i64 f.org, .int .i64 f.nd, .slice A m c] 44)); have HI := Lib.hid (hf.alloc (.cells #[.int .i64 f.org, .int .i64 f.nd, .slice A m c] 44)); have HB6 : Hid (Blk (w1.alloc (.cells #[.int .i64 f.org, .int .i64 f.nd, .slice A m c] 44)) w1.heap.size 44 [.int .i64 f.org, .int .i64 f.nd, .slice A m c]) := Lib.hid (Blk.fresh rfl rfl); clear hb ho hf)
            | (go_at_call 27; (with_reducible refine (HBare.out _).mono ?_); rintro e w5 ⟨rfl, rfl⟩)
            | (refine wpList_load_blk rfl 44 (.tmp 6) rfl w1.heap.size rfl 44 [.int .i64 f.org, .int .i64 f.nd, .slice A m c] _ HB6.out Tryz.underlying44 rfl (by kernel_rfl) ?_)
            | (go_at_call 28; (with_reducible refine (HC.out _ _ _ _ (Fm.In.any HI.out)).mono ?_); rintro e w2 ⟨rfl, hb⟩; have HX1 := Lib.hid (below_step HX1.out hb); have HB := Lib.hid (HB.out.through hb); have HI := Lib.hid (HI.out.through hb); have HB6 := Lib.hid (HB6.out.through hb); clear hb)
            | (refine wpList_store_blk rfl 44 (.tmp 4) (.tmp 35) rfl w.heap.size [.int .i64 f.org, .int .i64 f.nd, .slice A m c] rfl rfl 44 [.int .i64 0, .int .i64 0, .slice none 0 0] HB.out (by kernel_rfl) rfl (one3 _ _ _ _ _) ?_; intro wr hbr hgr; have HBr := Lib.hid hbr; have HGr := Lib.hid hgr; clear hbr hgr))
          (try simp only [Exit.inBlock, Exit.then]); refine bodyPost_ret (results_cell_row_tmp1 rfl _ _ w.heap.size 44 _ (0, 0) _ rfl HBr.out Tryz.underlying44 rfl (by kernel_rfl)) rfl ?_
          exact ⟨ParseOut.mk_good HFin.out ((HI.out.past HGr.out HLt.out).from_ (Nat.le_of_lt HLt.out)), below_block HX1.out HGr.out (Nat.le_refl _) (Nat.le_refl _)⟩
        · have HFin := Lib.hid (parse_check (n := n) hlong hp hb hc)
          obtain ⟨x, hx⟩ : ∃ x, f.check n = x := ⟨_, rfl⟩
          rw [hx] at HC HFin hc
          have hxb : (x == 0) = false := by simp; omega
          clear hp hb htk hx
          go_wp2_with (first
            | (go_at_call 26; (with_reducible refine (HPl.out _).mono ?_); rintro e w1 ⟨ho, hb⟩; obtain ⟨A, m, c, rfl, hf⟩ := PolOut.good ho HPp.out; have HX1 := Lib.hid ((below_step HX.out hb).alloc (by have := hb.size; simp at this; omega) (.cells #[.int .i64 f.org, .int .i64 f.nd, .slice A m c] 44)); have HLt := Lib.hid HB.out.lt; have HB := Lib.hid ((HB.out.through hb).alloc (.cells #[.int .i64 f.org, .int .i64 f.nd, .slice A m c] 44)); have HI := Lib.hid (hf.alloc (.cells #[.int .i64 f.org, .int .i64 f.nd, .slice A m c] 44)); have HB6 : Hid (Blk (w1.alloc (.cells #[.int .i64 f.org, .int .i64 f.nd, .slice A m c] 44)) w1.heap.size 44 [.int .i64 f.org, .int .i64 f.nd, .slice A m c]) := Lib.hid (Blk.fresh rfl rfl); clear hb ho hf)
            | (go_at_call 27; (with_reducible refine (HBare.out _).mono ?_); rintro e w5 ⟨rfl, rfl⟩)
            | (refine wpList_load_blk rfl 44 (.tmp 6) rfl w1.heap.size rfl 44 [.int .i64 f.org, .int .i64 f.nd, .slice A m c] _ HB6.out Tryz.underlying44 rfl (by kernel_rfl) ?_)
            | (go_at_call 28; (with_reducible refine (HC.out _ _ _ _ (Fm.In.any HI.out)).mono ?_); rintro e w2 ⟨rfl, hb⟩; have HX1 := Lib.hid (below_step HX1.out hb); have HB := Lib.hid (HB.out.through hb); have HI := Lib.hid (HI.out.through hb); have HB6 := Lib.hid (HB6.out.through hb); clear hb)
            | (refine wpList_store_blk rfl 44 (.tmp 4) (.tmp 33) rfl w.heap.size [.int .i64 0, .int .i64 0, .slice none 0 0] rfl rfl 44 [.int .i64 0, .int .i64 0, .slice none 0 0] HB.out (by kernel_rfl) rfl (one3 _ _ _ _ _) ?_; intro wr hbr hgr; have HBr := Lib.hid hbr; have HGr := Lib.hid hgr; clear hbr hgr))
          (try simp only [Exit.inBlock, Exit.then]); refine bodyPost_ret (results_cell_row_tmp1 rfl _ _ w.heap.size 44 _ (0, 0) _ rfl HBr.out Tryz.underlying44 rfl (by kernel_rfl)) rfl ?_
          exact ⟨ParseOut.err HFin.out, below_block HX1.out HGr.out (Nat.le_refl _) (Nat.le_refl _)⟩
end

end Go.Proofs.YtfflkodgojiklaaGreatDoor
