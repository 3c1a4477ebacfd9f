/-
  Policies as text, by plain functions: what is read, what is printed; a text of a policy, with blanks or without, is read as it. No walk here.
-/
import Derived.Test.YtnpobhgecfjfgaaDoorFm
namespace Go.Proofs.YtnpobhgecfjfgaaDoor

/-- without blanks at its beginning -/
def bareP : List UInt8 → List UInt8 | [] => [] | x :: t => if x = 32 then bareP t else x :: t
def isDg (x : UInt8) : Bool := decide (48 ≤ x.toNat) && decide (x.toNat ≤ 57)
/-- the digits at its beginning -/
def digP : List UInt8 → List UInt8 | [] => [] | x :: t => if isDg x then x :: digP t else []
def valP (v : Nat) : List UInt8 → Nat | [] => v | x :: t => valP (v * 10 + (x.toNat - 48)) t
/-- a number, and the rest -/
def numP (t : List UInt8) : Option (Nat × List UInt8) :=
  let d := digP t
  if d.length = 0 ∨ 4 < d.length ∨ (1 < d.length ∧ t.head? = some 48) then none else some (valP 0 d, t.drop d.length)
def begP : List UInt8 → List UInt8 → Bool | [], _ => true | _, [] => false | x :: s, y :: t => decide (x = y) && begP s t
/-- policies, each behind '(' or ',', up to ')' -/
def loopP (p : List UInt8 → Option (Fm × List UInt8)) : Nat → List UInt8 → Option (List Fm × List UInt8)
  | 0, _ => none
  | n + 1, t => match p (t.drop 1) with
    | none => none
    | some (f, rest) => if begP [41] (bareP rest) then some ([f], (bareP rest).drop 1)
      else if begP [44] (bareP rest) then (match loopP p n (bareP rest) with | none => none | some (l, r) => some (f :: l, r))
      else none
def rowP (p : List UInt8 → Option (Fm × List UInt8)) (t : List UInt8) : Option (List Fm × List UInt8) :=
  if begP [40] (bareP t) then loopP p (bareP t).length (bareP t) else none
/-- a policy, at most so deep, and the rest -/
def polP : Nat → List UInt8 → Option (Fm × List UInt8)
  | 0, _ => none
  | k + 1, t =>
    if begP [97, 108, 108] (bareP t) then (match rowP (polP k) ((bareP t).drop 3) with | none => none | some (l, r) => some (.mk 0 l.length l, r))
    else if begP [97, 110, 121] (bareP t) then (match rowP (polP k) ((bareP t).drop 3) with | none => none | some (l, r) => some (.mk 0 1 l, r))
    else match numP (bareP t) with
      | none => none
      | some (v, rest) => if begP [111, 102] (bareP rest) then
          (match rowP (polP k) ((bareP rest).drop 2) with | none => none | some (l, r) => if 1 ≤ v ∧ v ≤ 99 then some (.mk 0 v l, r) else none)
        else some (.mk v 0 [], rest)
/-- what a text tells -/
def parseP (t : List UInt8) (n : Int) : Fm × Int :=
  if 200 < t.length then (.mk 0 0 [], 3) else match polP 10 t with
    | none => (.mk 0 0 [], 2)
    | some (f, r) => if bareP r ≠ [] then (.mk 0 0 [], 2) else if f.check n ≠ 0 then (.mk 0 0 [], f.check n) else (f, 0)

def dg (n : Nat) : UInt8 := UInt8.ofNat (48 + n)
/-- a number's digits -/
def digs (n : Nat) : List UInt8 := if n < 10 then [dg n] else digs (n / 10) ++ [dg (n % 10)]
/-- what stands ahead of the bracket -/
def headP (a : Int) (n : Nat) : List UInt8 := if a = (n : Int) then [97, 108, 108] else if a = 1 then [97, 110, 121] else digs a.toNat ++ [111, 102]
mutual
/-- a policy's text -/
def printP : Fm → List UInt8
  | .mk o _ [] => digs o.toNat
  | .mk _ a (k :: ks) => headP a (ks.length + 1) ++ 40 :: printsP (k :: ks)
def printsP : List Fm → List UInt8
  | [] => [41]
  | k :: ks => printP k ++ tailP ks
def tailP : List Fm → List UInt8
  | [] => [41]
  | k :: ks => 44 :: (printP k ++ tailP ks)
end

def isBl (b : List UInt8) : Prop := ∀ x, x ∈ b → x = 32
mutual
/-- t is a text of a policy, with blanks or without -/
def Sp : Fm → List UInt8 → Prop
  | .mk o _ [], t => t = digs o.toNat
  | .mk _ a (k :: ks), t => ∃ b c s u, isBl b ∧ isBl c ∧ Sp k s ∧ SpT ks u ∧ t = headP a (ks.length + 1) ++ (b ++ 40 :: (c ++ (s ++ u)))
/-- what stands behind a kid -/
def SpT : List Fm → List UInt8 → Prop
  | [], u => ∃ b, isBl b ∧ u = b ++ [41]
  | k :: ks, u => ∃ b c s v, isBl b ∧ isBl c ∧ Sp k s ∧ SpT ks v ∧ u = b ++ 44 :: (c ++ (s ++ v))
end

theorem isBl_nil : isBl [] := fun _ h => by cases h
theorem isBl_tail {x : UInt8} {b : List UInt8} (h : isBl (x :: b)) : x = 32 ∧ isBl b := ⟨h x (by simp), fun y hy => h y (by simp [hy])⟩
theorem bareP_bl : ∀ {b : List UInt8} (t : List UInt8), isBl b → bareP (b ++ t) = bareP t
  | [], _, _ => rfl
  | x :: b, t, h => by
    obtain ⟨rfl, h2⟩ := isBl_tail h
    show (if (32 : UInt8) = 32 then bareP (b ++ t) else _) = _
    rw [if_pos rfl, bareP_bl t h2]
theorem bareP_ne {x : UInt8} (t : List UInt8) (h : x ≠ 32) : bareP (x :: t) = x :: t := by
  show (if x = 32 then _ else _) = _
  rw [if_neg h]
mutual
theorem sp_print : ∀ f : Fm, Sp f (printP f)
  | .mk _ _ [] => rfl
  | .mk _ _ (k :: ks) => ⟨[], [], printP k, tailP ks, isBl_nil, isBl_nil, sp_print k, spT_print ks, rfl⟩
theorem spT_print : ∀ ks : List Fm, SpT ks (tailP ks)
  | [] => ⟨[], isBl_nil, rfl⟩
  | k :: ks => ⟨[], [], printP k, tailP ks, isBl_nil, isBl_nil, sp_print k, spT_print ks, rfl⟩
end

/-- What may stand behind a policy. -/
def Ends (r : List UInt8) : Prop := r = [] ∨ ∃ x t, r = x :: t ∧ isDg x = false ∧ begP [111, 102] (bareP r) = false
theorem ends_nil : Ends [] := .inl rfl
theorem ends_bl {b t : List UInt8} {x : UInt8} (hb : isBl b) (hx : x = 41 ∨ x = 44) : Ends (b ++ x :: t) := by
  right
  have hbp : bareP (b ++ x :: t) = x :: t := by rw [bareP_bl _ hb, bareP_ne]; rcases hx with rfl | rfl <;> decide
  cases b with
  | nil => exact ⟨x, t, rfl, by rcases hx with rfl | rfl <;> decide, by rw [hbp]; rcases hx with rfl | rfl <;> rfl⟩
  | cons y b =>
    obtain ⟨rfl, _⟩ := isBl_tail hb
    exact ⟨32, b ++ x :: t, rfl, by decide, by rw [hbp]; rcases hx with rfl | rfl <;> rfl⟩
theorem ends_of {r : List UInt8} (h : Ends r) : begP [111, 102] (bareP r) = false := by
  rcases h with rfl | ⟨_, _, _, _, h⟩
  · rfl
  · exact h
theorem digP_cons (x : UInt8) (t : List UInt8) : digP (x :: t) = if isDg x then x :: digP t else [] := rfl
theorem digP_ends {r : List UInt8} (h : Ends r) : digP r = [] := by
  rcases h with rfl | ⟨x, t, rfl, h, _⟩
  · rfl
  · rw [digP_cons, h]; rfl

theorem dg_facts : ∀ n : Fin 10, isDg (dg n.val) = true ∧ (dg n.val).toNat - 48 = n.val ∧ dg n.val ≠ 32 ∧ dg n.val ≠ 97 ∧ (dg n.val = 48 → n.val = 0) := by decide
theorem dg_f {n : Nat} (h : n < 10) : isDg (dg n) = true ∧ (dg n).toNat - 48 = n ∧ dg n ≠ 32 ∧ dg n ≠ 97 ∧ (dg n = 48 → n = 0) := dg_facts ⟨n, h⟩
theorem digs_one {n : Nat} (h : n < 10) : digs n = [dg n] := by rw [digs, if_pos h]
theorem digs_two {n : Nat} (h : 10 ≤ n) (h2 : n < 100) : digs n = [dg (n / 10), dg (n % 10)] := by
  rw [digs, if_neg (by omega), digs_one (by omega)]
  rfl
theorem valP_one (x : UInt8) : valP 0 [x] = x.toNat - 48 := by show 0 * 10 + (x.toNat - 48) = _; rw [Nat.zero_mul, Nat.zero_add]
theorem valP_two (x y : UInt8) : valP 0 [x, y] = (x.toNat - 48) * 10 + (y.toNat - 48) := by show (0 * 10 + (x.toNat - 48)) * 10 + (y.toNat - 48) = _; rw [Nat.zero_mul, Nat.zero_add]
theorem numP_of {t d : List UInt8} (h : digP t = d) : numP t = if d.length = 0 ∨ 4 < d.length ∨ (1 < d.length ∧ t.head? = some 48) then none else some (valP 0 d, t.drop d.length) := by subst h; rfl
/-- A number that is printed is read. -/
theorem numP_digs {n : Nat} (h : n < 100) {r : List UInt8} (hr : digP r = []) : numP (digs n ++ r) = some (n, r) := by
  by_cases h1 : n < 10
  · rw [digs_one h1]
    have f := dg_f h1
    have e : digP (dg n :: r) = [dg n] := by rw [digP_cons, f.1, if_pos rfl, hr]
    simp only [List.cons_append, List.nil_append]
    have f2 := f.2.1
    rw [numP_of e, valP_one, f2, if_neg (by simp)]
    rfl
  · rw [digs_two (by omega) h]
    have f := dg_f (n := n / 10) (by omega)
    have g := dg_f (n := n % 10) (by omega)
    have e : digP (dg (n / 10) :: dg (n % 10) :: r) = [dg (n / 10), dg (n % 10)] := by rw [digP_cons, f.1, if_pos rfl, digP_cons, g.1, if_pos rfl, hr]
    have hne : dg (n / 10) ≠ 48 := fun h48 => by have := f.2.2.2.2 h48; omega
    have f2 := f.2.1
    have g2 := g.2.1
    simp only [List.cons_append, List.nil_append]
    have hn : n / 10 * 10 + n % 10 = n := by omega
    rw [numP_of e, valP_two, f2, g2, hn, if_neg (by simp [hne])]
    rfl
/-- It begins with a digit. -/
theorem digs_head {n : Nat} (h : n < 100) : ∃ x t, digs n = x :: t ∧ x ≠ 32 ∧ x ≠ 97 := by
  by_cases h1 : n < 10
  · exact ⟨_, _, digs_one h1, (dg_f h1).2.2.1, (dg_f h1).2.2.2.1⟩
  · have f := dg_f (n := n / 10) (by omega)
    exact ⟨_, _, digs_two (by omega) h, f.2.2.1, f.2.2.2.1⟩

end Go.Proofs.YtnpobhgecfjfgaaDoor
