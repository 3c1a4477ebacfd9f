/-
  Joined: OP, Co, Cm, Ba, PM, LtP, Lg, LgB, RqP.
-/
import Derived.Test.YtpngcdafamkhcaaMem
import Derived.Test.YtpngcdafamkhcaaFBase
import Derived.Laws.RangeAny
import Derived.Laws.Strings3
import Derived.Laws.Concat
namespace Go.Proofs.Ytpngcdafamkhcaa
section
open Go.RowKit

/-- May a number have k bytes? -/
def wid (k : Int) : Bool := k == 1 || k == 2 || k == 4 || k == 8

theorem wid_iff {k : Int} : wid k = true ↔ k = 1 ∨ k = 2 ∨ k = 4 ∨ k = 8 := by simp [wid, or_assoc]

/-- What failing leaves. -/
def failX (xs : List UInt8) (er : Int) : List UInt8 := if er = 0 then [] else xs

def failE (er k : Int) : Int := if er = 0 then k else er

/-- Taking k bytes: what is given, what is left, the failure. -/
def takeY (xs : List UInt8) (er k : Int) : List UInt8 := if er = 0 ∧ 0 ≤ k ∧ k ≤ xs.length then xs.take k.toNat else []

def takeX (xs : List UInt8) (er k : Int) : List UInt8 := if er = 0 then (if 0 ≤ k ∧ k ≤ xs.length then xs.drop k.toNat else []) else xs

def takeE (xs : List UInt8) (er k : Int) : Int := if er = 0 then (if 0 ≤ k ∧ k ≤ xs.length then 0 else 2) else er

def bad (er : Int) : Bool := er != 0

/-- The number of which these are the bytes, the highest first. -/
def beN (xs : List UInt8) : Nat := xs.foldl (fun v x => v * 256 + x.toNat) 0

theorem beN_snoc (xs : List UInt8) (b : UInt8) : beN (xs ++ [b]) = beN xs * 256 + b.toNat := by simp [beN]

theorem beN_take (xs : List UInt8) (j : Nat) (h : j < xs.length) : beN (xs.take (j + 1)) = beN (xs.take j) * 256 + xs[j].toNat := by
  rw [List.take_succ_eq_append_getElem h, beN_snoc]

theorem beN_lt (xs : List UInt8) (j : Nat) : beN (xs.take j) < 256 ^ (xs.take j).length := by
  induction j with
  | zero => simp [beN]
  | succ j ih =>
    rcases Nat.lt_or_ge j xs.length with h | h
    · rw [beN_take xs j h]
      have e : (xs.take (j + 1)).length = (xs.take j).length + 1 := by simp; omega
      rw [e, Nat.pow_succ]
      have hb := xs[j].toNat_lt
      omega
    · rw [List.take_of_length_le (by omega)]
      rw [List.take_of_length_le h] at ih
      exact ih

theorem beN_small (xs : List UInt8) (j m : Nat) (hj : j ≤ m) : beN (xs.take j) < 256 ^ m := by
  have h := beN_lt xs j
  have hl : (xs.take j).length ≤ m := by simp; omega
  exact Nat.lt_of_lt_of_le h (Nat.pow_le_pow_right (by decide) hl)

/-- What Number answers, leaves, and fails with. -/
def numV (xs : List UInt8) (er k : Int) : Nat := if wid k then beN (takeY xs er k) else 0

def numX (xs : List UInt8) (er k : Int) : List UInt8 := if wid k then takeX xs er k else failX xs er

def numE (xs : List UInt8) (er k : Int) : Int := if wid k then takeE xs er k else failE er 2

theorem numV_lt (xs : List UInt8) (er k : Int) : numV xs er k < 256 ^ k.toNat ∨ numV xs er k = 0 := by
  unfold numV
  split
  · left
    have h := beN_small (takeY xs er k) (takeY xs er k).length k.toNat
    rw [List.take_length] at h
    refine h ?_
    unfold takeY
    split <;> simp
    omega
  · right; rfl

def upV (V : Nat) (most : Int) : Int := if most < V then 0 else V

def upX (X : List UInt8) (E : Int) (V : Nat) (most : Int) : List UInt8 := if most < V then failX X E else X

def upE (E : Int) (V : Nat) (most b : Int) : Int := if most < V then failE E b else E

/-- What Row gives, leaves, and fails with. -/
def rowY (xs : List UInt8) (er most : Int) : List UInt8 := takeY (upX (numX xs er 4) (numE xs er 4) (numV xs er 4) most) (upE (numE xs er 4) (numV xs er 4) most 3) (upV (numV xs er 4) most)

def rowX (xs : List UInt8) (er most : Int) : List UInt8 := takeX (upX (numX xs er 4) (numE xs er 4) (numV xs er 4) most) (upE (numE xs er 4) (numV xs er 4) most 3) (upV (numV xs er 4) most)

def rowE (xs : List UInt8) (er most : Int) : Int := takeE (upX (numX xs er 4) (numE xs er 4) (numV xs er 4) most) (upE (numE xs er 4) (numV xs er 4) most 3) (upV (numV xs er 4) most)

theorem takeY_le (xs : List UInt8) (er k : Int) : (takeY xs er k).length ≤ xs.length := by unfold takeY; split <;> simp; omega

theorem takeX_le (xs : List UInt8) (er k : Int) : (takeX xs er k).length ≤ xs.length := by 
  unfold takeX
  split
  · split <;> simp
  · simp

theorem failX_le (xs : List UInt8) (er : Int) : (failX xs er).length ≤ xs.length := by unfold failX; split <;> simp

theorem numX_le (xs : List UInt8) (er k : Int) : (numX xs er k).length ≤ xs.length := by
  unfold numX; split
  · exact takeX_le _ _ _
  · exact failX_le _ _

theorem upX_le (X : List UInt8) (E : Int) (V : Nat) (most : Int) : (upX X E V most).length ≤ X.length := by
  unfold upX; split
  · exact failX_le _ _
  · exact Nat.le_refl _

/-- What End answers. -/
def endV (xs : List UInt8) (er : Int) : Int := if er = 0 then (if xs = [] then 0 else 2) else er

/-- A number of k bytes, with its sign. -/
def sx (k : Int) (V : Nat) : Int := if k = 1 then (if V < 128 then V else V - 256) else if k = 2 then (if V < 32768 then V else V - 65536) else if k = 4 then (if V < 2147483648 then V else V - 4294967296) else if V < 9223372036854775808 then V else V - 18446744073709551616

/-- What Range answers, leaves, and fails with. -/
def rngV (xs : List UInt8) (er k lo hi : Int) : Int := if numE xs er k = 0 ∧ lo ≤ sx k (numV xs er k) ∧ sx k (numV xs er k) ≤ hi then sx k (numV xs er k) else 0

def rngX (xs : List UInt8) (er k lo hi : Int) : List UInt8 := if numE xs er k = 0 then (if lo ≤ sx k (numV xs er k) ∧ sx k (numV xs er k) ≤ hi then numX xs er k else []) else numX xs er k

def rngE (xs : List UInt8) (er k lo hi : Int) : Int := if numE xs er k = 0 then (if lo ≤ sx k (numV xs er k) ∧ sx k (numV xs er k) ≤ hi then 0 else 5) else numE xs er k

theorem wid_of_ok {xs : List UInt8} {er k : Int} (h : numE xs er k = 0) : wid k = true := by
  cases hk : wid k with
  | true => rfl
  | false =>
    unfold numE at h
    rw [hk] at h
    simp [failE] at h
    split at h
    · cases h
    · contradiction

theorem numV_of_bad {xs : List UInt8} {er k : Int} (h : numE xs er k ≠ 0) : numV xs er k = 0 := by
  unfold numE at h
  unfold numV
  cases hk : wid k with
  | false => rfl
  | true =>
    rw [hk] at h
    simp only [if_true] at h ⊢
    have : takeY xs er k = [] := by
      unfold takeE at h
      unfold takeY
      split at h
      · split at h
        · exact absurd rfl h
        · rw [if_neg (by simp_all)]
      · rw [if_neg (by simp_all)]
    rw [this]
    rfl

theorem numV_lt4 (xs : List UInt8) (er : Int) : numV xs er 4 < 4294967296 := by
  rcases numV_lt xs er 4 with h | h
  · have e : (256 : Nat) ^ ((4 : Int)).toNat = 4294967296 := by decide
    rw [e] at h
    exact h
  · omega

theorem beN_append_one (xs : List UInt8) (b : UInt8) : beN (xs ++ [b]) = beN xs * 256 + b.toNat := beN_snoc xs b

theorem beN_beB (u k : Nat) : beN (beB u k) = u % 256 ^ k := by
  induction k generalizing u with
  | zero => simp [beB, beN, Nat.mod_one]
  | succ k ih =>
    have e1 : (UInt8.ofNat u).toNat = u % 256 := by simp
    rw [beB, beN_snoc, ih, e1]
    have h1 := Nat.div_add_mod u 256
    have h2 : u % 256 ^ (k + 1) = 256 * (u / 256 % 256 ^ k) + u % 256 := by
      rw [Nat.pow_succ, Nat.mul_comm (256 ^ k) 256, Nat.mod_mul]
      omega
    omega

theorem takeY_front (xs ys : List UInt8) (k : Nat) (h : xs.length = k) : takeY (xs ++ ys) 0 k = xs := by
  unfold takeY
  rw [if_pos ⟨rfl, by omega, by simp; omega⟩]
  simp [← h]

theorem takeX_front (xs ys : List UInt8) (k : Nat) (h : xs.length = k) : takeX (xs ++ ys) 0 k = ys := by
  unfold takeX
  rw [if_pos rfl, if_pos ⟨by omega, by simp; omega⟩]
  simp [← h]

theorem takeE_front (xs ys : List UInt8) (k : Nat) (h : xs.length = k) : takeE (xs ++ ys) 0 k = 0 := by
  unfold takeE
  rw [if_pos rfl, if_pos ⟨by omega, by simp; omega⟩]

theorem num_front (u k : Nat) (ys : List UInt8) (hk : wid k = true) : numV (beB u k ++ ys) 0 k = u % 256 ^ k ∧ numX (beB u k ++ ys) 0 k = ys ∧ numE (beB u k ++ ys) 0 k = 0 := by
  unfold numV numX numE
  rw [hk]
  simp only [if_true]
  rw [takeY_front _ _ k (beB_length u k), takeX_front _ _ k (beB_length u k), takeE_front _ _ k (beB_length u k), beN_beB]
  exact ⟨rfl, rfl, rfl⟩
end

section
open Go.RowKit

theorem beB_beN : ∀ (k : Nat) (xs : List UInt8), xs.length = k → beB (beN xs) k = xs := by
  intro k
  induction k with
  | zero => intro xs h; rw [List.eq_nil_of_length_eq_zero h]; rfl
  | succ k ih =>
    intro xs h
    have hne : xs ≠ [] := by rintro rfl; simp at h
    obtain ⟨ys, b, rfl⟩ : ∃ ys b, xs = ys ++ [b] := ⟨xs.dropLast, xs.getLast hne, (List.dropLast_concat_getLast hne).symm⟩
    have hl : ys.length = k := by simpa using h
    rw [beN_snoc, beB]
    have e1 : (beN ys * 256 + b.toNat) / 256 = beN ys := by have := b.toNat_lt; omega
    have e2 : UInt8.ofNat (beN ys * 256 + b.toNat) = b := by
      apply UInt8.toNat_inj.1
      rw [UInt8.toNat_ofNat']
      have := b.toNat_lt
      omega
    rw [e1, e2, ih ys hl]
theorem beN_lt' (xs : List UInt8) : beN xs < 256 ^ xs.length := by
  have := beN_lt xs xs.length
  rwa [List.take_length] at this

def nval (k : Nat) : Option (List UInt8) → Nat
  | some xs => if k ≤ xs.length then beN (xs.take k) else 0
  | none => 0
def nnext (k : Nat) : Option (List UInt8) → Option (List UInt8)
  | some xs => if k ≤ xs.length then some (xs.drop k) else none
  | none => none
def tval (k : Nat) : Option (List UInt8) → List UInt8
  | some xs => if k ≤ xs.length then xs.take k else []
  | none => []
def rval (most : Nat) (st : Option (List UInt8)) : List UInt8 := if nval 4 st ≤ most then tval (nval 4 st) (nnext 4 st) else []
def rnext (most : Nat) (st : Option (List UInt8)) : Option (List UInt8) := if nval 4 st ≤ most then nnext (nval 4 st) (nnext 4 st) else none
def cval (most : Nat) (st : Option (List UInt8)) : Nat := if nval 2 st ≤ most then nval 2 st else 0
def cnext (most : Nat) (st : Option (List UInt8)) : Option (List UInt8) := if nval 2 st ≤ most then nnext 2 st else none
/-- a number of eight bytes with its sign, within bounds -/
def gval (lo hi : Int) (st : Option (List UInt8)) : Int := if nnext 8 st ≠ none ∧ lo ≤ sx 8 (nval 8 st) ∧ sx 8 (nval 8 st) ≤ hi then sx 8 (nval 8 st) else 0
def gnext (lo hi : Int) (st : Option (List UInt8)) : Option (List UInt8) := if lo ≤ sx 8 (nval 8 st) ∧ sx 8 (nval 8 st) ≤ hi then nnext 8 st else none

theorem nval_some (k : Nat) (xs : List UInt8) : nval k (some xs) = if k ≤ xs.length then beN (xs.take k) else 0 := rfl
theorem nnext_some (k : Nat) (xs : List UInt8) : nnext k (some xs) = if k ≤ xs.length then some (xs.drop k) else none := rfl
theorem tval_some (k : Nat) (xs : List UInt8) : tval k (some xs) = if k ≤ xs.length then xs.take k else [] := rfl
theorem nval_none (k : Nat) : nval k none = 0 := rfl
theorem nnext_none (k : Nat) : nnext k none = none := rfl
theorem tval_none (k : Nat) : tval k none = [] := rfl
theorem nval_lt (k : Nat) (st : Option (List UInt8)) : nval k st < 256 ^ k := by
  have h0 : 0 < 256 ^ k := Nat.pow_pos (by decide)
  cases st with
  | none => exact h0
  | some xs =>
    rw [nval_some]
    split
    · rename_i hk
      have := beN_lt' (xs.take k)
      rwa [List.length_take, Nat.min_eq_left hk] at this
    · exact h0
theorem n_front {v k : Nat} (h : v < 256 ^ k) (ys : List UInt8) : nval k (some (beB v k ++ ys)) = v ∧ nnext k (some (beB v k ++ ys)) = some ys := by
  have hl := beB_length v k
  have hle : k ≤ (beB v k ++ ys).length := by simp [hl]
  rw [nval_some, nnext_some, if_pos hle, if_pos hle]
  have e1 : (beB v k ++ ys).take k = beB v k := by rw [List.take_append_of_le_length (by omega), List.take_of_length_le (by omega)]
  have e2 : (beB v k ++ ys).drop k = ys := by rw [List.drop_append_of_le_length (by omega), List.drop_of_length_le (by omega)]; rfl
  rw [e1, e2, beN_beB, Nat.mod_eq_of_lt h]
  exact ⟨rfl, rfl⟩
theorem n_back {k : Nat} {st : Option (List UInt8)} {r : List UInt8} (h : nnext k st = some r) : st = some (beB (nval k st) k ++ r) := by
  cases st with
  | none => cases h
  | some xs =>
    rw [nnext_some] at h
    rw [nval_some]
    split at h
    · rename_i hk
      rw [if_pos hk, beB_beN k _ (by simp; omega)]
      injection h with h
      rw [← h, List.take_append_drop]
    · cases h
theorem t_front (xs ys : List UInt8) : tval xs.length (some (xs ++ ys)) = xs ∧ nnext xs.length (some (xs ++ ys)) = some ys := by
  rw [tval_some, nnext_some, if_pos (by simp), if_pos (by simp)]
  simp
theorem t_back {k : Nat} {st : Option (List UInt8)} {r : List UInt8} (h : nnext k st = some r) : st = some (tval k st ++ r) ∧ (tval k st).length = k := by
  cases st with
  | none => cases h
  | some xs =>
    rw [nnext_some] at h
    rw [tval_some]
    split at h
    · rename_i hk
      rw [if_pos hk]
      injection h with h
      rw [← h, List.take_append_drop]
      exact ⟨rfl, by simp; omega⟩
    · cases h
/-- A row's bytes. -/
def rowB (xs : List UInt8) : List UInt8 := beB xs.length 4 ++ xs
theorem r_front {most : Nat} {row : List UInt8} (h : row.length ≤ most) (hm : most < 4294967296) (ys : List UInt8) : rval most (some (rowB row ++ ys)) = row ∧ rnext most (some (rowB row ++ ys)) = some ys := by
  have e : (256 : Nat) ^ 4 = 4294967296 := by decide
  obtain ⟨h1, h2⟩ := n_front (v := row.length) (k := 4) (by omega) (row ++ ys)
  obtain ⟨h3, h4⟩ := t_front row ys
  unfold rval rnext rowB
  rw [List.append_assoc, h1, h2, if_pos h, if_pos h, h3, h4]
  exact ⟨rfl, rfl⟩
theorem r_back {most : Nat} {st : Option (List UInt8)} {r : List UInt8} (h : rnext most st = some r) : st = some (rowB (rval most st) ++ r) ∧ (rval most st).length ≤ most := by
  unfold rnext at h
  unfold rval
  split at h
  · rename_i hle
    rw [if_pos hle]
    obtain ⟨h1, h2⟩ := t_back h
    refine ⟨?_, by rw [h2]; exact hle⟩
    have h3 := n_back h1
    unfold rowB
    rw [h2, List.append_assoc]
    exact h3
  · cases h
theorem c_front {most n : Nat} (h : n ≤ most) (hm : most < 65536) (ys : List UInt8) : cval most (some (beB n 2 ++ ys)) = n ∧ cnext most (some (beB n 2 ++ ys)) = some ys := by
  have e : (256 : Nat) ^ 2 = 65536 := by decide
  obtain ⟨h1, h2⟩ := n_front (v := n) (k := 2) (by omega) ys
  unfold cval cnext
  rw [h1, h2, if_pos h, if_pos h]
  exact ⟨rfl, rfl⟩
theorem c_back {most : Nat} {st : Option (List UInt8)} {r : List UInt8} (h : cnext most st = some r) : st = some (beB (cval most st) 2 ++ r) ∧ cval most st ≤ most := by
  unfold cnext at h
  unfold cval
  split at h
  · rename_i hle
    rw [if_pos hle]
    exact ⟨n_back h, hle⟩
  · cases h
/-- A number of 64 bits without its sign, of one with it. -/
def u64N (v : Int) : Nat := (v % 18446744073709551616).toNat
theorem sx_u64N {v : Int} (h0 : -9223372036854775808 ≤ v) (h1 : v ≤ 9223372036854775807) : sx 8 (u64N v) = v := by
  have e : ∀ V, sx 8 V = if V < 9223372036854775808 then (V : Int) else V - 18446744073709551616 := fun V => by simp [sx]
  rw [e]
  unfold u64N
  split <;> omega
theorem u64N_sx {n : Nat} (h : n < 18446744073709551616) : u64N (sx 8 n) = n := by
  have e : ∀ V, sx 8 V = if V < 9223372036854775808 then (V : Int) else V - 18446744073709551616 := fun V => by simp [sx]
  rw [e]
  unfold u64N
  split <;> omega
theorem u64N_lt (v : Int) : u64N v < 256 ^ 8 := by
  have e : (256 : Nat) ^ 8 = 18446744073709551616 := by decide
  unfold u64N
  omega
theorem u64N_pos {v : Int} (h : 0 ≤ v) (h1 : v < 18446744073709551616) : u64N v = v.toNat := by
  unfold u64N
  omega
theorem sx_rng (n : Nat) (h : n < 18446744073709551616) : -9223372036854775808 ≤ sx 8 n ∧ sx 8 n ≤ 9223372036854775807 := by
  have e : ∀ V, sx 8 V = if V < 9223372036854775808 then (V : Int) else V - 18446744073709551616 := fun V => by simp [sx]
  rw [e]
  split <;> omega
theorem g_front {lo hi v : Int} (h : lo ≤ v) (h2 : v ≤ hi) (h0 : -9223372036854775808 ≤ v) (h1 : v ≤ 9223372036854775807) (ys : List UInt8) : gval lo hi (some (beB (u64N v) 8 ++ ys)) = v ∧ gnext lo hi (some (beB (u64N v) 8 ++ ys)) = some ys := by
  obtain ⟨e1, e2⟩ := n_front (u64N_lt v) ys
  unfold gval gnext
  rw [e1, e2, sx_u64N h0 h1, if_pos ⟨by simp, h, h2⟩, if_pos ⟨h, h2⟩]
  exact ⟨rfl, rfl⟩
theorem g_back {lo hi : Int} {st : Option (List UInt8)} {r : List UInt8} (h : gnext lo hi st = some r) : st = some (beB (u64N (gval lo hi st)) 8 ++ r) ∧ lo ≤ gval lo hi st ∧ gval lo hi st ≤ hi := by
  unfold gnext at h
  split at h
  · rename_i hle
    unfold gval
    rw [if_pos ⟨by rw [h]; simp, hle⟩]
    have hv := nval_lt 8 st
    have e : (256 : Nat) ^ 8 = 18446744073709551616 := by decide
    rw [u64N_sx (by omega)]
    exact ⟨n_back h, hle⟩
  · cases h
end

section
open Go.RowKit

/-- Each one's bytes, one behind the other. -/
def encAll {α : Type} (f : α → List UInt8) : List α → List UInt8
  | [] => []
  | x :: xs => f x ++ encAll f xs
theorem encAll_append {α : Type} (f : α → List UInt8) : ∀ (xs ys : List α), encAll f (xs ++ ys) = encAll f xs ++ encAll f ys
  | [], _ => rfl
  | x :: xs, ys => by simp [encAll, encAll_append f xs ys]
theorem encAll_snoc {α : Type} (f : α → List UInt8) (xs : List α) (x : α) : encAll f (xs ++ [x]) = encAll f xs ++ f x := by rw [encAll_append]; simp [encAll]
/-- So many are read, as long as nothing failed. -/
def rdMany {α : Type} (rd : Option (List UInt8) → α × Option (List UInt8)) : Nat → Option (List UInt8) → List α × Option (List UInt8)
  | 0, st => ([], st)
  | _ + 1, none => ([], none)
  | n + 1, some xs => ((rd (some xs)).1 :: (rdMany rd n (rd (some xs)).2).1, (rdMany rd n (rd (some xs)).2).2)
theorem rdMany_zero {α : Type} (rd : Option (List UInt8) → α × Option (List UInt8)) (st : Option (List UInt8)) : rdMany rd 0 st = ([], st) := rfl
theorem rdMany_none {α : Type} (rd : Option (List UInt8) → α × Option (List UInt8)) (n : Nat) : rdMany rd n none = ([], none) := by cases n <;> rfl
theorem rdMany_some {α : Type} (rd : Option (List UInt8) → α × Option (List UInt8)) (n : Nat) (xs : List UInt8) : rdMany rd (n + 1) (some xs) = ((rd (some xs)).1 :: (rdMany rd n (rd (some xs)).2).1, (rdMany rd n (rd (some xs)).2).2) := rfl
/-- So many are read, whatever fails. -/
def rdAll {α : Type} (rd : Option (List UInt8) → α × Option (List UInt8)) : Nat → Option (List UInt8) → List α × Option (List UInt8)
  | 0, st => ([], st)
  | n + 1, st => ((rd st).1 :: (rdAll rd n (rd st).2).1, (rdAll rd n (rd st).2).2)
section
variable {α : Type} {f : α → List UInt8} {rd : Option (List UInt8) → α × Option (List UInt8)}
theorem rdMany_len : ∀ (n : Nat) (st : Option (List UInt8)), (rdMany rd n st).1.length ≤ n
  | 0, _ => Nat.le_refl _
  | n + 1, none => by rw [rdMany_none]; simp
  | n + 1, some xs => by
    rw [rdMany_some]
    have := rdMany_len n (rd (some xs)).2
    simp
    omega
theorem rdMany_back (hb : ∀ st r, (rd st).2 = some r → st = some (f (rd st).1 ++ r)) : ∀ (n : Nat) (st : Option (List UInt8)) (r : List UInt8), (rdMany rd n st).2 = some r → st = some (encAll f (rdMany rd n st).1 ++ r) ∧ (rdMany rd n st).1.length = n
  | 0, st, r, h => ⟨h, rfl⟩
  | n + 1, none, r, h => by rw [rdMany_none] at h; cases h
  | n + 1, some xs, r, h => by
    rw [rdMany_some] at h ⊢
    simp only at h ⊢
    obtain ⟨h1, h2⟩ := rdMany_back hb n _ r h
    have h3 := hb _ _ h1
    refine ⟨?_, by simp [h2]⟩
    simp only [encAll, List.append_assoc]
    exact h3
theorem rdAll_back (hb : ∀ st r, (rd st).2 = some r → st = some (f (rd st).1 ++ r)) : ∀ (n : Nat) (st : Option (List UInt8)) (r : List UInt8), (rdAll rd n st).2 = some r → st = some (encAll f (rdAll rd n st).1 ++ r) ∧ (rdAll rd n st).1.length = n
  | 0, st, r, h => ⟨h, rfl⟩
  | n + 1, st, r, h => by
    simp only [rdAll] at h ⊢
    obtain ⟨h1, h2⟩ := rdAll_back hb n _ r h
    have h3 := hb _ _ h1
    refine ⟨?_, by simp [h2]⟩
    simp only [encAll, List.append_assoc]
    exact h3
theorem rdMany_front {ok : α → Prop} (hf : ∀ a ys, ok a → rd (some (f a ++ ys)) = (a, some ys)) : ∀ (l : List α) (ys : List UInt8), (∀ a ∈ l, ok a) → rdMany rd l.length (some (encAll f l ++ ys)) = (l, some ys)
  | [], ys, _ => rfl
  | a :: l, ys, h => by
    have h1 := hf a (encAll f l ++ ys) (h a (List.mem_cons_self ..))
    have h2 := rdMany_front hf l ys (fun b hb => h b (List.mem_cons_of_mem _ hb))
    simp only [encAll, List.append_assoc, List.length_cons]
    rw [rdMany_some, h1]
    simp only
    rw [h2]
theorem rdAll_front {ok : α → Prop} (hf : ∀ a ys, ok a → rd (some (f a ++ ys)) = (a, some ys)) : ∀ (l : List α) (ys : List UInt8), (∀ a ∈ l, ok a) → rdAll rd l.length (some (encAll f l ++ ys)) = (l, some ys)
  | [], ys, _ => rfl
  | a :: l, ys, h => by
    have h1 := hf a (encAll f l ++ ys) (h a (List.mem_cons_self ..))
    have h2 := rdAll_front hf l ys (fun b hb => h b (List.mem_cons_of_mem _ hb))
    simp only [encAll, List.append_assoc, List.length_cons, rdAll]
    rw [h1]
    simp only
    rw [h2]
end
end

section
open Go.RowKit

/-- the string of these bytes -/
def ba (l : List UInt8) : ByteArray := ⟨l.toArray⟩
theorem ba_size (l : List UInt8) : (ba l).size = l.length := by simp [ba, ByteArray.size]
theorem ba_list (l : List UInt8) : (ba l).toList = l := ByteArray.toList_mk l
theorem ba_of (b : ByteArray) : b = ba b.data.toList := by cases b; simp [ba]
theorem ba_get (l : List UInt8) (i : Nat) (h : i < (ba l).size) : (ba l)[i]'h = l[i]'(by rw [ba_size] at h; exact h) := by
  show ((ba l).data)[i] = _
  simp [ba]

section
variable {P : Program} {t : TypeId}
theorem run_index_ba (ht : P.underlying t = some .string) (l : List UInt8) (k : IntKind) (i : Int) (n : Nat) (hi : i = n) (x : UInt8) (hx : l[n]? = some x) (w : World) : (Instr.index t (.string (ba l)) (.int k i)).run P w = .ok (.int .u8 x.toNat) w := by
  subst hi
  have hn : n < l.length := (List.getElem?_eq_some_iff.1 hx).1
  rw [run_index_string w t (ba l) k n ht, dif_pos ⟨by omega, by rw [ba_size]; omega⟩]
  have := ba_get l n (by rw [ba_size]; exact hn)
  have h2 : l[n] = x := (List.getElem?_eq_some_iff.1 hx).2
  simp only [Int.toNat_natCast]
  rw [this, h2]
theorem ba_extract (l : List UInt8) (i j : Nat) : (ba l).extract i j = ba ((l.take j).drop i) := by
  apply ByteArray.ext
  simp [ba, ByteArray.data_extract, List.drop_take]
theorem run_from_ba (ht : P.underlying t = some .string) (l : List UInt8) (k : IntKind) (i : Int) (n : Nat) (hi : i = n) (hn : n ≤ l.length) (w : World) : (Instr.slice t (.string (ba l)) (some (.int k i)) none none).run P w = .ok (.string (ba (l.drop n))) w := by
  subst hi
  rw [run_slice_string_from_if w t (ba l) k n ht, if_pos ⟨by omega, by rw [ba_size]; omega⟩, ba_size, Int.toNat_natCast, ba_extract, List.take_of_length_le (Nat.le_refl _)]
theorem run_to_ba (ht : P.underlying t = some .string) (l : List UInt8) (k : IntKind) (i : Int) (n : Nat) (hi : i = n) (hn : n ≤ l.length) (w : World) : (Instr.slice t (.string (ba l)) none (some (.int k i)) none).run P w = .ok (.string (ba (l.take n))) w := by
  subst hi
  rw [run_slice_string_to_if w t (ba l) k n ht, if_pos ⟨by omega, by rw [ba_size]; omega⟩, Int.toNat_natCast, ba_extract, List.drop_zero]
end

theorem ret_str {a b : ByteArray} (h : a = b) : Ending.returned (Value.string a) = Ending.returned (.string b) := by rw [h]
end

section
open Go.RowKit

/-- An amount. -/
def isM (a : Int) : Bool := decide (0 ≤ a) && decide (a ≤ 1099511627776)

def isBy (a : Int) : Bool := decide (-1099511627776 ≤ a) && decide (a ≤ 1099511627776)

/-- What came out, if it is an amount. -/
def outM (x : Int) : Int × Int := if isM x then (x, 0) else (0, 6)

def chgM (a b : Int) : Int × Int := if isM a && isBy b then outM (a + b) else (0, 5)

theorem isM_out (x : Int) : isM (outM x).1 = true := by unfold outM; split <;> simp_all [isM]

theorem isM_chg (a b : Int) : isM (chgM a b).1 = true := by unfold chgM; split <;> first | exact isM_out _ | rfl

/-- Two numbers, as a call hands them back. -/
def two (p : Int × Int) : Value := .tuple #[.int .i64 p.1, .int .i64 p.2]

theorem isBy_no {b : Int} (h : isBy b = false) : b < -1099511627776 ∨ 1099511627776 < b := by simp [isBy] at h; omega

theorem isBy_yes {b : Int} (h : isBy b = true) : -1099511627776 ≤ b ∧ b ≤ 1099511627776 := by simpa [isBy] using h

theorem isM_yes {b : Int} (h : isM b = true) : 0 ≤ b ∧ b ≤ 1099511627776 := by simpa [isM] using h
end

section
open Go.RowKit

/-- A letter: its name, state, amount, day, policy, papers. -/
structure Lt where
  nm : List UInt8
  st : Int
  am : Int
  du : Int
  po : List UInt8
  pa : List UInt8
def Lt.no : Lt := ⟨[], 0, 0, 0, [], []⟩
def Lt.cells (l : Lt) : List Value := [.string (ba l.nm), .int .i64 l.st, .int .i64 l.am, .int .i64 l.du, .string (ba l.po), .string (ba l.pa)]
def Lt.val (l : Lt) : Value := .agg #[.string (ba l.nm), .int .i64 l.st, .int .i64 l.am, .int .i64 l.du, .string (ba l.po), .string (ba l.pa)]
/-- whether two letters are the same -/
def Lt.eqb (a b : Lt) : Bool := (a.nm == b.nm) && (a.st == b.st) && (a.am == b.am) && (a.du == b.du) && (a.po == b.po) && (a.pa == b.pa)
theorem Lt.eqb_iff {a b : Lt} : a.eqb b = true ↔ a = b := by
  obtain ⟨a1, a2, a3, a4, a5, a6⟩ := a
  obtain ⟨b1, b2, b3, b4, b5, b6⟩ := b
  simp only [Lt.eqb, Bool.and_eq_true, beq_iff_eq, Lt.mk.injEq]
  exact ⟨fun ⟨⟨⟨⟨⟨h1, h2⟩, h3⟩, h4⟩, h5⟩, h6⟩ => ⟨h1, h2, h3, h4, h5, h6⟩, fun ⟨h1, h2, h3, h4, h5, h6⟩ => ⟨⟨⟨⟨⟨h1, h2⟩, h3⟩, h4⟩, h5⟩, h6⟩⟩
/-- A letter beside an error, as a call hands them back. -/
def ltE (p : Lt × Int) : Value := .tuple #[p.1.val, .int .i64 p.2]
end

section
open Go.RowKit

/-- An outcome: its client, number, result. -/
structure Oc where
  cl : Int
  sp : Int
  rs : Int
def Oc.eqb (a b : Oc) : Bool := (a.cl == b.cl) && (a.sp == b.sp) && (a.rs == b.rs)
theorem Oc.eqb_iff {a b : Oc} : a.eqb b = true ↔ a = b := by
  obtain ⟨a1, a2, a3⟩ := a
  obtain ⟨b1, b2, b3⟩ := b
  simp only [Oc.eqb, Bool.and_eq_true, beq_iff_eq, Oc.mk.injEq]
  exact ⟨fun ⟨⟨h1, h2⟩, h3⟩ => ⟨h1, h2, h3⟩, fun ⟨h1, h2, h3⟩ => ⟨⟨h1, h2⟩, h3⟩⟩
def Oc.no : Oc := ⟨0, 0, 0⟩
def Oc.cells (o : Oc) : List Value := [.int .i64 o.cl, .int .i64 o.sp, .int .i64 o.rs]
/-- A ledger. -/
structure Lg where
  sq : Int
  tt : Int
  ls : List Lt
  os : List Oc
/-- whether two lists are the same, one by one -/
def allB {α : Type} (p : α → α → Bool) : List α → List α → Bool
  | [], [] => true
  | x :: xs, y :: ys => p x y && allB p xs ys
  | _, _ => false
theorem allB_iff {α : Type} {p : α → α → Bool} (hp : ∀ a b, p a b = true ↔ a = b) : ∀ {xs ys : List α}, allB p xs ys = true ↔ xs = ys
  | [], [] => by simp [allB]
  | [], _ :: _ => by simp [allB]
  | _ :: _, [] => by simp [allB]
  | x :: xs, y :: ys => by simp [allB, hp, allB_iff hp]
theorem allB_len {α : Type} {p : α → α → Bool} : ∀ {xs ys : List α}, allB p xs ys = true → xs.length = ys.length
  | [], [], _ => rfl
  | [], _ :: _, h => by simp [allB] at h
  | _ :: _, [], h => by simp [allB] at h
  | x :: xs, y :: ys, h => by
    simp only [allB, Bool.and_eq_true] at h
    simp [allB_len h.2]
/-- whether two ledgers are the same -/
def Lg.same (a b : Lg) : Bool := (a.sq == b.sq) && (a.tt == b.tt) && allB Lt.eqb a.ls b.ls && allB Oc.eqb a.os b.os
theorem Lg.same_iff {a b : Lg} : a.same b = true ↔ a = b := by
  obtain ⟨a1, a2, a3, a4⟩ := a
  obtain ⟨b1, b2, b3, b4⟩ := b
  simp only [Lg.same, Bool.and_eq_true, beq_iff_eq, Lg.mk.injEq, allB_iff (p := Lt.eqb) (fun _ _ => Lt.eqb_iff), allB_iff (p := Oc.eqb) (fun _ _ => Oc.eqb_iff)]
  exact ⟨fun ⟨⟨⟨h1, h2⟩, h3⟩, h4⟩ => ⟨h1, h2, h3, h4⟩, fun ⟨h1, h2, h3, h4⟩ => ⟨⟨⟨h1, h2⟩, h3⟩, h4⟩⟩
theorem Lg.same_self (a : Lg) : a.same a = true := Lg.same_iff.2 rfl
def Lg.no : Lg := ⟨0, 0, [], []⟩

/-- a letter, a digit or "-" -/
def nmB (x : UInt8) : Bool := (decide (97 ≤ x.toNat) && decide (x.toNat ≤ 122)) || (decide (48 ≤ x.toNat) && decide (x.toNat ≤ 57)) || (x.toNat == 45)
def isNm (l : List UInt8) : Bool := l.all nmB && decide (1 ≤ l.length) && decide (l.length ≤ 16)
theorem isNm_len {l : List UInt8} (h : isNm l = true) : 1 ≤ l.length ∧ l.length ≤ 16 := by simp [isNm] at h; exact ⟨by omega, h.2⟩

/-- one text ahead of another one -/
def ltS (a b : List UInt8) : Bool := Op.bytesLess a b
theorem ltS_dec (a b : List UInt8) : ltS a b = decide (a < b) := by
  unfold ltS
  induction a generalizing b with
  | nil => cases b <;> simp [Op.bytesLess]
  | cons x xs ih =>
    cases b with
    | nil => simp [Op.bytesLess]
    | cons y ys =>
      rw [Op.bytesLess]
      by_cases h1 : x < y
      · simp [h1, List.cons_lt_cons_iff]
      · by_cases h2 : x = y
        · subst h2
          simp [ih ys]
        · have h3 : (x == y) = false := by simpa using h2
          simp [List.cons_lt_cons_iff, h1, h2]
theorem ltS_irrefl (a : List UInt8) : ltS a a = false := by rw [ltS_dec]; simp [List.lt_irrefl a]
theorem ltS_asymm {a b : List UInt8} (h : ltS a b = true) : ltS b a = false := by
  rw [ltS_dec] at h ⊢
  simpa using List.le_of_lt (by simpa using h)
theorem ltS_trans {a b c : List UInt8} (h : ltS a b = true) (h2 : ltS b c = true) : ltS a c = true := by
  rw [ltS_dec] at *
  simp only [decide_eq_true_eq] at *
  exact List.lt_trans h h2
theorem ltS_total {a b : List UInt8} (h : a ≠ b) (h2 : ltS a b = false) : ltS b a = true := by
  rw [ltS_dec] at *
  simp only [decide_eq_true_eq, decide_eq_false_iff_not] at *
  by_cases h3 : b < a
  · exact h3
  · exact absurd (List.le_antisymm (List.not_lt.1 h3) (List.not_lt.1 h2)) h

/-- a letter that may stand in a ledger -/
def ltOk (x : Lt) : Bool := isNm x.nm && decide (1 ≤ x.st) && decide (x.st ≤ 7) && decide (1 ≤ x.am) && isM x.am && isM x.du && decide (x.po.length ≤ 200) && decide (x.pa.length ≤ 200)
/-- rising by names, behind an earlier one -/
def lsOk : Option Lt → List Lt → Bool
  | _, [] => true
  | none, x :: xs => ltOk x && lsOk (some x) xs
  | some p, x :: xs => ltS p.nm x.nm && ltOk x && lsOk (some x) xs
def ocOk (o : Oc) : Bool := decide (0 ≤ o.cl) && decide (o.cl ≤ 63) && decide (1 ≤ o.sp) && decide (o.sp ≤ 1099511627776) && decide (0 ≤ o.rs) && decide (o.rs ≤ 99)
def osOk : Option Oc → List Oc → Bool
  | _, [] => true
  | none, x :: xs => ocOk x && osOk (some x) xs
  | some p, x :: xs => decide (p.cl < x.cl) && ocOk x && osOk (some x) xs
/-- whether it may be -/
def Lg.right (l : Lg) : Bool := decide (0 ≤ l.sq) && decide (l.sq ≤ 1048576) && isM l.tt && decide (l.os.length ≤ 4) && decide (l.ls.length ≤ 16) && lsOk none l.ls && osOk none l.os

/-- the first letter of a name -/
def findL (nm : List UInt8) : List Lt → Option Lt
  | [] => none
  | x :: xs => if x.nm = nm then some x else findL nm xs
def lastL (c : Int) : List Oc → Option Oc
  | [] => none
  | x :: xs => if x.cl = c then some x else lastL c xs
/-- a letter put in its place -/
def putL (there : Bool) (x : Lt) : List Lt → List Lt
  | [] => [x]
  | y :: ys => if there then (if y.nm = x.nm then x :: ys else y :: putL there x ys) else (if ltS x.nm y.nm then x :: y :: ys else y :: putL there x ys)
def withL (l : Lg) (x : Lt) : Lg × Int :=
  if isNm x.nm = false then (Lg.no, 7)
  else if 16 < (putL (findL x.nm l.ls).isSome x l.ls).length then (Lg.no, 11) else (⟨l.sq, l.tt, putL (findL x.nm l.ls).isSome x l.ls, l.os⟩, 0)
def putO (there : Bool) (o : Oc) : List Oc → List Oc
  | [] => [o]
  | y :: ys => if there then (if y.cl = o.cl then o :: ys else y :: putO there o ys) else (if o.cl < y.cl then o :: y :: ys else y :: putO there o ys)
def toldL (l : Lg) (o : Oc) : Lg := ⟨l.sq, l.tt, l.ls, putO (lastL o.cl l.os).isSome o l.os⟩
theorem putL_len (there : Bool) (x : Lt) : ∀ ls : List Lt, (putL there x ls).length ≤ ls.length + 1
  | [] => by simp [putL]
  | y :: ys => by
    have := putL_len there x ys
    unfold putL
    split <;> split <;> simp <;> omega
theorem putO_len (there : Bool) (x : Oc) : ∀ ls : List Oc, (putO there x ls).length ≤ ls.length + 1
  | [] => by simp [putO]
  | y :: ys => by
    have := putO_len there x ys
    unfold putO
    split <;> split <;> simp <;> omega
end

section
open Go.RowKit

def encLt (x : Lt) : List UInt8 := rowB x.nm ++ (beB (u64N x.st) 1 ++ (beB (u64N x.am) 8 ++ (beB (u64N x.du) 8 ++ (rowB x.po ++ rowB x.pa))))
def encOc (o : Oc) : List UInt8 := beB (u64N o.cl) 1 ++ (beB (u64N o.sp) 8 ++ beB (u64N o.rs) 1)
/-- a ledger's bytes -/
def Lg.bytes (l : Lg) : List UInt8 := beB (u64N l.sq) 8 ++ (beB (u64N l.tt) 8 ++ (beB l.ls.length 2 ++ (encAll encLt l.ls ++ (beB l.os.length 2 ++ encAll encOc l.os))))

def rdLt (st : Option (List UInt8)) : Lt × Option (List UInt8) :=
  (⟨rval 16 st, nval 1 (rnext 16 st), sx 8 (nval 8 (nnext 1 (rnext 16 st))), sx 8 (nval 8 (nnext 8 (nnext 1 (rnext 16 st)))), rval 200 (nnext 8 (nnext 8 (nnext 1 (rnext 16 st)))), rval 200 (rnext 200 (nnext 8 (nnext 8 (nnext 1 (rnext 16 st)))))⟩,
   rnext 200 (rnext 200 (nnext 8 (nnext 8 (nnext 1 (rnext 16 st))))))
def rdOc (st : Option (List UInt8)) : Oc × Option (List UInt8) :=
  (⟨nval 1 st, sx 8 (nval 8 (nnext 1 st)), nval 1 (nnext 8 (nnext 1 st))⟩, nnext 1 (nnext 8 (nnext 1 st)))
theorem e1 : (256 : Nat) ^ 1 = 256 := by decide
theorem e8 : (256 : Nat) ^ 8 = 18446744073709551616 := by decide
theorem u64N_nat {n : Nat} (h : n < 18446744073709551616) : u64N (n : Int) = n := by unfold u64N; omega
theorem rdLt_back (st : Option (List UInt8)) (r : List UInt8) (h : (rdLt st).2 = some r) : st = some (encLt (rdLt st).1 ++ r) := by
  unfold rdLt at h
  simp only at h
  obtain ⟨h1, _⟩ := r_back h
  obtain ⟨h2, _⟩ := r_back h1
  have h3 := n_back h2
  have h4 := n_back h3
  have h5 := n_back h4
  obtain ⟨h6, _⟩ := r_back h5
  have v1 := nval_lt 1 (rnext 16 st)
  have v2 := nval_lt 8 (nnext 1 (rnext 16 st))
  have v3 := nval_lt 8 (nnext 8 (nnext 1 (rnext 16 st)))
  rw [e1] at v1
  rw [e8] at v2 v3
  unfold encLt rdLt
  simp only
  rw [u64N_nat (by omega), u64N_sx v2, u64N_sx v3]
  simp only [List.append_assoc]
  exact h6
theorem rdLt_front (x : Lt) (ys : List UInt8) (h : ltOk x = true) : rdLt (some (encLt x ++ ys)) = (x, some ys) := by
  obtain ⟨nm, st, am, du, po, pa⟩ := x
  simp only [ltOk, Bool.and_eq_true, decide_eq_true_eq] at h
  obtain ⟨⟨⟨⟨⟨⟨⟨h1, h2⟩, h3⟩, h4⟩, h5⟩, h6⟩, h7⟩, h8⟩ := h
  have hn := (isNm_len h1).2
  have h5' := isM_yes h5
  have h6' := isM_yes h6
  unfold encLt rdLt
  simp only [List.append_assoc]
  obtain ⟨a1, a2⟩ := r_front hn (by decide) (beB (u64N st) 1 ++ (beB (u64N am) 8 ++ (beB (u64N du) 8 ++ (rowB po ++ (rowB pa ++ ys)))))
  obtain ⟨b1, b2⟩ := n_front (v := u64N st) (k := 1) (by rw [e1]; unfold u64N; omega) (beB (u64N am) 8 ++ (beB (u64N du) 8 ++ (rowB po ++ (rowB pa ++ ys))))
  obtain ⟨c1, c2⟩ := n_front (u64N_lt am) (beB (u64N du) 8 ++ (rowB po ++ (rowB pa ++ ys)))
  obtain ⟨d1, d2⟩ := n_front (u64N_lt du) (rowB po ++ (rowB pa ++ ys))
  obtain ⟨f1, f2⟩ := r_front h7 (by decide) (rowB pa ++ ys)
  obtain ⟨g1, g2⟩ := r_front h8 (by decide) ys
  rw [a1, a2, b1, b2, c1, c2, d1, d2, f1, f2, g1, g2, sx_u64N (by omega) (by omega), sx_u64N (by omega) (by omega)]
  have e : ((u64N st : Nat) : Int) = st := by unfold u64N; omega
  rw [e]
theorem rdOc_back (st : Option (List UInt8)) (r : List UInt8) (h : (rdOc st).2 = some r) : st = some (encOc (rdOc st).1 ++ r) := by
  unfold rdOc at h
  simp only at h
  have h1 := n_back h
  have h2 := n_back h1
  have h3 := n_back h2
  have v1 := nval_lt 1 st
  have v2 := nval_lt 8 (nnext 1 st)
  have v3 := nval_lt 1 (nnext 8 (nnext 1 st))
  rw [e1] at v1 v3
  rw [e8] at v2
  unfold encOc rdOc
  simp only
  rw [u64N_nat (by omega), u64N_sx v2, u64N_nat (by omega)]
  simp only [List.append_assoc]
  exact h3
theorem rdOc_front (x : Oc) (ys : List UInt8) (h : ocOk x = true) : rdOc (some (encOc x ++ ys)) = (x, some ys) := by
  obtain ⟨cl, sp, rs⟩ := x
  simp only [ocOk, Bool.and_eq_true, decide_eq_true_eq] at h
  obtain ⟨⟨⟨⟨⟨h1, h2⟩, h3⟩, h4⟩, h5⟩, h6⟩ := h
  unfold encOc rdOc
  simp only [List.append_assoc]
  obtain ⟨b1, b2⟩ := n_front (v := u64N cl) (k := 1) (by rw [e1]; unfold u64N; omega) (beB (u64N sp) 8 ++ (beB (u64N rs) 1 ++ ys))
  obtain ⟨c1, c2⟩ := n_front (u64N_lt sp) (beB (u64N rs) 1 ++ ys)
  obtain ⟨d1, d2⟩ := n_front (v := u64N rs) (k := 1) (by rw [e1]; unfold u64N; omega) ys
  rw [b1, b2, c1, c2, d1, d2, sx_u64N (by omega) (by omega)]
  have k1 : ((u64N cl : Nat) : Int) = cl := by unfold u64N; omega
  have k2 : ((u64N rs : Nat) : Int) = rs := by unfold u64N; omega
  rw [k1, k2]

/-- the document's way to read a ledger: what stands there, and what is left behind it -/
def rdLg (xs : List UInt8) : Lg × Option (List UInt8) :=
  let s2 := nnext 8 (nnext 8 (some xs))
  let L := rdMany rdLt (cval 16 s2) (cnext 16 s2)
  let O := rdMany rdOc (cval 4 L.2) (cnext 4 L.2)
  (⟨sx 8 (nval 8 (some xs)), sx 8 (nval 8 (nnext 8 (some xs))), L.1, O.1⟩, O.2)
theorem rdLg_back (xs : List UInt8) (h : (rdLg xs).2 = some []) : xs = (rdLg xs).1.bytes := by
  unfold rdLg at h ⊢
  simp only at h ⊢
  generalize hs2 : nnext 8 (nnext 8 (some xs)) = s2 at *
  generalize hL : rdMany rdLt (cval 16 s2) (cnext 16 s2) = L at *
  obtain ⟨h1, k1⟩ := rdMany_back rdOc_back _ _ _ h
  obtain ⟨h2, _⟩ := c_back h1
  have h2' : (rdMany rdLt (cval 16 s2) (cnext 16 s2)).2 = some _ := (by rw [hL]; exact h2)
  obtain ⟨h3, k3⟩ := rdMany_back rdLt_back _ _ _ h2'
  obtain ⟨h4, _⟩ := c_back h3
  rw [hL] at h4 k3
  rw [← hs2] at h4
  have h5 := n_back h4
  have h6 := n_back h5
  have v1 := nval_lt 8 (some xs)
  have v2 := nval_lt 8 (nnext 8 (some xs))
  rw [e8] at v1 v2
  unfold Lg.bytes
  simp only
  rw [u64N_sx v1, u64N_sx v2, k1, k3]
  have h7 := Option.some.inj h6
  rw [hs2] at h7
  simpa using h7
theorem lsOk_mem : ∀ (p : Option Lt) (ls : List Lt), lsOk p ls = true → ∀ x ∈ ls, ltOk x = true
  | _, [], _, x, hx => by cases hx
  | none, y :: ys, h, x, hx => by
    simp only [lsOk, Bool.and_eq_true] at h
    rcases List.mem_cons.1 hx with rfl | hx
    · exact h.1
    · exact lsOk_mem _ ys h.2 x hx
  | some p, y :: ys, h, x, hx => by
    simp only [lsOk, Bool.and_eq_true] at h
    rcases List.mem_cons.1 hx with rfl | hx
    · exact h.1.2
    · exact lsOk_mem _ ys h.2 x hx
theorem osOk_mem : ∀ (p : Option Oc) (ls : List Oc), osOk p ls = true → ∀ x ∈ ls, ocOk x = true
  | _, [], _, x, hx => by cases hx
  | none, y :: ys, h, x, hx => by
    simp only [osOk, Bool.and_eq_true] at h
    rcases List.mem_cons.1 hx with rfl | hx
    · exact h.1
    · exact osOk_mem _ ys h.2 x hx
  | some p, y :: ys, h, x, hx => by
    simp only [osOk, Bool.and_eq_true] at h
    rcases List.mem_cons.1 hx with rfl | hx
    · exact h.1.2
    · exact osOk_mem _ ys h.2 x hx
structure Lg.Right (l : Lg) : Prop where
  s0 : 0 ≤ l.sq
  s1 : l.sq ≤ 1048576
  t0 : 0 ≤ l.tt
  t1 : l.tt ≤ 1099511627776
  o4 : l.os.length ≤ 4
  l16 : l.ls.length ≤ 16
  ls : lsOk none l.ls = true
  os : osOk none l.os = true
theorem Lg.right_iff {l : Lg} : l.right = true ↔ l.Right := by
  unfold Lg.right
  simp only [Bool.and_eq_true, decide_eq_true_eq]
  constructor
  · rintro ⟨⟨⟨⟨⟨⟨h1, h2⟩, h3⟩, h4⟩, h5⟩, h6⟩, h7⟩
    have := isM_yes h3
    exact ⟨h1, h2, this.1, this.2, h4, h5, h6, h7⟩
  · rintro ⟨h1, h2, h3, h4, h5, h6, h7, h8⟩
    exact ⟨⟨⟨⟨⟨⟨h1, h2⟩, by simp [isM]; omega⟩, h5⟩, h6⟩, h7⟩, h8⟩
theorem rdLg_front (l : Lg) (h : l.right = true) : rdLg l.bytes = (l, some []) := by
  obtain ⟨sq, tt, ls, os⟩ := l
  obtain ⟨h1, h2, h3, h4, h5, h6, h7, h8⟩ := Lg.right_iff.1 h
  simp only at h1 h2 h3 h4 h5 h6 h7 h8
  unfold rdLg Lg.bytes
  simp only
  obtain ⟨a1, a2⟩ := n_front (u64N_lt sq) (beB (u64N tt) 8 ++ (beB ls.length 2 ++ (encAll encLt ls ++ (beB os.length 2 ++ encAll encOc os))))
  obtain ⟨b1, b2⟩ := n_front (u64N_lt tt) (beB ls.length 2 ++ (encAll encLt ls ++ (beB os.length 2 ++ encAll encOc os)))
  obtain ⟨c1, c2⟩ := c_front h6 (by decide) (encAll encLt ls ++ (beB os.length 2 ++ encAll encOc os))
  have d := rdMany_front (rd := rdLt) (f := encLt) (ok := fun x => ltOk x = true) (fun a ys ha => rdLt_front a ys ha) ls (beB os.length 2 ++ encAll encOc os) (lsOk_mem _ _ h7)
  obtain ⟨f1, f2⟩ := c_front h5 (by decide) (encAll encOc os)
  have g := rdMany_front (rd := rdOc) (f := encOc) (ok := fun x => ocOk x = true) (fun a ys ha => rdOc_front a ys ha) os [] (osOk_mem _ _ h8)
  rw [List.append_nil] at g
  rw [a1, a2, b1, b2, c1, c2, d]
  simp only
  rw [f1, f2, g, sx_u64N (by omega) (by omega), sx_u64N (by omega) (by omega)]
theorem bytes_inj {l m : Lg} (h : l.right = true) (h' : m.right = true) (e : l.bytes = m.bytes) : l = m := by
  have h1 := rdLg_front l h
  rw [e, rdLg_front m h'] at h1
  exact (congrArg Prod.fst h1).symm
/-- which ledger bytes tell -/
def parseLg (xs : List UInt8) : Option Lg := if (rdLg xs).2 = some [] ∧ (rdLg xs).1.right = true then some (rdLg xs).1 else none
theorem parseLg_iff {xs : List UInt8} {l : Lg} : parseLg xs = some l ↔ l.right = true ∧ xs = l.bytes := by
  unfold parseLg
  constructor
  · intro h
    split at h
    · rename_i hc
      injection h with h
      subst h
      exact ⟨hc.2, rdLg_back xs hc.1⟩
    · cases h
  · rintro ⟨h, rfl⟩
    rw [rdLg_front l h, if_pos ⟨rfl, h⟩]
theorem parseLg_none {xs : List UInt8} (h : parseLg xs = none) (l : Lg) (hr : l.right = true) : xs ≠ l.bytes := fun e => by
  rw [parseLg_iff.2 ⟨hr, e⟩] at h
  cases h
end

section
open Go.RowKit

/-- a core -/
structure Cr where
  cl : Int
  sp : Int
  op : Int
  lt : List UInt8
  a : Int
  b : Int
  tx : List UInt8
def Cr.no : Cr := ⟨0, 0, 0, [], 0, 0, []⟩
def Cr.eqb (c d : Cr) : Bool := (c.cl == d.cl) && (c.sp == d.sp) && (c.op == d.op) && (c.lt == d.lt) && (c.a == d.a) && (c.b == d.b) && (c.tx == d.tx)
theorem Cr.eqb_iff {c d : Cr} : c.eqb d = true ↔ c = d := by
  obtain ⟨c1, c2, c3, c4, c5, c6, c7⟩ := c
  obtain ⟨d1, d2, d3, d4, d5, d6, d7⟩ := d
  simp only [Cr.eqb, Bool.and_eq_true, beq_iff_eq, Cr.mk.injEq, and_assoc]
/-- may it be, of n? -/
def chkC (c : Cr) (n : Int) : Int :=
  if n < 1 ∨ 7 < n then 1
  else if c.cl < n ∨ n + 3 < c.cl then 17
  else if c.sp < 1 ∨ 1099511627776 < c.sp ∨ c.op < 1 ∨ 9 < c.op then 5
  else if isNm c.lt = false then 7
  else if 200 < c.tx.length then 3 else 0
structure Cr.May (c : Cr) (n : Int) : Prop where
  n1 : 1 ≤ n
  n7 : n ≤ 7
  c0 : n ≤ c.cl
  c1 : c.cl ≤ n + 3
  s0 : 1 ≤ c.sp
  s1 : c.sp ≤ 1099511627776
  o0 : 1 ≤ c.op
  o1 : c.op ≤ 9
  nm : isNm c.lt = true
  tx : c.tx.length ≤ 200
theorem chkC_iff {c : Cr} {n : Int} : chkC c n = 0 ↔ c.May n := by
  unfold chkC
  constructor
  · intro h
    by_cases h1 : n < 1 ∨ 7 < n
    · rw [if_pos h1] at h; cases h
    rw [if_neg h1] at h
    by_cases h2 : c.cl < n ∨ n + 3 < c.cl
    · rw [if_pos h2] at h; cases h
    rw [if_neg h2] at h
    by_cases h3 : c.sp < 1 ∨ 1099511627776 < c.sp ∨ c.op < 1 ∨ 9 < c.op
    · rw [if_pos h3] at h; cases h
    rw [if_neg h3] at h
    by_cases h4 : isNm c.lt = false
    · rw [if_pos h4] at h; cases h
    rw [if_neg h4] at h
    by_cases h5 : 200 < c.tx.length
    · rw [if_pos h5] at h; cases h
    exact ⟨by omega, by omega, by omega, by omega, by omega, by omega, by omega, by omega, by simpa using h4, by omega⟩
  · rintro ⟨h1, h2, h3, h4, h5, h6, h7, h8, h9, h10⟩
    rw [if_neg (by omega), if_neg (by omega), if_neg (by omega), if_neg (by simp [h9]), if_neg (by omega)]
/-- a core's bytes -/
def encCr (c : Cr) : List UInt8 := beB (u64N c.cl) 1 ++ (beB (u64N c.sp) 8 ++ (beB (u64N c.op) 1 ++ (rowB c.lt ++ (beB (u64N c.a) 8 ++ (beB (u64N c.b) 8 ++ rowB c.tx)))))
def rdCr (m : Nat) (st : Option (List UInt8)) : Cr × Option (List UInt8) :=
  (⟨nval 1 st, sx 8 (nval 8 (nnext 1 st)), nval 1 (nnext 8 (nnext 1 st)), rval m (nnext 1 (nnext 8 (nnext 1 st))), sx 8 (nval 8 (rnext m (nnext 1 (nnext 8 (nnext 1 st))))), sx 8 (nval 8 (nnext 8 (rnext m (nnext 1 (nnext 8 (nnext 1 st)))))), rval m (nnext 8 (nnext 8 (rnext m (nnext 1 (nnext 8 (nnext 1 st))))))⟩,
   rnext m (nnext 8 (nnext 8 (rnext m (nnext 1 (nnext 8 (nnext 1 st)))))))
theorem rdCr_back {m : Nat} (st : Option (List UInt8)) (r : List UInt8) (h : (rdCr m st).2 = some r) : st = some (encCr (rdCr m st).1 ++ r) := by
  unfold rdCr at h
  simp only at h
  obtain ⟨h1, _⟩ := r_back h
  have h2 := n_back h1
  have h3 := n_back h2
  obtain ⟨h4, _⟩ := r_back h3
  have h5 := n_back h4
  have h6 := n_back h5
  have h7 := n_back h6
  have v1 := nval_lt 1 st
  have v2 := nval_lt 8 (nnext 1 st)
  have v3 := nval_lt 1 (nnext 8 (nnext 1 st))
  have v4 := nval_lt 8 (rnext m (nnext 1 (nnext 8 (nnext 1 st))))
  have v5 := nval_lt 8 (nnext 8 (rnext m (nnext 1 (nnext 8 (nnext 1 st)))))
  rw [e1] at v1 v3
  rw [e8] at v2 v4 v5
  unfold encCr rdCr
  simp only
  rw [u64N_nat (by omega), u64N_sx v2, u64N_nat (by omega), u64N_sx v4, u64N_sx v5]
  simp only [List.append_assoc]
  exact h7
theorem rdCr_rng {m : Nat} (st : Option (List UInt8)) : (-9223372036854775808 ≤ (rdCr m st).1.a ∧ (rdCr m st).1.a ≤ 9223372036854775807) ∧ (-9223372036854775808 ≤ (rdCr m st).1.b ∧ (rdCr m st).1.b ≤ 9223372036854775807) :=
  ⟨sx_rng _ (by have := nval_lt 8 (rnext m (nnext 1 (nnext 8 (nnext 1 st)))); rwa [e8] at this), sx_rng _ (by have := nval_lt 8 (nnext 8 (rnext m (nnext 1 (nnext 8 (nnext 1 st))))); rwa [e8] at this)⟩
theorem rdCr_front {m : Nat} (hm : m < 4294967296) (h200 : 200 ≤ m) (c : Cr) (n : Int) (ys : List UInt8) (h : c.May n) (ha : -9223372036854775808 ≤ c.a ∧ c.a ≤ 9223372036854775807) (hb : -9223372036854775808 ≤ c.b ∧ c.b ≤ 9223372036854775807) : rdCr m (some (encCr c ++ ys)) = (c, some ys) := by
  obtain ⟨cl, sp, op, lt, a, b, tx⟩ := c
  obtain ⟨h1, h2, h3, h4, h5, h6, h7, h8, h9, h10⟩ := h
  simp only at h3 h4 h5 h6 h7 h8 h9 h10 ha hb
  have hn := (isNm_len h9).2
  unfold encCr rdCr
  simp only [List.append_assoc]
  obtain ⟨a1, a2⟩ := n_front (v := u64N cl) (k := 1) (by rw [e1]; unfold u64N; omega) (beB (u64N sp) 8 ++ (beB (u64N op) 1 ++ (rowB lt ++ (beB (u64N a) 8 ++ (beB (u64N b) 8 ++ (rowB tx ++ ys))))))
  obtain ⟨b1, b2⟩ := n_front (u64N_lt sp) (beB (u64N op) 1 ++ (rowB lt ++ (beB (u64N a) 8 ++ (beB (u64N b) 8 ++ (rowB tx ++ ys)))))
  obtain ⟨c1, c2⟩ := n_front (v := u64N op) (k := 1) (by rw [e1]; unfold u64N; omega) (rowB lt ++ (beB (u64N a) 8 ++ (beB (u64N b) 8 ++ (rowB tx ++ ys))))
  obtain ⟨d1, d2⟩ := r_front (most := m) (row := lt) (by omega) hm (beB (u64N a) 8 ++ (beB (u64N b) 8 ++ (rowB tx ++ ys)))
  obtain ⟨f1, f2⟩ := n_front (u64N_lt a) (beB (u64N b) 8 ++ (rowB tx ++ ys))
  obtain ⟨g1, g2⟩ := n_front (u64N_lt b) (rowB tx ++ ys)
  obtain ⟨k1, k2⟩ := r_front (most := m) (row := tx) (by omega) hm ys
  rw [a1, a2, b1, b2, c1, c2, d1, d2, f1, f2, g1, g2, k1, k2, sx_u64N (by omega) (by omega), sx_u64N ha.1 ha.2, sx_u64N hb.1 hb.2]
  have e : ((u64N cl : Nat) : Int) = cl := by unfold u64N; omega
  have e' : ((u64N op : Nat) : Int) = op := by unfold u64N; omega
  rw [e, e']
/-- which core bytes tell, or why none -/
def parseCr (m : Nat) (xs : List UInt8) (n : Int) : Cr × Int := if (rdCr m (some xs)).2 = some [] then (if chkC (rdCr m (some xs)).1 n = 0 then ((rdCr m (some xs)).1, 0) else (Cr.no, chkC (rdCr m (some xs)).1 n)) else (Cr.no, 2)
theorem parseCr_back {m : Nat} (hm : m < 4294967296) (h200 : 200 ≤ m) {c : Cr} {n : Int} (h : chkC c n = 0) (ha : -9223372036854775808 ≤ c.a ∧ c.a ≤ 9223372036854775807) (hb : -9223372036854775808 ≤ c.b ∧ c.b ≤ 9223372036854775807) : parseCr m (encCr c) n = (c, 0) := by
  have h1 := rdCr_front hm h200 c n [] (chkC_iff.1 h) ha hb
  rw [List.append_nil] at h1
  unfold parseCr
  rw [h1]
  simp [h]
theorem parseCr_fail {m : Nat} {xs : List UInt8} {n : Int} (h : (rdCr m (some xs)).2 ≠ some []) : parseCr m xs n = (Cr.no, 2) := by unfold parseCr; rw [if_neg h]

/-- an endorsement: who, and a tag (32 bytes) to each replica -/
structure En where
  og : Int
  ts : List (List UInt8)
/-- a request -/
structure Rq where
  co : Cr
  es : List En
def Rq.no : Rq := ⟨Cr.no, []⟩
def En.eqb (e f : En) : Bool := (e.og == f.og) && (e.ts == f.ts)
theorem En.eqb_iff {e f : En} : e.eqb f = true ↔ e = f := by
  obtain ⟨e1, e2⟩ := e
  obtain ⟨f1, f2⟩ := f
  simp only [En.eqb, Bool.and_eq_true, beq_iff_eq, En.mk.injEq]
def Rq.same (p q : Rq) : Bool := p.co.eqb q.co && allB En.eqb p.es q.es
theorem Rq.same_iff {p q : Rq} : p.same q = true ↔ p = q := by
  obtain ⟨p1, p2⟩ := p
  obtain ⟨q1, q2⟩ := q
  simp only [Rq.same, Bool.and_eq_true, Cr.eqb_iff, allB_iff (p := En.eqb) (fun _ _ => En.eqb_iff), Rq.mk.injEq]
theorem Rq.same_self (p : Rq) : p.same p = true := Rq.same_iff.2 rfl
def encTg (t : List UInt8) : List UInt8 := t
def encEn (e : En) : List UInt8 := beB (u64N e.og) 1 ++ encAll encTg e.ts
def Rq.bytes (q : Rq) : List UInt8 := rowB (encCr q.co) ++ (beB q.es.length 2 ++ encAll encEn q.es)
/-- may these endorsements be, of n? -/
def esOk (n : Int) : Option Int → List En → Bool
  | _, [] => true
  | p, e :: es => decide (0 ≤ e.og) && decide (e.og < n) && (match p with | none => true | some o => decide (o < e.og)) && decide ((e.ts.length : Int) = n) && esOk n (some e.og) es
def endsOk (n : Int) (es : List En) : Bool := esOk n none es && decide ((es.length : Int) ≤ n)
/-- what a read of 32 bytes puts into a tag -/
def tagOf (l : List UInt8) : List UInt8 := if l.length = 32 then l else List.replicate 32 0
def rdTg (st : Option (List UInt8)) : List UInt8 × Option (List UInt8) := (tagOf (tval 32 st), nnext 32 st)
def rdEn (n : Nat) (st : Option (List UInt8)) : En × Option (List UInt8) := (⟨nval 1 st, (rdAll rdTg n (nnext 1 st)).1⟩, (rdAll rdTg n (nnext 1 st)).2)
theorem rdTg_back (st : Option (List UInt8)) (r : List UInt8) (h : (rdTg st).2 = some r) : st = some (encTg (rdTg st).1 ++ r) := by
  obtain ⟨h1, h2⟩ := t_back h
  unfold rdTg tagOf encTg
  rw [if_pos h2]
  exact h1
theorem rdTg_front (t ys : List UInt8) (h : t.length = 32) : rdTg (some (encTg t ++ ys)) = (t, some ys) := by
  obtain ⟨h1, h2⟩ := t_front t ys
  rw [h] at h1 h2
  unfold rdTg encTg
  rw [h1, h2]
  unfold tagOf
  rw [if_pos h]
theorem rdEn_back {n : Nat} (st : Option (List UInt8)) (r : List UInt8) (h : (rdEn n st).2 = some r) : st = some (encEn (rdEn n st).1 ++ r) := by
  unfold rdEn at h
  simp only at h
  obtain ⟨h1, _⟩ := rdAll_back rdTg_back _ _ _ h
  have h2 := n_back h1
  have v1 := nval_lt 1 st
  rw [e1] at v1
  unfold encEn rdEn
  simp only
  rw [u64N_nat (by omega)]
  simp only [List.append_assoc]
  exact h2
theorem rdEn_front {n : Nat} (e : En) (ys : List UInt8) (h : (0 ≤ e.og ∧ e.og < 256) ∧ e.ts.length = n ∧ ∀ t ∈ e.ts, t.length = 32) : rdEn n (some (encEn e ++ ys)) = (e, some ys) := by
  obtain ⟨og, ts⟩ := e
  obtain ⟨⟨h1, h2⟩, h3, h4⟩ := h
  simp only at h1 h2 h3 h4
  unfold encEn rdEn
  simp only [List.append_assoc]
  obtain ⟨a1, a2⟩ := n_front (v := u64N og) (k := 1) (by rw [e1]; unfold u64N; omega) (encAll encTg ts ++ ys)
  have d := rdAll_front (rd := rdTg) (f := encTg) (ok := fun t => t.length = 32) (fun t ys ht => rdTg_front t ys ht) ts ys h4
  rw [h3] at d
  rw [a1, a2, d]
  have e : ((u64N og : Nat) : Int) = og := by unfold u64N; omega
  rw [e]
/-- which request bytes tell, or why none -/
def rdRq (m n : Nat) (xs : List UInt8) : List UInt8 × List En × Option (List UInt8) :=
  (rval m (some xs), (rdMany (rdEn n) (cval n (rnext m (some xs))) (cnext n (rnext m (some xs)))).1, (rdMany (rdEn n) (cval n (rnext m (some xs))) (cnext n (rnext m (some xs)))).2)
def parseRq (m : Nat) (xs : List UInt8) (n : Int) : Rq × Int :=
  if n < 1 ∨ 7 < n then (Rq.no, 1)
  else if (rdRq m n.toNat xs).2.2 = some [] ∧ endsOk n (rdRq m n.toNat xs).2.1 = true then
    (if (parseCr m (rdRq m n.toNat xs).1 n).2 = 0 then (⟨(parseCr m (rdRq m n.toNat xs).1 n).1, (rdRq m n.toNat xs).2.1⟩, 0) else (Rq.no, (parseCr m (rdRq m n.toNat xs).1 n).2))
  else (Rq.no, 2)
theorem esOk_mem (n : Int) : ∀ (p : Option Int) (es : List En), esOk n p es = true → ∀ e ∈ es, 0 ≤ e.og ∧ e.og < n ∧ (e.ts.length : Int) = n := fun p es => by
  induction es generalizing p with
  | nil => intro _ e he; cases he
  | cons x xs ih =>
    intro h e he
    simp only [esOk, Bool.and_eq_true, decide_eq_true_eq] at h
    rcases List.mem_cons.1 he with rfl | he
    · exact ⟨h.1.1.1.1, h.1.1.1.2, h.1.2⟩
    · exact ih _ h.2 e he
theorem encCr_len (c : Cr) : (encCr c).length = 34 + c.lt.length + c.tx.length := by
  unfold encCr rowB
  simp [beB_length]
  omega
theorem parseRq_back {m : Nat} (hm : m < 4294967296) (h4 : 400 ≤ m) {q : Rq} {n : Int} (h : chkC q.co n = 0) (he : endsOk n q.es = true) (ha : -9223372036854775808 ≤ q.co.a ∧ q.co.a ≤ 9223372036854775807) (hb : -9223372036854775808 ≤ q.co.b ∧ q.co.b ≤ 9223372036854775807) (ht : ∀ e ∈ q.es, ∀ t ∈ e.ts, t.length = 32) : parseRq m q.bytes n = (q, 0) := by
  have hM := chkC_iff.1 h
  have hn := (isNm_len hM.nm).2
  have htx := hM.tx
  have n1 := hM.n1
  have n7 := hM.n7
  have hee := he
  unfold endsOk at hee
  simp only [Bool.and_eq_true, decide_eq_true_eq] at hee
  have hmem := esOk_mem n none q.es hee.1
  have hrd : rdRq m n.toNat q.bytes = (encCr q.co, q.es, some []) := by
    unfold rdRq Rq.bytes
    obtain ⟨a1, a2⟩ := r_front (most := m) (row := encCr q.co) (by rw [encCr_len]; omega) hm (beB q.es.length 2 ++ encAll encEn q.es)
    obtain ⟨c1, c2⟩ := c_front (most := n.toNat) (n := q.es.length) (by omega) (by omega) (encAll encEn q.es)
    have d := rdMany_front (rd := rdEn n.toNat) (f := encEn) (ok := fun e => (0 ≤ e.og ∧ e.og < 256) ∧ e.ts.length = n.toNat ∧ ∀ t ∈ e.ts, t.length = 32) (fun e ys h9 => rdEn_front e ys h9) q.es [] (fun e h9 => by
      have h8 := hmem e h9
      exact ⟨⟨h8.1, by omega⟩, by omega, ht e h9⟩)
    rw [List.append_nil] at d
    rw [a1, a2, c1, c2, d]
  unfold parseRq
  rw [if_neg (by omega), hrd]
  simp only
  rw [if_pos ⟨trivial, he⟩, parseCr_back hm (by omega) h ha hb]
  rfl
end

end Go.Proofs.Ytpngcdafamkhcaa
