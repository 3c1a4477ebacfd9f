/-
  A ledger's bytes, there and back, by plain functions. No walk here.
-/
import Derived.Test.YtkklgfcmgefedaaCm
import Derived.Test.YtkklgfcmgefedaaLg
namespace Go.Proofs.Ytkklgfcmgefedaa
open Go.RowKit

def encLt (x : Lt) : List UInt8 := rowB x.nm ++ (beB (u64N x.st) 1 ++ (beB (u64N x.am) 8 ++ (beB (u64N x.du) 8 ++ (rowB x.po ++ rowB x.pa))))
def encOc (o : Oc) : List UInt8 := beB (u64N o.cl) 1 ++ (beB (u64N o.sp) 8 ++ beB (u64N o.rs) 1)
/-- a ledger's bytes -/
def Lg.bytes (l : Lg) : List UInt8 := beB (u64N l.sq) 8 ++ (beB (u64N l.tt) 8 ++ (beB l.ls.length 2 ++ (encAll encLt l.ls ++ (beB l.os.length 2 ++ encAll encOc l.os))))

def rdLt (st : Option (List UInt8)) : Lt × Option (List UInt8) :=
  (⟨rval 16 st, nval 1 (rnext 16 st), sx 8 (nval 8 (nnext 1 (rnext 16 st))), sx 8 (nval 8 (nnext 8 (nnext 1 (rnext 16 st)))), rval 200 (nnext 8 (nnext 8 (nnext 1 (rnext 16 st)))), rval 200 (rnext 200 (nnext 8 (nnext 8 (nnext 1 (rnext 16 st)))))⟩,
   rnext 200 (rnext 200 (nnext 8 (nnext 8 (nnext 1 (rnext 16 st))))))
def rdOc (st : Option (List UInt8)) : Oc × Option (List UInt8) :=
  (⟨nval 1 st, sx 8 (nval 8 (nnext 1 st)), nval 1 (nnext 8 (nnext 1 st))⟩, nnext 1 (nnext 8 (nnext 1 st)))
theorem e1 : (256 : Nat) ^ 1 = 256 := by decide
theorem e8 : (256 : Nat) ^ 8 = 18446744073709551616 := by decide
theorem u64N_nat {n : Nat} (h : n < 18446744073709551616) : u64N (n : Int) = n := by unfold u64N; omega
theorem rdLt_back (st : Option (List UInt8)) (r : List UInt8) (h : (rdLt st).2 = some r) : st = some (encLt (rdLt st).1 ++ r) := by
  unfold rdLt at h
  simp only at h
  obtain ⟨h1, _⟩ := r_back h
  obtain ⟨h2, _⟩ := r_back h1
  have h3 := n_back h2
  have h4 := n_back h3
  have h5 := n_back h4
  obtain ⟨h6, _⟩ := r_back h5
  have v1 := nval_lt 1 (rnext 16 st)
  have v2 := nval_lt 8 (nnext 1 (rnext 16 st))
  have v3 := nval_lt 8 (nnext 8 (nnext 1 (rnext 16 st)))
  rw [e1] at v1
  rw [e8] at v2 v3
  unfold encLt rdLt
  simp only
  rw [u64N_nat (by omega), u64N_sx v2, u64N_sx v3]
  simp only [List.append_assoc]
  exact h6
theorem rdLt_front (x : Lt) (ys : List UInt8) (h : ltOk x = true) : rdLt (some (encLt x ++ ys)) = (x, some ys) := by
  obtain ⟨nm, st, am, du, po, pa⟩ := x
  simp only [ltOk, Bool.and_eq_true, decide_eq_true_eq] at h
  obtain ⟨⟨⟨⟨⟨⟨⟨h1, h2⟩, h3⟩, h4⟩, h5⟩, h6⟩, h7⟩, h8⟩ := h
  have hn := (isNm_len h1).2
  have h5' := isM_yes h5
  have h6' := isM_yes h6
  unfold encLt rdLt
  simp only [List.append_assoc]
  obtain ⟨a1, a2⟩ := r_front hn (by decide) (beB (u64N st) 1 ++ (beB (u64N am) 8 ++ (beB (u64N du) 8 ++ (rowB po ++ (rowB pa ++ ys)))))
  obtain ⟨b1, b2⟩ := n_front (v := u64N st) (k := 1) (by rw [e1]; unfold u64N; omega) (beB (u64N am) 8 ++ (beB (u64N du) 8 ++ (rowB po ++ (rowB pa ++ ys))))
  obtain ⟨c1, c2⟩ := n_front (u64N_lt am) (beB (u64N du) 8 ++ (rowB po ++ (rowB pa ++ ys)))
  obtain ⟨d1, d2⟩ := n_front (u64N_lt du) (rowB po ++ (rowB pa ++ ys))
  obtain ⟨f1, f2⟩ := r_front h7 (by decide) (rowB pa ++ ys)
  obtain ⟨g1, g2⟩ := r_front h8 (by decide) ys
  rw [a1, a2, b1, b2, c1, c2, d1, d2, f1, f2, g1, g2, sx_u64N (by omega) (by omega), sx_u64N (by omega) (by omega)]
  have e : ((u64N st : Nat) : Int) = st := by unfold u64N; omega
  rw [e]
theorem rdOc_back (st : Option (List UInt8)) (r : List UInt8) (h : (rdOc st).2 = some r) : st = some (encOc (rdOc st).1 ++ r) := by
  unfold rdOc at h
  simp only at h
  have h1 := n_back h
  have h2 := n_back h1
  have h3 := n_back h2
  have v1 := nval_lt 1 st
  have v2 := nval_lt 8 (nnext 1 st)
  have v3 := nval_lt 1 (nnext 8 (nnext 1 st))
  rw [e1] at v1 v3
  rw [e8] at v2
  unfold encOc rdOc
  simp only
  rw [u64N_nat (by omega), u64N_sx v2, u64N_nat (by omega)]
  simp only [List.append_assoc]
  exact h3
theorem rdOc_front (x : Oc) (ys : List UInt8) (h : ocOk x = true) : rdOc (some (encOc x ++ ys)) = (x, some ys) := by
  obtain ⟨cl, sp, rs⟩ := x
  simp only [ocOk, Bool.and_eq_true, decide_eq_true_eq] at h
  obtain ⟨⟨⟨⟨⟨h1, h2⟩, h3⟩, h4⟩, h5⟩, h6⟩ := h
  unfold encOc rdOc
  simp only [List.append_assoc]
  obtain ⟨b1, b2⟩ := n_front (v := u64N cl) (k := 1) (by rw [e1]; unfold u64N; omega) (beB (u64N sp) 8 ++ (beB (u64N rs) 1 ++ ys))
  obtain ⟨c1, c2⟩ := n_front (u64N_lt sp) (beB (u64N rs) 1 ++ ys)
  obtain ⟨d1, d2⟩ := n_front (v := u64N rs) (k := 1) (by rw [e1]; unfold u64N; omega) ys
  rw [b1, b2, c1, c2, d1, d2, sx_u64N (by omega) (by omega)]
  have k1 : ((u64N cl : Nat) : Int) = cl := by unfold u64N; omega
  have k2 : ((u64N rs : Nat) : Int) = rs := by unfold u64N; omega
  rw [k1, k2]

/-- the document's way to read a ledger: what stands there, and what is left behind it -/
def rdLg (xs : List UInt8) : Lg × Option (List UInt8) :=
  let s2 := nnext 8 (nnext 8 (some xs))
  let L := rdMany rdLt (cval 16 s2) (cnext 16 s2)
  let O := rdMany rdOc (cval 4 L.2) (cnext 4 L.2)
  (⟨sx 8 (nval 8 (some xs)), sx 8 (nval 8 (nnext 8 (some xs))), L.1, O.1⟩, O.2)
theorem rdLg_back (xs : List UInt8) (h : (rdLg xs).2 = some []) : xs = (rdLg xs).1.bytes := by
  unfold rdLg at h ⊢
  simp only at h ⊢
  generalize hs2 : nnext 8 (nnext 8 (some xs)) = s2 at *
  generalize hL : rdMany rdLt (cval 16 s2) (cnext 16 s2) = L at *
  obtain ⟨h1, k1⟩ := rdMany_back rdOc_back _ _ _ h
  obtain ⟨h2, _⟩ := c_back h1
  have h2' : (rdMany rdLt (cval 16 s2) (cnext 16 s2)).2 = some _ := (by rw [hL]; exact h2)
  obtain ⟨h3, k3⟩ := rdMany_back rdLt_back _ _ _ h2'
  obtain ⟨h4, _⟩ := c_back h3
  rw [hL] at h4 k3
  rw [← hs2] at h4
  have h5 := n_back h4
  have h6 := n_back h5
  have v1 := nval_lt 8 (some xs)
  have v2 := nval_lt 8 (nnext 8 (some xs))
  rw [e8] at v1 v2
  unfold Lg.bytes
  simp only
  rw [u64N_sx v1, u64N_sx v2, k1, k3]
  have h7 := Option.some.inj h6
  rw [hs2] at h7
  simpa using h7
theorem lsOk_mem : ∀ (p : Option Lt) (ls : List Lt), lsOk p ls = true → ∀ x ∈ ls, ltOk x = true
  | _, [], _, x, hx => by cases hx
  | none, y :: ys, h, x, hx => by
    simp only [lsOk, Bool.and_eq_true] at h
    rcases List.mem_cons.1 hx with rfl | hx
    · exact h.1
    · exact lsOk_mem _ ys h.2 x hx
  | some p, y :: ys, h, x, hx => by
    simp only [lsOk, Bool.and_eq_true] at h
    rcases List.mem_cons.1 hx with rfl | hx
    · exact h.1.2
    · exact lsOk_mem _ ys h.2 x hx
theorem osOk_mem : ∀ (p : Option Oc) (ls : List Oc), osOk p ls = true → ∀ x ∈ ls, ocOk x = true
  | _, [], _, x, hx => by cases hx
  | none, y :: ys, h, x, hx => by
    simp only [osOk, Bool.and_eq_true] at h
    rcases List.mem_cons.1 hx with rfl | hx
    · exact h.1
    · exact osOk_mem _ ys h.2 x hx
  | some p, y :: ys, h, x, hx => by
    simp only [osOk, Bool.and_eq_true] at h
    rcases List.mem_cons.1 hx with rfl | hx
    · exact h.1.2
    · exact osOk_mem _ ys h.2 x hx
structure Lg.Right (l : Lg) : Prop where
  s0 : 0 ≤ l.sq
  s1 : l.sq ≤ 1048576
  t0 : 0 ≤ l.tt
  t1 : l.tt ≤ 1099511627776
  o4 : l.os.length ≤ 4
  l16 : l.ls.length ≤ 16
  ls : lsOk none l.ls = true
  os : osOk none l.os = true
theorem Lg.right_iff {l : Lg} : l.right = true ↔ l.Right := by
  unfold Lg.right
  simp only [Bool.and_eq_true, decide_eq_true_eq]
  constructor
  · rintro ⟨⟨⟨⟨⟨⟨h1, h2⟩, h3⟩, h4⟩, h5⟩, h6⟩, h7⟩
    have := isM_yes h3
    exact ⟨h1, h2, this.1, this.2, h4, h5, h6, h7⟩
  · rintro ⟨h1, h2, h3, h4, h5, h6, h7, h8⟩
    exact ⟨⟨⟨⟨⟨⟨h1, h2⟩, by simp [isM]; omega⟩, h5⟩, h6⟩, h7⟩, h8⟩
theorem rdLg_front (l : Lg) (h : l.right = true) : rdLg l.bytes = (l, some []) := by
  obtain ⟨sq, tt, ls, os⟩ := l
  obtain ⟨h1, h2, h3, h4, h5, h6, h7, h8⟩ := Lg.right_iff.1 h
  simp only at h1 h2 h3 h4 h5 h6 h7 h8
  unfold rdLg Lg.bytes
  simp only
  obtain ⟨a1, a2⟩ := n_front (u64N_lt sq) (beB (u64N tt) 8 ++ (beB ls.length 2 ++ (encAll encLt ls ++ (beB os.length 2 ++ encAll encOc os))))
  obtain ⟨b1, b2⟩ := n_front (u64N_lt tt) (beB ls.length 2 ++ (encAll encLt ls ++ (beB os.length 2 ++ encAll encOc os)))
  obtain ⟨c1, c2⟩ := c_front h6 (by decide) (encAll encLt ls ++ (beB os.length 2 ++ encAll encOc os))
  have d := rdMany_front (rd := rdLt) (f := encLt) (ok := fun x => ltOk x = true) (fun a ys ha => rdLt_front a ys ha) ls (beB os.length 2 ++ encAll encOc os) (lsOk_mem _ _ h7)
  obtain ⟨f1, f2⟩ := c_front h5 (by decide) (encAll encOc os)
  have g := rdMany_front (rd := rdOc) (f := encOc) (ok := fun x => ocOk x = true) (fun a ys ha => rdOc_front a ys ha) os [] (osOk_mem _ _ h8)
  rw [List.append_nil] at g
  rw [a1, a2, b1, b2, c1, c2, d]
  simp only
  rw [f1, f2, g, sx_u64N (by omega) (by omega), sx_u64N (by omega) (by omega)]
theorem bytes_inj {l m : Lg} (h : l.right = true) (h' : m.right = true) (e : l.bytes = m.bytes) : l = m := by
  have h1 := rdLg_front l h
  rw [e, rdLg_front m h'] at h1
  exact (congrArg Prod.fst h1).symm
/-- which ledger bytes tell -/
def parseLg (xs : List UInt8) : Option Lg := if (rdLg xs).2 = some [] ∧ (rdLg xs).1.right = true then some (rdLg xs).1 else none
theorem parseLg_iff {xs : List UInt8} {l : Lg} : parseLg xs = some l ↔ l.right = true ∧ xs = l.bytes := by
  unfold parseLg
  constructor
  · intro h
    split at h
    · rename_i hc
      injection h with h
      subst h
      exact ⟨hc.2, rdLg_back xs hc.1⟩
    · cases h
  · rintro ⟨h, rfl⟩
    rw [rdLg_front l h, if_pos ⟨rfl, h⟩]
theorem parseLg_none {xs : List UInt8} (h : parseLg xs = none) (l : Lg) (hr : l.right = true) : xs ≠ l.bytes := fun e => by
  rw [parseLg_iff.2 ⟨hr, e⟩] at h
  cases h

end Go.Proofs.Ytkklgfcmgefedaa
