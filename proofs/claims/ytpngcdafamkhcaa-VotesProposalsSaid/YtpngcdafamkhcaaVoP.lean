/-
  Votes, vouchings, proposals and replies, plain: their bytes, what bytes tell, there and back. No walk here.
-/
import Derived.Test.YtpngcdafamkhcaaBaP
namespace Go.Proofs.Ytpngcdafamkhcaa
open Go.RowKit

/-- may it be a view, or a sequence number? -/
def isW (v : Int) : Bool := decide (0 ≤ v) && decide (v ≤ 1048576)
/-- may it be a client, of n? -/
def isC (c n : Int) : Bool := decide (n ≤ c) && decide (c ≤ n + 3)
def isS (s : Int) : Bool := decide (1 ≤ s) && decide (s ≤ 1099511627776)
def badN (n : Int) : Bool := decide (n < 1) || decide (7 < n)
def In64 (v : Int) : Prop := -9223372036854775808 ≤ v ∧ v ≤ 9223372036854775807

structure Vo where
  vw : Int
  sq : Int
  dg : List UInt8
def Vo.no : Vo := ⟨0, 0, List.replicate 32 0⟩
def encVo (v : Vo) : List UInt8 := beB (u64N v.vw) 8 ++ beB (u64N v.sq) 8 ++ v.dg
def rdVo (st : Option (List UInt8)) : Vo × Option (List UInt8) :=
  (⟨sx 8 (nval 8 st), sx 8 (nval 8 (nnext 8 st)), tagOf (tval 32 (nnext 8 (nnext 8 st)))⟩, nnext 32 (nnext 8 (nnext 8 st)))
def finVo (r : Vo × Option (List UInt8)) : Vo × Int := if r.2 ≠ some [] then (Vo.no, 2) else if (isW r.1.vw && isW r.1.sq) = true then (r.1, 0) else (Vo.no, 5)
def parseVo (xs : List UInt8) : Vo × Int := finVo (rdVo (some xs))

structure Vu where
  cl : Int
  sp : Int
  dg : List UInt8
  ms : Nat
def Vu.no : Vu := ⟨0, 0, List.replicate 32 0, 0⟩
def encVu (v : Vu) : List UInt8 := beB (u64N v.cl) 1 ++ beB (u64N v.sp) 8 ++ v.dg ++ beB v.ms 1
def rdVu (st : Option (List UInt8)) : Vu × Option (List UInt8) :=
  (⟨nval 1 st, sx 8 (nval 8 (nnext 1 st)), tagOf (tval 32 (nnext 8 (nnext 1 st))), nval 1 (nnext 32 (nnext 8 (nnext 1 st)))⟩, nnext 1 (nnext 32 (nnext 8 (nnext 1 st))))
def finVu (r : Vu × Option (List UInt8)) (n : Int) : Vu × Int := if r.2 ≠ some [] then (Vu.no, 2) else if (isC r.1.cl n && isS r.1.sp && decide (r.1.ms < 2 ^ n.toNat)) = true then (r.1, 0) else (Vu.no, 5)
def parseVu (xs : List UInt8) (n : Int) : Vu × Int := if badN n = true then (Vu.no, 1) else finVu (rdVu (some xs)) n

structure Re where
  vw : Int
  cl : Int
  sp : Int
  rs : Int
def Re.no : Re := ⟨0, 0, 0, 0⟩
def encRe (v : Re) : List UInt8 := beB (u64N v.vw) 8 ++ beB (u64N v.cl) 1 ++ beB (u64N v.sp) 8 ++ beB (u64N v.rs) 1
def rdRe (st : Option (List UInt8)) : Re × Option (List UInt8) :=
  (⟨sx 8 (nval 8 st), nval 1 (nnext 8 st), sx 8 (nval 8 (nnext 1 (nnext 8 st))), nval 1 (nnext 8 (nnext 1 (nnext 8 st)))⟩, nnext 1 (nnext 8 (nnext 1 (nnext 8 st))))
def finRe (r : Re × Option (List UInt8)) (n : Int) : Re × Int := if r.2 ≠ some [] then (Re.no, 2) else if (isW r.1.vw && isC r.1.cl n && isS r.1.sp && decide (r.1.rs ≤ 99)) = true then (r.1, 0) else (Re.no, 5)
def parseRe (xs : List UInt8) (n : Int) : Re × Int := if badN n = true then (Re.no, 1) else finRe (rdRe (some xs)) n

structure Pr where
  vw : Int
  sq : Int
  es : List Ey
def Pr.no : Pr := ⟨0, 0, []⟩
def encPr (v : Pr) : List UInt8 := beB (u64N v.vw) 8 ++ beB (u64N v.sq) 8 ++ rowB (encB v.es)
/-- what is read ahead of the batch's own reading: view, number, row, and what is left -/
def rdPr (m : Nat) (st : Option (List UInt8)) : Int × Int × List UInt8 × Option (List UInt8) :=
  (sx 8 (nval 8 st), sx 8 (nval 8 (nnext 8 st)), rval m (nnext 8 (nnext 8 st)), rnext m (nnext 8 (nnext 8 st)))
def finPr (vw sq : Int) (left : Option (List UInt8)) (b : List Ey × Int) : Pr × Int :=
  if left ≠ some [] ∨ b.2 = 2 then (Pr.no, 2) else if (isW vw && isW sq) = false then (Pr.no, 5) else if b.2 ≠ 0 then (Pr.no, b.2) else (⟨vw, sq, b.1⟩, 0)
def parsePr (m : Nat) (xs : List UInt8) (n : Int) : Pr × Int :=
  if badN n = true then (Pr.no, 1) else finPr (rdPr m (some xs)).1 (rdPr m (some xs)).2.1 (rdPr m (some xs)).2.2.2 (parseB 1048576 (rdPr m (some xs)).2.2.1 n)

theorem n8_front (v : Int) (h : In64 v) (ys : List UInt8) : sx 8 (nval 8 (some (beB (u64N v) 8 ++ ys))) = v ∧ nnext 8 (some (beB (u64N v) 8 ++ ys)) = some ys := by
  obtain ⟨a, b⟩ := n_front (u64N_lt v) ys
  exact ⟨by rw [a]; exact sx_u64N h.1 h.2, b⟩
theorem t32_front {d : List UInt8} (h : d.length = 32) (ys : List UInt8) : tval 32 (some (d ++ ys)) = d ∧ nnext 32 (some (d ++ ys)) = some ys := by
  have h9 := t_front d ys
  rw [h] at h9
  exact h9
theorem rdVo_enc (v : Vo) (h1 : In64 v.vw) (h2 : In64 v.sq) (hd : v.dg.length = 32) : rdVo (some (encVo v)) = (v, some []) := by
  obtain ⟨vw, sq, dg⟩ := v
  simp only at h1 h2 hd
  unfold rdVo encVo
  simp only [List.append_assoc]
  obtain ⟨a1, a2⟩ := n8_front vw h1 (beB (u64N sq) 8 ++ dg)
  obtain ⟨b1, b2⟩ := n8_front sq h2 dg
  have c := t32_front hd []
  rw [List.append_nil] at c
  rw [a1, a2, b1, b2, c.1, c.2]
  unfold tagOf
  rw [if_pos hd]
/-- a vote's bytes tell it, if it may be -/
theorem parseVo_enc (v : Vo) (h1 : In64 v.vw) (h2 : In64 v.sq) (hd : v.dg.length = 32) (h : (parseVo (encVo v)).2 = 0) : (parseVo (encVo v)).1 = v := by
  unfold parseVo finVo at h ⊢
  rw [rdVo_enc v h1 h2 hd] at h ⊢
  by_cases hw : (isW v.vw && isW v.sq) = true
  · simp [hw]
  · simp [hw] at h
theorem parsePr_free {m m' : Nat} {xs : List UInt8} (n : Int) (h : xs.length ≤ m) (h' : xs.length ≤ m') : parsePr m xs n = parsePr m' xs n := by
  have l1 : stL (nnext 8 (nnext 8 (some xs))) ≤ xs.length := Nat.le_trans (nnext_stL _ _) (Nat.le_trans (nnext_stL _ _) (Nat.le_refl _))
  obtain ⟨a1, a2⟩ := row_free (m := m) (m' := m') (st := nnext 8 (nnext 8 (some xs))) (by omega) (by omega)
  unfold parsePr rdPr
  simp only
  rw [a1, a2]
theorem parsePr_enc {m : Nat} (hm : m < 4294967296) (v : Pr) (n : Int) (h1 : isW v.vw = true) (h2 : isW v.sq = true) (hc : chkB v.es n = 0) (hi : ∀ y ∈ v.es, y.In) (hl : (encB v.es).length ≤ m) : parsePr m (encPr v) n = (v, 0) := by
  obtain ⟨vw, sq, es⟩ := v
  simp only at h1 h2 hc hi hl
  obtain ⟨_, hn1, hn7, _⟩ := chkB_len hc
  have e1 : In64 vw := by simp [isW] at h1; exact ⟨by omega, by omega⟩
  have e2 : In64 sq := by simp [isW] at h2; exact ⟨by omega, by omega⟩
  unfold parsePr rdPr encPr
  simp only [List.append_assoc]
  obtain ⟨a1, a2⟩ := n8_front vw e1 (beB (u64N sq) 8 ++ rowB (encB es))
  obtain ⟨b1, b2⟩ := n8_front sq e2 (rowB (encB es))
  have c := r_front hl hm []
  rw [List.append_nil] at c
  rw [a1, a2, b1, b2, c.1, c.2, parseB_back (by omega) (by omega) hc hi]
  have hb : badN n = false := by simp [badN]; omega
  simp [hb, finPr, h1, h2]

end Go.Proofs.Ytpngcdafamkhcaa
