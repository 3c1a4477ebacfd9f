/-
  Cores and requests, their bytes there and back, by plain functions. No walk here.
-/
import Derived.Test.YtkklgfcmgefedaaLgB
namespace Go.Proofs.Ytkklgfcmgefedaa
open Go.RowKit

/-- a core -/
structure Cr where
  cl : Int
  sp : Int
  op : Int
  lt : List UInt8
  a : Int
  b : Int
  tx : List UInt8
def Cr.no : Cr := ⟨0, 0, 0, [], 0, 0, []⟩
def Cr.eqb (c d : Cr) : Bool := (c.cl == d.cl) && (c.sp == d.sp) && (c.op == d.op) && (c.lt == d.lt) && (c.a == d.a) && (c.b == d.b) && (c.tx == d.tx)
theorem Cr.eqb_iff {c d : Cr} : c.eqb d = true ↔ c = d := by
  obtain ⟨c1, c2, c3, c4, c5, c6, c7⟩ := c
  obtain ⟨d1, d2, d3, d4, d5, d6, d7⟩ := d
  simp only [Cr.eqb, Bool.and_eq_true, beq_iff_eq, Cr.mk.injEq, and_assoc]
/-- may it be, of n? -/
def chkC (c : Cr) (n : Int) : Int :=
  if n < 1 ∨ 7 < n then 1
  else if c.cl < n ∨ n + 3 < c.cl then 17
  else if c.sp < 1 ∨ 1099511627776 < c.sp ∨ c.op < 1 ∨ 9 < c.op then 5
  else if isNm c.lt = false then 7
  else if 200 < c.tx.length then 3 else 0
structure Cr.May (c : Cr) (n : Int) : Prop where
  n1 : 1 ≤ n
  n7 : n ≤ 7
  c0 : n ≤ c.cl
  c1 : c.cl ≤ n + 3
  s0 : 1 ≤ c.sp
  s1 : c.sp ≤ 1099511627776
  o0 : 1 ≤ c.op
  o1 : c.op ≤ 9
  nm : isNm c.lt = true
  tx : c.tx.length ≤ 200
theorem chkC_iff {c : Cr} {n : Int} : chkC c n = 0 ↔ c.May n := by
  unfold chkC
  constructor
  · intro h
    by_cases h1 : n < 1 ∨ 7 < n
    · rw [if_pos h1] at h; cases h
    rw [if_neg h1] at h
    by_cases h2 : c.cl < n ∨ n + 3 < c.cl
    · rw [if_pos h2] at h; cases h
    rw [if_neg h2] at h
    by_cases h3 : c.sp < 1 ∨ 1099511627776 < c.sp ∨ c.op < 1 ∨ 9 < c.op
    · rw [if_pos h3] at h; cases h
    rw [if_neg h3] at h
    by_cases h4 : isNm c.lt = false
    · rw [if_pos h4] at h; cases h
    rw [if_neg h4] at h
    by_cases h5 : 200 < c.tx.length
    · rw [if_pos h5] at h; cases h
    exact ⟨by omega, by omega, by omega, by omega, by omega, by omega, by omega, by omega, by simpa using h4, by omega⟩
  · rintro ⟨h1, h2, h3, h4, h5, h6, h7, h8, h9, h10⟩
    rw [if_neg (by omega), if_neg (by omega), if_neg (by omega), if_neg (by simp [h9]), if_neg (by omega)]
/-- a core's bytes -/
def encCr (c : Cr) : List UInt8 := beB (u64N c.cl) 1 ++ (beB (u64N c.sp) 8 ++ (beB (u64N c.op) 1 ++ (rowB c.lt ++ (beB (u64N c.a) 8 ++ (beB (u64N c.b) 8 ++ rowB c.tx)))))
def rdCr (m : Nat) (st : Option (List UInt8)) : Cr × Option (List UInt8) :=
  (⟨nval 1 st, sx 8 (nval 8 (nnext 1 st)), nval 1 (nnext 8 (nnext 1 st)), rval m (nnext 1 (nnext 8 (nnext 1 st))), sx 8 (nval 8 (rnext m (nnext 1 (nnext 8 (nnext 1 st))))), sx 8 (nval 8 (nnext 8 (rnext m (nnext 1 (nnext 8 (nnext 1 st)))))), rval m (nnext 8 (nnext 8 (rnext m (nnext 1 (nnext 8 (nnext 1 st))))))⟩,
   rnext m (nnext 8 (nnext 8 (rnext m (nnext 1 (nnext 8 (nnext 1 st)))))))
theorem rdCr_back {m : Nat} (st : Option (List UInt8)) (r : List UInt8) (h : (rdCr m st).2 = some r) : st = some (encCr (rdCr m st).1 ++ r) := by
  unfold rdCr at h
  simp only at h
  obtain ⟨h1, _⟩ := r_back h
  have h2 := n_back h1
  have h3 := n_back h2
  obtain ⟨h4, _⟩ := r_back h3
  have h5 := n_back h4
  have h6 := n_back h5
  have h7 := n_back h6
  have v1 := nval_lt 1 st
  have v2 := nval_lt 8 (nnext 1 st)
  have v3 := nval_lt 1 (nnext 8 (nnext 1 st))
  have v4 := nval_lt 8 (rnext m (nnext 1 (nnext 8 (nnext 1 st))))
  have v5 := nval_lt 8 (nnext 8 (rnext m (nnext 1 (nnext 8 (nnext 1 st)))))
  rw [e1] at v1 v3
  rw [e8] at v2 v4 v5
  unfold encCr rdCr
  simp only
  rw [u64N_nat (by omega), u64N_sx v2, u64N_nat (by omega), u64N_sx v4, u64N_sx v5]
  simp only [List.append_assoc]
  exact h7
theorem rdCr_rng {m : Nat} (st : Option (List UInt8)) : (-9223372036854775808 ≤ (rdCr m st).1.a ∧ (rdCr m st).1.a ≤ 9223372036854775807) ∧ (-9223372036854775808 ≤ (rdCr m st).1.b ∧ (rdCr m st).1.b ≤ 9223372036854775807) :=
  ⟨sx_rng _ (by have := nval_lt 8 (rnext m (nnext 1 (nnext 8 (nnext 1 st)))); rwa [e8] at this), sx_rng _ (by have := nval_lt 8 (nnext 8 (rnext m (nnext 1 (nnext 8 (nnext 1 st))))); rwa [e8] at this)⟩
theorem rdCr_front {m : Nat} (hm : m < 4294967296) (h200 : 200 ≤ m) (c : Cr) (n : Int) (ys : List UInt8) (h : c.May n) (ha : -9223372036854775808 ≤ c.a ∧ c.a ≤ 9223372036854775807) (hb : -9223372036854775808 ≤ c.b ∧ c.b ≤ 9223372036854775807) : rdCr m (some (encCr c ++ ys)) = (c, some ys) := by
  obtain ⟨cl, sp, op, lt, a, b, tx⟩ := c
  obtain ⟨h1, h2, h3, h4, h5, h6, h7, h8, h9, h10⟩ := h
  simp only at h3 h4 h5 h6 h7 h8 h9 h10 ha hb
  have hn := (isNm_len h9).2
  unfold encCr rdCr
  simp only [List.append_assoc]
  obtain ⟨a1, a2⟩ := n_front (v := u64N cl) (k := 1) (by rw [e1]; unfold u64N; omega) (beB (u64N sp) 8 ++ (beB (u64N op) 1 ++ (rowB lt ++ (beB (u64N a) 8 ++ (beB (u64N b) 8 ++ (rowB tx ++ ys))))))
  obtain ⟨b1, b2⟩ := n_front (u64N_lt sp) (beB (u64N op) 1 ++ (rowB lt ++ (beB (u64N a) 8 ++ (beB (u64N b) 8 ++ (rowB tx ++ ys)))))
  obtain ⟨c1, c2⟩ := n_front (v := u64N op) (k := 1) (by rw [e1]; unfold u64N; omega) (rowB lt ++ (beB (u64N a) 8 ++ (beB (u64N b) 8 ++ (rowB tx ++ ys))))
  obtain ⟨d1, d2⟩ := r_front (most := m) (row := lt) (by omega) hm (beB (u64N a) 8 ++ (beB (u64N b) 8 ++ (rowB tx ++ ys)))
  obtain ⟨f1, f2⟩ := n_front (u64N_lt a) (beB (u64N b) 8 ++ (rowB tx ++ ys))
  obtain ⟨g1, g2⟩ := n_front (u64N_lt b) (rowB tx ++ ys)
  obtain ⟨k1, k2⟩ := r_front (most := m) (row := tx) (by omega) hm ys
  rw [a1, a2, b1, b2, c1, c2, d1, d2, f1, f2, g1, g2, k1, k2, sx_u64N (by omega) (by omega), sx_u64N ha.1 ha.2, sx_u64N hb.1 hb.2]
  have e : ((u64N cl : Nat) : Int) = cl := by unfold u64N; omega
  have e' : ((u64N op : Nat) : Int) = op := by unfold u64N; omega
  rw [e, e']
/-- which core bytes tell, or why none -/
def parseCr (m : Nat) (xs : List UInt8) (n : Int) : Cr × Int := if (rdCr m (some xs)).2 = some [] then (if chkC (rdCr m (some xs)).1 n = 0 then ((rdCr m (some xs)).1, 0) else (Cr.no, chkC (rdCr m (some xs)).1 n)) else (Cr.no, 2)
theorem parseCr_back {m : Nat} (hm : m < 4294967296) (h200 : 200 ≤ m) {c : Cr} {n : Int} (h : chkC c n = 0) (ha : -9223372036854775808 ≤ c.a ∧ c.a ≤ 9223372036854775807) (hb : -9223372036854775808 ≤ c.b ∧ c.b ≤ 9223372036854775807) : parseCr m (encCr c) n = (c, 0) := by
  have h1 := rdCr_front hm h200 c n [] (chkC_iff.1 h) ha hb
  rw [List.append_nil] at h1
  unfold parseCr
  rw [h1]
  simp [h]
theorem parseCr_fail {m : Nat} {xs : List UInt8} {n : Int} (h : (rdCr m (some xs)).2 ≠ some []) : parseCr m xs n = (Cr.no, 2) := by unfold parseCr; rw [if_neg h]

/-- an endorsement: who, and a tag (32 bytes) to each replica -/
structure En where
  og : Int
  ts : List (List UInt8)
/-- a request -/
structure Rq where
  co : Cr
  es : List En
def Rq.no : Rq := ⟨Cr.no, []⟩
def En.eqb (e f : En) : Bool := (e.og == f.og) && (e.ts == f.ts)
theorem En.eqb_iff {e f : En} : e.eqb f = true ↔ e = f := by
  obtain ⟨e1, e2⟩ := e
  obtain ⟨f1, f2⟩ := f
  simp only [En.eqb, Bool.and_eq_true, beq_iff_eq, En.mk.injEq]
def Rq.same (p q : Rq) : Bool := p.co.eqb q.co && allB En.eqb p.es q.es
theorem Rq.same_iff {p q : Rq} : p.same q = true ↔ p = q := by
  obtain ⟨p1, p2⟩ := p
  obtain ⟨q1, q2⟩ := q
  simp only [Rq.same, Bool.and_eq_true, Cr.eqb_iff, allB_iff (p := En.eqb) (fun _ _ => En.eqb_iff), Rq.mk.injEq]
theorem Rq.same_self (p : Rq) : p.same p = true := Rq.same_iff.2 rfl
def encTg (t : List UInt8) : List UInt8 := t
def encEn (e : En) : List UInt8 := beB (u64N e.og) 1 ++ encAll encTg e.ts
def Rq.bytes (q : Rq) : List UInt8 := rowB (encCr q.co) ++ (beB q.es.length 2 ++ encAll encEn q.es)
/-- may these endorsements be, of n? -/
def esOk (n : Int) : Option Int → List En → Bool
  | _, [] => true
  | p, e :: es => decide (0 ≤ e.og) && decide (e.og < n) && (match p with | none => true | some o => decide (o < e.og)) && decide ((e.ts.length : Int) = n) && esOk n (some e.og) es
def endsOk (n : Int) (es : List En) : Bool := esOk n none es && decide ((es.length : Int) ≤ n)
/-- what a read of 32 bytes puts into a tag -/
def tagOf (l : List UInt8) : List UInt8 := if l.length = 32 then l else List.replicate 32 0
def rdTg (st : Option (List UInt8)) : List UInt8 × Option (List UInt8) := (tagOf (tval 32 st), nnext 32 st)
def rdEn (n : Nat) (st : Option (List UInt8)) : En × Option (List UInt8) := (⟨nval 1 st, (rdAll rdTg n (nnext 1 st)).1⟩, (rdAll rdTg n (nnext 1 st)).2)
theorem rdTg_back (st : Option (List UInt8)) (r : List UInt8) (h : (rdTg st).2 = some r) : st = some (encTg (rdTg st).1 ++ r) := by
  obtain ⟨h1, h2⟩ := t_back h
  unfold rdTg tagOf encTg
  rw [if_pos h2]
  exact h1
theorem rdTg_front (t ys : List UInt8) (h : t.length = 32) : rdTg (some (encTg t ++ ys)) = (t, some ys) := by
  obtain ⟨h1, h2⟩ := t_front t ys
  rw [h] at h1 h2
  unfold rdTg encTg
  rw [h1, h2]
  unfold tagOf
  rw [if_pos h]
theorem rdEn_back {n : Nat} (st : Option (List UInt8)) (r : List UInt8) (h : (rdEn n st).2 = some r) : st = some (encEn (rdEn n st).1 ++ r) := by
  unfold rdEn at h
  simp only at h
  obtain ⟨h1, _⟩ := rdAll_back rdTg_back _ _ _ h
  have h2 := n_back h1
  have v1 := nval_lt 1 st
  rw [e1] at v1
  unfold encEn rdEn
  simp only
  rw [u64N_nat (by omega)]
  simp only [List.append_assoc]
  exact h2
theorem rdEn_front {n : Nat} (e : En) (ys : List UInt8) (h : (0 ≤ e.og ∧ e.og < 256) ∧ e.ts.length = n ∧ ∀ t ∈ e.ts, t.length = 32) : rdEn n (some (encEn e ++ ys)) = (e, some ys) := by
  obtain ⟨og, ts⟩ := e
  obtain ⟨⟨h1, h2⟩, h3, h4⟩ := h
  simp only at h1 h2 h3 h4
  unfold encEn rdEn
  simp only [List.append_assoc]
  obtain ⟨a1, a2⟩ := n_front (v := u64N og) (k := 1) (by rw [e1]; unfold u64N; omega) (encAll encTg ts ++ ys)
  have d := rdAll_front (rd := rdTg) (f := encTg) (ok := fun t => t.length = 32) (fun t ys ht => rdTg_front t ys ht) ts ys h4
  rw [h3] at d
  rw [a1, a2, d]
  have e : ((u64N og : Nat) : Int) = og := by unfold u64N; omega
  rw [e]
/-- which request bytes tell, or why none -/
def rdRq (m n : Nat) (xs : List UInt8) : List UInt8 × List En × Option (List UInt8) :=
  (rval m (some xs), (rdMany (rdEn n) (cval n (rnext m (some xs))) (cnext n (rnext m (some xs)))).1, (rdMany (rdEn n) (cval n (rnext m (some xs))) (cnext n (rnext m (some xs)))).2)
def parseRq (m : Nat) (xs : List UInt8) (n : Int) : Rq × Int :=
  if n < 1 ∨ 7 < n then (Rq.no, 1)
  else if (rdRq m n.toNat xs).2.2 = some [] ∧ endsOk n (rdRq m n.toNat xs).2.1 = true then
    (if (parseCr m (rdRq m n.toNat xs).1 n).2 = 0 then (⟨(parseCr m (rdRq m n.toNat xs).1 n).1, (rdRq m n.toNat xs).2.1⟩, 0) else (Rq.no, (parseCr m (rdRq m n.toNat xs).1 n).2))
  else (Rq.no, 2)
theorem esOk_mem (n : Int) : ∀ (p : Option Int) (es : List En), esOk n p es = true → ∀ e ∈ es, 0 ≤ e.og ∧ e.og < n ∧ (e.ts.length : Int) = n := fun p es => by
  induction es generalizing p with
  | nil => intro _ e he; cases he
  | cons x xs ih =>
    intro h e he
    simp only [esOk, Bool.and_eq_true, decide_eq_true_eq] at h
    rcases List.mem_cons.1 he with rfl | he
    · exact ⟨h.1.1.1.1, h.1.1.1.2, h.1.2⟩
    · exact ih _ h.2 e he
theorem encCr_len (c : Cr) : (encCr c).length = 34 + c.lt.length + c.tx.length := by
  unfold encCr rowB
  simp [beB_length]
  omega
theorem parseRq_back {m : Nat} (hm : m < 4294967296) (h4 : 400 ≤ m) {q : Rq} {n : Int} (h : chkC q.co n = 0) (he : endsOk n q.es = true) (ha : -9223372036854775808 ≤ q.co.a ∧ q.co.a ≤ 9223372036854775807) (hb : -9223372036854775808 ≤ q.co.b ∧ q.co.b ≤ 9223372036854775807) (ht : ∀ e ∈ q.es, ∀ t ∈ e.ts, t.length = 32) : parseRq m q.bytes n = (q, 0) := by
  have hM := chkC_iff.1 h
  have hn := (isNm_len hM.nm).2
  have htx := hM.tx
  have n1 := hM.n1
  have n7 := hM.n7
  have hee := he
  unfold endsOk at hee
  simp only [Bool.and_eq_true, decide_eq_true_eq] at hee
  have hmem := esOk_mem n none q.es hee.1
  have hrd : rdRq m n.toNat q.bytes = (encCr q.co, q.es, some []) := by
    unfold rdRq Rq.bytes
    obtain ⟨a1, a2⟩ := r_front (most := m) (row := encCr q.co) (by rw [encCr_len]; omega) hm (beB q.es.length 2 ++ encAll encEn q.es)
    obtain ⟨c1, c2⟩ := c_front (most := n.toNat) (n := q.es.length) (by omega) (by omega) (encAll encEn q.es)
    have d := rdMany_front (rd := rdEn n.toNat) (f := encEn) (ok := fun e => (0 ≤ e.og ∧ e.og < 256) ∧ e.ts.length = n.toNat ∧ ∀ t ∈ e.ts, t.length = 32) (fun e ys h9 => rdEn_front e ys h9) q.es [] (fun e h9 => by
      have h8 := hmem e h9
      exact ⟨⟨h8.1, by omega⟩, by omega, ht e h9⟩)
    rw [List.append_nil] at d
    rw [a1, a2, c1, c2, d]
  unfold parseRq
  rw [if_neg (by omega), hrd]
  simp only
  rw [if_pos ⟨trivial, he⟩, parseCr_back hm (by omega) h ha hb]
  rfl

end Go.Proofs.Ytkklgfcmgefedaa
