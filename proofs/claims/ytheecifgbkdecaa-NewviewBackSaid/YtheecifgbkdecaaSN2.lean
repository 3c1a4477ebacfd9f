/-
  Ba PM LtP Lg LgB RqP OL
-/
import Derived.Laws.RangeAny
import Derived.Laws.Strings3
import Derived.Laws.Concat
import Derived.Test.YtheecifgbkdecaaSN1
namespace Go.Proofs.Ytheecifgbkdecaa
open Go.RowKit

/-- the string of these bytes -/
def ba (l : List UInt8) : ByteArray := ⟨l.toArray⟩
theorem ba_size (l : List UInt8) : (ba l).size = l.length := by simp [ba, ByteArray.size]
theorem ba_list (l : List UInt8) : (ba l).toList = l := ByteArray.toList_mk l
theorem ba_of (b : ByteArray) : b = ba b.data.toList := by cases b; simp [ba]
theorem ba_get (l : List UInt8) (i : Nat) (h : i < (ba l).size) : (ba l)[i]'h = l[i]'(by rw [ba_size] at h; exact h) := by
 show ((ba l).data)[i] = _
 simp [ba]

section
variable {P : Program} {t : TypeId}
theorem run_index_ba (ht : P.underlying t = some .string) (l : List UInt8) (k : IntKind) (i : Int) (n : Nat) (hi : i = n) (x : UInt8) (hx : l[n]? = some x) (w : World) : (Instr.index t (.string (ba l)) (.int k i)).run P w = .ok (.int .u8 x.toNat) w := by
 subst hi
 have hn : n < l.length := (List.getElem?_eq_some_iff.1 hx).1
 rw [run_index_string w t (ba l) k n ht, dif_pos ⟨by omega, by rw [ba_size]; omega⟩]
 have := ba_get l n (by rw [ba_size]; exact hn)
 have h2 : l[n] = x := (List.getElem?_eq_some_iff.1 hx).2
 simp only [Int.toNat_natCast]
 rw [this, h2]
end

end Go.Proofs.Ytheecifgbkdecaa

namespace Go.Proofs.Ytheecifgbkdecaa
open Go.RowKit

/-- An amount. -/
def isM (a : Int) : Bool := decide (0 ≤ a) && decide (a ≤ 1099511627776)

/-- Two numbers, as a call hands them back. -/
def two (p : Int × Int) : Value := .tuple #[.int .i64 p.1, .int .i64 p.2]

end Go.Proofs.Ytheecifgbkdecaa

namespace Go.Proofs.Ytheecifgbkdecaa
open Go.RowKit

/-- A letter: its name, state, amount, day, policy, papers. -/
structure Lt where
 nm : List UInt8
 st : Int
 am : Int
 du : Int
 po : List UInt8
 pa : List UInt8
def Lt.no : Lt := ⟨[], 0, 0, 0, [], []⟩
def Lt.cells (l : Lt) : List Value := [.string (ba l.nm), .int .i64 l.st, .int .i64 l.am, .int .i64 l.du, .string (ba l.po), .string (ba l.pa)]
/-- whether two letters are the same -/
def Lt.eqb (a b : Lt) : Bool := (a.nm == b.nm) && (a.st == b.st) && (a.am == b.am) && (a.du == b.du) && (a.po == b.po) && (a.pa == b.pa)
theorem Lt.eqb_iff {a b : Lt} : a.eqb b = true ↔ a = b := by
 obtain ⟨a1, a2, a3, a4, a5, a6⟩ := a
 obtain ⟨b1, b2, b3, b4, b5, b6⟩ := b
 simp only [Lt.eqb, Bool.and_eq_true, beq_iff_eq, Lt.mk.injEq]
 exact ⟨fun ⟨⟨⟨⟨⟨h1, h2⟩, h3⟩, h4⟩, h5⟩, h6⟩ => ⟨h1, h2, h3, h4, h5, h6⟩, fun ⟨h1, h2, h3, h4, h5, h6⟩ => ⟨⟨⟨⟨⟨h1, h2⟩, h3⟩, h4⟩, h5⟩, h6⟩⟩
end Go.Proofs.Ytheecifgbkdecaa

namespace Go.Proofs.Ytheecifgbkdecaa
open Go.RowKit

/-- An outcome: its client, number, result. -/
structure Oc where
 cl : Int
 sp : Int
 rs : Int
def Oc.eqb (a b : Oc) : Bool := (a.cl == b.cl) && (a.sp == b.sp) && (a.rs == b.rs)
theorem Oc.eqb_iff {a b : Oc} : a.eqb b = true ↔ a = b := by
 obtain ⟨a1, a2, a3⟩ := a
 obtain ⟨b1, b2, b3⟩ := b
 simp only [Oc.eqb, Bool.and_eq_true, beq_iff_eq, Oc.mk.injEq]
 exact ⟨fun ⟨⟨h1, h2⟩, h3⟩ => ⟨h1, h2, h3⟩, fun ⟨h1, h2, h3⟩ => ⟨⟨h1, h2⟩, h3⟩⟩
def Oc.no : Oc := ⟨0, 0, 0⟩
def Oc.cells (o : Oc) : List Value := [.int .i64 o.cl, .int .i64 o.sp, .int .i64 o.rs]
/-- A ledger. -/
structure Lg where
 sq : Int
 tt : Int
 ls : List Lt
 os : List Oc
/-- whether two lists are the same, one by one -/
def allB {α : Type} (p : α → α → Bool) : List α → List α → Bool
 | [], [] => true
 | x :: xs, y :: ys => p x y && allB p xs ys
 | _, _ => false
theorem allB_iff {α : Type} {p : α → α → Bool} (hp : ∀ a b, p a b = true ↔ a = b) : ∀ {xs ys : List α}, allB p xs ys = true ↔ xs = ys
 | [], [] => by simp [allB]
 | [], _ :: _ => by simp [allB]
 | _ :: _, [] => by simp [allB]
 | x :: xs, y :: ys => by simp [allB, hp, allB_iff hp]
theorem allB_len {α : Type} {p : α → α → Bool} : ∀ {xs ys : List α}, allB p xs ys = true → xs.length = ys.length
 | [], [], _ => rfl
 | [], _ :: _, h => by simp [allB] at h
 | _ :: _, [], h => by simp [allB] at h
 | x :: xs, y :: ys, h => by
  simp only [allB, Bool.and_eq_true] at h
  simp [allB_len h.2]
def Lg.no : Lg := ⟨0, 0, [], []⟩

/-- a letter, a digit or "-" -/
def nmB (x : UInt8) : Bool := (decide (97 ≤ x.toNat) && decide (x.toNat ≤ 122)) || (decide (48 ≤ x.toNat) && decide (x.toNat ≤ 57)) || (x.toNat == 45)
def isNm (l : List UInt8) : Bool := l.all nmB && decide (1 ≤ l.length) && decide (l.length ≤ 16)
theorem isNm_len {l : List UInt8} (h : isNm l = true) : 1 ≤ l.length ∧ l.length ≤ 16 := by simp [isNm] at h; exact ⟨by omega, h.2⟩

/-- one text ahead of another one -/
def ltS (a b : List UInt8) : Bool := Op.bytesLess a b
/-- a letter that may stand in a ledger -/
def ltOk (x : Lt) : Bool := isNm x.nm && decide (1 ≤ x.st) && decide (x.st ≤ 7) && decide (1 ≤ x.am) && isM x.am && isM x.du && decide (x.po.length ≤ 200) && decide (x.pa.length ≤ 200)
/-- rising by names, behind an earlier one -/
def lsOk : Option Lt → List Lt → Bool
 | _, [] => true
 | none, x :: xs => ltOk x && lsOk (some x) xs
 | some p, x :: xs => ltS p.nm x.nm && ltOk x && lsOk (some x) xs
def ocOk (o : Oc) : Bool := decide (0 ≤ o.cl) && decide (o.cl ≤ 63) && decide (1 ≤ o.sp) && decide (o.sp ≤ 1099511627776) && decide (0 ≤ o.rs) && decide (o.rs ≤ 99)
def osOk : Option Oc → List Oc → Bool
 | _, [] => true
 | none, x :: xs => ocOk x && osOk (some x) xs
 | some p, x :: xs => decide (p.cl < x.cl) && ocOk x && osOk (some x) xs
/-- whether it may be -/
def Lg.right (l : Lg) : Bool := decide (0 ≤ l.sq) && decide (l.sq ≤ 1048576) && isM l.tt && decide (l.os.length ≤ 4) && decide (l.ls.length ≤ 16) && lsOk none l.ls && osOk none l.os

end Go.Proofs.Ytheecifgbkdecaa

namespace Go.Proofs.Ytheecifgbkdecaa
open Go.RowKit

def encLt (x : Lt) : List UInt8 := rowB x.nm ++ (beB (u64N x.st) 1 ++ (beB (u64N x.am) 8 ++ (beB (u64N x.du) 8 ++ (rowB x.po ++ rowB x.pa))))
def encOc (o : Oc) : List UInt8 := beB (u64N o.cl) 1 ++ (beB (u64N o.sp) 8 ++ beB (u64N o.rs) 1)
/-- a ledger's bytes -/
def Lg.bytes (l : Lg) : List UInt8 := beB (u64N l.sq) 8 ++ (beB (u64N l.tt) 8 ++ (beB l.ls.length 2 ++ (encAll encLt l.ls ++ (beB l.os.length 2 ++ encAll encOc l.os))))

theorem e1 : (256 : Nat) ^ 1 = 256 := by decide
theorem e8 : (256 : Nat) ^ 8 = 18446744073709551616 := by decide
theorem u64N_nat {n : Nat} (h : n < 18446744073709551616) : u64N (n : Int) = n := by unfold u64N; omega
structure Lg.Right (l : Lg) : Prop where
 s0 : 0 ≤ l.sq
 s1 : l.sq ≤ 1048576
 t0 : 0 ≤ l.tt
 t1 : l.tt ≤ 1099511627776
 o4 : l.os.length ≤ 4
 l16 : l.ls.length ≤ 16
 ls : lsOk none l.ls = true
 os : osOk none l.os = true
end Go.Proofs.Ytheecifgbkdecaa

namespace Go.Proofs.Ytheecifgbkdecaa
open Go.RowKit

/-- a core -/
structure Cr where
  cl : Int
  sp : Int
  op : Int
  lt : List UInt8
  a : Int
  b : Int
  tx : List UInt8
def Cr.no : Cr := ⟨0, 0, 0, [], 0, 0, []⟩
def Cr.eqb (c d : Cr) : Bool := (c.cl == d.cl) && (c.sp == d.sp) && (c.op == d.op) && (c.lt == d.lt) && (c.a == d.a) && (c.b == d.b) && (c.tx == d.tx)
theorem Cr.eqb_iff {c d : Cr} : c.eqb d = true ↔ c = d := by
  obtain ⟨c1, c2, c3, c4, c5, c6, c7⟩ := c
  obtain ⟨d1, d2, d3, d4, d5, d6, d7⟩ := d
  simp only [Cr.eqb, Bool.and_eq_true, beq_iff_eq, Cr.mk.injEq, and_assoc]
/-- may it be, of n? -/
def chkC (c : Cr) (n : Int) : Int :=
  if n < 1 ∨ 7 < n then 1
  else if c.cl < n ∨ n + 3 < c.cl then 17
  else if c.sp < 1 ∨ 1099511627776 < c.sp ∨ c.op < 1 ∨ 9 < c.op then 5
  else if isNm c.lt = false then 7
  else if 200 < c.tx.length then 3 else 0
structure Cr.May (c : Cr) (n : Int) : Prop where
  n1 : 1 ≤ n
  n7 : n ≤ 7
  c0 : n ≤ c.cl
  c1 : c.cl ≤ n + 3
  s0 : 1 ≤ c.sp
  s1 : c.sp ≤ 1099511627776
  o0 : 1 ≤ c.op
  o1 : c.op ≤ 9
  nm : isNm c.lt = true
  tx : c.tx.length ≤ 200
theorem chkC_iff {c : Cr} {n : Int} : chkC c n = 0 ↔ c.May n := by
  unfold chkC
  constructor
  · intro h
    by_cases h1 : n < 1 ∨ 7 < n
    · rw [if_pos h1] at h; cases h
    rw [if_neg h1] at h
    by_cases h2 : c.cl < n ∨ n + 3 < c.cl
    · rw [if_pos h2] at h; cases h
    rw [if_neg h2] at h
    by_cases h3 : c.sp < 1 ∨ 1099511627776 < c.sp ∨ c.op < 1 ∨ 9 < c.op
    · rw [if_pos h3] at h; cases h
    rw [if_neg h3] at h
    by_cases h4 : isNm c.lt = false
    · rw [if_pos h4] at h; cases h
    rw [if_neg h4] at h
    by_cases h5 : 200 < c.tx.length
    · rw [if_pos h5] at h; cases h
    exact ⟨by omega, by omega, by omega, by omega, by omega, by omega, by omega, by omega, by simpa using h4, by omega⟩
  · rintro ⟨h1, h2, h3, h4, h5, h6, h7, h8, h9, h10⟩
    rw [if_neg (by omega), if_neg (by omega), if_neg (by omega), if_neg (by simp [h9]), if_neg (by omega)]
/-- a core's bytes -/
def encCr (c : Cr) : List UInt8 := beB (u64N c.cl) 1 ++ (beB (u64N c.sp) 8 ++ (beB (u64N c.op) 1 ++ (rowB c.lt ++ (beB (u64N c.a) 8 ++ (beB (u64N c.b) 8 ++ rowB c.tx)))))
def rdCr (m : Nat) (st : Option (List UInt8)) : Cr × Option (List UInt8) :=
  (⟨nval 1 st, sx 8 (nval 8 (nnext 1 st)), nval 1 (nnext 8 (nnext 1 st)), rval m (nnext 1 (nnext 8 (nnext 1 st))), sx 8 (nval 8 (rnext m (nnext 1 (nnext 8 (nnext 1 st))))), sx 8 (nval 8 (nnext 8 (rnext m (nnext 1 (nnext 8 (nnext 1 st)))))), rval m (nnext 8 (nnext 8 (rnext m (nnext 1 (nnext 8 (nnext 1 st))))))⟩,
   rnext m (nnext 8 (nnext 8 (rnext m (nnext 1 (nnext 8 (nnext 1 st)))))))
theorem rdCr_front {m : Nat} (hm : m < 4294967296) (h200 : 200 ≤ m) (c : Cr) (n : Int) (ys : List UInt8) (h : c.May n) (ha : -9223372036854775808 ≤ c.a ∧ c.a ≤ 9223372036854775807) (hb : -9223372036854775808 ≤ c.b ∧ c.b ≤ 9223372036854775807) : rdCr m (some (encCr c ++ ys)) = (c, some ys) := by
  obtain ⟨cl, sp, op, lt, a, b, tx⟩ := c
  obtain ⟨h1, h2, h3, h4, h5, h6, h7, h8, h9, h10⟩ := h
  simp only at h3 h4 h5 h6 h7 h8 h9 h10 ha hb
  have hn := (isNm_len h9).2
  unfold encCr rdCr
  simp only [List.append_assoc]
  obtain ⟨a1, a2⟩ := n_front (v := u64N cl) (k := 1) (by rw [e1]; unfold u64N; omega) (beB (u64N sp) 8 ++ (beB (u64N op) 1 ++ (rowB lt ++ (beB (u64N a) 8 ++ (beB (u64N b) 8 ++ (rowB tx ++ ys))))))
  obtain ⟨b1, b2⟩ := n_front (u64N_lt sp) (beB (u64N op) 1 ++ (rowB lt ++ (beB (u64N a) 8 ++ (beB (u64N b) 8 ++ (rowB tx ++ ys)))))
  obtain ⟨c1, c2⟩ := n_front (v := u64N op) (k := 1) (by rw [e1]; unfold u64N; omega) (rowB lt ++ (beB (u64N a) 8 ++ (beB (u64N b) 8 ++ (rowB tx ++ ys))))
  obtain ⟨d1, d2⟩ := r_front (most := m) (row := lt) (by omega) hm (beB (u64N a) 8 ++ (beB (u64N b) 8 ++ (rowB tx ++ ys)))
  obtain ⟨f1, f2⟩ := n_front (u64N_lt a) (beB (u64N b) 8 ++ (rowB tx ++ ys))
  obtain ⟨g1, g2⟩ := n_front (u64N_lt b) (rowB tx ++ ys)
  obtain ⟨k1, k2⟩ := r_front (most := m) (row := tx) (by omega) hm ys
  rw [a1, a2, b1, b2, c1, c2, d1, d2, f1, f2, g1, g2, k1, k2, sx_u64N (by omega) (by omega), sx_u64N ha.1 ha.2, sx_u64N hb.1 hb.2]
  have e : ((u64N cl : Nat) : Int) = cl := by unfold u64N; omega
  have e' : ((u64N op : Nat) : Int) = op := by unfold u64N; omega
  rw [e, e']
/-- which core bytes tell, or why none -/
def parseCr (m : Nat) (xs : List UInt8) (n : Int) : Cr × Int := if (rdCr m (some xs)).2 = some [] then (if chkC (rdCr m (some xs)).1 n = 0 then ((rdCr m (some xs)).1, 0) else (Cr.no, chkC (rdCr m (some xs)).1 n)) else (Cr.no, 2)
theorem parseCr_fail {m : Nat} {xs : List UInt8} {n : Int} (h : (rdCr m (some xs)).2 ≠ some []) : parseCr m xs n = (Cr.no, 2) := by unfold parseCr; rw [if_neg h]

/-- an endorsement: who, and a tag (32 bytes) to each replica -/
structure En where
  og : Int
  ts : List (List UInt8)
/-- a request -/
structure Rq where
  co : Cr
  es : List En
def Rq.no : Rq := ⟨Cr.no, []⟩
def En.eqb (e f : En) : Bool := (e.og == f.og) && (e.ts == f.ts)
theorem En.eqb_iff {e f : En} : e.eqb f = true ↔ e = f := by
  obtain ⟨e1, e2⟩ := e
  obtain ⟨f1, f2⟩ := f
  simp only [En.eqb, Bool.and_eq_true, beq_iff_eq, En.mk.injEq]
def encTg (t : List UInt8) : List UInt8 := t
def encEn (e : En) : List UInt8 := beB (u64N e.og) 1 ++ encAll encTg e.ts
def Rq.bytes (q : Rq) : List UInt8 := rowB (encCr q.co) ++ (beB q.es.length 2 ++ encAll encEn q.es)
/-- what a read of 32 bytes puts into a tag -/
def tagOf (l : List UInt8) : List UInt8 := if l.length = 32 then l else List.replicate 32 0
theorem encCr_len (c : Cr) : (encCr c).length = 34 + c.lt.length + c.tx.length := by
  unfold encCr rowB
  simp [beB_length]
  omega
end Go.Proofs.Ytheecifgbkdecaa

namespace Go.Proofs.Ytheecifgbkdecaa
open Go.RowKit

set_option maxHeartbeats 400000 in
theorem isWidth_any (k : Int) (w : World) : Calls Try.prog 102 #[.int .i64 k] w fun e w' => e = .returned (.bool (wid k)) ∧ w = w' := by
 by_cases h1 : k = 1
 ·subst h1
  go_enter Try.func102, Try.ntmps102
  go_wp2
  go_ret
  exact ⟨rfl, rfl⟩
 have e1 : (k == 1) = false := by simpa using h1
 by_cases h2 : k = 2
 ·subst h2
  go_enter Try.func102, Try.ntmps102
  go_wp2
  go_ret
  exact ⟨rfl, rfl⟩
 have e2 : (k == 2) = false := by simpa using h2
 by_cases h4 : k = 4
 ·subst h4
  go_enter Try.func102, Try.ntmps102
  go_wp2
  go_ret
  exact ⟨rfl, rfl⟩
 have e4 : (k == 4) = false := by simpa using h4
 have hw : wid k = (k == 8) := by simp [wid, e1, e2, e4]
 rw [hw]
 clear hw
 go_enter Try.func102, Try.ntmps102
 go_wp2
 go_ret
 exact ⟨rfl, rfl⟩

set_option maxHeartbeats 400000 in
theorem size_any (k : Int) (w : World) : Calls Try.prog 87 #[.int .i64 k] w fun e w' => e = .returned (.bool (wid k)) ∧ w = w' := by
 by_cases h1 : k = 1
 ·subst h1
  go_enter Try.func87, Try.ntmps87
  go_wp2
  go_ret
  exact ⟨rfl, rfl⟩
 have e1 : (k == 1) = false := by simpa using h1
 by_cases h2 : k = 2
 ·subst h2
  go_enter Try.func87, Try.ntmps87
  go_wp2
  go_ret
  exact ⟨rfl, rfl⟩
 have e2 : (k == 2) = false := by simpa using h2
 by_cases h4 : k = 4
 ·subst h4
  go_enter Try.func87, Try.ntmps87
  go_wp2
  go_ret
  exact ⟨rfl, rfl⟩
 have e4 : (k == 4) = false := by simpa using h4
 have hw : wid k = (k == 8) := by simp [wid, e1, e2, e4]
 rw [hw]
 clear hw
 go_enter Try.func87, Try.ntmps87
 go_wp2
 go_ret
 exact ⟨rfl, rfl⟩

set_option maxHeartbeats 1000000 in
theorem clone_any (Q : Nat → Prop) (A : Option Addr) (n c : Nat) (xs : List UInt8) (w : World) (h : By w Q A n xs) (hn : n ≤ 140737488355328) :
  Calls Try.prog 89 #[.slice A n c] w (Made w n xs) := by
 have q22 : ∀ (w : World) (a : Option Addr) (n c n' c' : Nat), (binOp .eql 28 (.slice a n c) (.slice none n' c')).run Try.prog w = .ok (.bool a.isNone) w := fun w a n c n' c' => Lib.run_eql_slice_nil w _ _ a n c n' c' Try.underlying28
 obtain ⟨i0, hi, hz0, hz1, hz2⟩ := info_parts Try.info_u8
 rcases A with _ | ad
 ·obtain rfl : n = 0 := by
   rcases Nat.eq_zero_or_pos n with h0 | h0
   ·exact h0
   ·obtain ⟨_, _, h, _⟩ := h.2 h0
    cases h
  obtain rfl : xs = [] := List.eq_nil_of_length_eq_zero h.1
  clear h
  go_enter Try.func89, Try.ntmps89
  go_wp2
  go_ret
  exact ⟨_, rfl, World.ownsRow_nil _ _ _ _, Below.refl _ _⟩
 ·have H : Hid (By w Q (some ad) n xs) := h
  clear h
  go_enter Try.func89, Try.ntmps89
  go_wp2_with (at_builtin; refine wpList_append_by _ rfl _ _ 28 rfl w.heap.size i0 Try.underlying28 hi hz0 hz1 hz2 _ 0 [] rfl (World.ownsRow_made w #[] 0 (Nat.le_refl _) (Nat.zero_le _) rfl) Q (some ad) n c xs rfl (H.out.alloc _) ?b1 ?b2 ?_)
  case b1 => omega
  case b2 => simp
  intro v' w1 hown hgrow _
  go_wp2
  go_ret
  refine ⟨v', rfl, by simpa using hown, ?_⟩
  exact ((Below.refl _ w).alloc (Nat.le_refl _) _).grown hgrow (by simp) (by intro k hk; simp [Value.ownBlock] at hk; omega)

end Go.Proofs.Ytheecifgbkdecaa
