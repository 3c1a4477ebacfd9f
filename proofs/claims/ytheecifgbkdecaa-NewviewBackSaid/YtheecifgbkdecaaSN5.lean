/-
  O3 CoR OBy
-/
import Derived.Test.YtheecifgbkdecaaSN4
import Derived.Test.YtheecifgbkdecaaSN1
import Derived.Lib.ConvBytes
import Derived.Test.YtheecifgbkdecaaSN3
import Derived.Test.YtheecifgbkdecaaSN2
namespace Go.Proofs.Ytheecifgbkdecaa
open Go.RowKit

variable {Q : Nat → Prop}

abbrev tQ : TypeId := 88

end Go.Proofs.Ytheecifgbkdecaa

namespace Go.Proofs.Ytheecifgbkdecaa
open Go.RowKit

/-- what is left, and the failure, told as a state -/
def St (xs : List UInt8) (er : Int) : Option (List UInt8) → Prop
 | some r => xs = r ∧ er = 0
 | none => er ≠ 0
/-- Block g is a reader of type t in this state. -/
def Rs (Q : Nat → Prop) (w : World) (g : Nat) (t : TypeId) (st : Option (List UInt8)) : Prop := ∃ xs er, RS Q w g t xs er ∧ St xs er st ∧ xs.length ≤ 1099511627776

section
variable {Q : Nat → Prop} {w w' : World} {g : Nat} {t : TypeId} {st : Option (List UInt8)}
theorem Rs.lt (h : Rs Q w g t st) : g < w.heap.size := by
 obtain ⟨_, _, h, _⟩ := h
 exact h.lt
theorem Rs.below (h : Rs Q w g t st) (hb : Below w.heap.size w w') : Rs Q w' g t st := by
 obtain ⟨xs, er, h, hs, hl⟩ := h
 exact ⟨xs, er, h.below hb, hs, hl⟩
theorem Rs.drew (h : Rs Q w g t st) : Rs Q w.drew g t st := h
theorem Rs.drewN (h : Rs Q w g t st) (n : Nat) : Rs Q (w.drewN n) g t st := h
theorem Rs.alloc (h : Rs Q w g t st) (o : Obj) : Rs Q (w.alloc o) g t st := h.below ((Below.refl _ w).alloc (Nat.le_refl _) o)
/-- A block is turned that isn't this reader's, and none of the bytes'. -/
theorem Rs.other {row : Option Nat} (h : Rs Q w g t st) (hg : w.grownBy w' row) (hr : ∀ b, row = some b → b ≠ g ∧ ¬ Q b) : Rs Q w' g t st := by
 obtain ⟨xs, er, h, hs, hl⟩ := h
 exact ⟨xs, er, h.other hg hr, hs, hl⟩
/-- Other bytes stay when the reader is turned. -/
theorem Rs.by_keep {Q' : Nat → Prop} {A : Option Addr} {n : Nat} {xs : List UInt8} (h : Rs Q w g t st) (hy : By w Q' A n xs) (hg : w.grownBy w' (some g)) : By w' Q' A n xs := by
 obtain ⟨_, _, ⟨A0, n0, c0, hw, _⟩, _⟩ := h
 exact hy.only hg hw
theorem Rs.block (h : Rs Q w g t st) : ∃ cs, w.heap[g]? = some (.cells cs t (0, 0)) := by
 obtain ⟨_, _, h, _⟩ := h
 exact h.block
end

theorem num_st {xs : List UInt8} {er : Int} {st : Option (List UInt8)} (h : St xs er st) (k : Nat) (hk : wid k = true) :
  numV xs er k = nval k st ∧ St (numX xs er k) (numE xs er k) (nnext k st) := by
 unfold numV numX numE
 rw [hk]
 simp only [if_true]
 cases st with
 | none =>
  have he : er ≠ 0 := h
  refine ⟨?_, ?_⟩
  ·unfold takeY
   rw [if_neg (fun h => he h.1)]
   rfl
  ·show takeE xs er k ≠ 0
   unfold takeE
   rw [if_neg he]
   exact he
 | some r =>
  obtain ⟨rfl, rfl⟩ := h
  rw [nval_some, nnext_some]
  unfold takeY takeX takeE
  by_cases hl : k ≤ xs.length
  ·have hc : (0 : Int) ≤ (k : Int) ∧ (k : Int) ≤ xs.length := ⟨by omega, by omega⟩
   rw [if_pos hl, if_pos hl, if_pos ⟨rfl, hc⟩, if_pos rfl, if_pos rfl, if_pos hc, if_pos hc]
   exact ⟨by simp, by simp, rfl⟩
  ·have hc : ¬ ((0 : Int) ≤ (k : Int) ∧ (k : Int) ≤ xs.length) := by omega
   rw [if_neg hl, if_neg hl, if_neg (fun h => hc h.2), if_pos rfl, if_pos rfl, if_neg hc, if_neg hc]
   exact ⟨rfl, show (2 : Int) ≠ 0 by decide⟩
theorem take_st {xs : List UInt8} {er : Int} {st : Option (List UInt8)} (h : St xs er st) (k : Nat) :
  takeY xs er k = tval k st ∧ St (takeX xs er k) (takeE xs er k) (nnext k st) := by
 cases st with
 | none =>
  have he : er ≠ 0 := h
  refine ⟨?_, ?_⟩
  ·unfold takeY
   rw [if_neg (fun h => he h.1)]
   rfl
  ·show takeE xs er k ≠ 0
   unfold takeE
   rw [if_neg he]
   exact he
 | some r =>
  obtain ⟨rfl, rfl⟩ := h
  rw [tval_some, nnext_some]
  unfold takeY takeX takeE
  by_cases hl : k ≤ xs.length
  ·have hc : (0 : Int) ≤ (k : Int) ∧ (k : Int) ≤ xs.length := ⟨by omega, by omega⟩
   rw [if_pos hl, if_pos hl, if_pos ⟨rfl, hc⟩, if_pos rfl, if_pos rfl, if_pos hc, if_pos hc]
   exact ⟨by simp, by simp, rfl⟩
  ·have hc : ¬ ((0 : Int) ≤ (k : Int) ∧ (k : Int) ≤ xs.length) := by omega
   rw [if_neg hl, if_neg hl, if_neg (fun h => hc h.2), if_pos rfl, if_pos rfl, if_neg hc, if_neg hc]
   exact ⟨rfl, show (2 : Int) ≠ 0 by decide⟩
theorem up_st {X : List UInt8} {E : Int} {st : Option (List UInt8)} (h : St X E st) (V most : Nat) (b : Int) (hb : b ≠ 0) (hV : st = none → V = 0) :
  upV V most = ((if V ≤ most then V else 0 : Nat) : Int) ∧ St (upX X E V most) (upE E V most b) (if V ≤ most then st else none) := by
 unfold upV upX upE
 by_cases hl : V ≤ most
 ·have hc : ¬ (most : Int) < (V : Nat) := by omega
  rw [if_neg hc, if_neg hc, if_neg hc, if_pos hl, if_pos hl]
  exact ⟨rfl, h⟩
 ·have hc : (most : Int) < (V : Nat) := by omega
  rw [if_pos hc, if_pos hc, if_pos hc, if_neg hl, if_neg hl]
  refine ⟨rfl, ?_⟩
  show failE E b ≠ 0
  cases st with
  | none => exact absurd (hV rfl) (by omega)
  | some r =>
   rw [h.2]
   exact hb
theorem row_st {xs : List UInt8} {er : Int} {st : Option (List UInt8)} (h : St xs er st) (most : Nat) :
  rowY xs er most = rval most st ∧ St (rowX xs er most) (rowE xs er most) (rnext most st) := by
 obtain ⟨h1, h2⟩ := num_st h 4 rfl
 have h1' : numV xs er 4 = nval 4 st := h1
 have h2' : St (numX xs er 4) (numE xs er 4) (nnext 4 st) := h2
 have hz : nnext 4 st = none → nval 4 st = 0 := fun e => by
  cases st with
  | none => rfl
  | some r =>
   rw [nnext_some] at e
   rw [nval_some]
   split at e
   ·cases e
   ·rename_i hn
    rw [if_neg hn]
 obtain ⟨h3, h4⟩ := up_st h2' (nval 4 st) most 3 (by decide) hz
 unfold rowY rowX rowE rval rnext
 rw [h1', h3]
 obtain ⟨h5, h6⟩ := take_st h4 (if nval 4 st ≤ most then nval 4 st else 0)
 rw [h5]
 refine ⟨?_, ?_⟩
 ·split
  ·rfl
  ·rfl
 ·split
  ·rename_i hl
   rw [if_pos hl, if_pos hl] at h6
   exact h6
  ·rename_i hl
   rw [if_neg hl, if_neg hl] at h6
   exact h6
theorem cnt_st {xs : List UInt8} {er : Int} {st : Option (List UInt8)} (h : St xs er st) (most : Nat) :
  upV (numV xs er 2) most = (cval most st : Int) ∧ St (upX (numX xs er 2) (numE xs er 2) (numV xs er 2) most) (upE (numE xs er 2) (numV xs er 2) most 4) (cnext most st) := by
 obtain ⟨h1, h2⟩ := num_st h 2 rfl
 have h1' : numV xs er 2 = nval 2 st := h1
 have h2' : St (numX xs er 2) (numE xs er 2) (nnext 2 st) := h2
 have hz : nnext 2 st = none → nval 2 st = 0 := fun e => by
  cases st with
  | none => rfl
  | some r =>
   rw [nnext_some] at e
   rw [nval_some]
   split at e
   ·cases e
   ·rename_i hn
    rw [if_neg hn]
 obtain ⟨h3, h4⟩ := up_st h2' (nval 2 st) most 4 (by decide) hz
 rw [h1', h3]
 exact ⟨rfl, h4⟩
theorem end_st {xs : List UInt8} {er : Int} {st : Option (List UInt8)} (h : St xs er st) : endV xs er = 0 ↔ st = some [] := by
 unfold endV
 cases st with
 | none =>
  have he : er ≠ 0 := h
  rw [if_neg he]
  exact ⟨fun e => absurd e he, fun e => by cases e⟩
 | some r =>
  obtain ⟨rfl, rfl⟩ := h
  rw [if_pos rfl]
  by_cases hx : xs = []
  ·rw [if_pos hx, hx]; simp
  ·rw [if_neg hx]; simp [hx]

/-- what a number leaves isn't longer -/
theorem rowX_le (xs : List UInt8) (er : Int) (most : Int) : (rowX xs er most).length ≤ xs.length := by
 unfold rowX
 exact Nat.le_trans (takeX_le _ _ _) (Nat.le_trans (upX_le _ _ _ _) (numX_le _ _ _))

section
variable {Q : Nat → Prop} {g : Nat} {st : Option (List UInt8)} {w : World}
theorem number_rs (h : Rs Q w g tR st) (k : Nat) (hk : wid k = true) : Calls Try.prog 72 #[.pointer (some ⟨g, 0, none⟩), .int .i64 k] w fun e w' => e = .returned (.int .u64 (nval k st)) ∧ Rs Q w' g tR (nnext k st) ∧ w.grownBy w' (some g) := by
 obtain ⟨xs, er, h, hs, hl⟩ := h
 obtain ⟨h1, h2⟩ := num_st hs k hk
 rw [← h1]
 exact (number_any g xs er k w h).mono fun e w' ⟨he, hr, hg⟩ => ⟨he, ⟨_, _, hr, h2, Nat.le_trans (numX_le _ _ _) hl⟩, hg⟩
theorem row_rs (h : Rs Q w g tR st) (most : Nat) : Calls Try.prog 48 #[.pointer (some ⟨g, 0, none⟩), .int .i64 most] w fun e w' => ∃ B m c, e = .returned (.slice B m c) ∧ By w' (fun _ => True) B m (rval most st) ∧ Rs Q w' g tR (rnext most st) ∧ w.grownBy w' (some g) := by
 obtain ⟨xs, er, h, hs, hl⟩ := h
 obtain ⟨h1, h2⟩ := row_st hs most
 rw [← h1]
 exact (rowm_any g xs er most hl w h).mono fun e w' ⟨B, m, c, he, hm, hy, hr, hg⟩ => ⟨B, m, c, he, hy, ⟨_, _, hr, h2, Nat.le_trans (rowX_le _ _ _) hl⟩, hg⟩
theorem count_rs (h : Rs Q w g tR st) (most : Nat) : Calls Try.prog 73 #[.pointer (some ⟨g, 0, none⟩), .int .i64 most] w fun e w' => e = .returned (.int .i64 (cval most st)) ∧ Rs Q w' g tR (cnext most st) ∧ w.grownBy w' (some g) := by
 obtain ⟨xs, er, h, hs, hl⟩ := h
 obtain ⟨h1, h2⟩ := cnt_st hs most
 rw [← h1]
 exact (count_any g xs er most w h).mono fun e w' ⟨he, hr, hg⟩ => ⟨he, ⟨_, _, hr, h2, Nat.le_trans (upX_le _ _ _ _) (Nat.le_trans (numX_le _ _ _) hl)⟩, hg⟩
theorem end_rs (h : Rs Q w g tR st) : Calls Try.prog 53 #[.pointer (some ⟨g, 0, none⟩)] w fun e w' => ∃ x, e = .returned (.int .i64 x) ∧ (x = 0 ↔ st = some []) ∧ w = w' := by
 obtain ⟨xs, er, h, hs, hl⟩ := h
 exact (end_any g xs er w h).mono fun e w' ⟨he, hw⟩ => ⟨_, he, end_st hs, hw⟩
theorem read_rs {Q' : Nat → Prop} {A : Option Addr} {n c : Nat} {xs : List UInt8} (h : By w Q' A n xs) (hn : n ≤ 1099511627776) : Calls Try.prog 44 #[.slice A n c] w fun e w' => ∃ g, e = .returned (.pointer (some ⟨g, 0, none⟩)) ∧ Rs (fun b => w.heap.size ≤ b) w' g tR (some xs) ∧ Below w.heap.size w w' ∧ w.heap.size ≤ g := by
 refine (read_any Q' A n c xs w h hn).mono fun e w' ⟨g, he, hr, hb, hg⟩ => ⟨g, he, ⟨xs, 0, hr, ⟨rfl, rfl⟩, ?_⟩, hb, hg⟩
 rw [h.len]
 exact hn
end

end Go.Proofs.Ytheecifgbkdecaa

namespace Go.Proofs.Ytheecifgbkdecaa
open Go.RowKit

/-- A call that hands back bytes. -/
def Byt (w : World) (xs : List UInt8) (e : Ending) (w' : World) : Prop := ∃ A n c, e = .returned (.slice A n c) ∧ By w' (fun _ => True) A n xs ∧ n ≤ c ∧ c ≤ maxLen ∧ Below w.heap.size w w'
theorem Byt.of_made {w w' : World} {n : Nat} {xs : List UInt8} {e : Ending} (h : Made w n xs e w') : Byt w xs e w' := by
 obtain ⟨v, he, ho, hb⟩ := h
 obtain ⟨A, c, rfl, hn, hm, _⟩ := own_form ho
 exact ⟨A, n, c, he, (By.of_own ho).weak fun _ _ => trivial, hn, hm, hb⟩
theorem putB_wid {k : Nat} (hk : wid k = true) (xs : List UInt8) (v : Nat) : putB xs v k = xs ++ beB v k := by
 unfold putB
 rw [if_pos hk]
 simp
section
variable {Q Q2 : Nat → Prop} {A B : Option Addr} {n c m d : Nat} {xs ys : List UInt8} {w : World}
theorem rput_by (k : Nat) (hk : wid k = true) (v : Nat) (hv : v < 18446744073709551616) (h : By w Q A n xs) (hn : xs.length ≤ 1099511627776) :
  Calls Try.prog 41 #[.slice A n c, .int .u64 v, .int .i64 k] w (Byt w (xs ++ beB v k)) := by
 refine (rput_any Q A n c xs v k (by omega) (by omega) w h (by rw [← h.len]; exact hn)).mono fun e w' hm => ?_
 rw [Int.toNat_natCast, putB_wid hk] at hm
 exact Byt.of_made hm
theorem put_by (k : Nat) (hk : wid k = true) (v : Nat) (hv : v < 18446744073709551616) (h : By w Q A n xs) (hn : xs.length ≤ 1099511627776) (hnc : n ≤ c) :
  Calls Try.prog 67 #[.slice A n c, .int .u64 v, .int .i64 k] w (Byt w (xs ++ beB v k)) := by
 refine (put_any Q A n c xs v k (by omega) (by omega) w h (by rw [← h.len]; exact hn) hnc).mono fun e w' hm => ?_
 rw [Int.toNat_natCast, putB_wid hk] at hm
 exact Byt.of_made hm
theorem rrow_by (h : By w Q A n xs) (h2 : By w Q2 B m ys) (hn : xs.length ≤ 1099511627776) (hm : ys.length ≤ 1099511627776) :
  Calls Try.prog 71 #[.slice A n c, .slice B m d] w (Byt w (xs ++ rowB ys)) := by
 refine (rrow_any Q A n c xs Q2 B m d ys w h h2 (by rw [← h.len]; exact hn) (by rw [← h2.len]; exact hm)).mono fun e w' hm => ?_
 rw [← h2.len, List.append_assoc] at hm
 exact Byt.of_made hm
theorem row_by (h : By w Q A n xs) (h2 : By w Q2 B m ys) (hn : xs.length ≤ 1099511627776) (hm : ys.length ≤ 1099511627776) (hnc : n ≤ c) :
  Calls Try.prog 76 #[.slice A n c, .slice B m d] w (Byt w (xs ++ rowB ys)) := by
 refine (row_any Q A n c xs Q2 B m d ys w h h2 (by rw [← h.len]; exact hn) (by rw [← h2.len]; exact hm) hnc).mono fun e w' hm => ?_
 rw [← h2.len, List.append_assoc] at hm
 exact Byt.of_made hm
end

/-- '[]byte(s)' -/
theorem by_bytes (w : World) (l : List UInt8) : By (Lib.bytesWorld w 5 (ba l)) (fun _ => True) (some ⟨w.heap.size, 0, none⟩) l.length l := by
 refine ⟨rfl, fun _ => ⟨_, _, rfl, trivial, fun j u hu => ?_⟩⟩
 have hj : j < l.length := (List.getElem?_eq_some_iff.1 hu).1
 rw [Nat.zero_add, Lib.bytesWorld_cell w 5 (ba l) j (by rw [ba_size]; exact hj)]
 have e : (ba l).data.toList = l := rfl
 rw [e, List.getD, hu]
 rfl
theorem below_bytes (w : World) (s : ByteArray) : Below w.heap.size w (Lib.bytesWorld w 5 s) :=
 ⟨rfl, rfl, rfl, by rw [Lib.bytesWorld_size]; omega, fun k hk => Lib.bytesWorld_at_old w 5 s k hk⟩
theorem yields_conv {P : Program} {ops : Array Oper} {S : World → Prop} {op : Oper} {a : Act} (hw : Region.wanted op (yielded ops a.tmps) = true) (src dst : TypeId) (x : Operand) (ho : op.op = .convert src dst x)
  (p : Value) (hx : a.eval x = p) (v : Value) (hS : ∀ w, S w → (convert src dst p).run P w = .ok v w) : YieldsIf P ops S op v a :=
 .inl ⟨hw, fun w hw' => by
  unfold execOp
  simp only [ho, hx, Sem.run_bind, hS w hw', Result.andThen_ok]
  rfl⟩
theorem conv_u64 {P : Program} (t t' : TypeId) (ht : P.underlying t = some (.int .i64)) (ht' : P.underlying t' = some (.int .u64)) (v : Int) (w : World) : (convert t t' (.int .i64 v)).run P w = .ok (.int .u64 (u64N v)) w := by
 have e : IntKind.u64.wrap v = ((u64N v : Nat) : Int) := by
  unfold u64N
  simp [IntKind.wrap, IntKind.signed, IntKind.bits]
  omega
 simp [convert, run_underlying ht, run_underlying ht', Conv.intToInt, e]

end Go.Proofs.Ytheecifgbkdecaa
