/-
  CoR OBy El
-/
import Derived.Test.YtheecifgbkdecaaSM1
import Derived.Test.YtheecifgbkdecaaSM5
import Derived.Lib.ConvBytes
import Derived.Test.YtheecifgbkdecaaSM3
import Derived.Test.YtheecifgbkdecaaSM2
import Derived.Deep.AppendLies
import Derived.Great.BuildSlice
namespace Go.Proofs.Ytheecifgbkdecaa
open Go.RowKit

/-- what is left, and the failure, told as a state -/
def St (xs : List UInt8) (er : Int) : Option (List UInt8) → Prop
 | some r => xs = r ∧ er = 0
 | none => er ≠ 0
/-- Block g is a reader of type t in this state. -/
def Rs (Q : Nat → Prop) (w : World) (g : Nat) (t : TypeId) (st : Option (List UInt8)) : Prop := ∃ xs er, RS Q w g t xs er ∧ St xs er st ∧ xs.length ≤ 1099511627776

section
variable {Q : Nat → Prop} {w w' : World} {g : Nat} {t : TypeId} {st : Option (List UInt8)}
theorem Rs.lt (h : Rs Q w g t st) : g < w.heap.size := by
 obtain ⟨_, _, h, _⟩ := h
 exact h.lt
theorem Rs.below (h : Rs Q w g t st) (hb : Below w.heap.size w w') : Rs Q w' g t st := by
 obtain ⟨xs, er, h, hs, hl⟩ := h
 exact ⟨xs, er, h.below hb, hs, hl⟩
theorem Rs.drew (h : Rs Q w g t st) : Rs Q w.drew g t st := h
theorem Rs.drewN (h : Rs Q w g t st) (n : Nat) : Rs Q (w.drewN n) g t st := h
theorem Rs.alloc (h : Rs Q w g t st) (o : Obj) : Rs Q (w.alloc o) g t st := h.below ((Below.refl _ w).alloc (Nat.le_refl _) o)
/-- A block is turned that isn't this reader's, and none of the bytes'. -/
theorem Rs.other {row : Option Nat} (h : Rs Q w g t st) (hg : w.grownBy w' row) (hr : ∀ b, row = some b → b ≠ g ∧ ¬ Q b) : Rs Q w' g t st := by
 obtain ⟨xs, er, h, hs, hl⟩ := h
 exact ⟨xs, er, h.other hg hr, hs, hl⟩
/-- Other bytes stay when the reader is turned. -/
theorem Rs.by_keep {Q' : Nat → Prop} {A : Option Addr} {n : Nat} {xs : List UInt8} (h : Rs Q w g t st) (hy : By w Q' A n xs) (hg : w.grownBy w' (some g)) : By w' Q' A n xs := by
 obtain ⟨_, _, ⟨A0, n0, c0, hw, _⟩, _⟩ := h
 exact hy.only hg hw
theorem Rs.block (h : Rs Q w g t st) : ∃ cs, w.heap[g]? = some (.cells cs t (0, 0)) := by
 obtain ⟨_, _, h, _⟩ := h
 exact h.block
/-- whether it failed, as its cell tells -/
theorem Rs.err (h : Rs Q w g t st) : ∃ er : Int, w.cell? ⟨g, 1, none⟩ = some (.int .i64 er) ∧ (er = 0 ↔ st ≠ none) := by
 obtain ⟨xs, er, ⟨A, n, c, hw, _⟩, hs, _⟩ := h
 refine ⟨er, by rw [cell_of_row w g 1 _ _ _ hw]; rfl, ?_⟩
 cases st with
 | none => exact ⟨fun e => absurd e hs, fun h => absurd rfl h⟩
 | some r => exact ⟨fun _ => by simp, fun _ => hs.2⟩
end

theorem num_st {xs : List UInt8} {er : Int} {st : Option (List UInt8)} (h : St xs er st) (k : Nat) (hk : wid k = true) :
  numV xs er k = nval k st ∧ St (numX xs er k) (numE xs er k) (nnext k st) := by
 unfold numV numX numE
 rw [hk]
 simp only [if_true]
 cases st with
 | none =>
  have he : er ≠ 0 := h
  refine ⟨?_, ?_⟩
  ·unfold takeY
   rw [if_neg (fun h => he h.1)]
   rfl
  ·show takeE xs er k ≠ 0
   unfold takeE
   rw [if_neg he]
   exact he
 | some r =>
  obtain ⟨rfl, rfl⟩ := h
  rw [nval_some, nnext_some]
  unfold takeY takeX takeE
  by_cases hl : k ≤ xs.length
  ·have hc : (0 : Int) ≤ (k : Int) ∧ (k : Int) ≤ xs.length := ⟨by omega, by omega⟩
   rw [if_pos hl, if_pos hl, if_pos ⟨rfl, hc⟩, if_pos rfl, if_pos rfl, if_pos hc, if_pos hc]
   exact ⟨by simp, by simp, rfl⟩
  ·have hc : ¬ ((0 : Int) ≤ (k : Int) ∧ (k : Int) ≤ xs.length) := by omega
   rw [if_neg hl, if_neg hl, if_neg (fun h => hc h.2), if_pos rfl, if_pos rfl, if_neg hc, if_neg hc]
   exact ⟨rfl, show (2 : Int) ≠ 0 by decide⟩
theorem take_st {xs : List UInt8} {er : Int} {st : Option (List UInt8)} (h : St xs er st) (k : Nat) :
  takeY xs er k = tval k st ∧ St (takeX xs er k) (takeE xs er k) (nnext k st) := by
 cases st with
 | none =>
  have he : er ≠ 0 := h
  refine ⟨?_, ?_⟩
  ·unfold takeY
   rw [if_neg (fun h => he h.1)]
   rfl
  ·show takeE xs er k ≠ 0
   unfold takeE
   rw [if_neg he]
   exact he
 | some r =>
  obtain ⟨rfl, rfl⟩ := h
  rw [tval_some, nnext_some]
  unfold takeY takeX takeE
  by_cases hl : k ≤ xs.length
  ·have hc : (0 : Int) ≤ (k : Int) ∧ (k : Int) ≤ xs.length := ⟨by omega, by omega⟩
   rw [if_pos hl, if_pos hl, if_pos ⟨rfl, hc⟩, if_pos rfl, if_pos rfl, if_pos hc, if_pos hc]
   exact ⟨by simp, by simp, rfl⟩
  ·have hc : ¬ ((0 : Int) ≤ (k : Int) ∧ (k : Int) ≤ xs.length) := by omega
   rw [if_neg hl, if_neg hl, if_neg (fun h => hc h.2), if_pos rfl, if_pos rfl, if_neg hc, if_neg hc]
   exact ⟨rfl, show (2 : Int) ≠ 0 by decide⟩
theorem up_st {X : List UInt8} {E : Int} {st : Option (List UInt8)} (h : St X E st) (V most : Nat) (b : Int) (hb : b ≠ 0) (hV : st = none → V = 0) :
  upV V most = ((if V ≤ most then V else 0 : Nat) : Int) ∧ St (upX X E V most) (upE E V most b) (if V ≤ most then st else none) := by
 unfold upV upX upE
 by_cases hl : V ≤ most
 ·have hc : ¬ (most : Int) < (V : Nat) := by omega
  rw [if_neg hc, if_neg hc, if_neg hc, if_pos hl, if_pos hl]
  exact ⟨rfl, h⟩
 ·have hc : (most : Int) < (V : Nat) := by omega
  rw [if_pos hc, if_pos hc, if_pos hc, if_neg hl, if_neg hl]
  refine ⟨rfl, ?_⟩
  show failE E b ≠ 0
  cases st with
  | none => exact absurd (hV rfl) (by omega)
  | some r =>
   rw [h.2]
   exact hb
theorem row_st {xs : List UInt8} {er : Int} {st : Option (List UInt8)} (h : St xs er st) (most : Nat) :
  rowY xs er most = rval most st ∧ St (rowX xs er most) (rowE xs er most) (rnext most st) := by
 obtain ⟨h1, h2⟩ := num_st h 4 rfl
 have h1' : numV xs er 4 = nval 4 st := h1
 have h2' : St (numX xs er 4) (numE xs er 4) (nnext 4 st) := h2
 have hz : nnext 4 st = none → nval 4 st = 0 := fun e => by
  cases st with
  | none => rfl
  | some r =>
   rw [nnext_some] at e
   rw [nval_some]
   split at e
   ·cases e
   ·rename_i hn
    rw [if_neg hn]
 obtain ⟨h3, h4⟩ := up_st h2' (nval 4 st) most 3 (by decide) hz
 unfold rowY rowX rowE rval rnext
 rw [h1', h3]
 obtain ⟨h5, h6⟩ := take_st h4 (if nval 4 st ≤ most then nval 4 st else 0)
 rw [h5]
 refine ⟨?_, ?_⟩
 ·split
  ·rfl
  ·rfl
 ·split
  ·rename_i hl
   rw [if_pos hl, if_pos hl] at h6
   exact h6
  ·rename_i hl
   rw [if_neg hl, if_neg hl] at h6
   exact h6
theorem cnt_st {xs : List UInt8} {er : Int} {st : Option (List UInt8)} (h : St xs er st) (most : Nat) :
  upV (numV xs er 2) most = (cval most st : Int) ∧ St (upX (numX xs er 2) (numE xs er 2) (numV xs er 2) most) (upE (numE xs er 2) (numV xs er 2) most 4) (cnext most st) := by
 obtain ⟨h1, h2⟩ := num_st h 2 rfl
 have h1' : numV xs er 2 = nval 2 st := h1
 have h2' : St (numX xs er 2) (numE xs er 2) (nnext 2 st) := h2
 have hz : nnext 2 st = none → nval 2 st = 0 := fun e => by
  cases st with
  | none => rfl
  | some r =>
   rw [nnext_some] at e
   rw [nval_some]
   split at e
   ·cases e
   ·rename_i hn
    rw [if_neg hn]
 obtain ⟨h3, h4⟩ := up_st h2' (nval 2 st) most 4 (by decide) hz
 rw [h1', h3]
 exact ⟨rfl, h4⟩
theorem end_st {xs : List UInt8} {er : Int} {st : Option (List UInt8)} (h : St xs er st) : endV xs er = 0 ↔ st = some [] := by
 unfold endV
 cases st with
 | none =>
  have he : er ≠ 0 := h
  rw [if_neg he]
  exact ⟨fun e => absurd e he, fun e => by cases e⟩
 | some r =>
  obtain ⟨rfl, rfl⟩ := h
  rw [if_pos rfl]
  by_cases hx : xs = []
  ·rw [if_pos hx, hx]; simp
  ·rw [if_neg hx]; simp [hx]

/-- what a number leaves isn't longer -/
theorem rowX_le (xs : List UInt8) (er : Int) (most : Int) : (rowX xs er most).length ≤ xs.length := by
 unfold rowX
 exact Nat.le_trans (takeX_le _ _ _) (Nat.le_trans (upX_le _ _ _ _) (numX_le _ _ _))

section
variable {Q : Nat → Prop} {g : Nat} {st : Option (List UInt8)} {w : World}
theorem number_rs (h : Rs Q w g tR st) (k : Nat) (hk : wid k = true) : Calls Try.prog 72 #[.pointer (some ⟨g, 0, none⟩), .int .i64 k] w fun e w' => e = .returned (.int .u64 (nval k st)) ∧ Rs Q w' g tR (nnext k st) ∧ w.grownBy w' (some g) := by
 obtain ⟨xs, er, h, hs, hl⟩ := h
 obtain ⟨h1, h2⟩ := num_st hs k hk
 rw [← h1]
 exact (number_any g xs er k w h).mono fun e w' ⟨he, hr, hg⟩ => ⟨he, ⟨_, _, hr, h2, Nat.le_trans (numX_le _ _ _) hl⟩, hg⟩
theorem rnumber_rs (h : Rs Q w g tQ st) (k : Nat) (hk : wid k = true) : Calls Try.prog 55 #[.pointer (some ⟨g, 0, none⟩), .int .i64 k] w fun e w' => e = .returned (.int .u64 (nval k st)) ∧ Rs Q w' g tQ (nnext k st) ∧ w.grownBy w' (some g) := by
 obtain ⟨xs, er, h, hs, hl⟩ := h
 obtain ⟨h1, h2⟩ := num_st hs k hk
 rw [← h1]
 exact (rnumber_any g xs er k hl w h).mono fun e w' ⟨he, hr, hg⟩ => ⟨he, ⟨_, _, hr, h2, Nat.le_trans (numX_le _ _ _) hl⟩, hg⟩
theorem row_rs (h : Rs Q w g tR st) (most : Nat) : Calls Try.prog 48 #[.pointer (some ⟨g, 0, none⟩), .int .i64 most] w fun e w' => ∃ B m c, e = .returned (.slice B m c) ∧ By w' (fun _ => True) B m (rval most st) ∧ Rs Q w' g tR (rnext most st) ∧ w.grownBy w' (some g) := by
 obtain ⟨xs, er, h, hs, hl⟩ := h
 obtain ⟨h1, h2⟩ := row_st hs most
 rw [← h1]
 exact (rowm_any g xs er most hl w h).mono fun e w' ⟨B, m, c, he, hm, hy, hr, hg⟩ => ⟨B, m, c, he, hy, ⟨_, _, hr, h2, Nat.le_trans (rowX_le _ _ _) hl⟩, hg⟩
theorem rrow_rs (h : Rs Q w g tQ st) (most : Nat) (hm : most ≤ 1099511627776) : Calls Try.prog 74 #[.pointer (some ⟨g, 0, none⟩), .int .i64 most] w fun e w' => ∃ B m c, e = .returned (.slice B m c) ∧ By w' (fun _ => True) B m (rval most st) ∧ Rs Q w' g tQ (rnext most st) ∧ w.grownBy w' (some g) := by
 obtain ⟨xs, er, h, hs, hl⟩ := h
 obtain ⟨h1, h2⟩ := row_st hs most
 rw [← h1]
 exact (rrowm_any g xs er most (by omega) hl w h).mono fun e w' ⟨B, m, c, he, hm, hy, hr, hg⟩ => ⟨B, m, c, he, hy, ⟨_, _, hr, h2, Nat.le_trans (rowX_le _ _ _) hl⟩, hg⟩
theorem count_rs (h : Rs Q w g tR st) (most : Nat) : Calls Try.prog 73 #[.pointer (some ⟨g, 0, none⟩), .int .i64 most] w fun e w' => e = .returned (.int .i64 (cval most st)) ∧ Rs Q w' g tR (cnext most st) ∧ w.grownBy w' (some g) := by
 obtain ⟨xs, er, h, hs, hl⟩ := h
 obtain ⟨h1, h2⟩ := cnt_st hs most
 rw [← h1]
 exact (count_any g xs er most w h).mono fun e w' ⟨he, hr, hg⟩ => ⟨he, ⟨_, _, hr, h2, Nat.le_trans (upX_le _ _ _ _) (Nat.le_trans (numX_le _ _ _) hl)⟩, hg⟩
theorem rcount_rs (h : Rs Q w g tQ st) (most : Nat) : Calls Try.prog 56 #[.pointer (some ⟨g, 0, none⟩), .int .i64 most] w fun e w' => e = .returned (.int .i64 (cval most st)) ∧ Rs Q w' g tQ (cnext most st) ∧ w.grownBy w' (some g) := by
 obtain ⟨xs, er, h, hs, hl⟩ := h
 obtain ⟨h1, h2⟩ := cnt_st hs most
 rw [← h1]
 exact (rcount_any g xs er most hl w h).mono fun e w' ⟨he, hr, hg⟩ => ⟨he, ⟨_, _, hr, h2, Nat.le_trans (upX_le _ _ _ _) (Nat.le_trans (numX_le _ _ _) hl)⟩, hg⟩
theorem end_rs (h : Rs Q w g tR st) : Calls Try.prog 53 #[.pointer (some ⟨g, 0, none⟩)] w fun e w' => ∃ x, e = .returned (.int .i64 x) ∧ (x = 0 ↔ st = some []) ∧ w = w' := by
 obtain ⟨xs, er, h, hs, hl⟩ := h
 exact (end_any g xs er w h).mono fun e w' ⟨he, hw⟩ => ⟨_, he, end_st hs, hw⟩
theorem rend_rs (h : Rs Q w g tQ st) : Calls Try.prog 59 #[.pointer (some ⟨g, 0, none⟩)] w fun e w' => ∃ x, e = .returned (.int .i64 x) ∧ (x = 0 ↔ st = some []) ∧ w = w' := by
 obtain ⟨xs, er, h, hs, hl⟩ := h
 exact (rend_any g xs er w h).mono fun e w' ⟨he, hw⟩ => ⟨_, he, end_st hs, hw⟩
theorem read_rs {Q' : Nat → Prop} {A : Option Addr} {n c : Nat} {xs : List UInt8} (h : By w Q' A n xs) (hn : n ≤ 1099511627776) : Calls Try.prog 44 #[.slice A n c] w fun e w' => ∃ g, e = .returned (.pointer (some ⟨g, 0, none⟩)) ∧ Rs (fun b => w.heap.size ≤ b) w' g tR (some xs) ∧ Below w.heap.size w w' ∧ w.heap.size ≤ g := by
 refine (read_any Q' A n c xs w h hn).mono fun e w' ⟨g, he, hr, hb, hg⟩ => ⟨g, he, ⟨xs, 0, hr, ⟨rfl, rfl⟩, ?_⟩, hb, hg⟩
 rw [h.len]
 exact hn
/-- The document's reader, built on bytes that were handed in. -/
theorem rs_built {A : Option Addr} {n c : Nat} {xs : List UInt8} (h : By w Q A n xs) (hnc : n ≤ c) (hc : c ≤ maxLen) (hn : n ≤ 1099511627776) : Rs Q (w.alloc (.cells #[.slice A n c, .int .i64 0] tQ)) w.heap.size tQ (some xs) :=
 ⟨xs, 0, ⟨A, n, c, heap_alloc_new w _, hnc, hc, fun _ => h.alloc _⟩, ⟨rfl, rfl⟩, by rw [h.len]; exact hn⟩
end

end Go.Proofs.Ytheecifgbkdecaa

namespace Go.Proofs.Ytheecifgbkdecaa
open Go.RowKit

/-- A call that hands back bytes. -/
def Byt (w : World) (xs : List UInt8) (e : Ending) (w' : World) : Prop := ∃ A n c, e = .returned (.slice A n c) ∧ By w' (fun _ => True) A n xs ∧ n ≤ c ∧ c ≤ maxLen ∧ Below w.heap.size w w'
theorem Byt.of_made {w w' : World} {n : Nat} {xs : List UInt8} {e : Ending} (h : Made w n xs e w') : Byt w xs e w' := by
 obtain ⟨v, he, ho, hb⟩ := h
 obtain ⟨A, c, rfl, hn, hm, _⟩ := own_form ho
 exact ⟨A, n, c, he, (By.of_own ho).weak fun _ _ => trivial, hn, hm, hb⟩
theorem putB_wid {k : Nat} (hk : wid k = true) (xs : List UInt8) (v : Nat) : putB xs v k = xs ++ beB v k := by
 unfold putB
 rw [if_pos hk]
 simp
section
variable {Q Q2 : Nat → Prop} {A B : Option Addr} {n c m d : Nat} {xs ys : List UInt8} {w : World}
theorem put_by (k : Nat) (hk : wid k = true) (v : Nat) (hv : v < 18446744073709551616) (h : By w Q A n xs) (hn : xs.length ≤ 1099511627776) (hnc : n ≤ c) :
  Calls Try.prog 67 #[.slice A n c, .int .u64 v, .int .i64 k] w (Byt w (xs ++ beB v k)) := by
 refine (put_any Q A n c xs v k (by omega) (by omega) w h (by rw [← h.len]; exact hn) hnc).mono fun e w' hm => ?_
 rw [Int.toNat_natCast, putB_wid hk] at hm
 exact Byt.of_made hm
theorem row_by (h : By w Q A n xs) (h2 : By w Q2 B m ys) (hn : xs.length ≤ 1099511627776) (hm : ys.length ≤ 1099511627776) (hnc : n ≤ c) :
  Calls Try.prog 76 #[.slice A n c, .slice B m d] w (Byt w (xs ++ rowB ys)) := by
 refine (row_any Q A n c xs Q2 B m d ys w h h2 (by rw [← h.len]; exact hn) (by rw [← h2.len]; exact hm) hnc).mono fun e w' hm => ?_
 rw [← h2.len, List.append_assoc] at hm
 exact Byt.of_made hm
end

/-- '[]byte(s)' -/
theorem by_bytes (w : World) (l : List UInt8) : By (Lib.bytesWorld w 5 (ba l)) (fun _ => True) (some ⟨w.heap.size, 0, none⟩) l.length l := by
 refine ⟨rfl, fun _ => ⟨_, _, rfl, trivial, fun j u hu => ?_⟩⟩
 have hj : j < l.length := (List.getElem?_eq_some_iff.1 hu).1
 rw [Nat.zero_add, Lib.bytesWorld_cell w 5 (ba l) j (by rw [ba_size]; exact hj)]
 have e : (ba l).data.toList = l := rfl
 rw [e, List.getD, hu]
 rfl
theorem below_bytes (w : World) (s : ByteArray) : Below w.heap.size w (Lib.bytesWorld w 5 s) :=
 ⟨rfl, rfl, rfl, by rw [Lib.bytesWorld_size]; omega, fun k hk => Lib.bytesWorld_at_old w 5 s k hk⟩
theorem yields_conv {P : Program} {ops : Array Oper} {S : World → Prop} {op : Oper} {a : Act} (hw : Region.wanted op (yielded ops a.tmps) = true) (src dst : TypeId) (x : Operand) (ho : op.op = .convert src dst x)
  (p : Value) (hx : a.eval x = p) (v : Value) (hS : ∀ w, S w → (convert src dst p).run P w = .ok v w) : YieldsIf P ops S op v a :=
 .inl ⟨hw, fun w hw' => by
  unfold execOp
  simp only [ho, hx, Sem.run_bind, hS w hw', Result.andThen_ok]
  rfl⟩
theorem conv_u64 {P : Program} (t t' : TypeId) (ht : P.underlying t = some (.int .i64)) (ht' : P.underlying t' = some (.int .u64)) (v : Int) (w : World) : (convert t t' (.int .i64 v)).run P w = .ok (.int .u64 (u64N v)) w := by
 have e : IntKind.u64.wrap v = ((u64N v : Nat) : Int) := by
  unfold u64N
  simp [IntKind.wrap, IntKind.signed, IntKind.bits]
  omega
 simp [convert, run_underlying ht, run_underlying ht', Conv.intToInt, e]

end Go.Proofs.Ytheecifgbkdecaa

namespace Go.Proofs.Ytheecifgbkdecaa
open Go.RowKit

/-- s is the type of slices of e, whose elements have k cells. -/
structure El (P : Program) (s e : TypeId) (k bytes : Nat) (z : Value) : Prop where
 sl : P.underlying s = some (.slice e)
 info : (P.info? e).map (fun i => (i.zero, i.size, i.bytes)) = some (some z, k, bytes)
 zero : z.cells.size = k
 pos : 0 < k
 small : k ≤ 1000
 bsm : bytes ≤ 100000

/-- The slice '.slice A n _' reads as these elements, each so many cells. -/
def Sl (w : World) (k : Nat) (A : Option Addr) (n : Nat) (xs : List (List Value)) : Prop :=
 xs.length = n ∧ (0 < n → ∃ g o, A = some ⟨g, o, none⟩ ∧ ∀ (i : Nat) (cs : List Value), xs[i]? = some cs → w.rangeAt g (o + i * k) cs)
/-- v is the call's own slice of these elements: its memory from B on. -/
def Os (w : World) (B : Nat) (e : TypeId) (k : Nat) (v : Value) (xs : List (List Value)) : Prop :=
 w.ownsRow B e k v xs.length xs.flatten ∧ ∀ x ∈ xs, x.length = k

section
variable {w w' : World} {k n B : Nat} {A : Option Addr} {xs : List (List Value)} {v : Value} {e : TypeId}
theorem rangeAt.through {g o : Nat} {cs : List Value} (h : w.rangeAt g o cs) (hb : Below w.heap.size w w') : w'.rangeAt g o cs := fun j u hu =>
 (hb.cell (p := ⟨g, _, none⟩) (World.block_lt_of_cell? w ⟨g, o + j, none⟩ (h j u hu))).trans (h j u hu)
theorem rangeAt.only {g o g' : Nat} {cs : List Value} (h : w.rangeAt g o cs) (hb : w.grownBy w' (some g')) (hne : g ≠ g') : w'.rangeAt g o cs := fun j u hu =>
 hb.cell (h j u hu) (by simpa using hne)
theorem Sl.none_ : Sl w k A 0 [] := ⟨rfl, fun h => absurd h (by omega)⟩
theorem Sl.len (h : Sl w k A n xs) : xs.length = n := h.1
theorem Sl.through (h : Sl w k A n xs) (hb : Below w.heap.size w w') : Sl w' k A n xs := ⟨h.1, fun hn => by
 obtain ⟨g, o, e, hc⟩ := h.2 hn
 exact ⟨g, o, e, fun i cs hi => rangeAt.through (hc i cs hi) hb⟩⟩
theorem Sl.alloc (h : Sl w k A n xs) (o : Obj) : Sl (w.alloc o) k A n xs := h.through ((Below.refl _ w).alloc (Nat.le_refl _) o)
theorem Sl.drew (h : Sl w k A n xs) : Sl w.drew k A n xs := h
theorem Sl.drewN (h : Sl w k A n xs) (m : Nat) : Sl (w.drewN m) k A n xs := h
theorem Sl.at (h : Sl w k A n xs) {i : Nat} (hi : i < n) : ∃ g o x, A = some ⟨g, o, none⟩ ∧ xs[i]? = some x ∧ x ∈ xs ∧ xs.drop i = x :: xs.drop (i + 1) ∧ w.rangeAt g (o + i * k) x := by
 obtain ⟨g, o, e, hc⟩ := h.2 (by omega)
 have hl : i < xs.length := by rw [h.1]; exact hi
 exact ⟨g, o, xs[i], e, List.getElem?_eq_getElem hl, List.getElem_mem hl, List.drop_eq_getElem_cons hl, hc i _ (List.getElem?_eq_getElem hl)⟩

theorem Os.nil (w : World) (B : Nat) (e : TypeId) (k : Nat) : Os w B e k (.slice none 0 0) [] := ⟨World.ownsRow_nil w _ _ _, fun x h => by cases h⟩
theorem Os.keep (h : Os w B e k v xs) (hk : ∀ b, B ≤ b → b < w.heap.size → v.ownBlock = some b → w'.heap[b]? = w.heap[b]?) : Os w' B e k v xs := by
 refine ⟨⟨h.1.1, ?_⟩, h.2⟩
 rcases h.1.2 with h | ⟨g, cap, cur, hv, hb, hg, h1⟩
 ·exact .inl h
 ·exact .inr ⟨g, cap, cur, hv, hb, (hk g hb (Array.getElem?_eq_some_iff.1 hg).1 (by rw [hv]; rfl)).trans hg, h1⟩
theorem Os.through (h : Os w B e k v xs) (hb : Below w.heap.size w w') : Os w' B e k v xs := h.keep fun b _ hl _ => hb.block b hl
theorem Os.alloc (h : Os w B e k v xs) (o : Obj) : Os (w.alloc o) B e k v xs := h.through ((Below.refl _ w).alloc (Nat.le_refl _) o)
theorem Os.drew (h : Os w B e k v xs) : Os w.drew B e k v xs := h
theorem Os.drewN (h : Os w B e k v xs) (m : Nat) : Os (w.drewN m) B e k v xs := h
theorem Os.lt (h : Os w B e k v xs) : ∀ b, v.ownBlock = some b → B ≤ b ∧ b < w.heap.size := fun b hb => h.1.lt b hb
/-- A block of another type is turned. -/
theorem Os.only {g : Nat} {t : TypeId} {cs : Array Value} {fz : Nat × Nat} (h : Os w B e k v xs) (hb : w.grownBy w' (some g)) (hg : w.heap[g]? = some (.cells cs t fz)) (hne : t ≠ e) : Os w' B e k v xs := by
 refine ⟨⟨h.1.1, ?_⟩, h.2⟩
 rcases h.1.2 with h | ⟨g2, cap, cur, hv, hb2, hg2, h1⟩
 ·exact .inl h
 ·refine .inr ⟨g2, cap, cur, hv, hb2, (hb.block g2 (Array.getElem?_eq_some_iff.1 hg2).1 (fun e2 => ?_)).trans hg2, h1⟩
  have e3 : g2 = g := Option.some.inj e2
  subst e3
  rw [hg] at hg2
  injection hg2 with hg2
  injection hg2 with _ ht
  exact hne ht
/-- A block below is turned. -/
theorem Os.far {g : Nat} (h : Os w B e k v xs) (hb : w.grownBy w' (some g)) (hg : g < B) : Os w' B e k v xs :=
 h.keep fun b hB hl _ => hb.block b hl (fun e => by have := Option.some.inj e; omega)
theorem Os.weak {B' : Nat} (h : Os w B e k v xs) (hB : B' ≤ B) : Os w B' e k v xs := by
 refine ⟨⟨h.1.1, ?_⟩, h.2⟩
 rcases h.1.2 with h | ⟨g, cap, cur, hv, hb, r⟩
 ·exact .inl h
 ·exact .inr ⟨g, cap, cur, hv, Nat.le_trans hB hb, r⟩
theorem flatten_drop_take : ∀ (xs : List (List Value)) (i : Nat) (x : List Value), (∀ y ∈ xs, y.length = k) → xs[i]? = some x → ∀ (j : Nat) (u : Value), x[j]? = some u → xs.flatten[i * k + j]? = some u
 | [], _, _, _, h, _, _, _ => by simp at h
 | y :: ys, 0, x, hk, h, j, u, hu => by
  simp at h
  subst h
  rw [List.flatten_cons, Nat.zero_mul, Nat.zero_add, List.getElem?_append_left (List.getElem?_eq_some_iff.1 hu).1, hu]
 | y :: ys, i + 1, x, hk, h, j, u, hu => by
  have hy := hk y (List.mem_cons_self ..)
  have := flatten_drop_take ys i x (fun z hz => hk z (List.mem_cons_of_mem _ hz)) (by simpa using h) j u hu
  rw [List.flatten_cons, List.getElem?_append_right (by rw [hy, Nat.add_mul]; omega), hy]
  rw [show (i + 1) * k + j - k = i * k + j by rw [Nat.add_mul]; omega]
  exact this
theorem flatten_len : ∀ (xs : List (List Value)), (∀ y ∈ xs, y.length = k) → xs.flatten.length = xs.length * k
 | [], _ => by simp
 | y :: ys, h => by
  rw [List.flatten_cons, List.length_append, h y (List.mem_cons_self ..), flatten_len ys (fun z hz => h z (List.mem_cons_of_mem _ hz)), List.length_cons, Nat.add_mul]
  omega
/-- What a call owns, read. -/
theorem Os.out (h : Os w B e k v xs) : ∃ A c, v = .slice A xs.length c ∧ xs.length ≤ c ∧ c ≤ maxLen ∧ Sl w k A xs.length xs := by
 rcases h.1.2 with ⟨hv, hn⟩ | ⟨g, cap, cur, hv, hb, hg, hc, hm, hs, ht⟩
 ·rw [hn]
  exact ⟨none, 0, hv, by omega, by simp [maxLen], hn, fun h0 => absurd h0 (by omega)⟩
 ·refine ⟨_, cap, hv, hc, hm, rfl, fun _ => ⟨g, 0, rfl, fun i x hx j u hu => ?_⟩⟩
  have h1 := flatten_drop_take xs i x h.2 hx j u hu
  have hl := flatten_len xs h.2
  have hj : i * k + j < xs.flatten.length := (List.getElem?_eq_some_iff.1 h1).1
  rw [Nat.zero_add, cell_of_row w g _ _ _ _ hg, ← Array.getElem?_toList, ← List.getElem?_take_of_lt (show i * k + j < xs.length * k by omega), ht, h1]
end

section
variable {P : Program} {s e : TypeId} {k bytes : Nat} {z : Value}
/-- An element's place. -/
theorem El.index (E : El P s e k bytes z) (he : P.elem s = e) (W : World) (g o n c j : Nat) (hj : j < n) : (Instr.indexAt s (.slice (some ⟨g, o, none⟩) n c) (.int .i64 (j : Int))).run P W = .ok (.pointer (some ⟨g, o + j * k, none⟩)) W := by
 obtain ⟨i, hi, h1⟩ := Option.map_eq_some_iff.1 E.info
 simp only [Prod.mk.injEq] at h1
 have hs : (sizeOf e).run P W = .ok k W := by simp [sizeOf, typeInfo, hi, h1.2.1]
 rw [run_indexAt_slice (P := P) W s ⟨g, o, none⟩ n c .i64 j (by rw [he]; exact E.sl), if_pos ⟨by omega, by omega⟩, he, hs]
 simp only [Result.andThen_ok, Int.toNat_natCast]
 have ea : (⟨g, o, none⟩ : Addr).add (j * k) = ⟨g, o + j * k, none⟩ := by unfold Addr.add; split <;> simp_all
 rw [ea]
/-- '[]T{x}' -/
theorem El.run_build (E : El P s e k bytes z) (w : World) (q : List Value) (hq : q.length = k) : (Instr.buildSlice s 1 #[(0, .agg q.toArray)]).run P w = .ok (.slice (some ⟨w.heap.size, 0, none⟩) 1 1) (w.alloc (.cells q.toArray e)) := by
 obtain ⟨i, hi, h1⟩ := Option.map_eq_some_iff.1 E.info
 simp only [Prod.mk.injEq] at h1
 have hp := E.pos
 have hs := E.small
 refine run_buildSlice (P := P) w s e 1 _ q.toArray i z E.sl hi h1.1 (by omega) (by omega) ?_
 have h := Great.fill_whole (s := k) (by omega) [.agg q.toArray] ((Array.range (1 * i.size)).map fun x => z.cells[x % z.cells.size]!) (fun v hv => by
  obtain rfl : v = _ := by simpa using hv
  show q.toArray.size = k
  simpa using hq) (by simp [h1.2.1])
 rw [h1.2.1] at h ⊢
 have ef : ([Value.agg q.toArray].flatMap fun v => v.cells.toList) = q := by simp [Value.cells]
 rw [ef] at h
 exact h
theorem wpList_build_el {ops : Array Oper} {rest : List Oper} {o : Oper} {a : Act} {w : World} {Q : Exit → Act → World → Prop} (hgd : o.guard = none) (E : El P s e k bytes z) (x : Operand) (ho : o.op = .buildSlice s 1 #[(0, x)])
  (q : List Value) (hx : a.eval x = .agg q.toArray) (hq : q.length = k)
  (h : wpList P ops Q rest (a.put o.dst (.slice (some ⟨w.heap.size, 0, none⟩) 1 1)) (w.alloc (.cells q.toArray e))) : wpList P ops Q (o :: rest) a w := by
 exact wpList_plain hgd fun _ hK => by
  unfold Oper.wp execOp
  simp only [ho, Sem.run_bind, List.map_toArray, List.map_cons, List.map_nil, hx, E.run_build w q hq, Result.andThen_ok]
  exact hK _ _ h
/-- append of the one element that was just built -/
theorem wpList_append_el {ops : Array Oper} {rest : List Oper} {o : Oper} {a : Act} {w : World} {Q : Exit → Act → World → Prop} (hgd : o.guard = none) (E : El P s e k bytes z) (sl x : Operand)
  (ho : o.op = .call { callee := .builtin .append, args := #[sl, x], argTypes := #[s, s] })
  (B : Nat) (v : Value) (xs : List (List Value)) (hs : a.eval sl = v) (hown : Os w B e k v xs) (g : Nat) (q : List Value) (hx : a.eval x = .slice (some ⟨g, 0, none⟩) 1 1) (hg : Blk w g e q) (hq : q.length = k) (h1 : ∀ u ∈ q, u.oneCell' = true)
  (hn : xs.length ≤ 1000000) (hB : B ≤ w.heap.size)
  (h : ∀ v' w', Os w' B e k v' (xs ++ [q]) → w.grownBy w' v.ownBlock → wpList P ops Q rest (a.put o.dst v') w') : wpList P ops Q (o :: rest) a w := by
 obtain ⟨i, hi, h2⟩ := Option.map_eq_some_iff.1 E.info
 simp only [Prod.mk.injEq] at h2
 have hp := E.pos
 have hbs := E.bsm
 have hcell : ∀ j u, q[j]? = some u → w.cell? ((⟨g, 0, none⟩ : Addr).add j) = some u := fun j u hu => by
  have ea : (⟨g, 0, none⟩ : Addr).add j = ⟨g, j, none⟩ := by unfold Addr.add; split <;> simp_all
  rw [ea]
  exact hg.cellAt hu
 have hmul : (xs.length + 1) * bytes ≤ 1000001 * 100000 := Nat.mul_le_mul (by omega) hbs
 refine wpList_append_lies w hgd sl x s ho B e i z k bytes E.sl hi h2.1 h2.2.1 h2.2.2 E.zero hp v xs.length xs.flatten hs hown.1 ⟨g, 0, none⟩ 1 1 q hx (by rw [hq]; omega) hcell h1 (by omega) (by unfold maxLen; omega) (by omega) hB _ rfl fun g' cap w' h3 h4 _ _ => h _ w' ⟨?_, ?_⟩ h4
 ·have e1 : (xs ++ [q]).flatten = xs.flatten ++ q := by simp
  rw [e1, List.length_append]
  exact h3
 ·intro y hy
  rcases List.mem_append.1 hy with hy | hy
  ·exact hown.2 y hy
  ·rw [List.mem_singleton.1 hy]; exact hq
end

end Go.Proofs.Ytheecifgbkdecaa
