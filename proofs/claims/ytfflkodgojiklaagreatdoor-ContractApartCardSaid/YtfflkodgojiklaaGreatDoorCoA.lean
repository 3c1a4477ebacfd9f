/-
  What an entry does, by plain functions; a store into the middle of a block; money's Add.
-/
import Derived.Test.YtfflkodgojiklaaGreatDoorKG7
import Derived.Test.YtfflkodgojiklaaGreatDoorKT2
import Derived.Test.YtfflkodgojiklaaGreatDoorKQ
namespace Go.Proofs.YtfflkodgojiklaaGreatDoor
open Go.RowKit

/-- An entry: its core, and who stands behind it. -/
structure Ey where
  co : Cr
  ms : Nat
def staleL (l : Lg) (c : Cr) : Bool := match lastL c.cl l.os with | none => false | some o => decide (c.sp ≤ o.sp)
/-- the letter that a core names, as it stands -/
def oldL (l : Lg) (c : Cr) : Lt := (findR (findL c.lt l.ls)).1
def textL (l : Lg) (c : Cr) : List UInt8 := if c.op = 1 then c.tx else (oldL l c).po
def readL (l : Lg) (c : Cr) (n : Int) : Fm × Int := parseP (textL l c) n
/-- the letter behind the step -/
def nextD (x : Lt) (c : Cr) : Lt := ⟨c.lt, (stepL x c.op c.a c.b c.tx).1.st, (stepL x c.op c.a c.b c.tx).1.am, (stepL x c.op c.a c.b c.tx).1.du, (stepL x c.op c.a c.b c.tx).1.po, (stepL x c.op c.a c.b c.tx).1.pa⟩
def addM (a b : Int) : Int × Int := if isM a && isM b then outM (a + b) else (0, 5)
/-- what payment makes of the total, and its error -/
def payL (op tt am : Int) : Int × Int := if op = 7 then (if (addM tt am).2 = 0 then ((addM tt am).1, 0) else (tt, 6)) else (tt, 0)
/-- what an entry comes to, that isn't stale and may be -/
def resD (l : Lg) (y : Ey) (n : Int) : Lg × Int :=
  if (findR (findL y.co.lt l.ls)).2 = false ∧ y.co.op ≠ 1 then (l, 7)
  else if (readL l y.co n).2 ≠ 0 then (l, 2)
  else if (readL l y.co n).1.hold y.ms = false then (l, 9)
  else if (stepL (oldL l y.co) y.co.op y.co.a y.co.b y.co.tx).2 ≠ 0 then (l, (stepL (oldL l y.co) y.co.op y.co.a y.co.b y.co.tx).2)
  else if (withL l (nextD (oldL l y.co) y.co)).2 ≠ 0 then (l, (withL l (nextD (oldL l y.co) y.co)).2)
  else if (payL y.co.op (withL l (nextD (oldL l y.co) y.co)).1.tt (nextD (oldL l y.co) y.co).am).2 ≠ 0 then (l, (payL y.co.op (withL l (nextD (oldL l y.co) y.co)).1.tt (nextD (oldL l y.co) y.co).am).2)
  else (⟨(withL l (nextD (oldL l y.co) y.co)).1.sq, (payL y.co.op (withL l (nextD (oldL l y.co) y.co)).1.tt (nextD (oldL l y.co) y.co).am).1, (withL l (nextD (oldL l y.co) y.co)).1.ls, (withL l (nextD (oldL l y.co) y.co)).1.os⟩, 0)
/-- what an entry does -/
def doL (l : Lg) (y : Ey) (n : Int) : Lg × Int :=
  if staleL l y.co = true then (l, 10) else if chkC y.co n ≠ 0 then (l, chkC y.co n)
  else (toldL (resD l y n).1 ⟨y.co.cl, y.co.sp, (resD l y n).2⟩, (resD l y n).2)
def foldD (n : Int) : Lg → List Ey → Lg × List Int
  | l, [] => (l, [])
  | l, y :: ys => ((foldD n (doL l y n).1 ys).1, (doL l y n).2 :: (foldD n (doL l y n).1 ys).2)

theorem Blk.setCells_ {g : Nat} {t : TypeId} : ∀ (vs : List Value) (w : World) (pre old post : List Value), old.length = vs.length → Blk w g t (pre ++ (old ++ post)) → Blk (w.setCells g pre.length vs) g t (pre ++ (vs ++ post))
  | [], w, pre, old, post, hl, h => by
    have : old = [] := List.eq_nil_of_length_eq_zero (by simpa using hl)
    subst this
    exact h
  | v :: r, w, pre, old, post, hl, h => by
    cases old with
    | nil => simp at hl
    | cons o os =>
      have h1 := h.set_ pre.length v
      have e : (pre ++ ((o :: os) ++ post)).set pre.length v = (pre ++ [v]) ++ (os ++ post) := by simp
      rw [e] at h1
      have h2 := Blk.setCells_ r _ (pre ++ [v]) os post (by simpa using hl) h1
      simp only [List.length_append, List.length_cons, List.length_nil, Nat.zero_add] at h2
      rw [World.setCells]
      simpa using h2
theorem only_setCells (g : Nat) : ∀ (vs : List Value) (o : Nat) (w : World), w.grownBy (w.setCells g o vs) (some g)
  | [], _, w => only_refl w g
  | v :: r, o, w => by
    rw [World.setCells]
    exact only_trans (only_set w g o v) (only_setCells g r (o + 1) _)
/-- A store of several cells into the middle of a block that is known whole. -/
theorem wpList_store_in {P : Program} {ops : Array Oper} {rest : List Oper} {o : Oper} {a : Act} {w : World} {Q : Exit → Act → World → Prop} (hgd : o.guard = none) (ty : TypeId) (x y : Operand) (ho : o.op = .store ty x y)
    (g i : Nat) (cells : List Value) (hx : a.eval x = .pointer (some ⟨g, i, none⟩)) (hy : a.eval y = .agg cells.toArray) (t : TypeId) (pre old post : List Value) (hg : Blk w g t (pre ++ (old ++ post))) (hp : i = pre.length) (hi : (P.info? ty).map (·.size) = some cells.length)
    (hold : old.length = cells.length) (h1 : cells.toArray.all (·.oneCell') = true)
    (h : ∀ w', Blk w' g t (pre ++ (cells ++ post)) → w.grownBy w' (some g) → wpList P ops Q rest (a.put o.dst undef) w') : wpList P ops Q (o :: rest) a w := by
  subst hp
  exact wpList_store_mid hgd ty x y ho g pre.length cells.toArray hx hy (hg.there _ _ (by simp; omega)) (by simpa using hi) h1 (h _ (by simpa using Blk.setCells_ cells w pre old post hold hg) (by simpa using only_setCells g cells pre.length w))
theorem Blk.mid {w : World} {g : Nat} {t : TypeId} {all : List Value} (h : Blk w g t all) (pre cs post : List Value) (i : Nat) (e : all = pre ++ (cs ++ post)) (hi : i = pre.length) : w.rangeAt g i cs := by
  subst e hi
  exact h.range
theorem Tryz.alloc_lt' (w : World) : (Instr.alloc 39 true (.tuple #[])).run Tryz.prog w = .ok (.pointer (some ⟨w.heap.size, 0, none⟩)) (w.alloc (.cells ([.string (ba []), .int .i64 0, .int .i64 0, .int .i64 0, .string (ba []), .string (ba [])] : List Value).toArray 39)) := by kernel_rfl
theorem Tryz.alloc_lg' (w : World) : (Instr.alloc 25 true (.tuple #[])).run Tryz.prog w = .ok (.pointer (some ⟨w.heap.size, 0, none⟩)) (w.alloc (.cells ([.int .i64 0, .int .i64 0, .slice none 0 0, .slice none 0 0] : List Value).toArray 25)) := by kernel_rfl
theorem Tryz.agg_str (w : World) : (isAgg 9).run Tryz.prog w = .ok false w := by kernel_rfl
theorem Tryz.agg_int (w : World) : (isAgg 3).run Tryz.prog w = .ok false w := by kernel_rfl
theorem Tryz.agg_i64 (w : World) : (isAgg 2).run Tryz.prog w = .ok false w := by kernel_rfl
theorem Tryz.agg_u32 (w : World) : (isAgg 28).run Tryz.prog w = .ok false w := by kernel_rfl
theorem one4l (i j : Int) (A : Option Addr) (n c : Nat) (B : Option Addr) (m d : Nat) : ([.int .i64 i, .int .i64 j, .slice A n c, .slice B m d] : List Value).toArray.all (·.oneCell') = true := by kernel_rfl
theorem one3f (i j : Int) (A : Option Addr) (n c : Nat) : ([.int .i64 i, .int .i64 j, .slice A n c] : List Value).toArray.all (·.oneCell') = true := by kernel_rfl


set_option maxHeartbeats 1000000 in
theorem add_any (a b : Int) (w : World) : Calls Tryz.prog 42 #[.int .i64 a, .int .i64 b] w fun e w' => e = .returned (two (addM a b)) ∧ w' = w := by
  have h1 := is_any a w
  have h2 := is_any b w
  have h3 := amount_any (a + b) w
  unfold addM
  cases ha : isM a <;> rw [ha] at h1 <;> cases hb : isM b <;> rw [hb] at h2
  all_goals
    try (have ho : 0 ≤ a ∧ a ≤ 1099511627776 ∧ 0 ≤ b ∧ b ≤ 1099511627776 := by simp [isM] at ha hb; omega)
    go_enter Tryz.func42, Tryz.ntmps42
    go_wp2_with (first
      | (go_at_call 65; (with_reducible refine h1.mono ?_); rintro e w1 ⟨rfl, rfl⟩)
      | (go_at_call 65; (with_reducible refine h2.mono ?_); rintro e w1 ⟨rfl, rfl⟩)
      | (go_at_call 66; (with_reducible refine h3.mono ?_); rintro e w1 ⟨rfl, rfl⟩; simp only [two]))
    go_ret2
    exact ⟨rfl, rfl⟩

end Go.Proofs.YtfflkodgojiklaaGreatDoor
