/-
  Joined: PtOp.
-/
import Derived.ProofKit
import Derived.OpenShut
import Derived.ChangeMaps5
import Derived.Deep.Slices
import Derived.Deep.Fields
import Derived.Test.YtpolofehkckaoaaUT15
import Derived.Test.YtpolofehkckaoaaUT0
namespace Go.Proofs.Ytpolofehkckaoaa
open Go.ChangeShapes Go.WideShapes Go.ChangeAt Go.RowKit Go.Deep

theorem Try.own : ownKnob Try.prog.godebug = none := by kernel_rfl
theorem Try.laidOut : laidOutB Try.prog = true := by kernel_rfl
theorem sl_of {W : World} {k len : Nat} {a : Addr} (z : Nat → List Value) (hpos : 0 < k) (hk : ∀ i, i < len → (z i).length = k) (h : ∀ i, i < len → W.cells? 0 (a.add (i * k)) k = some (z i)) : Sl W k (some a) len ((List.range len).map z) := by
 refine ⟨by simp, fun hn => ?_⟩
 have hcell : ∀ i, i < len → ∀ j v, (z i)[j]? = some v → W.cell? ((a.add (i * k)).add j) = some v := fun i hi j v hv => by
  obtain ⟨_, hlen', hc⟩ := World.cells?_some (h i hi)
  have hj : j < k := by
   have := (List.getElem?_eq_some_iff.1 hv).1
   rw [hk i hi] at this
   exact this
  rw [hc j hj]
  exact hv
 obtain ⟨b, o, s⟩ := a
 have hc0 := hcell 0 hn 0 _ (List.getElem?_eq_getElem (by rw [hk 0 hn]; exact hpos))
 obtain rfl : s = none := by simpa [Addr.add] using World.cell?_spot hc0
 refine ⟨b, o, rfl, fun i cs hi => ?_⟩
 have hil : i < len := by
  have := (List.getElem?_eq_some_iff.1 hi).1
  simpa using this
 have ek : z i = cs := by simpa [hil] using hi
 subst ek
 intro j v hv
 have h1 := hcell i hil j v hv
 rw [Go.WideShapes.add_plain, Go.WideShapes.add_plain] at h1
 exact h1

theorem sl_rows {H : Type} {enc : TypeId × Value → H} {W : World} {fuel : Nat} {T e : TypeId} {k : Nat} (ht : Try.prog.underlying T = some (.slice e)) (hk : Try.prog.cellsOf e = k) (hpos : 0 < k) {Q : List Value → Prop}
  (hone : ∀ (f : Nat) (cs : List Value) (x : DataW H × List MemPlace), DataW.trod enc Try.prog W 0 (fun _ => true) true f e cs = some x → Q cs ∧ cs.length = k) {c0 : Value} {x : DataW H × List MemPlace} (hf : DataW.trod enc Try.prog W 0 (fun _ => true) true fuel T [c0] = some x) :
  ∃ (A : Option Addr) (n c : Nat) (rows : List (List Value)), c0 = .slice A n c ∧ Sl W k A n rows ∧ (∀ r ∈ rows, Q r) ∧ n ≤ c ∧ c ≤ maxLen := by
 rcases DataW.trod_slice ht hf with ⟨hcs, _⟩ | ⟨a, len, cap, elems, rest, m', rfl, hcs, _, _, hle, hmx, hel, hin, _, _⟩
 ·have e2 : c0 = .slice none 0 0 := by simpa using hcs
  subst e2
  exact ⟨none, 0, 0, [], rfl, Sl.none_, (fun _ h => nomatch h), Nat.le_refl _, Nat.zero_le _⟩
 ·have e2 : c0 = .slice (some a) len cap := by simpa using hcs
  subst e2
  rw [hk] at hin
  have all : ∀ i, ∃ z : List Value, i < len → W.cells? 0 (a.add (i * k)) k = some z ∧ Q z ∧ z.length = k := fun i => by
   by_cases hil : i < len
   ·have h1 := hin i hil
    rw [List.getElem?_eq_getElem (by omega)] at h1
    obtain ⟨cs', h2, h3⟩ := Option.bind_eq_some_iff.1 h1
    obtain ⟨h4, h5⟩ := hone _ _ _ h3
    exact ⟨cs', fun _ => ⟨h2, h4, h5⟩⟩
   ·exact ⟨[], fun h => absurd h hil⟩
  obtain ⟨z, hz⟩ := Classical.axiomOfChoice all
  exact ⟨some a, len, cap, (List.range len).map z, rfl, sl_of z hpos (fun i hi => (hz i hi).2.2) (fun i hi => (hz i hi).1), fun r hr => by
   obtain ⟨i, hi, rfl⟩ := List.mem_map.1 hr
   exact (hz i (by simpa using hi)).2.1, by omega, by omega⟩


theorem rows_as {α : Type} {f : α → List Value} {Q : α → Prop} : ∀ {rows : List (List Value)}, (∀ r ∈ rows, ∃ x : α, r = f x ∧ Q x) → ∃ l : List α, rows = l.map f ∧ ∀ x ∈ l, Q x
 | [], _ => ⟨[], rfl, fun _ h => nomatch h⟩
 | r :: rows, h => by
  obtain ⟨x, e, h1⟩ := h r (List.mem_cons_self ..)
  obtain ⟨l, e2, h2⟩ := rows_as (fun q hq => h q (List.mem_cons_of_mem _ hq))
  exact ⟨x :: l, by rw [e, e2]; rfl, fun y hy => by
   rcases List.mem_cons.1 hy with rfl | hy
   ·exact h1
   ·exact h2 y hy⟩
/-- what a replica's checkpoints are told: a kind, who, a point, a row of bytes -/
structure Pa where
 k : Int
 who : Int
 x : Po
 bs : List UInt8
 A : Option Addr
 n : Nat
 c : Nat
def Pa.cells (a : Pa) : List Value := .int .u8 a.k :: .int .i64 a.who :: (Po.cells a.x ++ [.slice a.A a.n a.c])
structure PaOk (W : World) (a : Pa) : Prop where
 dg : a.x.dg.length = 32
 by_ : By W (fun _ => True) a.A a.n a.bs
 k0 : 0 ≤ a.k
 k1 : a.k ≤ 255
 nc : a.n ≤ a.c
 cm : a.c ≤ maxLen
set_option maxRecDepth 100000 in
/-- An argument of type []int64. -/
theorem opened_qs {H : Type} {enc : TypeId × Value → H} {W : World} {a0 : Option Addr} {len cap : Nat} {d0 : DataW H} {p : List MemPlace}
  (h0 : DataW.Trod enc Try.prog W 0 (fun _ => true) true 53 (.slice a0 len cap) d0 p) : ∃ l : List Int, Sl W 1 a0 len (l.map fun q => [.int .i64 q]) ∧ ∀ q ∈ l, -9223372036854775808 ≤ q ∧ q ≤ 9223372036854775807 := by
 obtain ⟨fuel, hf⟩ := h0
 obtain ⟨A, n, c, rows, e, h1, h2, _, _⟩ := sl_rows (c0 := .slice a0 len cap) (Q := fun cs => ∃ q : Int, cs = [.int .i64 q] ∧ (-9223372036854775808 ≤ q ∧ q ≤ 9223372036854775807)) Try.underlying53 (show Try.prog.cellsOf 2 = 1 by kernel_rfl) (by omega) (fun _ cs _ h => by
  obtain ⟨v0, hv0, _, hw0⟩ := DataW.trod_int Try.underlying2 h
  exact ⟨⟨v0, hv0, by simpa [Lit.wf, IntKind.min, IntKind.max, IntKind.signed, IntKind.bits] using hw0⟩, by rw [hv0]; rfl⟩) (by simpa [Value.cells] using hf)
 injection e with e1 e2 e3
 subst e1 e2 e3
 obtain ⟨l, e4, h3⟩ := rows_as h2
 exact ⟨l, e4 ▸ h1, h3⟩
end Go.Proofs.Ytpolofehkckaoaa
