/-
  Joined: PtOp.
-/
import Derived.ProofKit
import Derived.OpenShut
import Derived.ChangeMaps5
import Derived.Deep.Slices
import Derived.Deep.Fields
import Derived.Test.YtpolofehkckaoaaUH14
import Derived.Test.YtpolofehkckaoaaUH0
namespace Go.Proofs.Ytpolofehkckaoaa
open Go.ChangeShapes Go.WideShapes Go.ChangeAt Go.RowKit Go.Deep

theorem Try.own : ownKnob Try.prog.godebug = none := by kernel_rfl
theorem Try.laidOut : laidOutB Try.prog = true := by kernel_rfl
theorem Try.cells_u8 : Try.prog.cellsOf 5 = 1 := by kernel_rfl

set_option maxRecDepth 100000 in
/-- An argument of type []byte, nil or not, reads as bytes. -/
theorem opened_by {H : Type} {enc : TypeId × Value → H} {W : World} {a0 : Option Addr} {len cap : Nat} {d0 : DataW H} {p : List MemPlace}
  (h0 : DataW.Trod enc Try.prog W 0 (fun _ => true) true 34 (.slice a0 len cap) d0 p) :
  ∃ xs : List UInt8, By W (fun _ => True) a0 len xs ∧ len ≤ cap ∧ cap ≤ maxLen := by
 obtain ⟨fuel, hf⟩ := h0
 rcases open_ints Try.underlying34 Try.underlying5 Try.cells_u8 hf with ⟨hcs, hx⟩ | ⟨a, len', cap', zs, hcs, _, hl, hm, hz, hx, hcell, hwz⟩
 ·simp [Value.cells] at hcs
  obtain ⟨rfl, rfl, rfl⟩ := hcs
  exact ⟨[], By.none_, Nat.le_refl _, Nat.zero_le _⟩
 ·simp [Value.cells] at hcs
  obtain ⟨rfl, rfl, rfl⟩ := hcs
  simp only [if_true] at hz
  refine ⟨(zs.take len).map fun x => UInt8.ofNat x.toNat, ⟨by simp; omega, fun hn => ?_⟩, by omega, by omega⟩
  obtain ⟨b, o, s⟩ := a
  obtain rfl : s = none := by simpa [Addr.add] using World.cell?_spot (hcell 0 (by omega))
  refine ⟨b, o, rfl, trivial, fun j u hu => ?_⟩
  have hj : j < len := by
   have := (List.getElem?_eq_some_iff.1 hu).1
   simp at this
   omega
  have hjz : j < zs.length := by omega
  have e := hcell j (by omega)
  rw [Go.WideShapes.add_plain] at e
  rw [e]
  have hw := hwz zs[j] (List.getElem_mem _)
  have hb : 0 ≤ zs[j] ∧ zs[j] ≤ 255 := by simpa [Lit.wf, IntKind.min, IntKind.max, IntKind.signed, IntKind.bits] using hw
  simp [hj, hjz] at hu
  subst hu
  simp [List.getD, hjz, u8]
  omega

set_option maxRecDepth 100000 in
/-- A slice of bytes, nil or not, in a cell. -/
theorem sl_by {H : Type} {enc : TypeId × Value → H} {W : World} {fuel : Nat} {c0 : Value} {x : DataW H × List MemPlace} (hf : DataW.trod enc Try.prog W 0 (fun _ => true) true fuel 34 [c0] = some x) :
  ∃ (A : Option Addr) (n c : Nat) (xs : List UInt8), c0 = .slice A n c ∧ By W (fun _ => True) A n xs ∧ n ≤ c ∧ c ≤ maxLen := by
 obtain ⟨d, p⟩ := x
 have hs : ∃ (A : Option Addr) (n c : Nat), c0 = .slice A n c := by
  rcases DataW.trod_slice Try.underlying34 hf with ⟨hcs, _⟩ | ⟨a, len, cap, elems, rest, m', _, hcs, _⟩
  ·exact ⟨none, 0, 0, by simpa using hcs⟩
  ·exact ⟨some a, len, cap, by simpa using hcs⟩
 obtain ⟨A, n, c, rfl⟩ := hs
 obtain ⟨xs, h1, h2, h3⟩ := opened_by (a0 := A) (len := n) (cap := c) (d0 := d) (p := p) ⟨fuel, by simpa [Value.cells] using hf⟩
 exact ⟨A, n, c, xs, rfl, h1, h2, h3⟩
/-- the byte in a cell -/
def cellByte18 : Value → UInt8
 | .int _ a => UInt8.ofNat a.toNat
 | _ => 0
set_option maxRecDepth 100000 in
theorem dig_of_trod {H : Type} {enc : TypeId × Value → H} {W : World} {base : Nat} {spare : Nat → Bool} {held : Bool} {fuel : Nat} {cs : List Value} {x : DataW H × List MemPlace}
  (hf : DataW.trod enc Try.prog W base spare held fuel 28 cs = some x) : ∃ tg : List UInt8, tg.length = 32 ∧ cs = vs tg := by
 obtain ⟨xs, m, rfl, _, hl, hn, hi⟩ := DataW.trod_array Try.underlying28 hf
 rw [Try.cells_u8] at hi
 have hcs : cs.length = 32 := by
  have e : Try.prog.cellsOf 28 = 32 := by kernel_rfl
  rw [e] at hl
  exact hl
 have hcell : ∀ i (h : i < cs.length), ∃ a, cs[i] = .int .u8 a ∧ 0 ≤ a ∧ a ≤ 255 := fun i h => by
  have h32 : i < 32 := by omega
  have hx := hi i h32
  have hx2 : i < xs.length := by omega
  rw [List.getElem?_eq_getElem hx2] at hx
  obtain ⟨a, ea, _, wa⟩ := DataW.trod_int Try.underlying5 hx
  have e2 : (cs.drop (i * 1)).take 1 = [cs[i]] := by
   rw [Nat.mul_one, List.drop_eq_getElem_cons h]
   rfl
  rw [e2] at ea
  exact ⟨a, by simpa using ea, by simpa [Lit.wf, IntKind.min, IntKind.max, IntKind.signed, IntKind.bits] using wa⟩
 refine ⟨cs.map cellByte18, by rw [List.length_map]; exact hcs, ?_⟩
 refine (List.ext_getElem (by simp [vs]) fun i h1 h2 => ?_).symm
 obtain ⟨a, ea, a0, a1⟩ := hcell i h2
 simp only [vs, List.getElem_map, ea, cellByte18, u8]
 congr 1
 rw [UInt8.toNat_ofNat']
 omega
theorem sl_of {W : World} {k len : Nat} {a : Addr} (z : Nat → List Value) (hpos : 0 < k) (hk : ∀ i, i < len → (z i).length = k) (h : ∀ i, i < len → W.cells? 0 (a.add (i * k)) k = some (z i)) : Sl W k (some a) len ((List.range len).map z) := by
 refine ⟨by simp, fun hn => ?_⟩
 have hcell : ∀ i, i < len → ∀ j v, (z i)[j]? = some v → W.cell? ((a.add (i * k)).add j) = some v := fun i hi j v hv => by
  obtain ⟨_, hlen', hc⟩ := World.cells?_some (h i hi)
  have hj : j < k := by
   have := (List.getElem?_eq_some_iff.1 hv).1
   rw [hk i hi] at this
   exact this
  rw [hc j hj]
  exact hv
 obtain ⟨b, o, s⟩ := a
 have hc0 := hcell 0 hn 0 _ (List.getElem?_eq_getElem (by rw [hk 0 hn]; exact hpos))
 obtain rfl : s = none := by simpa [Addr.add] using World.cell?_spot hc0
 refine ⟨b, o, rfl, fun i cs hi => ?_⟩
 have hil : i < len := by
  have := (List.getElem?_eq_some_iff.1 hi).1
  simpa using this
 have ek : z i = cs := by simpa [hil] using hi
 subst ek
 intro j v hv
 have h1 := hcell i hil j v hv
 rw [Go.WideShapes.add_plain, Go.WideShapes.add_plain] at h1
 exact h1

theorem sl_rows {H : Type} {enc : TypeId × Value → H} {W : World} {fuel : Nat} {T e : TypeId} {k : Nat} (ht : Try.prog.underlying T = some (.slice e)) (hk : Try.prog.cellsOf e = k) (hpos : 0 < k) {Q : List Value → Prop}
  (hone : ∀ (f : Nat) (cs : List Value) (x : DataW H × List MemPlace), DataW.trod enc Try.prog W 0 (fun _ => true) true f e cs = some x → Q cs ∧ cs.length = k) {c0 : Value} {x : DataW H × List MemPlace} (hf : DataW.trod enc Try.prog W 0 (fun _ => true) true fuel T [c0] = some x) :
  ∃ (A : Option Addr) (n c : Nat) (rows : List (List Value)), c0 = .slice A n c ∧ Sl W k A n rows ∧ (∀ r ∈ rows, Q r) ∧ n ≤ c ∧ c ≤ maxLen := by
 rcases DataW.trod_slice ht hf with ⟨hcs, _⟩ | ⟨a, len, cap, elems, rest, m', rfl, hcs, _, _, hle, hmx, hel, hin, _, _⟩
 ·have e2 : c0 = .slice none 0 0 := by simpa using hcs
  subst e2
  exact ⟨none, 0, 0, [], rfl, Sl.none_, (fun _ h => nomatch h), Nat.le_refl _, Nat.zero_le _⟩
 ·have e2 : c0 = .slice (some a) len cap := by simpa using hcs
  subst e2
  rw [hk] at hin
  have all : ∀ i, ∃ z : List Value, i < len → W.cells? 0 (a.add (i * k)) k = some z ∧ Q z ∧ z.length = k := fun i => by
   by_cases hil : i < len
   ·have h1 := hin i hil
    rw [List.getElem?_eq_getElem (by omega)] at h1
    obtain ⟨cs', h2, h3⟩ := Option.bind_eq_some_iff.1 h1
    obtain ⟨h4, h5⟩ := hone _ _ _ h3
    exact ⟨cs', fun _ => ⟨h2, h4, h5⟩⟩
   ·exact ⟨[], fun h => absurd h hil⟩
  obtain ⟨z, hz⟩ := Classical.axiomOfChoice all
  exact ⟨some a, len, cap, (List.range len).map z, rfl, sl_of z hpos (fun i hi => (hz i hi).2.2) (fun i hi => (hz i hi).1), fun r hr => by
   obtain ⟨i, hi, rfl⟩ := List.mem_map.1 hr
   exact (hz i (by simpa using hi)).2.1, by omega, by omega⟩


theorem rows_as {α : Type} {f : α → List Value} {Q : α → Prop} : ∀ {rows : List (List Value)}, (∀ r ∈ rows, ∃ x : α, r = f x ∧ Q x) → ∃ l : List α, rows = l.map f ∧ ∀ x ∈ l, Q x
 | [], _ => ⟨[], rfl, fun _ h => nomatch h⟩
 | r :: rows, h => by
  obtain ⟨x, e, h1⟩ := h r (List.mem_cons_self ..)
  obtain ⟨l, e2, h2⟩ := rows_as (fun q hq => h q (List.mem_cons_of_mem _ hq))
  exact ⟨x :: l, by rw [e, e2]; rfl, fun y hy => by
   rcases List.mem_cons.1 hy with rfl | hy
   ·exact h1
   ·exact h2 y hy⟩
set_option maxRecDepth 100000 in
/-- A point: its cells. -/
theorem po_of_trod {H : Type} {enc : TypeId × Value → H} {W : World} {base : Nat} {spare : Nat → Bool} {held : Bool} {fuel : Nat} {cs : List Value} {x : DataW H × List MemPlace} (hf : DataW.trod enc Try.prog W base spare held fuel tPo cs = some x) :
  ∃ v : Po, cs = Po.cells v ∧ v.dg.length = 32 := by
 obtain ⟨xs, m, rfl, _, hl, hlen, hg⟩ := DataW.trod_struct Try.underlying31 hf
 have e8 : Try.prog.cellsOf tPo = 33 := by kernel_rfl
 have hcl : cs.length = 33 := by rw [e8] at hl; exact hl
 obtain ⟨c0, rest, rfl⟩ : ∃ c0 rest, cs = c0 :: rest := by
  match cs, hcl with
  | c0 :: rest, _ => exact ⟨c0, rest, rfl⟩
 have hr : rest.length = 32 := by simpa using hcl
 have hx : ∀ i, i < 2 → ∃ y, xs[i]? = some y := fun i hi => ⟨_, List.getElem?_eq_getElem (by have := hlen; simp at this; omega)⟩
 have g0 := hg 0 _ rfl
 obtain ⟨z0, hz0⟩ := hx 0 (by omega)
 rw [hz0] at g0
 have g1 := hg 1 _ rfl
 obtain ⟨z1, hz1⟩ := hx 1 (by omega)
 rw [hz1] at g1
 have k1 : Try.prog.cellsOf 2 = 1 := by kernel_rfl
 have k2 : Try.prog.cellsOf 28 = 32 := by kernel_rfl
 simp only [List.getElem_toArray, List.getElem_cons_zero, List.getElem_cons_succ] at g0 g1
 rw [k1] at g0
 rw [k2] at g1
 obtain ⟨v0, hv0, _, hw0⟩ := DataW.trod_int Try.underlying2 g0
 have d0 : c0 = .int .i64 v0 := by simpa using hv0
 obtain ⟨tg, h4, h5⟩ := dig_of_trod g1
 have e2 : rest = vs tg := by
  rw [← h5, List.drop_succ_cons, List.drop_zero, List.take_of_length_le (by omega)]
 subst d0 e2
 exact ⟨⟨v0, tg⟩, rfl, h4⟩
set_option maxRecDepth 100000 in
/-- An argument of type Point. -/
theorem opened_po {H : Type} {enc : TypeId × Value → H} {W : World} {b : Nat} {v : Value} {d : DataW H} {p : List MemPlace} (hv : Value.okWide Try.prog W .any b tPo v)
  (h0 : DataW.Trod enc Try.prog W 0 (fun _ => true) true tPo v d p) : ∃ x : Po, v = .agg (Po.cells x).toArray ∧ x.dg.length = 32 := by
 simp only [Value.okWide, Try.underlying31] at hv
 obtain ⟨cs, rfl, hsz, _⟩ := hv
 obtain ⟨fuel, hf⟩ := h0
 obtain ⟨cs⟩ := cs
 have e0 : (Value.agg ⟨cs⟩).cells.toList = cs := by simp [Value.cells]
 rw [e0] at hf
 obtain ⟨x, e, h⟩ := po_of_trod hf
 exact ⟨x, by rw [e], h⟩
/-- what a replica's checkpoints are told: a kind, who, a point, a row of bytes -/
structure Pa where
 k : Int
 who : Int
 x : Po
 bs : List UInt8
 A : Option Addr
 n : Nat
 c : Nat
def Pa.cells (a : Pa) : List Value := .int .u8 a.k :: .int .i64 a.who :: (Po.cells a.x ++ [.slice a.A a.n a.c])
structure PaOk (W : World) (a : Pa) : Prop where
 dg : a.x.dg.length = 32
 by_ : By W (fun _ => True) a.A a.n a.bs
 k0 : 0 ≤ a.k
 k1 : a.k ≤ 255
 nc : a.n ≤ a.c
 cm : a.c ≤ maxLen
def PasIn (W : World) (A : Option Addr) (k : Nat) (l : List Pa) : Prop := Sl W 36 A k (l.map Pa.cells) ∧ ∀ a ∈ l, PaOk W a
set_option maxRecDepth 100000 in
/-- An act: its cells. -/
theorem pa_of_trod {H : Type} {enc : TypeId × Value → H} {W : World} {fuel : Nat} {cs : List Value} {x : DataW H × List MemPlace} (hf : DataW.trod enc Try.prog W 0 (fun _ => true) true fuel 45 cs = some x) :
  (∃ a : Pa, cs = a.cells ∧ PaOk W a) ∧ cs.length = 36 := by
 obtain ⟨xs, m, rfl, _, hl, hlen, hg⟩ := DataW.trod_struct Try.underlying45 hf
 have e8 : Try.prog.cellsOf 45 = 36 := by kernel_rfl
 have hcl : cs.length = 36 := by rw [e8] at hl; exact hl
 obtain ⟨c0, c1, rest, rfl⟩ : ∃ c0 c1 rest, cs = c0 :: c1 :: rest := by
  match cs, hcl with
  | c0 :: c1 :: rest, _ => exact ⟨c0, c1, rest, rfl⟩
 have hr : rest.length = 34 := by simpa using hcl
 have hx : ∀ i, i < 4 → ∃ y, xs[i]? = some y := fun i hi => ⟨_, List.getElem?_eq_getElem (by have := hlen; simp at this; omega)⟩
 have g0 := hg 0 _ rfl
 obtain ⟨z0, hz0⟩ := hx 0 (by omega)
 rw [hz0] at g0
 have g1 := hg 1 _ rfl
 obtain ⟨z1, hz1⟩ := hx 1 (by omega)
 rw [hz1] at g1
 have g2 := hg 2 _ rfl
 obtain ⟨z2, hz2⟩ := hx 2 (by omega)
 rw [hz2] at g2
 have g3 := hg 3 _ rfl
 obtain ⟨z3, hz3⟩ := hx 3 (by omega)
 rw [hz3] at g3
 have k0 : Try.prog.cellsOf 5 = 1 := by kernel_rfl
 have k1 : Try.prog.cellsOf 3 = 1 := by kernel_rfl
 have k2 : Try.prog.cellsOf tPo = 33 := by kernel_rfl
 have k3 : Try.prog.cellsOf 34 = 1 := by kernel_rfl
 simp only [List.getElem_toArray, List.getElem_cons_zero, List.getElem_cons_succ] at g0 g1 g2 g3
 rw [k0] at g0
 rw [k1] at g1
 rw [k2] at g2
 rw [k3] at g3
 obtain ⟨v0, hv0, _, hw0⟩ := DataW.trod_int Try.underlying5 g0
 obtain ⟨v1, hv1, _, hw1⟩ := DataW.trod_int Try.underlying3 g1
 have d0 : c0 = .int .u8 v0 := by simpa using hv0
 have d1 : c1 = .int .i64 v1 := by simpa using hv1
 obtain ⟨tg, h5, h4⟩ := po_of_trod g2
 have hl33 : rest.drop 33 = [rest[33]'(by omega)] := by
  rw [List.drop_eq_getElem_cons (by omega), List.drop_of_length_le (by omega)]
 have e3 : ((c0 :: c1 :: rest).drop 35).take 1 = [rest[33]'(by omega)] := by
  rw [List.drop_succ_cons, List.drop_succ_cons, hl33]
  rfl
 rw [e3] at g3
 obtain ⟨A, n, c, es, h6, h7, h8, h9⟩ := sl_by g3
 have e2 : rest.take 33 = Po.cells tg := by
  rw [← h5, List.drop_succ_cons, List.drop_succ_cons, List.drop_zero]
 have e4 : rest = Po.cells tg ++ [.slice A n c] := by
  rw [← e2, ← h6, ← hl33, List.take_append_drop]
 subst d0 d1
 have hb : 0 ≤ v0 ∧ v0 ≤ 255 := by simpa [Lit.wf, IntKind.min, IntKind.max, IntKind.signed, IntKind.bits] using hw0
 exact ⟨⟨⟨v0, v1, tg, es, A, n, c⟩, by rw [e4]; rfl, h4, h7, hb.1, hb.2, h8, h9⟩, hcl⟩
set_option maxRecDepth 100000 in
/-- An argument of type []Act (of points). -/
theorem opened_pas {H : Type} {enc : TypeId × Value → H} {W : World} {a0 : Option Addr} {len cap : Nat} {d0 : DataW H} {p : List MemPlace}
  (h0 : DataW.Trod enc Try.prog W 0 (fun _ => true) true 22 (.slice a0 len cap) d0 p) : ∃ l : List Pa, PasIn W a0 len l := by
 obtain ⟨fuel, hf⟩ := h0
 obtain ⟨A, n, c, rows, e, h1, h2, _, _⟩ := sl_rows (c0 := .slice a0 len cap) Try.underlying22 (show Try.prog.cellsOf 45 = 36 by kernel_rfl) (by omega) (fun _ _ _ h => pa_of_trod h) (by simpa [Value.cells] using hf)
 injection e with e1 e2 e3
 subst e1 e2 e3
 obtain ⟨l, e4, h3⟩ := rows_as h2
 exact ⟨l, e4 ▸ h1, h3⟩
set_option maxRecDepth 100000 in
theorem opened_u8i {H : Type} {enc : TypeId × Value → H} {W : World} {b : Nat} {v : Value} {d : DataW H} {p : List MemPlace}
  (hv : Value.okWide Try.prog W .any b 5 v) (h0 : DataW.Trod enc Try.prog W 0 (fun _ => true) true 5 v d p) : ∃ y : Int, v = .int .u8 y ∧ 0 ≤ y ∧ y ≤ 255 := by
 obtain ⟨x, rfl, rfl, rfl, wx⟩ := open_int Try.underlying5 hv h0
 exact ⟨x, rfl, by simpa [Lit.wf, IntKind.min, IntKind.max, IntKind.signed, IntKind.bits] using wx⟩

end Go.Proofs.Ytpolofehkckaoaa
