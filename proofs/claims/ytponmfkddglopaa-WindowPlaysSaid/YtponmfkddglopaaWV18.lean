/-
  Joined: TpO.
-/
import Derived.Test.YtponmfkddglopaaWV10
import Derived.Test.YtponmfkddglopaaWV11
import Derived.Test.YtponmfkddglopaaWV17
namespace Go.Proofs.Ytponmfkddglopaa
open Go.ChangeShapes Go.WideShapes Go.ChangeAt Go.RowKit Go.Deep

/-- the byte in a cell -/
def cellByte18 : Value → UInt8
 | .int _ a => UInt8.ofNat a.toNat
 | _ => 0
set_option maxRecDepth 100000 in
theorem dig_of_trod {H : Type} {enc : TypeId × Value → H} {W : World} {base : Nat} {spare : Nat → Bool} {held : Bool} {fuel : Nat} {cs : List Value} {x : DataW H × List MemPlace}
  (hf : DataW.trod enc Try.prog W base spare held fuel 40 cs = some x) : ∃ tg : List UInt8, tg.length = 32 ∧ cs = vs tg := by
 obtain ⟨xs, m, rfl, _, hl, hn, hi⟩ := DataW.trod_array Try.underlying40 hf
 rw [Try.cells_u8] at hi
 have hcs : cs.length = 32 := by
  have e : Try.prog.cellsOf 40 = 32 := by kernel_rfl
  rw [e] at hl
  exact hl
 have hcell : ∀ i (h : i < cs.length), ∃ a, cs[i] = .int .u8 a ∧ 0 ≤ a ∧ a ≤ 255 := fun i h => by
  have h32 : i < 32 := by omega
  have hx := hi i h32
  have hx2 : i < xs.length := by omega
  rw [List.getElem?_eq_getElem hx2] at hx
  obtain ⟨a, ea, _, wa⟩ := DataW.trod_int Try.underlying5 hx
  have e2 : (cs.drop (i * 1)).take 1 = [cs[i]] := by
   rw [Nat.mul_one, List.drop_eq_getElem_cons h]
   rfl
  rw [e2] at ea
  exact ⟨a, by simpa using ea, by simpa [Lit.wf, IntKind.min, IntKind.max, IntKind.signed, IntKind.bits] using wa⟩
 refine ⟨cs.map cellByte18, by rw [List.length_map]; exact hcs, ?_⟩
 refine (List.ext_getElem (by simp [vs]) fun i h1 h2 => ?_).symm
 obtain ⟨a, ea, a0, a1⟩ := hcell i h2
 simp only [vs, List.getElem_map, ea, cellByte18, u8]
 congr 1
 rw [UInt8.toNat_ofNat']
 omega
theorem sl_of {W : World} {k len : Nat} {a : Addr} (z : Nat → List Value) (hpos : 0 < k) (hk : ∀ i, i < len → (z i).length = k) (h : ∀ i, i < len → W.cells? 0 (a.add (i * k)) k = some (z i)) : Sl W k (some a) len ((List.range len).map z) := by
 refine ⟨by simp, fun hn => ?_⟩
 have hcell : ∀ i, i < len → ∀ j v, (z i)[j]? = some v → W.cell? ((a.add (i * k)).add j) = some v := fun i hi j v hv => by
  obtain ⟨_, hlen', hc⟩ := World.cells?_some (h i hi)
  have hj : j < k := by
   have := (List.getElem?_eq_some_iff.1 hv).1
   rw [hk i hi] at this
   exact this
  rw [hc j hj]
  exact hv
 obtain ⟨b, o, s⟩ := a
 have hc0 := hcell 0 hn 0 _ (List.getElem?_eq_getElem (by rw [hk 0 hn]; exact hpos))
 obtain rfl : s = none := by simpa [Addr.add] using World.cell?_spot hc0
 refine ⟨b, o, rfl, fun i cs hi => ?_⟩
 have hil : i < len := by
  have := (List.getElem?_eq_some_iff.1 hi).1
  simpa using this
 have ek : z i = cs := by simpa [hil] using hi
 subst ek
 intro j v hv
 have h1 := hcell i hil j v hv
 rw [Go.WideShapes.add_plain, Go.WideShapes.add_plain] at h1
 exact h1

theorem sl_rows {H : Type} {enc : TypeId × Value → H} {W : World} {fuel : Nat} {T e : TypeId} {k : Nat} (ht : Try.prog.underlying T = some (.slice e)) (hk : Try.prog.cellsOf e = k) (hpos : 0 < k) {Q : List Value → Prop}
  (hone : ∀ (f : Nat) (cs : List Value) (x : DataW H × List MemPlace), DataW.trod enc Try.prog W 0 (fun _ => true) true f e cs = some x → Q cs ∧ cs.length = k) {c0 : Value} {x : DataW H × List MemPlace} (hf : DataW.trod enc Try.prog W 0 (fun _ => true) true fuel T [c0] = some x) :
  ∃ (A : Option Addr) (n c : Nat) (rows : List (List Value)), c0 = .slice A n c ∧ Sl W k A n rows ∧ (∀ r ∈ rows, Q r) ∧ n ≤ c ∧ c ≤ maxLen := by
 rcases DataW.trod_slice ht hf with ⟨hcs, _⟩ | ⟨a, len, cap, elems, rest, m', rfl, hcs, _, _, hle, hmx, hel, hin, _, _⟩
 ·have e2 : c0 = .slice none 0 0 := by simpa using hcs
  subst e2
  exact ⟨none, 0, 0, [], rfl, Sl.none_, (fun _ h => nomatch h), Nat.le_refl _, Nat.zero_le _⟩
 ·have e2 : c0 = .slice (some a) len cap := by simpa using hcs
  subst e2
  rw [hk] at hin
  have all : ∀ i, ∃ z : List Value, i < len → W.cells? 0 (a.add (i * k)) k = some z ∧ Q z ∧ z.length = k := fun i => by
   by_cases hil : i < len
   ·have h1 := hin i hil
    rw [List.getElem?_eq_getElem (by omega)] at h1
    obtain ⟨cs', h2, h3⟩ := Option.bind_eq_some_iff.1 h1
    obtain ⟨h4, h5⟩ := hone _ _ _ h3
    exact ⟨cs', fun _ => ⟨h2, h4, h5⟩⟩
   ·exact ⟨[], fun h => absurd h hil⟩
  obtain ⟨z, hz⟩ := Classical.axiomOfChoice all
  exact ⟨some a, len, cap, (List.range len).map z, rfl, sl_of z hpos (fun i hi => (hz i hi).2.2) (fun i hi => (hz i hi).1), fun r hr => by
   obtain ⟨i, hi, rfl⟩ := List.mem_map.1 hr
   exact (hz i (by simpa using hi)).2.1, by omega, by omega⟩


theorem rows_as {α : Type} {f : α → List Value} {Q : α → Prop} : ∀ {rows : List (List Value)}, (∀ r ∈ rows, ∃ x : α, r = f x ∧ Q x) → ∃ l : List α, rows = l.map f ∧ ∀ x ∈ l, Q x
 | [], _ => ⟨[], rfl, fun _ h => nomatch h⟩
 | r :: rows, h => by
  obtain ⟨x, e, h1⟩ := h r (List.mem_cons_self ..)
  obtain ⟨l, e2, h2⟩ := rows_as (fun q hq => h q (List.mem_cons_of_mem _ hq))
  exact ⟨x :: l, by rw [e, e2]; rfl, fun y hy => by
   rcases List.mem_cons.1 hy with rfl | hy
   ·exact h1
   ·exact h2 y hy⟩
end Go.Proofs.Ytponmfkddglopaa
