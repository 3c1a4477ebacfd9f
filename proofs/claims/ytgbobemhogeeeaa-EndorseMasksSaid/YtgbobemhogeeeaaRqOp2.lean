/-
  The laws' arguments, opened: tags, endorsements, a request. No walk here.
-/
import Derived.Test.YtgbobemhogeeeaaRqOp
namespace Go.Proofs.Ytgbobemhogeeeaa
open Go.ChangeShapes Go.WideShapes Go.ChangeAt Go.RowKit Go.Deep

/-- the byte in a cell -/
def cellByte : Value → UInt8
  | .int _ a => UInt8.ofNat a.toNat
  | _ => 0
set_option maxRecDepth 100000 in
theorem tag_of_trod {H : Type} {enc : TypeId × Value → H} {W : World} {base : Nat} {spare : Nat → Bool} {held : Bool} {fuel : Nat} {cs : List Value} {x : DataW H × List MemPlace}
    (hf : DataW.trod enc Try.prog W base spare held fuel 73 cs = some x) : ∃ tg : List UInt8, tg.length = 32 ∧ cs = vs tg := by
  obtain ⟨xs, m, rfl, _, hl, hn, hi⟩ := DataW.trod_array Try.underlying73 hf
  rw [Try.cells_u8] at hi
  have hcs : cs.length = 32 := by
    have e : Try.prog.cellsOf 73 = 32 := by kernel_rfl
    rw [e] at hl
    exact hl
  have hcell : ∀ i (h : i < cs.length), ∃ a, cs[i] = .int .u8 a ∧ 0 ≤ a ∧ a ≤ 255 := fun i h => by
    have h32 : i < 32 := by omega
    have hx := hi i h32
    have hx2 : i < xs.length := by omega
    rw [List.getElem?_eq_getElem hx2] at hx
    obtain ⟨a, ea, _, wa⟩ := DataW.trod_int Try.underlying5 hx
    have e2 : (cs.drop (i * 1)).take 1 = [cs[i]] := by
      rw [Nat.mul_one, List.drop_eq_getElem_cons h]
      rfl
    rw [e2] at ea
    exact ⟨a, by simpa using ea, by simpa [Lit.wf, IntKind.min, IntKind.max, IntKind.signed, IntKind.bits] using wa⟩
  refine ⟨cs.map cellByte, by rw [List.length_map]; exact hcs, ?_⟩
  refine (List.ext_getElem (by simp [vs]) fun i h1 h2 => ?_).symm
  obtain ⟨a, ea, a0, a1⟩ := hcell i h2
  simp only [vs, List.getElem_map, ea, cellByte, u8]
  congr 1
  rw [UInt8.toNat_ofNat']
  omega


theorem sl_of {W : World} {k len : Nat} {a : Addr} (z : Nat → List Value) (hpos : 0 < k) (hk : ∀ i, i < len → (z i).length = k) (h : ∀ i, i < len → W.cells? 0 (a.add (i * k)) k = some (z i)) : Sl W k (some a) len ((List.range len).map z) := by
  refine ⟨by simp, fun hn => ?_⟩
  have hcell : ∀ i, i < len → ∀ j v, (z i)[j]? = some v → W.cell? ((a.add (i * k)).add j) = some v := fun i hi j v hv => by
    obtain ⟨_, hlen', hc⟩ := World.cells?_some (h i hi)
    have hj : j < k := by
      have := (List.getElem?_eq_some_iff.1 hv).1
      rw [hk i hi] at this
      exact this
    rw [hc j hj]
    exact hv
  obtain ⟨b, o, s⟩ := a
  have hc0 := hcell 0 hn 0 _ (List.getElem?_eq_getElem (by rw [hk 0 hn]; exact hpos))
  obtain rfl : s = none := by simpa [Addr.add] using World.cell?_spot hc0
  refine ⟨b, o, rfl, fun i cs hi => ?_⟩
  have hil : i < len := by
    have := (List.getElem?_eq_some_iff.1 hi).1
    simpa using this
  have ek : z i = cs := by simpa [hil] using hi
  subst ek
  intro j v hv
  have h1 := hcell i hil j v hv
  rw [Go.WideShapes.add_plain, Go.WideShapes.add_plain] at h1
  exact h1
theorem Try.cells_tg : Try.prog.cellsOf 73 = 32 := by kernel_rfl
theorem Try.cells_en : Try.prog.cellsOf 34 = 2 := by kernel_rfl
set_option maxRecDepth 100000 in
/-- A slice of tags, nil or not, in a cell. -/
theorem sl_tg {H : Type} {enc : TypeId × Value → H} {W : World} {fuel : Nat} {c0 : Value} {x : DataW H × List MemPlace} (hf : DataW.trod enc Try.prog W 0 (fun _ => true) true fuel 32 [c0] = some x) :
    ∃ (A : Option Addr) (n c : Nat) (ts : List (List UInt8)), c0 = .slice A n c ∧ TsIn W (A, n, c) ts := by
  rcases DataW.trod_slice Try.underlying32 hf with ⟨hcs, _⟩ | ⟨a, len, cap, elems, rest, m', rfl, hcs, _, _, hle, hmx, hel, hin, _, _⟩
  · have e2 : c0 = .slice none 0 0 := by simpa using hcs
    subst e2
    exact ⟨none, 0, 0, [], rfl, TsIn.nil_⟩
  · have e2 : c0 = .slice (some a) len cap := by simpa using hcs
    subst e2
    rw [Try.cells_tg] at hin
    have all : ∀ i, ∃ z : List UInt8, i < len → z.length = 32 ∧ W.cells? 0 (a.add (i * 32)) 32 = some (vs z) := fun i => by
      by_cases hil : i < len
      · have h1 := hin i hil
        rw [List.getElem?_eq_getElem (by omega)] at h1
        obtain ⟨cs', h2, h3⟩ := Option.bind_eq_some_iff.1 h1
        obtain ⟨tg, h4, rfl⟩ := tag_of_trod h3
        exact ⟨tg, fun _ => ⟨h4, h2⟩⟩
      · exact ⟨[], fun h => absurd h hil⟩
    obtain ⟨z, hz⟩ := Classical.axiomOfChoice all
    refine ⟨some a, len, cap, (List.range len).map z, rfl, ?_, ?_, hle, hmx⟩
    · have h9 := sl_of (W := W) (k := 32) (len := len) (a := a) (fun i => vs (z i)) (by omega) (fun i hi => by rw [vs_length, (hz i hi).1]) (fun i hi => (hz i hi).2)
      rw [List.map_map]
      exact h9
    · intro t ht
      obtain ⟨i, hi, rfl⟩ := List.mem_map.1 ht
      exact (hz i (by simpa using hi)).1
set_option maxRecDepth 100000 in
/-- An endorsement's cells. -/
theorem en_of_trod {H : Type} {enc : TypeId × Value → H} {W : World} {fuel : Nat} {cs : List Value} {x : DataW H × List MemPlace} (hf : DataW.trod enc Try.prog W 0 (fun _ => true) true fuel 34 cs = some x) :
    ∃ (e : En) (s : Pl), cs = enC e s ∧ TsIn W s e.ts ∧ (-9223372036854775808 ≤ e.og ∧ e.og ≤ 9223372036854775807) := by
  obtain ⟨xs, m, rfl, _, hl, hlen, hg⟩ := DataW.trod_struct Try.underlying34 hf
  have hcl : cs.length = 2 := by rw [Try.cells_en] at hl; exact hl
  match cs, hcl with
  | [c0, c1], _ =>
    have hx : ∀ i, i < 2 → ∃ y, xs[i]? = some y := fun i hi => ⟨_, List.getElem?_eq_getElem (by have := hlen; simp at this; omega)⟩
    have g0 := hg 0 _ rfl
    obtain ⟨z0, hz0⟩ := hx 0 (by omega)
    rw [hz0] at g0
    have g1 := hg 1 _ rfl
    obtain ⟨z1, hz1⟩ := hx 1 (by omega)
    rw [hz1] at g1
    have k0 : Try.prog.cellsOf 3 = 1 := by kernel_rfl
    have k1 : Try.prog.cellsOf 32 = 1 := by kernel_rfl
    simp only [List.getElem_toArray, List.getElem_cons_zero, List.getElem_cons_succ] at g0 g1
    rw [k0] at g0
    rw [k1] at g1
    obtain ⟨v0, hv0, _, hw0⟩ := DataW.trod_int Try.underlying3 g0
    have d0 : c0 = .int .i64 v0 := by simpa using hv0
    obtain ⟨A, n, c, ts, d1, h1⟩ := sl_tg (c0 := c1) (by simpa using g1)
    subst d0 d1
    exact ⟨⟨v0, ts⟩, (A, n, c), rfl, h1, by simpa [Lit.wf, IntKind.min, IntKind.max, IntKind.signed, IntKind.bits] using hw0⟩
theorem enR_range (len : Nat) (z : Nat → En) (p : Nat → Pl) : (List.range len).map (fun i => enC (z i) (p i)) = enR ((List.range len).map z) ((List.range len).map p) := by
  unfold enR
  rw [List.zipWith_map, List.zipWith_self]
theorem AllIn_range {W : World} (z : Nat → En) (p : Nat → Pl) : ∀ l : List Nat, (∀ i ∈ l, TsIn W (p i) (z i).ts) → AllIn W (l.map z) (l.map p)
  | [], _ => trivial
  | i :: l, h => ⟨h i (List.mem_cons_self ..), AllIn_range z p l fun j hj => h j (List.mem_cons_of_mem _ hj)⟩
set_option maxRecDepth 100000 in
/-- A slice of endorsements, nil or not, in a cell. -/
theorem sl_en {H : Type} {enc : TypeId × Value → H} {W : World} {fuel : Nat} {c0 : Value} {x : DataW H × List MemPlace} (hf : DataW.trod enc Try.prog W 0 (fun _ => true) true fuel 24 [c0] = some x) :
    ∃ (A : Option Addr) (n c : Nat) (es : List En), c0 = .slice A n c ∧ EsIn W A n es ∧ n ≤ c ∧ c ≤ maxLen ∧ ∀ e ∈ es, -9223372036854775808 ≤ e.og ∧ e.og ≤ 9223372036854775807 := by
  rcases DataW.trod_slice Try.underlying24 hf with ⟨hcs, _⟩ | ⟨a, len, cap, elems, rest, m', rfl, hcs, _, _, hle, hmx, hel, hin, _, _⟩
  · have e2 : c0 = .slice none 0 0 := by simpa using hcs
    subst e2
    exact ⟨none, 0, 0, [], rfl, EsIn.none_, Nat.le_refl _, Nat.zero_le _, fun e he => by cases he⟩
  · have e2 : c0 = .slice (some a) len cap := by simpa using hcs
    subst e2
    rw [Try.cells_en] at hin
    have all : ∀ i, ∃ z : En × Pl, i < len → W.cells? 0 (a.add (i * 2)) 2 = some (enC z.1 z.2) ∧ TsIn W z.2 z.1.ts ∧ (-9223372036854775808 ≤ z.1.og ∧ z.1.og ≤ 9223372036854775807) := fun i => by
      by_cases hil : i < len
      · have h1 := hin i hil
        rw [List.getElem?_eq_getElem (by omega)] at h1
        obtain ⟨cs', h2, h3⟩ := Option.bind_eq_some_iff.1 h1
        obtain ⟨e, s, rfl, h4, h5⟩ := en_of_trod h3
        exact ⟨(e, s), fun _ => ⟨h2, h4, h5⟩⟩
      · exact ⟨(⟨0, []⟩, none, 0, 0), fun h => absurd h hil⟩
    obtain ⟨z, hz⟩ := Classical.axiomOfChoice all
    refine ⟨some a, len, cap, (List.range len).map (fun i => (z i).1), rfl, ⟨(List.range len).map (fun i => (z i).2), ?_, ?_⟩, by omega, by omega, fun e he => ?_⟩
    · rw [← enR_range]
      exact sl_of (W := W) (k := 2) (len := len) (a := a) (fun i => enC (z i).1 (z i).2) (by omega) (fun i _ => rfl) (fun i hi => (hz i hi).1)
    · exact AllIn_range _ _ _ fun i hi => (hz i (by simpa using hi)).2.1
    · obtain ⟨i, hi, rfl⟩ := List.mem_map.1 he
      exact (hz i (by simpa using hi)).2.2
set_option maxRecDepth 100000 in
/-- A request's cells. -/
theorem opened_rq {H : Type} {enc : TypeId × Value → H} {W : World} {b : Nat} {v : Value} {d : DataW H} {p : List MemPlace} (hv : Value.okWide Try.prog W .any b 26 v)
    (h0 : DataW.Trod enc Try.prog W 0 (fun _ => true) true 26 v d p) : ∃ (co : Cr) (A : Option Addr) (n c : Nat) (es : List En), v = .agg #[.int .i64 co.cl, .int .i64 co.sp, .int .i64 co.op, .string (ba co.lt), .int .i64 co.a, .int .i64 co.b, .string (ba co.tx), .slice A n c] ∧ co.fits ∧ EsIn W A n es ∧ n ≤ c ∧ c ≤ maxLen ∧ ∀ e ∈ es, -9223372036854775808 ≤ e.og ∧ e.og ≤ 9223372036854775807 := by
  simp only [Value.okWide, Try.underlying26] at hv
  obtain ⟨cs, rfl, hsz, _⟩ := hv
  obtain ⟨fuel, hf⟩ := h0
  obtain ⟨xs, m, rfl, _, hl, hlen, hg⟩ := DataW.trod_struct Try.underlying26 hf
  have e8 : Try.prog.cellsOf 26 = 8 := by kernel_rfl
  have hcl : (Value.agg cs).cells.toList.length = 8 := by rw [e8] at hl; exact hl
  obtain ⟨cs⟩ := cs
  have e0 : (Value.agg ⟨cs⟩).cells.toList = cs := by simp [Value.cells]
  rw [e0] at hcl hg
  match cs, hcl with
  | [c0, c1, c2, c3, c4, c5, c6, c7], _ =>
    have hx : ∀ i, i < 2 → ∃ y, xs[i]? = some y := fun i hi => ⟨_, List.getElem?_eq_getElem (by have := hlen; simp at this; omega)⟩
    have g0 := hg 0 _ rfl
    obtain ⟨z0, hz0⟩ := hx 0 (by omega)
    rw [hz0] at g0
    have g1 := hg 1 _ rfl
    obtain ⟨z1, hz1⟩ := hx 1 (by omega)
    rw [hz1] at g1
    have k0 : Try.prog.cellsOf 23 = 7 := by kernel_rfl
    have k1 : Try.prog.cellsOf 24 = 1 := by kernel_rfl
    simp only [List.getElem_toArray, List.getElem_cons_zero, List.getElem_cons_succ] at g0 g1
    rw [k0] at g0
    rw [k1] at g1
    obtain ⟨y0, y1, y2, s3, y4, y5, s6, hcs, f0, f1, f2, f3, f4, f5, f6⟩ := cr_of_trod g0
    obtain ⟨A, n, c, es, d7, h1, h2, h3, h4⟩ := sl_en (c0 := c7) (by simpa using g1)
    refine ⟨⟨y0, y1, y2, s3, y4, y5, s6⟩, A, n, c, es, ?_, ⟨f3, f6, f4, f5⟩, h1, h2, h3, h4⟩
    simp at hcs
    obtain ⟨rfl, rfl, rfl, rfl, rfl, rfl, rfl⟩ := hcs
    rw [d7]

end Go.Proofs.Ytgbobemhogeeeaa
