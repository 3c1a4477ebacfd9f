/-
  The law EndorseWith's arguments, opened; how great a policy may be where the whole reading is small. No walk here.
-/
import Derived.Test.YtfonkdcpghbaoaaJF
import Derived.Test.YtfonkdcpghbaoaaRqOp2
namespace Go.Proofs.Ytfonkdcpghbaoaa
open Go.ChangeShapes Go.WideShapes Go.ChangeAt Go.RowKit Go.Deep
set_option maxRecDepth 100000

theorem Try.cells_fm : Try.prog.cellsOf 57 = 3 := by kernel_rfl
theorem bulk_mem {H : Type} : ∀ {ds : List (DataW H)} {d : DataW H}, d ∈ ds → Rows.uptoBulk d ≤ Rows.uptoBulkAll ds
  | x :: r, d, h => by
    simp only [Rows.uptoBulkAll]
    rcases List.mem_cons.1 h with rfl | h
    · omega
    · have := bulk_mem h
      omega
theorem sizes_le {H : Type} : ∀ (ks : List Fm) (ds : List (DataW H)), ks.length = ds.length → (∀ (i : Nat) (k : Fm) (d : DataW H), ks[i]? = some k → ds[i]? = some d → k.size ≤ Rows.uptoBulk d) → Fm.sizes ks ≤ Rows.uptoBulkAll ds
  | [], ds, _, _ => by simp [Fm.sizes]
  | k :: ks, [], h, _ => by simp at h
  | k :: ks, d :: ds, h, hh => by
    have h1 := hh 0 k d rfl rfl
    have h2 := sizes_le ks ds (by simpa using h) (fun i k' d' hk hd => hh (i + 1) k' d' (by simpa using hk) (by simpa using hd))
    simp only [Fm.sizes, Rows.uptoBulkAll]
    omega
theorem depths_le : ∀ (ks : List Fm), (∀ k ∈ ks, k.depth ≤ k.size) → Fm.depths ks ≤ Fm.sizes ks
  | [], _ => Nat.le_refl _
  | k :: ks, h => by
    have h1 := h k (by simp)
    have h2 := depths_le ks (fun k' hk => h k' (by simp [hk]))
    simp only [Fm.depths, Fm.sizes]
    omega
theorem Fm.depth_le (f : Fm) : f.depth ≤ f.size := by
  induction f using Fm.ind with
  | h o a ks ih =>
    have := depths_le ks ih
    simp only [Fm.depth, Fm.size]
    omega
theorem opened_u32 {H : Type} {enc : TypeId × Value → H} {W : World} {b : Nat} {v : Value} {d : DataW H} {p : List MemPlace}
    (hv : Value.okWide Try.prog W .any b 51 v) (h0 : DataW.Trod enc Try.prog W 0 (fun _ => true) true 51 v d p) : ∃ y : Nat, v = .int .u32 (y : Int) ∧ y < 4294967296 := by
  obtain ⟨x, rfl, rfl, rfl, wx⟩ := open_int Try.underlying51 hv h0
  have hx : 0 ≤ x ∧ x ≤ 4294967295 := by simpa [Lit.wf, IntKind.min, IntKind.max, IntKind.signed, IntKind.bits] using wx
  exact ⟨x.toNat, by congr 1; omega, by omega⟩

theorem Fm.InRow.mk {w : World} {Q : Nat → Prop} {g : Nat} : ∀ {ks : List Fm} {o : Nat}, (∀ (i : Nat) (k : Fm), ks[i]? = some k → ∃ A n c, w.rangeAt g (o + i * 3) [.int .i64 k.org, .int .i64 k.nd, .slice A n c] ∧ k.In w Q A n) → Fm.InRow w Q g o ks
  | [], _, _ => trivial
  | x :: ks, o, h => by
    refine ⟨by simpa using h 0 x rfl, Fm.InRow.mk fun i k hk => ?_⟩
    have := h (i + 1) k (by simpa using hk)
    rw [show o + (i + 1) * 3 = o + 3 + i * 3 by omega] at this
    exact this

theorem fm_of_trod {H : Type} {enc : TypeId × Value → H} {W : World} : ∀ (fuel : Nat) (cs : List Value) (x : DataW H × List MemPlace), DataW.trod enc Try.prog W 0 (fun _ => true) true fuel 57 cs = some x →
    ∃ (f : Fm) (A : Option Addr) (n c : Nat), cs = [.int .i64 f.org, .int .i64 f.nd, .slice A n c] ∧ f.In W (fun _ => True) A n ∧ f.size ≤ Rows.uptoBulk x.1 := by
  intro fuel
  induction fuel using Nat.strongRecOn with
  | _ fuel ih =>
  intro cs x hf
  obtain ⟨xs, m, rfl, rfl, hl, hlen, hg⟩ := DataW.trod_struct Try.underlying57 hf
  have hcl : cs.length = 3 := by rw [Try.cells_fm] at hl; exact hl
  match cs, hcl with
  | [c0, c1, c2], _ =>
    have g0 := hg 0 _ rfl
    have g1 := hg 1 _ rfl
    have g2 := hg 2 _ rfl
    have hx : ∀ i, i < 3 → ∃ y, xs[i]? = some y := fun i hi => ⟨_, List.getElem?_eq_getElem (by have := hlen; simp at this; omega)⟩
    obtain ⟨y0, hy0⟩ := hx 0 (by omega)
    obtain ⟨y1, hy1⟩ := hx 1 (by omega)
    obtain ⟨y2, hy2⟩ := hx 2 (by omega)
    rw [hy0] at g0
    rw [hy1] at g1
    rw [hy2] at g2
    have ci : Try.prog.cellsOf 3 = 1 := by kernel_rfl
    have cb : Try.prog.cellsOf 55 = 1 := by kernel_rfl
    simp only [List.getElem_toArray, List.getElem_cons_zero, List.getElem_cons_succ] at g0 g1 g2
    rw [ci] at g0 g1
    rw [cb] at g2
    obtain ⟨k, hk, _⟩ := DataW.trod_int Try.underlying3 g0
    obtain ⟨l, hl', _⟩ := DataW.trod_int Try.underlying3 g1
    have e0 : c0 = .int .i64 k := by simpa using hk
    have e1 : c1 = .int .i64 l := by simpa using hl'
    subst e0 e1
    rcases DataW.trod_slice Try.underlying55 g2 with ⟨hcs, _⟩ | ⟨a, len, cap, elems, rest, m', rfl, hcs, hye, _, hle, hmx, hel, hin, _, _⟩
    · have e2 : c2 = .slice none 0 0 := by simpa using hcs
      subst e2
      exact ⟨.mk k l [], none, 0, 0, rfl, ⟨rfl, Nat.zero_le _, fun h => absurd h (by omega)⟩, by simp [Fm.size, Fm.sizes, Rows.uptoBulk]⟩
    · have e2 : c2 = .slice (some a) len cap := by simpa using hcs
      subst e2
      rw [Try.cells_fm] at hin
      have all : ∀ i, ∃ z : Fm × Option Addr × Nat × Nat, i < len → (∃ cs', W.cells? 0 (a.add (i * 3)) 3 = some cs' ∧ cs' = [.int .i64 z.1.org, .int .i64 z.1.nd, .slice z.2.1 z.2.2.1 z.2.2.2]) ∧ z.1.In W (fun _ => True) z.2.1 z.2.2.1 ∧ ∀ e, elems[i]? = some e → z.1.size ≤ Rows.uptoBulk e.1 := fun i => by
        by_cases hil : i < len
        · have h1 := hin i hil
          rw [List.getElem?_eq_getElem (by omega)] at h1
          obtain ⟨cs', h2, h3⟩ := Option.bind_eq_some_iff.1 h1
          obtain ⟨f, A, n, c, h4, h5, h6⟩ := ih m' (by omega) cs' _ h3
          exact ⟨⟨f, A, n, c⟩, fun _ => ⟨⟨cs', h2, h4⟩, h5, fun e he => by rw [List.getElem?_eq_getElem (by omega)] at he; obtain rfl := Option.some.inj he; exact h6⟩⟩
        · exact ⟨⟨.mk 0 0 [], none, 0, 0⟩, fun h => absurd h hil⟩
      obtain ⟨z, hz⟩ := Classical.axiomOfChoice all
      have hbig : (Fm.mk k l ((List.range len).map fun i => (z i).1)).size ≤ Rows.uptoBulk (H := H) (.agg (xs.map (·.1))) := by
        have hs := sizes_le (H := H) ((List.range len).map fun i => (z i).1) (elems.map (·.1)) (by simp [hel]) (fun i k' d hk' hd => by
          have hi : i < len := by
            have := (List.getElem?_eq_some_iff.1 hk').1
            simpa using this
          have ek : (z i).1 = k' := by simpa [hi] using hk'
          subst ek
          rw [List.getElem?_map] at hd
          obtain ⟨e, he, rfl⟩ := Option.map_eq_some_iff.1 hd
          exact (hz i hi).2.2 e he)
        have hm : y2.1 ∈ xs.map (·.1) := List.mem_map.2 ⟨y2, List.mem_of_getElem? hy2, rfl⟩
        have hb := bulk_mem hm
        rw [hye] at hb
        simp only [Rows.uptoBulk] at hb ⊢
        simp only [Fm.size]
        omega
      refine ⟨.mk k l ((List.range len).map fun i => (z i).1), some a, len, cap, rfl, ⟨by simp, by omega, fun hn => ?_⟩, hbig⟩
      have hcell : ∀ i, i < len → ∀ j v, [Value.int .i64 (z i).1.org, .int .i64 (z i).1.nd, .slice (z i).2.1 (z i).2.2.1 (z i).2.2.2][j]? = some v → W.cell? ((a.add (i * 3)).add j) = some v := fun i hi j v hv => by
        obtain ⟨⟨cs', h1, h2⟩, _⟩ := hz i hi
        obtain ⟨_, hlen', hc⟩ := World.cells?_some h1
        have hj : j < 3 := (List.getElem?_eq_some_iff.1 hv).1
        rw [hc j hj, h2]
        exact hv
      obtain ⟨b, o, s⟩ := a
      have hc0 := hcell 0 hn 0 _ rfl
      obtain rfl : s = none := by simpa [Addr.add] using World.cell?_spot hc0
      refine ⟨b, o, rfl, trivial, Fm.InRow.mk fun i k' hk' => ?_⟩
      have hi : i < len := by
        have := (List.getElem?_eq_some_iff.1 hk').1
        simpa using this
      have ek : (z i).1 = k' := by simpa [hi] using hk'
      subst ek
      refine ⟨_, _, (z i).2.2.2, fun j v hv => ?_, (hz i hi).2.1⟩
      have h1 := hcell i hi j v hv
      rw [Go.WideShapes.add_plain, Go.WideShapes.add_plain] at h1
      exact h1

/-- An argument of type Formula. -/
theorem opened_fmb {H : Type} {enc : TypeId × Value → H} {W : World} {b : Nat} {v : Value} {d : DataW H} {p : List MemPlace} (hv : Value.okWide Try.prog W .any b 57 v)
    (h0 : DataW.Trod enc Try.prog W 0 (fun _ => true) true 57 v d p) : ∃ (f : Fm) (A : Option Addr) (n c : Nat), v = f.val A n c ∧ f.In W (fun _ => True) A n ∧ f.size ≤ Rows.uptoBulk d := by
  simp only [Value.okWide, Try.underlying57] at hv
  obtain ⟨cs, rfl, hsz, _⟩ := hv
  obtain ⟨fuel, hf⟩ := h0
  obtain ⟨f, A, n, c, h1, h2, h9⟩ := fm_of_trod fuel _ _ hf
  refine ⟨f, A, n, c, ?_, h2, h9⟩
  obtain ⟨cs⟩ := cs
  have h3 : cs = [.int .i64 f.org, .int .i64 f.nd, .slice A n c] := by simpa [Value.cells] using h1
  rw [h3]
  rfl

/-- An argument of type Endorsement. -/
theorem opened_en {H : Type} {enc : TypeId × Value → H} {W : World} {b : Nat} {v : Value} {d : DataW H} {p : List MemPlace} (hv : Value.okWide Try.prog W .any b 41 v)
    (h0 : DataW.Trod enc Try.prog W 0 (fun _ => true) true 41 v d p) : ∃ (e : En) (s : Pl), v = .agg #[.int .i64 e.og, .slice s.1 s.2.1 s.2.2] ∧ TsIn W s e.ts := by
  simp only [Value.okWide, Try.underlying41] at hv
  obtain ⟨cs, rfl, hsz, _⟩ := hv
  obtain ⟨fuel, hf⟩ := h0
  obtain ⟨e, s, h1, h2, _⟩ := en_of_trod hf
  refine ⟨e, s, ?_, h2⟩
  obtain ⟨cs⟩ := cs
  have h3 : cs = enC e s := by simpa [Value.cells] using h1
  rw [h3]
  rfl

end Go.Proofs.Ytfonkdcpghbaoaa
