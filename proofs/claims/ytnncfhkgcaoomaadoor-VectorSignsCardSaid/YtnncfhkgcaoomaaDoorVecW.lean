/-
  A message's parts in memory: a slice of ints, a slice of tags (rows of 32 cells); what a call owns of them. No walk here.
-/
import Derived.Test.YtnncfhkgcaoomaaDoorBookW
import Derived.Great.BuildSlice
import Derived.Deep.AppendLies
namespace Go.Proofs.YtnncfhkgcaoomaaDoor
open Go.RowKit

/-- The slice '.slice A n _' reads, in w, as the numbers xs. -/
def Iv (w : World) (Q : Nat → Prop) (A : Option Addr) (n : Nat) (xs : List Int) : Prop :=
  xs.length = n ∧ (0 < n → ∃ g o, A = some ⟨g, o, none⟩ ∧ Q g ∧ ∀ (j : Nat) (u : Int), xs[j]? = some u → w.cell? ⟨g, o + j, none⟩ = some (.int .i64 u))
section
variable {w w' : World} {Q Q' : Nat → Prop} {A : Option Addr} {n : Nat} {xs : List Int}
theorem Iv.none_ : Iv w Q A 0 [] := ⟨rfl, fun h => absurd h (by omega)⟩
theorem Iv.keep (h : Iv w Q A n xs) (hk : ∀ g, Q g → w'.heap[g]? = w.heap[g]?) : Iv w' Q A n xs :=
  ⟨h.1, fun hn => by
    obtain ⟨g, o, e, hb, hc⟩ := h.2 hn
    exact ⟨g, o, e, hb, fun j u hu => (World.cell?_of_block (a := ⟨g, o + j, none⟩) (hk g hb)).trans (hc j u hu)⟩⟩
theorem Iv.weak (h : Iv w Q A n xs) (hk : ∀ g, Q g → Q' g) : Iv w Q' A n xs :=
  ⟨h.1, fun hn => by
    obtain ⟨g, o, e, hb, hc⟩ := h.2 hn
    exact ⟨g, o, e, hk g hb, hc⟩⟩
theorem Iv.len (h : Iv w Q A n xs) : xs.length = n := h.1
theorem Iv.lt (h : Iv w Q A n xs) : Iv w (fun g => Q g ∧ g < w.heap.size ∧ ∃ cs t fr, w.heap[g]? = some (.cells cs t fr)) A n xs :=
  ⟨h.1, fun hn => by
    obtain ⟨g, o, e, hb, hc⟩ := h.2 hn
    have hl : 0 < xs.length := by have := h.1; omega
    have h0 := hc 0 xs[0] (List.getElem?_eq_getElem hl)
    have hcell : ∃ cs t fr, w.heap[g]? = some (.cells cs t fr) := by
      unfold World.cell? at h0
      cases hb : w.heap[g]? with
      | none => simp [hb] at h0
      | some o => cases o <;> simp_all
    exact ⟨g, o, e, ⟨hb, World.block_lt_of_cell? w ⟨g, o + 0, none⟩ h0, hcell⟩, hc⟩⟩
theorem Iv.through (h : Iv w Q A n xs) (hb : Below w.heap.size w w') : Iv w' Q A n xs :=
  (h.lt.keep fun g hg => hb.block g hg.2.1).weak fun _ hg => hg.1
theorem Iv.kf {g : Nat} (h : Iv w Q A n xs) (hf : KF g w w') (hQ : ∀ k, Q k → k ≠ g) : Iv w' Q A n xs :=
  (h.lt.keep fun k hk => hf.cells k (hQ k hk.1) hk.2.2).weak fun _ hg => hg.1
theorem Iv.drew (h : Iv w Q A n xs) : Iv w.drew Q A n xs := h
theorem Iv.cell (h : Iv w Q A n xs) (hn : 0 < n) : ∃ g o, A = some ⟨g, o, none⟩ ∧ Q g ∧ ∀ j, j < n → w.cell? ⟨g, o + j, none⟩ = some (.int .i64 (xs.getD j 0)) := by
  obtain ⟨g, o, e, hq, hc⟩ := h.2 hn
  refine ⟨g, o, e, hq, fun j hj => ?_⟩
  have hl : j < xs.length := by have := h.1; omega
  rw [hc j xs[j] (List.getElem?_eq_getElem hl)]
  simp [List.getD, hl]
end

/-- Tags, as cells. -/
def rows (tgs : List (List UInt8)) : List Value := (tgs.map vs).flatten
def Long32 (tgs : List (List UInt8)) : Prop := ∀ t ∈ tgs, t.length = 32
theorem rows_nil : rows [] = [] := rfl
theorem rows_snoc (tgs : List (List UInt8)) (t : List UInt8) : rows (tgs ++ [t]) = rows tgs ++ vs t := by simp [rows]
theorem rows_length {tgs : List (List UInt8)} (h : Long32 tgs) : (rows tgs).length = tgs.length * 32 := by
  induction tgs with
  | nil => rfl
  | cons t tgs ih =>
    have h1 : t.length = 32 := h t (by simp)
    have h2 := ih fun u hu => h u (by simp [hu])
    unfold rows at h2 ⊢
    rw [List.map_cons, List.flatten_cons, List.length_append, h2, vs_length, h1, List.length_cons]
    omega
theorem rows_get {tgs : List (List UInt8)} (h : Long32 tgs) : ∀ (j k : Nat) (t : List UInt8), tgs[j]? = some t → k < 32 → (rows tgs)[j * 32 + k]? = (vs t)[k]? := by
  induction tgs with
  | nil => intro j k t hj; simp at hj
  | cons u tgs ih =>
    intro j k t hj hk
    have h1 : u.length = 32 := h u (by simp)
    have h2 := ih fun v hv => h v (by simp [hv])
    have e : rows (u :: tgs) = vs u ++ rows tgs := by simp [rows]
    rw [e]
    match j, hj with
    | 0, hj =>
      simp at hj
      subst hj
      rw [List.getElem?_append_left (by rw [vs_length]; omega), Nat.zero_mul, Nat.zero_add]
    | j + 1, hj =>
      rw [List.getElem?_append_right (by rw [vs_length, h1]; omega), vs_length, h1]
      have e2 : (j + 1) * 32 + k - 32 = j * 32 + k := by omega
      rw [e2]
      exact h2 j k t (by simpa using hj) hk

/-- The slice '.slice A n _' reads as these tags. -/
def Tg (w : World) (A : Option Addr) (n : Nat) (tgs : List (List UInt8)) : Prop :=
  tgs.length = n ∧ Long32 tgs ∧ (0 < n → ∃ g o, A = some ⟨g, o, none⟩ ∧ ∀ j t, tgs[j]? = some t → ∀ (k : Nat) (u : Value), (vs t)[k]? = some u → w.cell? ⟨g, o + (j * 32 + k), none⟩ = some u)
section
variable {w w' : World} {A : Option Addr} {n : Nat} {tgs : List (List UInt8)}
theorem Tg.none_ : Tg w A 0 [] := ⟨rfl, fun _ h => by simp at h, fun h => absurd h (by omega)⟩
theorem Tg.blk (h : Tg w A n tgs) (hn : 0 < n) : ∃ g o, A = some ⟨g, o, none⟩ ∧ g < w.heap.size ∧ (∃ cs t fr, w.heap[g]? = some (.cells cs t fr)) ∧ w.cell? ⟨g, o + 0, none⟩ ≠ none ∧ (∀ j t, tgs[j]? = some t → ∀ (k : Nat) (u : Value), (vs t)[k]? = some u → w.cell? ⟨g, o + (j * 32 + k), none⟩ = some u) := by
  obtain ⟨g, o, e, hc⟩ := h.2.2 hn
  have hl : 0 < tgs.length := by have := h.1; omega
  have ht := h.2.1 tgs[0] (List.getElem_mem hl)
  have h1 : 0 < (vs tgs[0]).length := by rw [vs_length, ht]; omega
  have h0 := hc 0 tgs[0] (List.getElem?_eq_getElem hl) 0 _ (List.getElem?_eq_getElem h1)
  simp only [Nat.zero_mul, Nat.add_zero] at h0
  have hcell : ∃ cs t fr, w.heap[g]? = some (.cells cs t fr) := by
    unfold World.cell? at h0
    cases hb : w.heap[g]? with
    | none => simp [hb] at h0
    | some o => cases o <;> simp_all
  exact ⟨g, o, e, World.block_lt_of_cell? w ⟨g, o, none⟩ h0, hcell, by simp [h0], hc⟩
theorem Tg.keep (h : Tg w A n tgs) (hk : ∀ g, g < w.heap.size → (∃ cs t fr, w.heap[g]? = some (.cells cs t fr)) → (∃ o, A = some ⟨g, o, none⟩) → w'.heap[g]? = w.heap[g]?) : Tg w' A n tgs :=
  ⟨h.1, h.2.1, fun hn => by
    obtain ⟨g, o, e, hl, hb, _, hc⟩ := h.blk hn
    exact ⟨g, o, e, fun j t ht k u hu => (World.cell?_of_block (a := ⟨g, o + (j * 32 + k), none⟩) (hk g hl hb ⟨o, e⟩)).trans (hc j t ht k u hu)⟩⟩
theorem Tg.through (h : Tg w A n tgs) (hb : Below w.heap.size w w') : Tg w' A n tgs := h.keep fun g hg _ _ => hb.block g hg
theorem Tg.drew (h : Tg w A n tgs) : Tg w.drew A n tgs := h
/-- A cell that is written is a map's or a byte's: tags are no object's cells. -/
theorem Tg.kf {b : Nat} {ds : List DK} {ts : List TK} (h : Tg w A n tgs) (hf : KF b w w') (hs : BS w b ds ts) : Tg w' A n tgs :=
  ⟨h.1, h.2.1, fun hn => by
    obtain ⟨g, o, e, hl, hb, _, hc⟩ := h.blk hn
    have hl' : 0 < tgs.length := by have := h.1; omega
    have ht := h.2.1 tgs[0] (List.getElem_mem hl')
    have hgb : g ≠ b := by
      rintro rfl
      obtain ⟨m1, m2, hbk, _⟩ := hs
      have h1 : 0 < tgs[0].length := by omega
      have h0 := hc 0 tgs[0] (List.getElem?_eq_getElem hl') 0 (u8 tgs[0][0]) (by rw [vs_get, List.getElem?_eq_getElem h1]; rfl)
      simp only [Nat.zero_mul, Nat.add_zero] at h0
      rw [hbk.cell] at h0
      match o, h0 with
      | 0, h0 => simp [u8] at h0
      | 1, h0 => simp [u8] at h0
      | o + 2, h0 => simp at h0
    exact ⟨g, o, e, fun j t ht k u hu => (World.cell?_of_block (a := ⟨g, o + (j * 32 + k), none⟩) (hf.cells g hgb hb)).trans (hc j t ht k u hu)⟩⟩
/-- one of them, as a range -/
theorem Tg.at (h : Tg w A n tgs) (j : Nat) (t : List UInt8) (hj : tgs[j]? = some t) : t.length = 32 ∧ ∃ g o, A = some ⟨g, o, none⟩ ∧ w.rangeAt g (o + j * 32) (vs t) := by
  have hl : j < tgs.length := (List.getElem?_eq_some_iff.1 hj).1
  obtain ⟨g, o, e, hc⟩ := h.2.2 (by have := h.1; omega)
  refine ⟨h.2.1 t (List.mem_of_getElem? hj), g, o, e, fun k u hu => ?_⟩
  have h1 := hc j t hj k u hu
  rwa [← Nat.add_assoc] at h1
theorem Tg.of_own {base c : Nat} (hl : Long32 tgs) (h : w.ownsRow base 37 32 (.slice A n c) n (rows tgs)) : Tg w A n tgs := by
  have hn : tgs.length = n := by have := h.1; rw [rows_length hl] at this; omega
  refine ⟨hn, hl, fun hpos => ?_⟩
  rcases h.2 with ⟨_, h'⟩ | ⟨g, cap, cur, hv, hbg, hg, hnc, hcm, hsz, htk⟩
  · omega
  · injection hv with hA _ hc
    subst hA; subst hc
    refine ⟨g, 0, rfl, fun j t ht k u hu => ?_⟩
    have hk : k < 32 := by
      have h1 := (List.getElem?_eq_some_iff.1 hu).1
      rw [vs_length, hl t (List.mem_of_getElem? ht)] at h1
      exact h1
    have hj : j < tgs.length := (List.getElem?_eq_some_iff.1 ht).1
    have h1 := rows_get hl j k t ht hk
    have h2 : j * 32 + k < n * 32 := by omega
    rw [cell_of_row w g _ _ _ _ hg, Nat.zero_add, ← Array.getElem?_toList, ← List.getElem?_take_of_lt h2, htk, h1, hu]
end
/-- What a call owns stands where its blocks do. -/
theorem own_at {w w' : World} {base n s : Nat} {e : TypeId} {v : Value} {ys : List Value} (h : w.ownsRow base e s v n ys) (hk : ∀ g, base ≤ g → g < w.heap.size → (∃ cs fr, w.heap[g]? = some (.cells cs e fr)) → v.ownBlock = some g → w'.heap[g]? = w.heap[g]?) : w'.ownsRow base e s v n ys := by
  refine ⟨h.1, ?_⟩
  rcases h.2 with h2 | ⟨g, cap, cur, hv, hbg, hgc, r⟩
  · exact .inl h2
  · exact .inr ⟨g, cap, cur, hv, hbg, (hk g hbg (Array.getElem?_eq_some_iff.1 hgc).1 ⟨_, _, hgc⟩ (by rw [hv]; rfl)).trans hgc, r⟩
theorem own_formS {w : World} {base n s : Nat} {e : TypeId} {v : Value} {ys : List Value} (h : w.ownsRow base e s v n ys) : ∃ A c, v = .slice A n c ∧ n ≤ c ∧ c ≤ maxLen ∧ ∀ g, v.ownBlock = some g → base ≤ g ∧ g < w.heap.size := by
  rcases h.2 with ⟨rfl, rfl⟩ | ⟨g, cap, cur, rfl, hbg, hg, hn, hm, _⟩
  · exact ⟨none, 0, rfl, Nat.le_refl _, by simp [maxLen], fun g h => by cases h⟩
  · exact ⟨some ⟨g, 0, none⟩, cap, rfl, hn, hm, fun g' h' => by
      obtain rfl : g = g' := Option.some.inj h'
      exact ⟨hbg, (Array.getElem?_eq_some_iff.1 hg).1⟩⟩
/-- A result that lies in a variable of one cell. -/
theorem results_cell_one {P : Program} {fn : Func} {p : Tmp} {ty : TypeId} (h : fn.results = #[.cell p ty]) (tmps : Array Value) (w : World) (a : Addr) (v : Value) (hag : (isAgg ty).run P w = .ok false w)
    (hp : tmps.getD p undef = .pointer (some a)) (hc : w.cell? a = some v) : (results fn tmps).run P w = .ok v w := by
  have hp' : tmps[p]?.getD undef = .pointer (some a) := by simpa using hp
  simp [results, h, hp', asAddr, loadVar, hag, hc]
theorem Tryd.info_tag : (Tryd.prog.info? 37).map (fun i => (i.zero, i.size, i.bytes)) = some (some (.agg (vs (List.replicate 32 0)).toArray), 32, 32) := by kernel_rfl
/-- '[]Tag{t}' -/
theorem run_build_tag (w : World) (q : List Value) (hq : q.length = 32) : (Instr.buildSlice 24 1 #[(0, .agg q.toArray)]).run Tryd.prog w = .ok (.slice (some ⟨w.heap.size, 0, none⟩) 1 1) (w.alloc (.cells q.toArray 37)) := by
  have hi := Tryd.info_tag
  obtain ⟨i, hi, he⟩ := Option.map_eq_some_iff.1 hi
  injection he with h1 he
  injection he with h2 h3
  refine run_buildSlice (P := Tryd.prog) w 24 37 1 _ q.toArray i _ Tryd.underlying24 hi h1 (by omega) (by omega) ?_
  have h := Great.fill_whole (s := 32) (by omega) [.agg q.toArray] ((Array.range (1 * i.size)).map fun x => (Value.agg (vs (List.replicate 32 0)).toArray).cells[x % (Value.agg (vs (List.replicate 32 0)).toArray).cells.size]!) (fun v hv => by
    obtain rfl : v = _ := by simpa using hv
    show q.toArray.size = 32
    simpa using hq) (by simp [h2])
  rw [h2] at h ⊢
  have e : ([Value.agg q.toArray].flatMap fun v => v.cells.toList) = q := by simp [Value.cells]
  rw [e] at h
  exact h

end Go.Proofs.YtnncfhkgcaoomaaDoor
