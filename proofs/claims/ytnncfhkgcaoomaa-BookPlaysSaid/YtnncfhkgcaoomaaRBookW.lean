/-
  The document's book in memory: a row of strings, a row of what was said. No walk here.
-/
import Derived.Test.YtnncfhkgcaoomaaVCls
namespace Go.Proofs.Ytnncfhkgcaoomaa
open Go.RowKit

def strs (ds : List DK) : List Value := ds.map fun x => .string ⟨(x.1 :: x.2).toArray⟩
def saidC (x : TK) : List Value := [.int .i64 x.1, .int .i64 x.2.1, .string ⟨x.2.2.toArray⟩]
def saids (ts : List TK) : List Value := ts.flatMap saidC
theorem strs_length (ds : List DK) : (strs ds).length = ds.length := by simp [strs]
theorem strs_get (ds : List DK) (i : Nat) (x : DK) (h : ds[i]? = some x) : (strs ds)[i]? = some (.string ⟨(x.1 :: x.2).toArray⟩) := by simp [strs, h]
theorem strs_snoc (ds : List DK) (x : DK) : strs ds ++ [.string ⟨(x.1 :: x.2).toArray⟩] = strs (ds ++ [x]) := by simp [strs]
theorem saids_snoc (ts : List TK) (x : TK) : saids ts ++ saidC x = saids (ts ++ [x]) := by simp [saids]
theorem saids_length (ts : List TK) : (saids ts).length = ts.length * 3 := by
  induction ts with
  | nil => rfl
  | cons x ts ih =>
    have e : saids (x :: ts) = saidC x ++ saids ts := by simp [saids]
    rw [e, List.length_append, ih, List.length_cons]
    simp [saidC]
    omega
theorem saids_get : ∀ (ts : List TK) (i k : Nat) (x : TK), ts[i]? = some x → k < 3 → (saids ts)[i * 3 + k]? = (saidC x)[k]?
  | [], i, k, x, h, _ => by simp at h
  | y :: ts, 0, k, x, h, hk => by
    obtain rfl : y = x := by simpa using h
    have e : saids (y :: ts) = saidC y ++ saids ts := by simp [saids]
    rw [e, List.getElem?_append_left (by simp [saidC]; omega), Nat.zero_mul, Nat.zero_add]
  | y :: ts, i + 1, k, x, h, hk => by
    have e : saids (y :: ts) = saidC y ++ saids ts := by simp [saids]
    have e2 : (i + 1) * 3 + k - 3 = i * 3 + k := by omega
    rw [e, List.getElem?_append_right (by simp [saidC]; omega), show (saidC y).length = 3 from rfl, e2]
    exact saids_get ts i k x (by simpa using h) hk

/-- Block g is the document's book that knows these. -/
def RB (w : World) (g : Nat) (ds : List DK) (ts : List TK) : Prop :=
  ∃ v1 v2, Blk w g 30 [v1, v2] ∧ w.ownsRow (g + 1) 9 1 v1 ds.length (strs ds) ∧ w.ownsRow (g + 1) 63 3 v2 ts.length (saids ts)
theorem own_through {w w' : World} {base n s : Nat} {e : TypeId} {v : Value} {ys : List Value} (h : w.ownsRow base e s v n ys) (hb : Below w.heap.size w w') : w'.ownsRow base e s v n ys := own_at h fun k _ hl _ _ => hb.block k hl
theorem RB.through {w w' : World} {g : Nat} {ds : List DK} {ts : List TK} (h : RB w g ds ts) (hb : Below w.heap.size w w') : RB w' g ds ts := by
  obtain ⟨v1, v2, h0, h1, h2⟩ := h
  exact ⟨v1, v2, h0.through hb, own_through h1 hb, own_through h2 hb⟩
theorem RB.lt {w : World} {g : Nat} {ds : List DK} {ts : List TK} (h : RB w g ds ts) : g < w.heap.size := by
  obtain ⟨v1, v2, h0, _⟩ := h
  exact h0.lt
theorem RB.drew {w : World} {g : Nat} {ds : List DK} {ts : List TK} (h : RB w g ds ts) : RB w.drew g ds ts := h
/-- A call of another object, earlier than it. -/
theorem RB.kf {w w' : World} {g b : Nat} {ds : List DK} {ts : List TK} (h : RB w g ds ts) (hf : KF b w w') (hb : b < g) : RB w' g ds ts := by
  obtain ⟨v1, v2, h0, h1, h2⟩ := h
  exact ⟨v1, v2, hf.blk h0 (by omega), own_at h1 fun k hk _ hc _ => hf.cells k (by omega) ⟨_, _, _, hc.choose_spec.choose_spec⟩, own_at h2 fun k hk _ hc _ => hf.cells k (by omega) ⟨_, _, _, hc.choose_spec.choose_spec⟩⟩

/-- The same, its two rows named. -/
def RB2 (w : World) (g : Nat) (v1 v2 : Value) (ds : List DK) (ts : List TK) : Prop := Blk w g 30 [v1, v2] ∧ w.ownsRow (g + 1) 9 1 v1 ds.length (strs ds) ∧ w.ownsRow (g + 1) 63 3 v2 ts.length (saids ts)
theorem RB2.rb {w : World} {g : Nat} {v1 v2 : Value} {ds : List DK} {ts : List TK} (h : RB2 w g v1 v2 ds ts) : RB w g ds ts := ⟨v1, v2, h⟩
theorem RB2.through {w w' : World} {g : Nat} {v1 v2 : Value} {ds : List DK} {ts : List TK} (h : RB2 w g v1 v2 ds ts) (hb : Below w.heap.size w w') : RB2 w' g v1 v2 ds ts := ⟨h.1.through hb, own_through h.2.1 hb, own_through h.2.2 hb⟩
/-- another block is written, of another kind -/
theorem RB2.cell {w w' : World} {g b : Nat} {v1 v2 : Value} {ds : List DK} {ts : List TK} {t : TypeId} {cs : List Value} (h : RB2 w g v1 v2 ds ts) (hb : Blk w b t cs) (ho : w.grownBy w' (some b)) (hne : b ≠ g) (h1 : t ≠ 9) (h2 : t ≠ 63) : RB2 w' g v1 v2 ds ts := by
  have key : ∀ (k : Nat) (e : TypeId), t ≠ e → (∃ cs fr, w.heap[k]? = some (.cells cs e fr)) → some k ≠ some b := fun k e hte ⟨cs', fr, hc⟩ e' => by
    obtain rfl := Option.some.inj e'
    have := hb.symm.trans hc
    injection this with this
    injection this with _ e2 _
    exact hte e2
  exact ⟨h.1.grown ho (fun e => hne (Option.some.inj e).symm), own_at h.2.1 fun k _ hl hc _ => ho.block k hl (key k _ h1 hc), own_at h.2.2 fun k _ hl hc _ => ho.block k hl (key k _ h2 hc)⟩

/-- Block k is none of the kinds that the document's book's rows are. -/
def Free (w : World) (k : Nat) : Prop := ∀ cs t fr, w.heap[k]? = some (.cells cs t fr) → t ≠ 9 ∧ t ≠ 63
/-- WHAT A CALL OF THE DOCUMENT'S BOOK OF BLOCK g MAY TURN: itself, rows, and new blocks. -/
structure RF (g : Nat) (w w' : World) : Prop where
  low : Below g w w'
  rest : ∀ k, k < w.heap.size → k ≠ g → Free w k → w'.heap[k]? = w.heap[k]?
theorem RF.refl (g : Nat) (w : World) : RF g w w := ⟨Below.refl _ _, fun _ _ _ _ => rfl⟩
theorem RF.size {g : Nat} {w w' : World} (h : RF g w w') : w.heap.size ≤ w'.heap.size := h.low.size
theorem RF.trans {g : Nat} {a b c : World} (h : RF g a b) (k : RF g b c) : RF g a c :=
  ⟨h.low.trans k.low, fun i hi hg hf => by
    have e := h.rest i hi hg hf
    exact (k.rest i (Nat.lt_of_lt_of_le hi h.size) hg (fun cs t fr hc => hf cs t fr (e ▸ hc))).trans e⟩
theorem RF.of_below {g : Nat} {w w' : World} (hg : g < w.heap.size) (h : Below w.heap.size w w') : RF g w w' := ⟨h.mono (Nat.le_of_lt hg), fun k hk _ _ => h.block k hk⟩
theorem RF.below {g : Nat} {w w' w'' : World} (h : RF g w w') (hg : g < w.heap.size) (hb : Below w'.heap.size w' w'') : RF g w w'' := h.trans (RF.of_below (Nat.lt_of_lt_of_le hg h.size) hb)
theorem RF.drew {g : Nat} {w w' : World} (h : RF g w w') : RF g w w'.drew := ⟨h.low.drew, h.rest⟩
theorem RF.blk {g k : Nat} {w w' : World} {t : TypeId} {cs : List Value} (h : RF g w w') (hb : Blk w k t cs) (hk : k ≠ g) (h1 : t ≠ 9) (h2 : t ≠ 63) : Blk w' k t cs :=
  (h.rest k hb.lt hk (fun cs' t' fr hc => by
    have e : some (Obj.cells cs.toArray t (0, 0)) = some (.cells cs' t' fr) := hb.symm.trans hc
    injection e with e
    injection e with _ e2 _
    exact ⟨e2 ▸ h1, e2 ▸ h2⟩)).trans hb
/-- a row of its own is grown -/
theorem RF.grownRow {g n s : Nat} {w w' : World} {v : Value} {e : TypeId} {ys : List Value} (hown : w.ownsRow (g + 1) e s v n ys) (he : e = 9 ∨ e = 63) (hg : g < w.heap.size) (ho : w.grownBy w' v.ownBlock) : RF g w w' := by
  rcases hown.2 with ⟨rfl, _⟩ | ⟨b, cap, cur, rfl, hbg, hb, _⟩
  · exact RF.of_below hg ⟨ho.os, ho.tape, ho.output, ho.size, fun k hk => ho.block k hk (fun e => by cases e)⟩
  · refine ⟨⟨ho.os, ho.tape, ho.output, ho.size, fun k hk => ho.block k (by omega) (fun e => by have := Option.some.inj e; simp only at this; omega)⟩, fun k hk _ hf => ho.block k hk (fun e' => ?_)⟩
    obtain rfl : b = k := (Option.some.inj e').symm
    have := hf _ _ _ hb
    rcases he with rfl | rfl
    · exact this.1 rfl
    · exact this.2 rfl
/-- a cell of it is written -/
theorem RF.self {g : Nat} {w w' : World} (ho : w.grownBy w' (some g)) (hg : g < w.heap.size) : RF g w w' :=
  ⟨⟨ho.os, ho.tape, ho.output, ho.size, fun k hk => ho.block k (by omega) (fun e => by have := Option.some.inj e; omega)⟩, fun k hk hne _ => ho.block k hk (fun e => hne (Option.some.inj e))⟩
/-- the answer's own block is written -/
theorem RF.grownB {g b : Nat} {w W W' : World} (h : RF g w W) (ho : W.grownBy W' (some b)) (hb : w.heap.size ≤ b) (hg : g < w.heap.size) : RF g w W' :=
  ⟨h.low.grown ho (Nat.le_trans (Nat.le_of_lt hg) h.size) (fun k hk => Option.some.inj hk ▸ Nat.le_trans (Nat.le_of_lt hg) hb), fun k hk hne hf => (ho.block k (Nat.lt_of_lt_of_le hk h.size) (fun e => by have := Option.some.inj e; omega)).trans (h.rest k hk hne hf)⟩
/-- The program's book stands behind a call of the document's. -/
theorem BS.rf {w w' : World} {g b : Nat} {ds : List DK} {ts : List TK} (h : BS w b ds ts) (hf : RF g w w') (hb : b < g) (hg : ∃ cs t fr, w.heap[g]? = some (.cells cs t fr)) : BS w' b ds ts := by
  obtain ⟨m1, m2, h1, h2, h3, h4⟩ := h
  obtain ⟨cs, t, fr, hg⟩ := hg
  have hmap : ∀ r, r < w.heap.size → (∃ es ck, w.heap[r]? = some (.map es ck)) → w'.heap[r]? = w.heap[r]? := fun r hr ⟨es, ck, hm⟩ => hf.rest r hr (fun e => by subst e; rw [hm] at hg; cases hg) (fun cs t fr hc => by rw [hm] at hc; cases hc)
  exact ⟨m1, m2, h1.below hf.low hb, h2.keep fun r e => hmap r (h2.lt r e) (by subst e; exact h2.at), h3.keep fun r e => hmap r (h3.lt r e) (by subst e; exact h3.at), h4⟩

/-- where a key is found first -/
theorem idx_first {α : Type} [DecidableEq α] {xs : List α} {x : α} {i : Nat} (h : xs[i]? = some x) (hn : ∀ j, j < i → xs[j]? ≠ some x) : xs.idxOf x = i := by
  have hi : i < xs.length := (List.getElem?_eq_some_iff.1 h).1
  have hm : x ∈ xs := List.mem_of_getElem? h
  have hlt := List.idxOf_lt_length_of_mem hm
  have he : xs[xs.idxOf x]? = some x := by rw [List.getElem?_eq_getElem hlt, List.getElem_idxOf hlt]
  rcases Nat.lt_trichotomy (xs.idxOf x) i with h1 | h1 | h1
  · exact absurd he (hn _ h1)
  · exact h1
  · exfalso
    have e : xs = xs.take i ++ xs.drop i := (List.take_append_drop i xs).symm
    have hnt : x ∉ xs.take i := fun hx => by
      obtain ⟨j, hj⟩ := List.getElem?_of_mem hx
      rw [List.getElem?_take] at hj
      split at hj
      · exact hn j (by assumption) hj
      · cases hj
    have h2 : xs.idxOf x = (xs.drop i).idxOf x + (xs.take i).length := by
      conv => lhs; rw [e]
      rw [List.idxOf_append, if_neg hnt]
    have h3 : (xs.drop i).idxOf x = 0 := by
      rw [List.drop_eq_getElem_cons hi, (List.getElem?_eq_some_iff.1 h).2, List.idxOf_cons_self]
    simp at h2
    omega
theorem not_mem_all {α : Type} {xs : List α} {x : α} (hn : ∀ j, j < xs.length → xs[j]? ≠ some x) : x ∉ xs := fun hx => by
  obtain ⟨j, hj⟩ := List.getElem?_of_mem hx
  exact hn j (List.getElem?_eq_some_iff.1 hj).1 hj
theorem Try.info_str : (Try.prog.info? 9).map (fun i => (i.zero, i.size, i.bytes)) = some (some (.string ⟨#[]⟩), 1, 16) := by kernel_rfl
theorem Try.info_said : (Try.prog.info? 63).map (fun i => (i.zero, i.size, i.bytes)) = some (some (.agg #[.int .i64 0, .int .i64 0, .string ⟨#[]⟩]), 3, 32) := by kernel_rfl
theorem Try.size_sst (w : World) : (sizeOf 27).run Try.prog w = .ok 1 w := by kernel_rfl
theorem Try.size_ssd (w : World) : (sizeOf 28).run Try.prog w = .ok 1 w := by kernel_rfl
theorem Try.agg_ssd (w : World) : (isAgg 28).run Try.prog w = .ok false w := by kernel_rfl
theorem Try.eql_S (x y : TK) (w : World) : (Op.equal 63 (encT x) (encT y)).run Try.prog w = .ok (decide (x = y)) w := by
  obtain ⟨a, b, t⟩ := x
  obtain ⟨a', b', t'⟩ := y
  have hb := str_beq t t'
  have p0 : ∀ w, (part 3 #[.int .i64 a, .int .i64 b, .string ⟨t.toArray⟩] 0).run Try.prog w = .ok (.int .i64 a) w := fun w => run_part_plain w Try.plain_int rfl
  have p1 : ∀ w, (part 3 #[.int .i64 a, .int .i64 b, .string ⟨t.toArray⟩] 1).run Try.prog w = .ok (.int .i64 b) w := fun w => run_part_plain w Try.plain_int rfl
  have p2 : ∀ w, (part 9 #[.int .i64 a, .int .i64 b, .string ⟨t.toArray⟩] 2).run Try.prog w = .ok (.string ⟨t.toArray⟩) w := fun w => run_part_plain w Try.plain_str rfl
  have q0 : ∀ w, (part 3 #[.int .i64 a', .int .i64 b', .string ⟨t'.toArray⟩] 0).run Try.prog w = .ok (.int .i64 a') w := fun w => run_part_plain w Try.plain_int rfl
  have q1 : ∀ w, (part 3 #[.int .i64 a', .int .i64 b', .string ⟨t'.toArray⟩] 1).run Try.prog w = .ok (.int .i64 b') w := fun w => run_part_plain w Try.plain_int rfl
  have q2 : ∀ w, (part 9 #[.int .i64 a', .int .i64 b', .string ⟨t'.toArray⟩] 2).run Try.prog w = .ok (.string ⟨t'.toArray⟩) w := fun w => run_part_plain w Try.plain_str rfl
  have e0 : ∀ w, (Op.equalIn 9999 3 (.int .i64 a) (.int .i64 a')).run Try.prog w = .ok (decide (a = a')) w := fun w => by
    rw [show (9999 : Nat) = 9998 + 1 from rfl, run_equalIn_int w 9998 3 .i64 .i64 _ _ Try.underlying3, show (a == a') = decide (a = a') from by rw [Bool.eq_iff_iff]; simp]
  have e1 : ∀ w, (Op.equalIn 9999 3 (.int .i64 b) (.int .i64 b')).run Try.prog w = .ok (decide (b = b')) w := fun w => by
    rw [show (9999 : Nat) = 9998 + 1 from rfl, run_equalIn_int w 9998 3 .i64 .i64 _ _ Try.underlying3, show (b == b') = decide (b = b') from by rw [Bool.eq_iff_iff]; simp]
  have e2 : ∀ w, (Op.equalIn 9999 9 (.string ⟨t.toArray⟩) (.string ⟨t'.toArray⟩)).run Try.prog w = .ok (decide (t = t')) w := fun w => by
    rw [show (9999 : Nat) = 9998 + 1 from rfl, run_equalIn_string w 9998 9 _ _ Try.underlying9, hb]
  unfold Op.equal Op.maxDepth
  rw [show (10000 : Nat) = 9999 + 1 from rfl, run_equalIn_struct w 9999 63 _ _ (by kernel_rfl) (by kernel_rfl)]
  unfold Program.fieldsOf
  rw [Try.underlying63]
  generalize (9999 : Nat) = N at *
  simp only [Op.eqFields, Sem.run_bind, Sem.run_ite, p0, p1, p2, q0, q1, q2, e0, e1, e2, Result.andThen_ok]
  clear p0 p1 p2 q0 q1 q2 e0 e1 e2 hb
  by_cases h1 : a = a' <;> by_cases h2 : b = b' <;> by_cases h3 : t = t' <;> simp [h1, h2, h3]
theorem said_eql (x y : TK) (w : World) : (binOp .eql 63 (.agg (saidC x).toArray) (.agg (saidC y).toArray)).run Try.prog w = .ok (.bool (decide (x = y))) w := by
  have h : (Op.equalIn 10000 63 (.agg (saidC x).toArray) (.agg (saidC y).toArray)).run Try.prog w = .ok (decide (x = y)) w := Try.eql_S x y w
  rw [run_eql_struct, h]
  rfl
theorem saidC_one (x : TK) : (saidC x).toArray.all (·.oneCell') = true := by simp [saidC, Value.oneCell']
theorem saidC_ones (x : TK) : ∀ u ∈ saidC x, u.oneCell' = true := fun u hu => by
  simp [saidC] at hu
  rcases hu with rfl | rfl | rfl <;> rfl
/-- '[]Said{s}' -/
theorem run_build_said (w : World) (q : List Value) (hq : q.length = 3) : (Instr.buildSlice 28 1 #[(0, .agg q.toArray)]).run Try.prog w = .ok (.slice (some ⟨w.heap.size, 0, none⟩) 1 1) (w.alloc (.cells q.toArray 63)) := by
  have hi := Try.info_said
  obtain ⟨i, hi, he⟩ := Option.map_eq_some_iff.1 hi
  injection he with h1 he
  injection he with h2 h3
  refine run_buildSlice (P := Try.prog) w 28 63 1 _ q.toArray i _ Try.underlying28 hi h1 (by omega) (by omega) ?_
  have h := Great.fill_whole (s := 3) (by omega) [.agg q.toArray] ((Array.range (1 * i.size)).map fun x => (Value.agg #[.int .i64 0, .int .i64 0, .string ⟨#[]⟩]).cells[x % (Value.agg #[.int .i64 0, .int .i64 0, .string ⟨#[]⟩]).cells.size]!) (fun v hv => by
    obtain rfl : v = _ := by simpa using hv
    show q.toArray.size = 3
    simpa using hq) (by simp [h2])
  rw [h2] at h ⊢
  have e : ([Value.agg q.toArray].flatMap fun v => v.cells.toList) = q := by simp [Value.cells]
  rw [e] at h
  exact h
/-- what lies in a row that is owned -/
theorem own_cell1 {w : World} {base n : Nat} {e : TypeId} {A : Option Addr} {c : Nat} {ys : List Value} (h : w.ownsRow base e 1 (.slice A n c) n ys) (i : Nat) (v : Value) (hi : ys[i]? = some v) : ∃ g, A = some ⟨g, 0, none⟩ ∧ w.cell? ⟨g, i, none⟩ = some v := by
  have hl : ys.length = n := by have := h.1; omega
  have hin : i < n := by rw [← hl]; exact (List.getElem?_eq_some_iff.1 hi).1
  rcases h.2 with ⟨_, h'⟩ | ⟨g, cap, cur, hv, hbg, hg, hnc, hcm, hsz, htk⟩
  · omega
  · injection hv with hA _ hc
    subst hA
    refine ⟨g, rfl, ?_⟩
    rw [cell_of_row w g _ _ _ _ hg, ← Array.getElem?_toList, ← List.getElem?_take_of_lt (show i < n * 1 by omega), htk, hi]
theorem own_range3 {w : World} {base n : Nat} {e : TypeId} {A : Option Addr} {c : Nat} {ts : List TK} (h : w.ownsRow base e 3 (.slice A n c) n (saids ts)) (i : Nat) (x : TK) (hi : ts[i]? = some x) : ∃ g, A = some ⟨g, 0, none⟩ ∧ w.rangeAt g (i * 3) (saidC x) := by
  have hl : ts.length = n := by have := h.1; rw [saids_length] at this; omega
  have hin : i < n := by rw [← hl]; exact (List.getElem?_eq_some_iff.1 hi).1
  rcases h.2 with ⟨_, h'⟩ | ⟨g, cap, cur, hv, hbg, hg, hnc, hcm, hsz, htk⟩
  · omega
  · injection hv with hA _ hc
    subst hA
    refine ⟨g, rfl, fun k u hu => ?_⟩
    have hk : k < 3 := (List.getElem?_eq_some_iff.1 hu).1
    have h2 := saids_get ts i k x hi hk
    rw [cell_of_row w g _ _ _ _ hg, ← Array.getElem?_toList, ← List.getElem?_take_of_lt (show i * 3 + k < n * 3 by omega), htk, h2, hu]

end Go.Proofs.Ytnncfhkgcaoomaa
