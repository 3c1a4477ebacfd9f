/-
  Fixed, of the program's reader and of the document's, in a state; the program's readTags, walked.
-/
import Derived.Test.YtpngcdafamkhcaaRqM
namespace Go.Proofs.Ytpngcdafamkhcaa
open Go.RowKit

section
variable {Q : Nat → Prop} {g : Nat} {st : Option (List UInt8)} {w : World}
set_option maxHeartbeats 1000000 in
theorem fixed_at (g : Nat) (xs : List UInt8) (er k : Int) (hx : xs.length ≤ 1099511627776) (w : World) (h : RS Q w g tR xs er) :
    Calls Try.prog 61 #[.pointer (some ⟨g, 0, none⟩), .int .i64 k] w (Gave Q w g tR (takeY xs er k) (takeX xs er k) (takeE xs er k)) := by
  have hcon := take_any g xs er k w h
  have hl2 := Nat.le_trans (takeY_le xs er k) hx
  clear h
  go_enter Try.func61, Try.ntmps61
  go_wp2_with (first
    | (go_at_call 54; refine hcon.mono ?_; rintro e w1 ⟨B, m, c, rfl, hmc, hy, hr, ho⟩; have HY := Lib.hid hy; have HR := Lib.hid hr; have HO := Lib.hid ho; clear hy hr ho)
    | (go_at_call 48; refine (clone_any _ B m c _ _ HY.out (by have := HY.out.len; omega)).mono ?_; rintro e w2 ⟨v2, rfl, hown, hb⟩))
  go_ret
  exact Gave.of_made HO.out HR.out hown hb
theorem fixed_rs (h : Rs Q w g tR st) (k : Nat) : Calls Try.prog 61 #[.pointer (some ⟨g, 0, none⟩), .int .i64 k] w fun e w' => ∃ B m c, e = .returned (.slice B m c) ∧ By w' (fun _ => True) B m (tval k st) ∧ Rs Q w' g tR (nnext k st) ∧ w.grownBy w' (some g) := by
  obtain ⟨xs, er, h, hs, hl⟩ := h
  obtain ⟨h1, h2⟩ := take_st hs k
  rw [← h1]
  exact (fixed_at g xs er k hl w h).mono fun e w' ⟨B, m, c, he, hm, hy, hr, hg⟩ => ⟨B, m, c, he, hy, ⟨_, _, hr, h2, Nat.le_trans (takeX_le _ _ _) hl⟩, hg⟩
theorem rfixed_rs (h : Rs Q w g tQ st) (k : Nat) : Calls Try.prog 57 #[.pointer (some ⟨g, 0, none⟩), .int .i64 k] w fun e w' => ∃ B m c, e = .returned (.slice B m c) ∧ By w' (fun _ => True) B m (tval k st) ∧ Rs Q w' g tQ (nnext k st) ∧ w.grownBy w' (some g) := by
  obtain ⟨xs, er, h, hs, hl⟩ := h
  obtain ⟨h1, h2⟩ := take_st hs k
  rw [← h1]
  exact (rfixed_any g xs er k hl w h).mono fun e w' ⟨B, m, c, he, hm, hy, hr, hg⟩ => ⟨B, m, c, he, hy, ⟨_, _, hr, h2, Nat.le_trans (takeX_le _ _ _) hl⟩, hg⟩
end
theorem only_new_ {a b c : World} {g h : Nat} (hab : a.grownBy b (some g)) (hbc : b.grownBy c (some h)) (hh : a.heap.size ≤ h) : a.grownBy c (some g) :=
  ⟨hbc.os.trans hab.os, hbc.tape.trans hab.tape, hbc.output.trans hab.output, Nat.le_trans hab.size hbc.size, fun i hi hne => (hbc.block i (Nat.lt_of_lt_of_le hi hab.size) (fun e => by have := Option.some.inj e; omega)).trans (hab.block i hi hne)⟩
theorem tval_32 (st : Option (List UInt8)) : (tval 32 st).length = 32 ∨ tval 32 st = [] := by
  cases st with
  | none => exact .inr rfl
  | some xs =>
    rw [tval_some]
    split
    · exact .inl (by rw [List.length_take]; omega)
    · exact .inr rfl
theorem tagOf_len (l : List UInt8) : (tagOf l).length = 32 := by
  unfold tagOf
  split
  · assumption
  · simp
theorem tagOf_nil : tagOf [] = List.replicate 32 0 := rfl
theorem tagOf_32 {l : List UInt8} (h : l.length = 32) : tagOf l = l := by unfold tagOf; rw [if_pos h]
theorem vs_flat (ts : List (List UInt8)) : (ts.map vs).flatten = vs ts.flatten := by
  induction ts with
  | nil => rfl
  | cons t ts ih => rw [List.map_cons, List.flatten_cons, ih, List.flatten_cons, ← vs_append]
theorem flat_len {ts : List (List UInt8)} (h : ∀ t ∈ ts, t.length = 32) : ts.flatten.length = ts.length * 32 := by
  induction ts with
  | nil => rfl
  | cons t ts ih =>
    rw [List.flatten_cons, List.length_append, h t (List.mem_cons_self ..), ih fun u hu => h u (List.mem_cons_of_mem _ hu), List.length_cons, Nat.add_mul]
    omega
/-- the row of tags, i of them read, n in all -/
def half (pre : List (List UInt8)) (n : Nat) : List UInt8 := pre.flatten ++ List.replicate ((n - pre.length) * 32) 0
theorem half_len {pre : List (List UInt8)} {n : Nat} (h : ∀ t ∈ pre, t.length = 32) (hn : pre.length ≤ n) : (half pre n).length = n * 32 := by
  unfold half
  rw [List.length_append, flat_len h, List.length_replicate, ← Nat.add_mul]
  congr 1
  omega
theorem half_nil (n : Nat) : half [] n = List.replicate (n * 32) 0 := by simp [half]
theorem half_all {pre : List (List UInt8)} {n : Nat} (hn : pre.length = n) : half pre n = pre.flatten := by subst hn; simp [half]
theorem half_zero {pre : List (List UInt8)} {n : Nat} (hn : pre.length < n) : half (pre ++ [List.replicate 32 0]) n = half pre n := by
  unfold half
  rw [List.flatten_append, List.append_assoc]
  congr 1
  simp only [List.flatten_cons, List.flatten_nil, List.append_nil, List.length_append, List.length_cons, List.length_nil]
  rw [List.replicate_append_replicate]
  congr 1
  omega
theorem half_put {pre : List (List UInt8)} {n : Nat} {y : List UInt8} (h : ∀ t ∈ pre, t.length = 32) (hn : pre.length < n) (hy : y.length = 32) : splice (vs (half pre n)) (0 + pre.length * 32) (vs y) = vs (half (pre ++ [y]) n) := by
  have hp : (vs pre.flatten).length = pre.length * 32 := by rw [vs_length, flat_len h]
  have e1 : vs (half pre n) = vs pre.flatten ++ vs (List.replicate ((n - pre.length) * 32) 0) := by unfold half; rw [vs_append]
  have e2 : vs (half (pre ++ [y]) n) = vs pre.flatten ++ (vs y ++ vs (List.replicate ((n - (pre.length + 1)) * 32) 0)) := by
    unfold half
    rw [vs_append, vs_append]
    simp
  rw [e1, e2]
  unfold splice
  rw [Nat.zero_add, List.take_append_of_le_length (by omega), List.take_of_length_le (by omega)]
  congr 2
  rw [vs_length, hy, List.drop_append]
  rw [List.drop_eq_nil_of_le (by omega), List.nil_append, hp]
  unfold vs
  rw [← List.map_drop, List.drop_replicate]
  congr 2
  omega
theorem made_tags (m : Nat) : madeCells (Value.agg (vs (List.replicate 32 0)).toArray).cells m = (vs (List.replicate m 0)).toArray := by
  apply Array.ext
  · rw [size_madeCells]; simp [vs]
  · intro i h1 h2
    have h3 : i % 32 < 32 := Nat.mod_lt _ (by decide)
    simp only [madeCells, Value.cells, vs, List.map_replicate, Array.getElem_map, Array.getElem_range, List.size_toArray, List.length_replicate, List.getElem_toArray, List.getElem_replicate]
    rw [getElem!_pos _ _ (by simpa using h3)]
    simp only [List.getElem_toArray, List.getElem_replicate]
/-- copy of nothing, in a region that draws -/
theorem step_copy_none {P : Program} {ops : Array Oper} {o : Oper} {a : Act} {w : World} {K : Act → World → Prop} {Q : Exit → Act → World → Prop} {E : Prop} (hgd : o.guard = none) (d s : Operand) (dT sT : TypeId)
    (ho : o.op = .call { callee := .builtin .copy, args := #[d, s], argTypes := #[dT, sT] }) (elem : TypeId) (hu : P.underlying dT = some (.slice elem)) (hsz : (P.info? elem).map (·.size) = some 1)
    (da : Option Addr) (dLen dCap : Nat) (sp : Option Addr) (sLen sCap : Nat) (hd : a.eval d = .slice da dLen dCap) (hs : a.eval s = .slice sp sLen sCap) (hn : Nat.min sLen dLen = 0)
    (h : K (a.put o.dst (.int .i64 0)) w) :
    if Region.wanted o (yielded ops a.tmps) = true then Oper.wp P o a w K Q else E := by
  have hw : Region.wanted o (yielded ops a.tmps) = true := by simp [Region.wanted, hgd]
  rw [if_pos hw]
  have hrun := run_copy_none (P := P) w dT sT o.type elem da sp dLen dCap sLen sCap hu hsz hn
  unfold Oper.wp
  simp [execOp, ho, resolve, invoke, builtin, hd, hs, hrun, Result.andThen]
  exact h
theorem rdAll_step' {α : Type} (rd : Option (List UInt8) → α × Option (List UInt8)) {k j : Nat} (hk : k = j + 1) (st : Option (List UInt8)) (pre : List α) : (pre ++ (rdAll rd k st).1, (rdAll rd k st).2) = ((pre ++ [(rd st).1]) ++ (rdAll rd j (rd st).2).1, (rdAll rd j (rd st).2).2) := by
  subst hk
  simp [rdAll]

theorem by_src {w : World} {A : Option Addr} {m : Nat} {xs : List UInt8} (h : By w (fun _ => True) A m xs) (hl : xs.length = 32) : ∃ ad, A = some ad ∧ ∀ j v, (vs xs)[j]? = some v → w.cell? (ad.add j) = some v := by
  obtain ⟨g, o, e, _, hc⟩ := h.2 (by have := h.1; omega)
  refine ⟨_, e, fun j v hj => ?_⟩
  rw [vs_get] at hj
  obtain ⟨x, hx, rfl⟩ := Option.map_eq_some_iff.1 hj
  have ea : (⟨g, o, none⟩ : Addr).add j = ⟨g, o + j, none⟩ := by unfold Addr.add; split <;> simp_all
  rw [ea]
  exact hc j x hx
theorem grown_drew {w w' : World} {r : Option Nat} (h : w.grownBy w' r) : w.grownBy w'.drew r := ⟨h.os, h.tape, h.output, h.size, fun i hi hne => h.block i hi hne⟩
end Go.Proofs.Ytpngcdafamkhcaa
