/-
  Fixed, of the program's reader and of the document's, in a state; the program's readTags, walked.
-/
import Derived.Test.YtfonkdcpghbaoaaRqM
namespace Go.Proofs.Ytfonkdcpghbaoaa
open Go.RowKit

section
variable {Q : Nat → Prop} {g : Nat} {st : Option (List UInt8)} {w : World}
set_option maxHeartbeats 1000000 in
theorem fixed_at (g : Nat) (xs : List UInt8) (er k : Int) (hx : xs.length ≤ 1099511627776) (w : World) (h : RS Q w g tR xs er) :
    Calls Try.prog 93 #[.pointer (some ⟨g, 0, none⟩), .int .i64 k] w (Gave Q w g tR (takeY xs er k) (takeX xs er k) (takeE xs er k)) := by
  have hcon := take_any g xs er k w h
  have hl2 := Nat.le_trans (takeY_le xs er k) hx
  clear h
  go_enter Try.func93, Try.ntmps93
  go_wp2_with (first
    | (go_at_call 74; refine hcon.mono ?_; rintro e w1 ⟨B, m, c, rfl, hmc, hy, hr, ho⟩; have HY := Lib.hid hy; have HR := Lib.hid hr; have HO := Lib.hid ho; clear hy hr ho)
    | (go_at_call 70; refine (clone_any _ B m c _ _ HY.out (by have := HY.out.len; omega)).mono ?_; rintro e w2 ⟨v2, rfl, hown, hb⟩))
  go_ret
  exact Gave.of_made HO.out HR.out hown hb
theorem fixed_rs (h : Rs Q w g tR st) (k : Nat) : Calls Try.prog 93 #[.pointer (some ⟨g, 0, none⟩), .int .i64 k] w fun e w' => ∃ B m c, e = .returned (.slice B m c) ∧ By w' (fun _ => True) B m (tval k st) ∧ Rs Q w' g tR (nnext k st) ∧ w.grownBy w' (some g) := by
  obtain ⟨xs, er, h, hs, hl⟩ := h
  obtain ⟨h1, h2⟩ := take_st hs k
  rw [← h1]
  exact (fixed_at g xs er k hl w h).mono fun e w' ⟨B, m, c, he, hm, hy, hr, hg⟩ => ⟨B, m, c, he, hy, ⟨_, _, hr, h2, Nat.le_trans (takeX_le _ _ _) hl⟩, hg⟩
theorem rfixed_rs (h : Rs Q w g tQ st) (k : Nat) : Calls Try.prog 52 #[.pointer (some ⟨g, 0, none⟩), .int .i64 k] w fun e w' => ∃ B m c, e = .returned (.slice B m c) ∧ By w' (fun _ => True) B m (tval k st) ∧ Rs Q w' g tQ (nnext k st) ∧ w.grownBy w' (some g) := by
  obtain ⟨xs, er, h, hs, hl⟩ := h
  obtain ⟨h1, h2⟩ := take_st hs k
  rw [← h1]
  exact (rfixed_any g xs er k hl w h).mono fun e w' ⟨B, m, c, he, hm, hy, hr, hg⟩ => ⟨B, m, c, he, hy, ⟨_, _, hr, h2, Nat.le_trans (takeX_le _ _ _) hl⟩, hg⟩
end
theorem only_new_ {a b c : World} {g h : Nat} (hab : a.grownBy b (some g)) (hbc : b.grownBy c (some h)) (hh : a.heap.size ≤ h) : a.grownBy c (some g) :=
  ⟨hbc.os.trans hab.os, hbc.tape.trans hab.tape, hbc.output.trans hab.output, Nat.le_trans hab.size hbc.size, fun i hi hne => (hbc.block i (Nat.lt_of_lt_of_le hi hab.size) (fun e => by have := Option.some.inj e; omega)).trans (hab.block i hi hne)⟩
theorem tval_32 (st : Option (List UInt8)) : (tval 32 st).length = 32 ∨ tval 32 st = [] := by
  cases st with
  | none => exact .inr rfl
  | some xs =>
    rw [tval_some]
    split
    · exact .inl (by rw [List.length_take]; omega)
    · exact .inr rfl
theorem tagOf_len (l : List UInt8) : (tagOf l).length = 32 := by
  unfold tagOf
  split
  · assumption
  · simp
theorem tagOf_nil : tagOf [] = List.replicate 32 0 := rfl
theorem tagOf_32 {l : List UInt8} (h : l.length = 32) : tagOf l = l := by unfold tagOf; rw [if_pos h]
theorem vs_flat (ts : List (List UInt8)) : (ts.map vs).flatten = vs ts.flatten := by
  induction ts with
  | nil => rfl
  | cons t ts ih => rw [List.map_cons, List.flatten_cons, ih, List.flatten_cons, ← vs_append]
theorem flat_len {ts : List (List UInt8)} (h : ∀ t ∈ ts, t.length = 32) : ts.flatten.length = ts.length * 32 := by
  induction ts with
  | nil => rfl
  | cons t ts ih =>
    rw [List.flatten_cons, List.length_append, h t (List.mem_cons_self ..), ih fun u hu => h u (List.mem_cons_of_mem _ hu), List.length_cons, Nat.add_mul]
    omega
/-- the row of tags, i of them read, n in all -/
def half (pre : List (List UInt8)) (n : Nat) : List UInt8 := pre.flatten ++ List.replicate ((n - pre.length) * 32) 0
theorem half_len {pre : List (List UInt8)} {n : Nat} (h : ∀ t ∈ pre, t.length = 32) (hn : pre.length ≤ n) : (half pre n).length = n * 32 := by
  unfold half
  rw [List.length_append, flat_len h, List.length_replicate, ← Nat.add_mul]
  congr 1
  omega
theorem half_nil (n : Nat) : half [] n = List.replicate (n * 32) 0 := by simp [half]
theorem half_all {pre : List (List UInt8)} {n : Nat} (hn : pre.length = n) : half pre n = pre.flatten := by subst hn; simp [half]
theorem half_zero {pre : List (List UInt8)} {n : Nat} (hn : pre.length < n) : half (pre ++ [List.replicate 32 0]) n = half pre n := by
  unfold half
  rw [List.flatten_append, List.append_assoc]
  congr 1
  simp only [List.flatten_cons, List.flatten_nil, List.append_nil, List.length_append, List.length_cons, List.length_nil]
  rw [List.replicate_append_replicate]
  congr 1
  omega
theorem half_put {pre : List (List UInt8)} {n : Nat} {y : List UInt8} (h : ∀ t ∈ pre, t.length = 32) (hn : pre.length < n) (hy : y.length = 32) : splice (vs (half pre n)) (0 + pre.length * 32) (vs y) = vs (half (pre ++ [y]) n) := by
  have hp : (vs pre.flatten).length = pre.length * 32 := by rw [vs_length, flat_len h]
  have e1 : vs (half pre n) = vs pre.flatten ++ vs (List.replicate ((n - pre.length) * 32) 0) := by unfold half; rw [vs_append]
  have e2 : vs (half (pre ++ [y]) n) = vs pre.flatten ++ (vs y ++ vs (List.replicate ((n - (pre.length + 1)) * 32) 0)) := by
    unfold half
    rw [vs_append, vs_append]
    simp
  rw [e1, e2]
  unfold splice
  rw [Nat.zero_add, List.take_append_of_le_length (by omega), List.take_of_length_le (by omega)]
  congr 2
  rw [vs_length, hy, List.drop_append]
  rw [List.drop_eq_nil_of_le (by omega), List.nil_append, hp]
  unfold vs
  rw [← List.map_drop, List.drop_replicate]
  congr 2
  omega
theorem Try.sl_tag (g o : Nat) (W : World) : (Instr.sliceAt 80 (.pointer (some ⟨g, o, none⟩)) none none none).run Try.prog W = .ok (.slice (some ⟨g, o, none⟩) 32 32) W := by
  have ht := Try.underlying80
  obtain ⟨i, hi, _⟩ := Option.map_eq_some_iff.1 Try.info_u8
  have ea : (⟨g, o, none⟩ : Addr).add 0 = ⟨g, o, none⟩ := by simp [Addr.add]
  simp [Instr.sliceAt, Instr.sureAddr, Sem.run_bind, run_underlying ht, Instr.sliceBounds, sizeOf, typeInfo, hi, ea]
theorem made_tags (m : Nat) : madeCells (Value.agg (vs (List.replicate 32 0)).toArray).cells m = (vs (List.replicate m 0)).toArray := by
  apply Array.ext
  · rw [size_madeCells]; simp [vs]
  · intro i h1 h2
    have h3 : i % 32 < 32 := Nat.mod_lt _ (by decide)
    simp only [madeCells, Value.cells, vs, List.map_replicate, Array.getElem_map, Array.getElem_range, List.size_toArray, List.length_replicate, List.getElem_toArray, List.getElem_replicate]
    rw [getElem!_pos _ _ (by simpa using h3)]
    simp only [List.getElem_toArray, List.getElem_replicate]
theorem Try.make_tags (n : Nat) (hn : n ≤ 1000) (w : World) : (Instr.makeSlice 39 (.int .i64 (n : Int)) (.int .i64 (n : Int))).run Try.prog w = .ok (.slice (some ⟨w.heap.size, 0, none⟩) n n) (w.alloc (.cells (vs (List.replicate (n * 32) 0)).toArray 80)) := by
  obtain ⟨i, hi, h2⟩ := Option.map_eq_some_iff.1 Try.el_tg.info
  simp only [Prod.mk.injEq] at h2
  have h := run_make (P := Try.prog) w 39 80 i _ Try.underlying39 hi h2.1 .i64 .i64 (n : Int) (n : Int) (by omega) (Int.le_refl _) (by rw [h2.2.2]; omega) (by omega)
  rw [h2.2.1, Int.toNat_natCast, made_tags] at h
  exact h
/-- copy of nothing, in a region that draws -/
theorem step_copy_none {P : Program} {ops : Array Oper} {o : Oper} {a : Act} {w : World} {K : Act → World → Prop} {Q : Exit → Act → World → Prop} {E : Prop} (hgd : o.guard = none) (d s : Operand) (dT sT : TypeId)
    (ho : o.op = .call { callee := .builtin .copy, args := #[d, s], argTypes := #[dT, sT] }) (elem : TypeId) (hu : P.underlying dT = some (.slice elem)) (hsz : (P.info? elem).map (·.size) = some 1)
    (da : Option Addr) (dLen dCap : Nat) (sp : Option Addr) (sLen sCap : Nat) (hd : a.eval d = .slice da dLen dCap) (hs : a.eval s = .slice sp sLen sCap) (hn : Nat.min sLen dLen = 0)
    (h : K (a.put o.dst (.int .i64 0)) w) :
    if Region.wanted o (yielded ops a.tmps) = true then Oper.wp P o a w K Q else E := by
  have hw : Region.wanted o (yielded ops a.tmps) = true := by simp [Region.wanted, hgd]
  rw [if_pos hw]
  have hrun := run_copy_none (P := P) w dT sT o.type elem da sp dLen dCap sLen sCap hu hsz hn
  unfold Oper.wp
  simp [execOp, ho, resolve, invoke, builtin, hd, hs, hrun, Result.andThen]
  exact h
theorem rdAll_step' {α : Type} (rd : Option (List UInt8) → α × Option (List UInt8)) {k j : Nat} (hk : k = j + 1) (st : Option (List UInt8)) (pre : List α) : (pre ++ (rdAll rd k st).1, (rdAll rd k st).2) = ((pre ++ [(rd st).1]) ++ (rdAll rd j (rd st).2).1, (rdAll rd j (rd st).2).2) := by
  subst hk
  simp [rdAll]

theorem by_src {w : World} {A : Option Addr} {m : Nat} {xs : List UInt8} (h : By w (fun _ => True) A m xs) (hl : xs.length = 32) : ∃ ad, A = some ad ∧ ∀ j v, (vs xs)[j]? = some v → w.cell? (ad.add j) = some v := by
  obtain ⟨g, o, e, _, hc⟩ := h.2 (by have := h.1; omega)
  refine ⟨_, e, fun j v hj => ?_⟩
  rw [vs_get] at hj
  obtain ⟨x, hx, rfl⟩ := Option.map_eq_some_iff.1 hj
  have ea : (⟨g, o, none⟩ : Addr).add j = ⟨g, o + j, none⟩ := by unfold Addr.add; split <;> simp_all
  rw [ea]
  exact hc j x hx
theorem grown_drew {w w' : World} {r : Option Nat} (h : w.grownBy w' r) : w.grownBy w'.drew r := ⟨h.os, h.tape, h.output, h.size, fun i hi hne => h.block i hi hne⟩
theorem OTs.of_blk {w : World} {B g n : Nat} {ts : List (List UInt8)} (h : Blk w g 80 (vs ts.flatten)) (hl : ∀ t ∈ ts, t.length = 32) (hn : ts.length = n) (hB : B ≤ g) (hm : n ≤ 1000) : OTs w B (some ⟨g, 0, none⟩, n, n) ts := by
  have e : (ts.map vs).flatten.length = n * 32 := by rw [vs_flat, vs_length, flat_len hl, hn]
  refine ⟨⟨⟨by rw [e, List.length_map, hn], .inr ⟨g, n, (vs ts.flatten).toArray, by simp [Pl.val, hn], hB, h, by simp [hn], by simp [maxLen]; omega, ?_, ?_⟩⟩, fun x hx => ?_⟩, hl⟩
  · rw [List.size_toArray, ← vs_flat, e]
  · rw [List.length_map, ← vs_flat]
    exact List.take_of_length_le (by rw [e, hn]; exact Nat.le_refl _)
  · obtain ⟨t, ht, rfl⟩ := List.mem_map.1 hx
    rw [vs_length, hl t ht]

set_option maxHeartbeats 8000000 in
set_option maxRecDepth 100000 in
theorem readtags_any {Q : Nat → Prop} (g : Nat) (st : Option (List UInt8)) (n : Nat) (w : World) (h : Rs Q w g tR st) (hQ : ∀ b, Q b → b < w.heap.size) (hn : n ≤ 7) :
    Calls Try.prog 77 #[.pointer (some ⟨g, 0, none⟩), .int .i64 (n : Int)] w fun e w' => ∃ s : Pl, e = .returned (.slice s.1 s.2.1 s.2.2) ∧ OTs w' w.heap.size s (rdAll rdTg n st).1 ∧ Rs Q w' g tR (rdAll rdTg n st).2 ∧ w.grownBy w' (some g) := by
  have hmk := Try.make_tags n (by omega) w
  obtain ⟨gs, hgs⟩ : ∃ gs, w.heap.size = gs := ⟨_, rfl⟩
  have HGZ : Hid (w.heap.size ≤ gs) := Lib.hid (Nat.le_of_eq hgs)
  have HQ := Lib.hid hQ
  have HNE : Hid (gs ≠ g) := Lib.hid (by have := h.lt; omega)
  have HB0 : Hid (Blk (w.alloc (.cells (vs (List.replicate (n * 32) 0)).toArray 80)) gs 80 (vs (half [] n))) := Lib.hid (by rw [half_nil]; exact Blk.fresh hgs.symm rfl)
  have HR0 := Lib.hid (h.alloc (.cells (vs (List.replicate (n * 32) 0)).toArray 80))
  have HG0 : Hid (w.grownBy (w.alloc (.cells (vs (List.replicate (n * 32) 0)).toArray 80)) (some g)) := Lib.hid (only_below (below1_ w _))
  have HFx : Hid (∀ (W : World) {s : Option (List UInt8)}, Rs Q W g tR s → Calls Try.prog 93 #[.pointer (some ⟨g, 0, none⟩), .int .i64 32] W fun e w' => ∃ B m c, e = .returned (.slice B m c) ∧ By w' (fun _ => True) B m (tval 32 s) ∧ Rs Q w' g tR (nnext 32 s) ∧ W.grownBy w' (some g)) := Lib.hid (fun W s hR => fixed_rs hR 32)
  have HIX := Lib.hid Try.ix_tg
  obtain ⟨L, hL⟩ : ∃ L, rdAll rdTg n st = L := ⟨_, rfl⟩
  rw [hL]
  have HL0 := Lib.hid hL
  rw [hgs] at hmk
  clear h hQ hL
  go_enter Try.func77, Try.ntmps77
  go_wp2
  generalize w.alloc (.cells (vs (List.replicate (n * 32) 0)).toArray 80) = w1 at *
  clear hmk
  go_loopw [10] (fun iv wr => ∃ (i : Nat) (pre : List (List UInt8)) (s : Option (List UInt8)), i ≤ n ∧ pre.length = i ∧ iv = .int .i64 i ∧ (pre ++ (rdAll rdTg (n - i) s).1, (rdAll rdTg (n - i) s).2) = L ∧ (∀ t ∈ pre, t.length = 32) ∧ Blk wr gs 80 (vs (half pre n)) ∧ Rs Q wr g tR s ∧ w.grownBy wr (some g)) (fun iv _ => n - (intOf iv).toNat)
  case atStart => exact ⟨0, [], st, Nat.zero_le _, rfl, rfl, by simpa using HL0.out, (fun t h => by cases h), HB0.out, HR0.out, HG0.out⟩
  case round =>
    obtain ⟨i, pre, s, hi, hpi, rfl, hL, hp, hb, hr, hg⟩ := hrel
    have HL := Lib.hid hL
    have HP := Lib.hid hp
    have HPi := Lib.hid hpi
    have HPn : Hid (pre.length ≤ n) := Lib.hid (by omega)
    have HB := Lib.hid hb
    have HR := Lib.hid hr
    have HG := Lib.hid hg
    clear hL hp hpi hb hr hg
    by_cases hlt : i < n
    · have hix : ∀ W, (Instr.indexAt 39 (.slice (some ⟨gs, 0, none⟩) n n) (.int .i64 (i : Int))).run Try.prog W = .ok (.pointer (some ⟨gs, 0 + i * 32, none⟩)) W := fun W => HIX.out W gs 0 n n i hlt
      have hsl := fun W => Try.sl_tag gs (0 + i * 32) W
      rcases tval_32 s with hT | hT
      · have HT := Lib.hid hT
        clear hT
        go_wp2
        refine wp_region_held_drew (S := fun W => w.grownBy W (some g)) (by kernel_rfl) (grown_drew HG.out) (fun hHeld => ?_)
        change wpAnyH _ _ _ _ _ _ #[false, false, false, false, false, false, false] _ _
        refine wpAnyH_take (i := 0) (v := (.slice (some ⟨gs, 0, none⟩) n n)) rfl (by kernel_rfl) (by kernel_rfl) (by kernel_rfl) (fun _ _ _ h => h) (Or.inl ⟨by kernel_rfl, fun w hSw => ?_⟩) (by assumption) ?_
        · (try dsimp only at hSw); go_simp <;> (try rfl)
        change wpAnyH _ _ _ _ _ _ _ (Act.put _ (some (13 : Nat)) (.slice (some ⟨gs, 0, none⟩) n n)) _
        simp only [Act.put, List.setIfInBounds_toArray, List.set_cons_zero, List.set_cons_succ]
        refine wpAnyH_take (i := 1) (v := (.int .i64 (i : Int))) rfl (by kernel_rfl) (by kernel_rfl) (by kernel_rfl) (fun _ _ _ h => h) (Or.inl ⟨by kernel_rfl, fun w hSw => ?_⟩) (by assumption) ?_
        · (try dsimp only at hSw); go_simp <;> (try rfl)
        change wpAnyH _ _ _ _ _ _ _ (Act.put _ (some (14 : Nat)) (.int .i64 (i : Int))) _
        simp only [Act.put, List.setIfInBounds_toArray, List.set_cons_zero, List.set_cons_succ]
        refine wpAnyH_take (i := 2) (v := (.pointer (some ⟨gs, 0 + i * 32, none⟩))) rfl (by kernel_rfl) (by kernel_rfl) (by kernel_rfl) (fun _ _ _ h => h) (Or.inl ⟨by kernel_rfl, fun w hSw => ?_⟩) (by assumption) ?_
        · (try dsimp only at hSw); go_simp <;> (try rfl)
        change wpAnyH _ _ _ _ _ _ _ (Act.put _ (some (15 : Nat)) (.pointer (some ⟨gs, 0 + i * 32, none⟩))) _
        simp only [Act.put, List.setIfInBounds_toArray, List.set_cons_zero, List.set_cons_succ]
        refine wpAnyH_take (i := 3) (v := (.slice (some ⟨gs, 0 + i * 32, none⟩) 32 32)) rfl (by kernel_rfl) (by kernel_rfl) (by kernel_rfl) (fun _ _ _ h => h) (Or.inl ⟨by kernel_rfl, fun w hSw => ?_⟩) (by assumption) ?_
        · (try dsimp only at hSw); go_simp <;> (try rfl)
        change wpAnyH _ _ _ _ _ _ _ (Act.put _ (some (16 : Nat)) (.slice (some ⟨gs, 0 + i * 32, none⟩) 32 32)) _
        simp only [Act.put, List.setIfInBounds_toArray, List.set_cons_zero, List.set_cons_succ]
        refine wpAnyH_take (i := 4) (v := (.pointer (some ⟨g, 0, none⟩))) rfl (by kernel_rfl) (by kernel_rfl) (by kernel_rfl) (fun _ _ _ h => h) (Or.inl ⟨by kernel_rfl, fun w hSw => ?_⟩) (by assumption) ?_
        · (try dsimp only at hSw); go_simp <;> (try rfl)
        change wpAnyH _ _ _ _ _ _ _ (Act.put _ (some (17 : Nat)) (.pointer (some ⟨g, 0, none⟩))) _
        simp only [Act.put, List.setIfInBounds_toArray, List.set_cons_zero, List.set_cons_succ]
        refine wpAnyH_ready (rs := [5]) (by kernel_rfl) (by simp) ?_
        refine AllReadyH.cons rfl (fun K hK => ?_) AllReadyH.nil
        go_simp
        refine (HFx.out _ HR.out.drew).mono ?_
        rintro e w5 ⟨B, m, c, rfl, hy, hr5, hg5⟩; have HY5 := Lib.hid hy; have HR5 := Lib.hid hr5; have HG5 := Lib.hid hg5; have HB5 := Lib.hid (HB.out.drew.grown hg5 (fun e => HNE.out (Option.some.inj e))); clear hy hr5 hg5
        go_wp2_with fail
        refine hK.out _ _ (only_trans hHeld HG5.out) (fun hHeld1 => ?_)
        clear hHeld hK K
        have hHeld := hHeld1
        clear hHeld1
        refine wpAnyH_ready (rs := [6]) (by kernel_rfl) (by simp) ?_
        refine AllReadyH.cons (o := ⟨some 19, .call { callee := .builtin .copy, args := #[.tmp 16, .tmp 18], argTypes := #[25, 25] }, _, _, _, none⟩) rfl (fun K hK => ?_) AllReadyH.nil
        refine step_copy_blk rfl (.tmp 16) (.tmp 18) 25 25 rfl 5 Try.underlying25 (by kernel_rfl) gs (0 + i * 32) 32 32 B m c (by simp [Act.eval]) (by simp [Act.eval]) (vs (half pre n)) 80 HB5.out (vs (tval 32 s)) 32 (by rw [vs_length]; exact HT.out) (by have := HY5.out.len; have := HT.out; have h9 : m = 32 := (by omega); rw [h9]; rfl) (by decide) (by_src HY5.out HT.out) (by rw [vs_length, half_len HP.out HPn.out, Nat.zero_add]; omega) vs_one ?_; intro w6 hb6 hg6; have HB6 := Lib.hid hb6; have HG6 := Lib.hid hg6; have HR6 := Lib.hid (HR5.out.other hg6 (fun b hb => ⟨fun e => HNE.out (by rw [Option.some.inj hb]; exact e), fun h9 => by have := HQ.out b h9; have := Option.some.inj hb; have := HGZ.out; omega⟩)); clear hb6 hg6
        refine hK.out _ _ (only_new_ hHeld HG6.out HGZ.out) (fun hHeld1 => ?_)
        clear hHeld hK K
        have hHeld := hHeld1
        clear hHeld1
        change wpAnyH _ _ _ _ _ _ _ (Act.put _ (some (19 : Nat)) (.int .i64 ((32 : Nat) : Int))) _
        simp only [Act.put, List.setIfInBounds_toArray, List.set_cons_zero, List.set_cons_succ]
        refine wpAnyH_done (by kernel_rfl) ?_ _
        have HGe := Lib.hid hHeld
        clear hHeld
        go_wp2
        go_roundw
        case rel => exact ⟨i + 1, pre ++ [tval 32 s], nnext 32 s, by omega, by simp [HPi.out], by go_num, (by rw [← HL.out, rdAll_step' rdTg (j := n - (i + 1)) (by omega) s pre]; rw [show rdTg s = (tval 32 s, nnext 32 s) by unfold rdTg; rw [tagOf_32 HT.out]]), (fun t ht => (List.mem_append.1 ht).elim (HP.out t) (fun h => by rw [List.mem_singleton.1 h]; exact HT.out)), (by rw [← half_put HP.out (by have := HPi.out; omega) HT.out, HPi.out]; exact HB6.out), HR6.out, HGe.out⟩
        case measure => simp [intOf]; omega
      · have HT := Lib.hid hT
        clear hT
        go_wp2
        refine wp_region_held_drew (S := fun W => w.grownBy W (some g)) (by kernel_rfl) (grown_drew HG.out) (fun hHeld => ?_)
        change wpAnyH _ _ _ _ _ _ #[false, false, false, false, false, false, false] _ _
        refine wpAnyH_take (i := 0) (v := (.slice (some ⟨gs, 0, none⟩) n n)) rfl (by kernel_rfl) (by kernel_rfl) (by kernel_rfl) (fun _ _ _ h => h) (Or.inl ⟨by kernel_rfl, fun w hSw => ?_⟩) (by assumption) ?_
        · (try dsimp only at hSw); go_simp <;> (try rfl)
        change wpAnyH _ _ _ _ _ _ _ (Act.put _ (some (13 : Nat)) (.slice (some ⟨gs, 0, none⟩) n n)) _
        simp only [Act.put, List.setIfInBounds_toArray, List.set_cons_zero, List.set_cons_succ]
        refine wpAnyH_take (i := 1) (v := (.int .i64 (i : Int))) rfl (by kernel_rfl) (by kernel_rfl) (by kernel_rfl) (fun _ _ _ h => h) (Or.inl ⟨by kernel_rfl, fun w hSw => ?_⟩) (by assumption) ?_
        · (try dsimp only at hSw); go_simp <;> (try rfl)
        change wpAnyH _ _ _ _ _ _ _ (Act.put _ (some (14 : Nat)) (.int .i64 (i : Int))) _
        simp only [Act.put, List.setIfInBounds_toArray, List.set_cons_zero, List.set_cons_succ]
        refine wpAnyH_take (i := 2) (v := (.pointer (some ⟨gs, 0 + i * 32, none⟩))) rfl (by kernel_rfl) (by kernel_rfl) (by kernel_rfl) (fun _ _ _ h => h) (Or.inl ⟨by kernel_rfl, fun w hSw => ?_⟩) (by assumption) ?_
        · (try dsimp only at hSw); go_simp <;> (try rfl)
        change wpAnyH _ _ _ _ _ _ _ (Act.put _ (some (15 : Nat)) (.pointer (some ⟨gs, 0 + i * 32, none⟩))) _
        simp only [Act.put, List.setIfInBounds_toArray, List.set_cons_zero, List.set_cons_succ]
        refine wpAnyH_take (i := 3) (v := (.slice (some ⟨gs, 0 + i * 32, none⟩) 32 32)) rfl (by kernel_rfl) (by kernel_rfl) (by kernel_rfl) (fun _ _ _ h => h) (Or.inl ⟨by kernel_rfl, fun w hSw => ?_⟩) (by assumption) ?_
        · (try dsimp only at hSw); go_simp <;> (try rfl)
        change wpAnyH _ _ _ _ _ _ _ (Act.put _ (some (16 : Nat)) (.slice (some ⟨gs, 0 + i * 32, none⟩) 32 32)) _
        simp only [Act.put, List.setIfInBounds_toArray, List.set_cons_zero, List.set_cons_succ]
        refine wpAnyH_take (i := 4) (v := (.pointer (some ⟨g, 0, none⟩))) rfl (by kernel_rfl) (by kernel_rfl) (by kernel_rfl) (fun _ _ _ h => h) (Or.inl ⟨by kernel_rfl, fun w hSw => ?_⟩) (by assumption) ?_
        · (try dsimp only at hSw); go_simp <;> (try rfl)
        change wpAnyH _ _ _ _ _ _ _ (Act.put _ (some (17 : Nat)) (.pointer (some ⟨g, 0, none⟩))) _
        simp only [Act.put, List.setIfInBounds_toArray, List.set_cons_zero, List.set_cons_succ]
        refine wpAnyH_ready (rs := [5]) (by kernel_rfl) (by simp) ?_
        refine AllReadyH.cons rfl (fun K hK => ?_) AllReadyH.nil
        go_simp
        refine (HFx.out _ HR.out.drew).mono ?_
        rintro e w5 ⟨B, m, c, rfl, hy, hr5, hg5⟩; have HY5 := Lib.hid hy; have HR5 := Lib.hid hr5; have HG5 := Lib.hid hg5; have HB5 := Lib.hid (HB.out.drew.grown hg5 (fun e => HNE.out (Option.some.inj e))); clear hy hr5 hg5
        go_wp2_with fail
        refine hK.out _ _ (only_trans hHeld HG5.out) (fun hHeld1 => ?_)
        clear hHeld hK K
        have hHeld := hHeld1
        clear hHeld1
        refine wpAnyH_ready (rs := [6]) (by kernel_rfl) (by simp) ?_
        refine AllReadyH.cons (o := ⟨some 19, .call { callee := .builtin .copy, args := #[.tmp 16, .tmp 18], argTypes := #[25, 25] }, _, _, _, none⟩) rfl (fun K hK => ?_) AllReadyH.nil
        refine step_copy_none rfl (.tmp 16) (.tmp 18) 25 25 rfl 5 Try.underlying25 (by kernel_rfl) (some ⟨gs, 0 + i * 32, none⟩) 32 32 B m c (by simp [Act.eval]) (by simp [Act.eval]) (by have := HY5.out.len; rw [HT.out] at this; have h9 : m = 0 := (by simpa using this.symm); rw [h9]; rfl) ?_
        refine hK.out _ _ hHeld (fun hHeld1 => ?_)
        clear hHeld hK K
        have hHeld := hHeld1
        clear hHeld1
        change wpAnyH _ _ _ _ _ _ _ (Act.put _ (some (19 : Nat)) (.int .i64 0)) _
        simp only [Act.put, List.setIfInBounds_toArray, List.set_cons_zero, List.set_cons_succ]
        refine wpAnyH_done (by kernel_rfl) ?_ _
        have HGe := Lib.hid hHeld
        clear hHeld
        go_wp2
        go_roundw
        case rel => exact ⟨i + 1, pre ++ [List.replicate 32 0], nnext 32 s, by omega, by simp [HPi.out], by go_num, (by rw [← HL.out, rdAll_step' rdTg (j := n - (i + 1)) (by omega) s pre]; rw [show rdTg s = (List.replicate 32 0, nnext 32 s) by unfold rdTg; rw [HT.out, tagOf_nil]]), (fun t ht => (List.mem_append.1 ht).elim (HP.out t) (fun h => by rw [List.mem_singleton.1 h]; simp)), (by rw [half_zero (by have := HPi.out; omega)]; exact HB5.out), HR5.out, HGe.out⟩
        case measure => simp [intOf]; omega
    · have hin : i = n := by omega
      subst hin
      have hz : i - i = 0 := Nat.sub_self i
      have HLe : Hid ((pre, s) = L) := Lib.hid (by have h9 := HL.out; rw [hz] at h9; simpa [rdAll] using h9)
      go_wp2
      go_ret
      refine ⟨(some ⟨gs, 0, none⟩, i, i), rfl, ?_, ?_, HG.out⟩
      · rw [← HLe.out]
        exact OTs.of_blk (by have h9 := HB.out; rwa [half_all HPi.out] at h9) HP.out HPi.out HGZ.out (by omega)
      · rw [← HLe.out]
        exact HR.out

end Go.Proofs.Ytfonkdcpghbaoaa
