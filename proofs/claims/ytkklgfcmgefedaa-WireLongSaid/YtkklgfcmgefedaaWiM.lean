/-
  The law WireLong, walked.
-/
import Derived.Test.YtkklgfcmgefedaaWiI
import Derived.Test.YtkklgfcmgefedaaEl2
namespace Go.Proofs.Ytkklgfcmgefedaa
open Go.RowKit

theorem Try.make_bytes (L : Nat) (hL : L ≤ 2000000) (w : World) : (Instr.makeSlice 22 (.int .i64 (L : Int)) (.int .i64 (L : Int))).run Try.prog w = .ok (.slice (some ⟨w.heap.size, 0, none⟩) L L) (w.alloc (.cells (vs (List.replicate L 0)).toArray 5)) := by
  obtain ⟨i, hi, hz0, hz1, hz2⟩ := info_parts Try.info_u8
  have h := run_make (P := Try.prog) w 22 5 i _ Try.underlying22 hi hz0 .i64 .i64 (L : Int) (L : Int) (by omega) (Int.le_refl _) (by rw [hz2]; omega) (by omega)
  have e : madeCells (Value.int .u8 0).cells (L * 1) = (vs (List.replicate L 0)).toArray := by
    apply Array.ext
    · rw [size_madeCells]; simp [vs]
    · intro j h1 h2
      simp [madeCells, Value.cells, vs, u8, Nat.mod_one]
  rw [hz1, Int.toNat_natCast, e] at h
  exact h
theorem Try.alloc_ms (w : World) : (Instr.alloc 25 true (.tuple #[])).run Try.prog w = .ok (.pointer (some ⟨w.heap.size, 0, none⟩)) (w.alloc (.cells #[.int .i64 0, .int .i64 0, .slice none 0 0, .slice none 0 0] 25)) := by kernel_rfl
theorem Try.build_msl (a : Int) (A : Option Addr) (n c : Nat) (B : Option Addr) (m d : Nat) (w : World) : (Instr.build 25 #[(0, .int .i64 a), (2, .slice A n c), (3, .slice B m d)]).run Try.prog w = .ok (.agg #[.int .i64 a, .int .i64 0, .slice A n c, .slice B m d]) w := by kernel_rfl
theorem step_make {P : Program} {ops : Array Oper} {o : Oper} {a : Act} {w : World} {K : Act → World → Prop} {Q : Exit → Act → World → Prop} {E : Prop} (hgd : o.guard = none) (t : TypeId) (x : Operand) (ho : o.op = .makeSlice t x x) (p v : Value) (hx : a.eval x = p) (w' : World) (hrun : (Instr.makeSlice t p p).run P w = .ok v w') (h : K (a.put o.dst v) w') : if Region.wanted o (yielded ops a.tmps) = true then Oper.wp P o a w K Q else E := by
  have hw : Region.wanted o (yielded ops a.tmps) = true := by simp [Region.wanted, hgd]
  rw [if_pos hw]
  unfold Oper.wp execOp
  simp only [ho, hx, Sem.run_bind, hrun, Result.andThen_ok]
  exact h
theorem step_make_by {ops : Array Oper} {o : Oper} {a : Act} {w : World} {K : Act → World → Prop} {Q : Exit → Act → World → Prop} {E : Prop} (hgd : o.guard = none) (x : Operand) (ho : o.op = .makeSlice 22 x x) (L : Nat) (hx : a.eval x = .int .i64 (L : Int)) (hL : L ≤ 2000000)
    (h : ∀ (g : Nat) (w' : World), w.heap.size ≤ g → By w' (fun _ => True) (some ⟨g, 0, none⟩) L (List.replicate L 0) → Below w.heap.size w w' → K (a.put o.dst (.slice (some ⟨g, 0, none⟩) L L)) w') : if Region.wanted o (yielded ops a.tmps) = true then Oper.wp Try.prog o a w K Q else E :=
  step_make hgd 22 x ho _ _ hx _ (Try.make_bytes L hL w) (h _ _ (Nat.le_refl _) (By.of_blk_n (Blk.fresh rfl rfl : Blk (w.alloc (.cells (vs (List.replicate L 0)).toArray 5)) w.heap.size 5 (vs (List.replicate L 0))) (by simp) trivial) (below1_ w _))
theorem step_make_tgs {ops : Array Oper} {o : Oper} {a : Act} {w : World} {K : Act → World → Prop} {Q : Exit → Act → World → Prop} {E : Prop} (hgd : o.guard = none) (x : Operand) (ho : o.op = .makeSlice 23 x x) (n : Nat) (hx : a.eval x = .int .i64 (n : Int)) (hn : n ≤ 1000)
    (h : ∀ (g : Nat) (w' : World), w.heap.size ≤ g → TsIn w' (some ⟨g, 0, none⟩, n, n) (List.replicate n (List.replicate 32 0)) → Below w.heap.size w w' → K (a.put o.dst (.slice (some ⟨g, 0, none⟩) n n)) w') : if Region.wanted o (yielded ops a.tmps) = true then Oper.wp Try.prog o a w K Q else E :=
  step_make hgd 23 x ho _ _ hx _ (Try.make_tags n hn w) (h _ _ (Nat.le_refl _) (OTs.of_blk (B := 0) (by rw [List.flatten_replicate_replicate]; exact Blk.fresh rfl rfl) (fun t ht => by rw [(List.mem_replicate.1 ht).2]; simp) (by simp) (Nat.zero_le _) hn).out (below1_ w _))
theorem step_alloc_ms {ops : Array Oper} {o : Oper} {a : Act} {w : World} {K : Act → World → Prop} {Q : Exit → Act → World → Prop} {E : Prop} (hgd : o.guard = none) (ho : o.op = .alloc 25)
    (h : ∀ (g : Nat) (w' : World), w.heap.size ≤ g → Blk w' g 25 [.int .i64 0, .int .i64 0, .slice none 0 0, .slice none 0 0] → Below w.heap.size w w' → K (a.put o.dst (.pointer (some ⟨g, 0, none⟩))) w') : if Region.wanted o (yielded ops a.tmps) = true then Oper.wp Try.prog o a w K Q else E :=
  step_alloc (by simp [Region.wanted, hgd]) 25 ho _ _ (Try.alloc_ms w) (h _ _ (Nat.le_refl _) (Blk.fresh rfl rfl) (below1_ w _))
theorem below_drew_ {w : World} : Below w.heap.size w w.drew := (Below.refl _ _).drew
/-- what bytes of a long message tell -/
theorem long_ms (k L n : Nat) (hL : (L : Int) = 1048566 - 32 * n + k) (hk : k ≤ 4) (hn : n ≤ 7) (m : Ms) (hm : m = ⟨1, 0, List.replicate L 0, List.replicate n (List.replicate 32 0)⟩) :
    (encM m).length = 1048574 + k ∧ chkM m = (if 2 < k then 3 else 0) ∧ (parseM (encM m)).2 = (if 2 < k then 3 else 0) := by
  have ht : ∀ t ∈ m.ts, t.length = 32 := fun t h => by subst hm; rw [(List.mem_replicate.1 h).2]; simp
  have hl : (encM m).length = 1048574 + k := by
    rw [encM_len m ht]
    subst hm
    simp only [List.length_replicate]
    omega
  have hf : formM m = true := by subst hm; rfl
  have ht7 : m.ts.length = n := by subst hm; simp
  clear hm
  have hc : chkM m = (if 2 < k then 3 else 0) := by
    unfold chkM
    rw [hf, if_neg (by simp), if_neg (by omega)]
    by_cases h2 : 2 < k
    · rw [if_pos (by omega), if_pos h2]
    · rw [if_neg (by omega), if_neg h2]
  refine ⟨hl, hc, ?_⟩
  by_cases h2 : 2 < k
  · rw [if_pos h2]
    unfold parseM
    rw [if_pos (by omega)]
  · rw [if_neg h2] at hc ⊢
    rw [parseM_back hc ht]

set_option maxHeartbeats 64000000 in
set_option maxRecDepth 100000 in
theorem wirelong_any (y0 y1 : Int) (w : World) (h0 : 0 ≤ y0 ∧ y0 ≤ 255) (h1 : 0 ≤ y1 ∧ y1 ≤ 255) :
    Calls Try.prog 5 #[.int .u8 y0, .int .u8 y1] w fun e w' => e = .returned (.bool true) ∧ Below w.heap.size w w' := by
  have HFx : Hid (∀ w : World, Calls Try.prog 7 #[] w fun e w' => e = .returned (.bool true) ∧ Below w.heap.size w w') := Lib.hid fixedw
  obtain ⟨n, hm8⟩ : ∃ n : Nat, y1 % 8 = (n : Int) := ⟨(y1 % 8).toNat, by omega⟩
  obtain ⟨k, hm5⟩ : ∃ k : Nat, y0 % 5 = (k : Int) := ⟨(y0 % 5).toNat, by omega⟩
  obtain ⟨a16, q16⟩ : ∃ a : Nat, 32 * (n : Int) = (a : Int) := ⟨32 * n, by omega⟩
  obtain ⟨a17, q17⟩ : ∃ a : Nat, 1048568 - (a16 : Int) = (a : Int) := ⟨1048568 - a16, by omega⟩
  obtain ⟨a18, q18⟩ : ∃ a : Nat, (a17 : Int) - 2 = (a : Int) := ⟨a17 - 2, by omega⟩
  obtain ⟨L, q22⟩ : ∃ a : Nat, (a18 : Int) + (k : Int) = (a : Int) := ⟨a18 + k, by omega⟩
  have hw16 : IntKind.i64.wrap (32 * (n : Int)) = (a16 : Int) := by rw [IntWalk.i64_in _ (by omega)]; exact q16
  have hw17 : IntKind.i64.wrap (1048568 - (a16 : Int)) = (a17 : Int) := by rw [IntWalk.i64_in _ (by omega)]; exact q17
  have hw18 : IntKind.i64.wrap ((a17 : Int) - 2) = (a18 : Int) := by rw [IntWalk.i64_in _ (by omega)]; exact q18
  have hw22 : IntKind.i64.wrap ((a18 : Int) + (k : Int)) = (L : Int) := by rw [IntWalk.i64_in _ (by omega)]; exact q22
  have hn7 : n ≤ 7 := by omega
  have hk4 : k ≤ 4 := by omega
  have HLb : Hid (L ≤ 2000000) := Lib.hid (by omega)
  have HNb : Hid (n ≤ 1000) := Lib.hid (by omega)
  obtain ⟨lg, hlg⟩ : ∃ lg, decide (2 < (k : Int)) = lg := ⟨_, rfl⟩
  obtain ⟨er, hE⟩ : ∃ er : Int, (if 2 < k then 3 else 0) = er := ⟨_, rfl⟩
  obtain ⟨e1, e2, e3⟩ := long_ms k L n (by omega) hk4 hn7 ⟨1, 0, List.replicate L 0, List.replicate n (List.replicate 32 0)⟩ rfl
  rw [hE] at e2 e3
  obtain ⟨P, hP⟩ : ∃ P, (parseM (encM ⟨1, 0, List.replicate L 0, List.replicate n (List.replicate 32 0)⟩)).1 = P := ⟨_, rfl⟩
  obtain ⟨EB, hEB⟩ : ∃ EB, encM ⟨1, 0, List.replicate L 0, List.replicate n (List.replicate 32 0)⟩ = EB := ⟨_, rfl⟩
  have he3 : (er == 3) = lg := by
    rw [← hlg, ← hE]
    by_cases h2 : 2 < k
    · rw [if_pos h2, decide_eq_true (by omega)]; rfl
    · rw [if_neg h2, decide_eq_false (by omega)]; rfl
  have he0 : (er == 0) = !lg := by
    rw [← hlg, ← hE]
    by_cases h2 : 2 < k
    · rw [if_pos h2, decide_eq_true (by omega)]; rfl
    · rw [if_neg h2, decide_eq_false (by omega)]; rfl
  have HBy : Hid (∀ (g8 g10 : Nat) (W : World), MsIn W (some ⟨g8, 0, none⟩) L (some ⟨g10, 0, none⟩) n n ⟨1, 0, List.replicate L 0, List.replicate n (List.replicate 32 0)⟩ → Calls Try.prog 8 #[.agg #[.int .i64 1, .int .i64 0, .slice (some ⟨g8, 0, none⟩) L L, .slice (some ⟨g10, 0, none⟩) n n]] W (Byt W EB)) := Lib.hid (fun g8 g10 W h => by
    have h9 := bytes_any ⟨1, 0, List.replicate L 0, List.replicate n (List.replicate 32 0)⟩ (some ⟨g8, 0, none⟩) L L (some ⟨g10, 0, none⟩) n n W h (by omega) (by omega)
    rw [hEB] at h9
    exact h9)
  have HPa : Hid (∀ (A : Option Addr) (n c : Nat) (W : World), By W (fun _ => True) A n EB → Calls Try.prog 14 #[.slice A n c] W (MsOut W P er)) := Lib.hid (fun A n c W h => by
    have h9 := parse_any EB A n c W h
    rw [← hEB, e3, hP] at h9
    exact h9)
  have HCk : Hid (∀ (g8 g10 : Nat) (W : World), MsIn W (some ⟨g8, 0, none⟩) L (some ⟨g10, 0, none⟩) n n ⟨1, 0, List.replicate L 0, List.replicate n (List.replicate 32 0)⟩ → Calls Try.prog 9 #[.agg #[.int .i64 1, .int .i64 0, .slice (some ⟨g8, 0, none⟩) L L, .slice (some ⟨g10, 0, none⟩) n n]] W fun e w' => e = .returned (.int .i64 er) ∧ Below W.heap.size W w') := Lib.hid (fun g8 g10 W h => by
    have h9 := check_any ⟨1, 0, List.replicate L 0, List.replicate n (List.replicate 32 0)⟩ (some ⟨g8, 0, none⟩) L L (some ⟨g10, 0, none⟩) n n W h
    rw [e2] at h9
    exact h9)
  have hwk : IntKind.i64.wrap (k : Int) = (k : Int) := IntWalk.i64_in _ (by omega)
  have hwn : IntKind.i64.wrap (n : Int) = (n : Int) := IntWalk.i64_in _ (by omega)
  have ht8 : y1.tmod 8 = (n : Int) := by rw [Int.tmod_eq_emod_of_nonneg (by omega)]; exact hm8
  have ht5 : y0.tmod 5 = (k : Int) := by rw [Int.tmod_eq_emod_of_nonneg (by omega)]; exact hm5
  have hwk2 : wrap64 (k : Int) = (k : Int) := by unfold wrap64; omega
  have hwn2 : wrap64 (n : Int) = (n : Int) := by unfold wrap64; omega
  clear h0 h1 q16 q17 q18 q22 hn7 hk4 hE e1 e2 e3 hP hEB
  go_enter Try.func5, Try.ntmps5
  go_wp2_with (first
    | (go_at_call 7; (with_reducible refine (HFx.out _).mono ?_); rintro e w1 ⟨rfl, hb1⟩; have HX1 := Lib.hid hb1; clear hb1))
  try dsimp only [Act.put]
  refine wp_region_held_drew (S := fun W => Below w1.drew.heap.size w1.drew W) (by kernel_rfl) (Below.refl _ _) (fun hHeld => ?_)
  change wpAnyH _ _ _ _ _ _ #[false, false, false, false, false, false, false, false, false, false, false, false, false, false] _ _
  refine wpAnyH_take (i := 0) (v := (.int .i64 (n : Int))) rfl (by kernel_rfl) (by kernel_rfl) (by kernel_rfl) (fun _ _ _ h => h) (Or.inl ⟨by kernel_rfl, fun w hSw => ?_⟩) (by assumption) ?_
  · (try dsimp only at hSw); go_simp <;> (try rfl)
  change wpAnyH _ _ _ _ _ _ _ (Act.put _ (some (15 : Nat)) (.int .i64 (n : Int))) _
  simp only [Act.put, List.setIfInBounds_toArray, List.set_cons_zero, List.set_cons_succ]
  refine wpAnyH_take (i := 1) (v := (.int .i64 (a16 : Int))) rfl (by kernel_rfl) (by kernel_rfl) (by kernel_rfl) (fun _ _ _ h => h) (Or.inl ⟨by kernel_rfl, fun w hSw => ?_⟩) (by assumption) ?_
  · (try dsimp only at hSw); go_simp <;> (try rfl)
  change wpAnyH _ _ _ _ _ _ _ (Act.put _ (some (16 : Nat)) (.int .i64 (a16 : Int))) _
  simp only [Act.put, List.setIfInBounds_toArray, List.set_cons_zero, List.set_cons_succ]
  refine wpAnyH_take (i := 2) (v := (.int .i64 (a17 : Int))) rfl (by kernel_rfl) (by kernel_rfl) (by kernel_rfl) (fun _ _ _ h => h) (Or.inl ⟨by kernel_rfl, fun w hSw => ?_⟩) (by assumption) ?_
  · (try dsimp only at hSw); go_simp <;> (try rfl)
  change wpAnyH _ _ _ _ _ _ _ (Act.put _ (some (17 : Nat)) (.int .i64 (a17 : Int))) _
  simp only [Act.put, List.setIfInBounds_toArray, List.set_cons_zero, List.set_cons_succ]
  refine wpAnyH_take (i := 3) (v := (.int .i64 (a18 : Int))) rfl (by kernel_rfl) (by kernel_rfl) (by kernel_rfl) (fun _ _ _ h => h) (Or.inl ⟨by kernel_rfl, fun w hSw => ?_⟩) (by assumption) ?_
  · (try dsimp only at hSw); go_simp <;> (try rfl)
  change wpAnyH _ _ _ _ _ _ _ (Act.put _ (some (18 : Nat)) (.int .i64 (a18 : Int))) _
  simp only [Act.put, List.setIfInBounds_toArray, List.set_cons_zero, List.set_cons_succ]
  refine wpAnyH_take (i := 4) (v := (.int .u8 y0)) rfl (by kernel_rfl) (by kernel_rfl) (by kernel_rfl) (fun _ _ _ h => h) (Or.inl ⟨by kernel_rfl, fun w hSw => ?_⟩) (by assumption) ?_
  · (try dsimp only at hSw); go_simp <;> (try rfl)
  change wpAnyH _ _ _ _ _ _ _ (Act.put _ (some (19 : Nat)) (.int .u8 y0)) _
  simp only [Act.put, List.setIfInBounds_toArray, List.set_cons_zero, List.set_cons_succ]
  refine wpAnyH_take (i := 5) (v := (.int .u8 (k : Int))) rfl (by kernel_rfl) (by kernel_rfl) (by kernel_rfl) (fun _ _ _ h => h) (Or.inl ⟨by kernel_rfl, fun w hSw => ?_⟩) (by assumption) ?_
  · (try dsimp only at hSw); go_simp <;> (try rfl)
  change wpAnyH _ _ _ _ _ _ _ (Act.put _ (some (20 : Nat)) (.int .u8 (k : Int))) _
  simp only [Act.put, List.setIfInBounds_toArray, List.set_cons_zero, List.set_cons_succ]
  refine wpAnyH_take (i := 6) (v := (.int .i64 (k : Int))) rfl (by kernel_rfl) (by kernel_rfl) (by kernel_rfl) (fun _ _ _ h => h) (Or.inl ⟨by kernel_rfl, fun w hSw => ?_⟩) (by assumption) ?_
  · (try dsimp only at hSw); go_simp <;> (try rfl)
  change wpAnyH _ _ _ _ _ _ _ (Act.put _ (some (21 : Nat)) (.int .i64 (k : Int))) _
  simp only [Act.put, List.setIfInBounds_toArray, List.set_cons_zero, List.set_cons_succ]
  refine wpAnyH_take (i := 7) (v := (.int .i64 (L : Int))) rfl (by kernel_rfl) (by kernel_rfl) (by kernel_rfl) (fun _ _ _ h => h) (Or.inl ⟨by kernel_rfl, fun w hSw => ?_⟩) (by assumption) ?_
  · (try dsimp only at hSw); go_simp <;> (try rfl)
  change wpAnyH _ _ _ _ _ _ _ (Act.put _ (some (22 : Nat)) (.int .i64 (L : Int))) _
  simp only [Act.put, List.setIfInBounds_toArray, List.set_cons_zero, List.set_cons_succ]
  refine wpAnyH_take (i := 9) (v := (.int .i64 (n : Int))) rfl (by kernel_rfl) (by kernel_rfl) (by kernel_rfl) (fun _ _ _ h => h) (Or.inl ⟨by kernel_rfl, fun w hSw => ?_⟩) (by assumption) ?_
  · (try dsimp only at hSw); go_simp <;> (try rfl)
  change wpAnyH _ _ _ _ _ _ _ (Act.put _ (some (24 : Nat)) (.int .i64 (n : Int))) _
  simp only [Act.put, List.setIfInBounds_toArray, List.set_cons_zero, List.set_cons_succ]
  refine wpAnyH_ready (rs := [8, 10, 12]) (by kernel_rfl) (by simp) ?_
  refine AllReadyH.cons (o := ⟨some 23, .makeSlice 22 (.tmp 22) (.tmp 22), _, _, _, none⟩) rfl (fun K hK => ?_) (AllReadyH.cons (o := ⟨some 25, .makeSlice 23 (.tmp 24) (.tmp 24), _, _, _, none⟩) rfl (fun K hK => ?_) (AllReadyH.cons (o := ⟨some 6, .alloc 25, _, _, _, none⟩) rfl (fun K hK => ?_) AllReadyH.nil))
  · as_aux_lemma =>
    refine step_make_by rfl (.tmp 22) rfl L (by simp [Act.eval]) HLb.out ?_; intro g8 w8 hg8 hy8 hb8; have HB8 := Lib.hid hy8; have HH8 := Lib.hid (below_step hHeld hb8); clear hg8 hy8 hb8
    refine hK.out _ _ HH8.out (fun hHeld1 => ?_)
    clear hHeld hK K
    have hHeld := hHeld1
    clear hHeld1
    change wpAnyH _ _ _ _ _ _ _ (Act.put _ (some (23 : Nat)) (.slice (some ⟨g8, 0, none⟩) L L)) _
    simp only [Act.put, List.setIfInBounds_toArray, List.set_cons_zero, List.set_cons_succ]
    refine wpAnyH_ready (rs := [10, 12]) (by kernel_rfl) (by simp) ?_
    refine AllReadyH.cons (o := ⟨some 25, .makeSlice 23 (.tmp 24) (.tmp 24), _, _, _, none⟩) rfl (fun K hK => ?_) (AllReadyH.cons (o := ⟨some 6, .alloc 25, _, _, _, none⟩) rfl (fun K hK => ?_) AllReadyH.nil)
    · as_aux_lemma =>
      refine step_make_tgs rfl (.tmp 24) rfl n (by simp [Act.eval]) HNb.out ?_; intro g10 w10 hg10 hy10 hb10; have HB10 := Lib.hid hy10; have HB8 := Lib.hid (HB8.out.through hb10); have HH10 := Lib.hid (below_step hHeld hb10); clear hg10 hy10 hb10
      refine hK.out _ _ HH10.out (fun hHeld1 => ?_)
      clear hHeld hK K
      have hHeld := hHeld1
      clear hHeld1
      change wpAnyH _ _ _ _ _ _ _ (Act.put _ (some (25 : Nat)) (.slice (some ⟨g10, 0, none⟩) n n)) _
      simp only [Act.put, List.setIfInBounds_toArray, List.set_cons_zero, List.set_cons_succ]
      refine wpAnyH_take (i := 11) (v := (.agg #[.int .i64 1, .int .i64 0, .slice (some ⟨g8, 0, none⟩) L L, .slice (some ⟨g10, 0, none⟩) n n])) rfl (by kernel_rfl) (by kernel_rfl) (by kernel_rfl) (fun _ _ _ h => h) (yields_build (by kernel_rfl) 25 #[(0, .const (.int .i64 1)), (2, .tmp 23), (3, .tmp 25)] rfl #[(0, .int .i64 1), (2, .slice (some ⟨g8, 0, none⟩) L L), (3, .slice (some ⟨g10, 0, none⟩) n n)] (by simp [Act.eval]) _ (fun W _ => Try.build_msl 1 (some ⟨g8, 0, none⟩) L L (some ⟨g10, 0, none⟩) n n W)) (by assumption) ?_
      change wpAnyH _ _ _ _ _ _ _ (Act.put _ (some (26 : Nat)) (.agg #[.int .i64 1, .int .i64 0, .slice (some ⟨g8, 0, none⟩) L L, .slice (some ⟨g10, 0, none⟩) n n])) _
      simp only [Act.put, List.setIfInBounds_toArray, List.set_cons_zero, List.set_cons_succ]
      refine wpAnyH_ready (rs := [12]) (by kernel_rfl) (by simp) ?_
      refine AllReadyH.cons (o := ⟨some 6, .alloc 25, _, _, _, none⟩) rfl (fun K hK => ?_) AllReadyH.nil
      refine step_alloc_ms rfl rfl ?_; intro g12 w12 hg12 hy12 hb12; have HB12 := Lib.hid hy12; have HG12 : Hid (w1.drew.heap.size ≤ g12) := Lib.hid (Nat.le_trans hHeld.size hg12); have HB8 := Lib.hid (HB8.out.through hb12); have HB10 := Lib.hid (HB10.out.through hb12); have HH12 := Lib.hid (below_step hHeld hb12); clear hg12 hy12 hb12
      refine hK.out _ _ HH12.out (fun hHeld1 => ?_)
      clear hHeld hK K
      have hHeld := hHeld1
      clear hHeld1
      change wpAnyH _ _ _ _ _ _ _ (Act.put _ (some (6 : Nat)) (.pointer (some ⟨g12, 0, none⟩))) _
      simp only [Act.put, List.setIfInBounds_toArray, List.set_cons_zero, List.set_cons_succ]
      refine wpAnyH_ready (rs := [13]) (by kernel_rfl) (by simp) ?_
      refine AllReadyH.cons (o := ⟨none, .store 25 (.tmp 6) (.tmp 26), _, _, _, none⟩) rfl (fun K hK => ?_) AllReadyH.nil
      refine step_store_blk rfl 25 (.tmp 6) (.tmp 26) rfl g12 [.int .i64 1, .int .i64 0, .slice (some ⟨g8, 0, none⟩) L L, .slice (some ⟨g10, 0, none⟩) n n] (by simp [Act.eval]) (by simp [Act.eval]) 25 [.int .i64 0, .int .i64 0, .slice none 0 0, .slice none 0 0] HB12.out (by kernel_rfl) rfl (one4m _ _ _ _ _ _ _ _) ?_; intro w13 hb13 hg13; have HB13 := Lib.hid hb13; have HMr : Hid (MsIn w13 (some ⟨g8, 0, none⟩) L (some ⟨g10, 0, none⟩) n n ⟨1, 0, List.replicate L 0, List.replicate n (List.replicate 32 0)⟩) := Lib.hid ⟨HB8.out.far hg13 HB12.out (no8 _ _ _ _ _ _ _ _), HB10.out.far_ hg13 HB12.out (no8 _ _ _ _ _ _ _ _)⟩; have HH13 := Lib.hid (hHeld.grown hg13 hHeld.size (fun k hk => by have := Option.some.inj hk; have := HG12.out; omega)); clear hb13 hg13
      refine hK.out _ _ HH13.out (fun hHeld1 => ?_)
      clear hHeld hK K
      have hHeld := hHeld1
      clear hHeld1
      change wpAnyH _ _ _ _ _ _ _ (Act.put _ none undef) _
      simp only [Act.put]
      refine wpAnyH_done (by kernel_rfl) ?_ _
      have HXr : Hid (Below w.heap.size w w13) := Lib.hid (below_step (below_step HX1.out below_drew_) hHeld)
      clear hHeld
      go_wp2_with (first
        | (refine wpList_load_blk rfl 25 (.tmp 6) rfl g12 rfl 25 [.int .i64 1, .int .i64 0, .slice (some ⟨g8, 0, none⟩) L L, .slice (some ⟨g10, 0, none⟩) n n] _ HB13.out Try.underlying25 rfl (by kernel_rfl) ?_)
        | (go_at_call 8; (with_reducible refine (HBy.out _ _ _ HMr.out).mono ?_); rintro e w2 ⟨A2, n2, d2, rfl, hy2, _, _, hb2⟩; have HY2 := Lib.hid hy2; have HX2 := Lib.hid (below_step HXr.out hb2); have HM2 := Lib.hid (HMr.out.through hb2); have HK2 := Lib.hid (HB13.out.through hb2); clear hy2 hb2)
        | (go_at_call 14; (with_reducible refine (HPa.out _ _ _ _ HY2.out).mono ?_); rintro e w3 ⟨B3, n3, c3, A3, t3, d3, rfl, _, hb3⟩; have HM3 := Lib.hid ((HM2.out.through hb3).through (below1_ w3 (.cells #[.int .i64 P.kd, .int .i64 P.fr, .slice B3 n3 c3, .slice A3 t3 d3] 25))); have HK3 := Lib.hid ((HK2.out.through hb3).alloc (.cells #[.int .i64 P.kd, .int .i64 P.fr, .slice B3 n3 c3, .slice A3 t3 d3] 25)); have HX3 : Hid (Below w.heap.size w (w3.alloc (.cells #[.int .i64 P.kd, .int .i64 P.fr, .slice B3 n3 c3, .slice A3 t3 d3] 25))) := Lib.hid ((below_step HX2.out hb3).alloc (below_step HX2.out hb3).size (.cells #[.int .i64 P.kd, .int .i64 P.fr, .slice B3 n3 c3, .slice A3 t3 d3] 25)); clear hb3)
        | (refine wpList_load_blk rfl 25 (.tmp 6) rfl g12 rfl 25 [.int .i64 1, .int .i64 0, .slice (some ⟨g8, 0, none⟩) L L, .slice (some ⟨g10, 0, none⟩) n n] _ HK3.out Try.underlying25 rfl (by kernel_rfl) ?_)
        | (go_at_call 9; (with_reducible refine (HCk.out _ _ _ HM3.out).mono ?_); rintro e w4 ⟨rfl, hb4⟩; have HX4 := Lib.hid (below_step HX3.out hb4); clear hb4))
      go_ret
      exact ⟨rfl, HX4.out⟩
    · as_aux_lemma =>
      refine step_alloc_ms rfl rfl ?_; intro g12 w12 hg12 hy12 hb12; have HB12 := Lib.hid hy12; have HG12 : Hid (w1.drew.heap.size ≤ g12) := Lib.hid (Nat.le_trans hHeld.size hg12); have HB8 := Lib.hid (HB8.out.through hb12); have HH12 := Lib.hid (below_step hHeld hb12); clear hg12 hy12 hb12
      refine hK.out _ _ HH12.out (fun hHeld1 => ?_)
      clear hHeld hK K
      have hHeld := hHeld1
      clear hHeld1
      change wpAnyH _ _ _ _ _ _ _ (Act.put _ (some (6 : Nat)) (.pointer (some ⟨g12, 0, none⟩))) _
      simp only [Act.put, List.setIfInBounds_toArray, List.set_cons_zero, List.set_cons_succ]
      refine wpAnyH_ready (rs := [10]) (by kernel_rfl) (by simp) ?_
      refine AllReadyH.cons (o := ⟨some 25, .makeSlice 23 (.tmp 24) (.tmp 24), _, _, _, none⟩) rfl (fun K hK => ?_) AllReadyH.nil
      refine step_make_tgs rfl (.tmp 24) rfl n (by simp [Act.eval]) HNb.out ?_; intro g10 w10 hg10 hy10 hb10; have HB10 := Lib.hid hy10; have HB8 := Lib.hid (HB8.out.through hb10); have HB12 := Lib.hid (HB12.out.through hb10); have HH10 := Lib.hid (below_step hHeld hb10); clear hg10 hy10 hb10
      refine hK.out _ _ HH10.out (fun hHeld1 => ?_)
      clear hHeld hK K
      have hHeld := hHeld1
      clear hHeld1
      change wpAnyH _ _ _ _ _ _ _ (Act.put _ (some (25 : Nat)) (.slice (some ⟨g10, 0, none⟩) n n)) _
      simp only [Act.put, List.setIfInBounds_toArray, List.set_cons_zero, List.set_cons_succ]
      refine wpAnyH_take (i := 11) (v := (.agg #[.int .i64 1, .int .i64 0, .slice (some ⟨g8, 0, none⟩) L L, .slice (some ⟨g10, 0, none⟩) n n])) rfl (by kernel_rfl) (by kernel_rfl) (by kernel_rfl) (fun _ _ _ h => h) (yields_build (by kernel_rfl) 25 #[(0, .const (.int .i64 1)), (2, .tmp 23), (3, .tmp 25)] rfl #[(0, .int .i64 1), (2, .slice (some ⟨g8, 0, none⟩) L L), (3, .slice (some ⟨g10, 0, none⟩) n n)] (by simp [Act.eval]) _ (fun W _ => Try.build_msl 1 (some ⟨g8, 0, none⟩) L L (some ⟨g10, 0, none⟩) n n W)) (by assumption) ?_
      change wpAnyH _ _ _ _ _ _ _ (Act.put _ (some (26 : Nat)) (.agg #[.int .i64 1, .int .i64 0, .slice (some ⟨g8, 0, none⟩) L L, .slice (some ⟨g10, 0, none⟩) n n])) _
      simp only [Act.put, List.setIfInBounds_toArray, List.set_cons_zero, List.set_cons_succ]
      refine wpAnyH_ready (rs := [13]) (by kernel_rfl) (by simp) ?_
      refine AllReadyH.cons (o := ⟨none, .store 25 (.tmp 6) (.tmp 26), _, _, _, none⟩) rfl (fun K hK => ?_) AllReadyH.nil
      refine step_store_blk rfl 25 (.tmp 6) (.tmp 26) rfl g12 [.int .i64 1, .int .i64 0, .slice (some ⟨g8, 0, none⟩) L L, .slice (some ⟨g10, 0, none⟩) n n] (by simp [Act.eval]) (by simp [Act.eval]) 25 [.int .i64 0, .int .i64 0, .slice none 0 0, .slice none 0 0] HB12.out (by kernel_rfl) rfl (one4m _ _ _ _ _ _ _ _) ?_; intro w13 hb13 hg13; have HB13 := Lib.hid hb13; have HMr : Hid (MsIn w13 (some ⟨g8, 0, none⟩) L (some ⟨g10, 0, none⟩) n n ⟨1, 0, List.replicate L 0, List.replicate n (List.replicate 32 0)⟩) := Lib.hid ⟨HB8.out.far hg13 HB12.out (no8 _ _ _ _ _ _ _ _), HB10.out.far_ hg13 HB12.out (no8 _ _ _ _ _ _ _ _)⟩; have HH13 := Lib.hid (hHeld.grown hg13 hHeld.size (fun k hk => by have := Option.some.inj hk; have := HG12.out; omega)); clear hb13 hg13
      refine hK.out _ _ HH13.out (fun hHeld1 => ?_)
      clear hHeld hK K
      have hHeld := hHeld1
      clear hHeld1
      change wpAnyH _ _ _ _ _ _ _ (Act.put _ none undef) _
      simp only [Act.put]
      refine wpAnyH_done (by kernel_rfl) ?_ _
      have HXr : Hid (Below w.heap.size w w13) := Lib.hid (below_step (below_step HX1.out below_drew_) hHeld)
      clear hHeld
      go_wp2_with (first
        | (refine wpList_load_blk rfl 25 (.tmp 6) rfl g12 rfl 25 [.int .i64 1, .int .i64 0, .slice (some ⟨g8, 0, none⟩) L L, .slice (some ⟨g10, 0, none⟩) n n] _ HB13.out Try.underlying25 rfl (by kernel_rfl) ?_)
        | (go_at_call 8; (with_reducible refine (HBy.out _ _ _ HMr.out).mono ?_); rintro e w2 ⟨A2, n2, d2, rfl, hy2, _, _, hb2⟩; have HY2 := Lib.hid hy2; have HX2 := Lib.hid (below_step HXr.out hb2); have HM2 := Lib.hid (HMr.out.through hb2); have HK2 := Lib.hid (HB13.out.through hb2); clear hy2 hb2)
        | (go_at_call 14; (with_reducible refine (HPa.out _ _ _ _ HY2.out).mono ?_); rintro e w3 ⟨B3, n3, c3, A3, t3, d3, rfl, _, hb3⟩; have HM3 := Lib.hid ((HM2.out.through hb3).through (below1_ w3 (.cells #[.int .i64 P.kd, .int .i64 P.fr, .slice B3 n3 c3, .slice A3 t3 d3] 25))); have HK3 := Lib.hid ((HK2.out.through hb3).alloc (.cells #[.int .i64 P.kd, .int .i64 P.fr, .slice B3 n3 c3, .slice A3 t3 d3] 25)); have HX3 : Hid (Below w.heap.size w (w3.alloc (.cells #[.int .i64 P.kd, .int .i64 P.fr, .slice B3 n3 c3, .slice A3 t3 d3] 25))) := Lib.hid ((below_step HX2.out hb3).alloc (below_step HX2.out hb3).size (.cells #[.int .i64 P.kd, .int .i64 P.fr, .slice B3 n3 c3, .slice A3 t3 d3] 25)); clear hb3)
        | (refine wpList_load_blk rfl 25 (.tmp 6) rfl g12 rfl 25 [.int .i64 1, .int .i64 0, .slice (some ⟨g8, 0, none⟩) L L, .slice (some ⟨g10, 0, none⟩) n n] _ HK3.out Try.underlying25 rfl (by kernel_rfl) ?_)
        | (go_at_call 9; (with_reducible refine (HCk.out _ _ _ HM3.out).mono ?_); rintro e w4 ⟨rfl, hb4⟩; have HX4 := Lib.hid (below_step HX3.out hb4); clear hb4))
      go_ret
      exact ⟨rfl, HX4.out⟩
  · as_aux_lemma =>
    refine step_make_tgs rfl (.tmp 24) rfl n (by simp [Act.eval]) HNb.out ?_; intro g10 w10 hg10 hy10 hb10; have HB10 := Lib.hid hy10; have HH10 := Lib.hid (below_step hHeld hb10); clear hg10 hy10 hb10
    refine hK.out _ _ HH10.out (fun hHeld1 => ?_)
    clear hHeld hK K
    have hHeld := hHeld1
    clear hHeld1
    change wpAnyH _ _ _ _ _ _ _ (Act.put _ (some (25 : Nat)) (.slice (some ⟨g10, 0, none⟩) n n)) _
    simp only [Act.put, List.setIfInBounds_toArray, List.set_cons_zero, List.set_cons_succ]
    refine wpAnyH_ready (rs := [8, 12]) (by kernel_rfl) (by simp) ?_
    refine AllReadyH.cons (o := ⟨some 23, .makeSlice 22 (.tmp 22) (.tmp 22), _, _, _, none⟩) rfl (fun K hK => ?_) (AllReadyH.cons (o := ⟨some 6, .alloc 25, _, _, _, none⟩) rfl (fun K hK => ?_) AllReadyH.nil)
    · as_aux_lemma =>
      refine step_make_by rfl (.tmp 22) rfl L (by simp [Act.eval]) HLb.out ?_; intro g8 w8 hg8 hy8 hb8; have HB8 := Lib.hid hy8; have HB10 := Lib.hid (HB10.out.through hb8); have HH8 := Lib.hid (below_step hHeld hb8); clear hg8 hy8 hb8
      refine hK.out _ _ HH8.out (fun hHeld1 => ?_)
      clear hHeld hK K
      have hHeld := hHeld1
      clear hHeld1
      change wpAnyH _ _ _ _ _ _ _ (Act.put _ (some (23 : Nat)) (.slice (some ⟨g8, 0, none⟩) L L)) _
      simp only [Act.put, List.setIfInBounds_toArray, List.set_cons_zero, List.set_cons_succ]
      refine wpAnyH_take (i := 11) (v := (.agg #[.int .i64 1, .int .i64 0, .slice (some ⟨g8, 0, none⟩) L L, .slice (some ⟨g10, 0, none⟩) n n])) rfl (by kernel_rfl) (by kernel_rfl) (by kernel_rfl) (fun _ _ _ h => h) (yields_build (by kernel_rfl) 25 #[(0, .const (.int .i64 1)), (2, .tmp 23), (3, .tmp 25)] rfl #[(0, .int .i64 1), (2, .slice (some ⟨g8, 0, none⟩) L L), (3, .slice (some ⟨g10, 0, none⟩) n n)] (by simp [Act.eval]) _ (fun W _ => Try.build_msl 1 (some ⟨g8, 0, none⟩) L L (some ⟨g10, 0, none⟩) n n W)) (by assumption) ?_
      change wpAnyH _ _ _ _ _ _ _ (Act.put _ (some (26 : Nat)) (.agg #[.int .i64 1, .int .i64 0, .slice (some ⟨g8, 0, none⟩) L L, .slice (some ⟨g10, 0, none⟩) n n])) _
      simp only [Act.put, List.setIfInBounds_toArray, List.set_cons_zero, List.set_cons_succ]
      refine wpAnyH_ready (rs := [12]) (by kernel_rfl) (by simp) ?_
      refine AllReadyH.cons (o := ⟨some 6, .alloc 25, _, _, _, none⟩) rfl (fun K hK => ?_) AllReadyH.nil
      refine step_alloc_ms rfl rfl ?_; intro g12 w12 hg12 hy12 hb12; have HB12 := Lib.hid hy12; have HG12 : Hid (w1.drew.heap.size ≤ g12) := Lib.hid (Nat.le_trans hHeld.size hg12); have HB8 := Lib.hid (HB8.out.through hb12); have HB10 := Lib.hid (HB10.out.through hb12); have HH12 := Lib.hid (below_step hHeld hb12); clear hg12 hy12 hb12
      refine hK.out _ _ HH12.out (fun hHeld1 => ?_)
      clear hHeld hK K
      have hHeld := hHeld1
      clear hHeld1
      change wpAnyH _ _ _ _ _ _ _ (Act.put _ (some (6 : Nat)) (.pointer (some ⟨g12, 0, none⟩))) _
      simp only [Act.put, List.setIfInBounds_toArray, List.set_cons_zero, List.set_cons_succ]
      refine wpAnyH_ready (rs := [13]) (by kernel_rfl) (by simp) ?_
      refine AllReadyH.cons (o := ⟨none, .store 25 (.tmp 6) (.tmp 26), _, _, _, none⟩) rfl (fun K hK => ?_) AllReadyH.nil
      refine step_store_blk rfl 25 (.tmp 6) (.tmp 26) rfl g12 [.int .i64 1, .int .i64 0, .slice (some ⟨g8, 0, none⟩) L L, .slice (some ⟨g10, 0, none⟩) n n] (by simp [Act.eval]) (by simp [Act.eval]) 25 [.int .i64 0, .int .i64 0, .slice none 0 0, .slice none 0 0] HB12.out (by kernel_rfl) rfl (one4m _ _ _ _ _ _ _ _) ?_; intro w13 hb13 hg13; have HB13 := Lib.hid hb13; have HMr : Hid (MsIn w13 (some ⟨g8, 0, none⟩) L (some ⟨g10, 0, none⟩) n n ⟨1, 0, List.replicate L 0, List.replicate n (List.replicate 32 0)⟩) := Lib.hid ⟨HB8.out.far hg13 HB12.out (no8 _ _ _ _ _ _ _ _), HB10.out.far_ hg13 HB12.out (no8 _ _ _ _ _ _ _ _)⟩; have HH13 := Lib.hid (hHeld.grown hg13 hHeld.size (fun k hk => by have := Option.some.inj hk; have := HG12.out; omega)); clear hb13 hg13
      refine hK.out _ _ HH13.out (fun hHeld1 => ?_)
      clear hHeld hK K
      have hHeld := hHeld1
      clear hHeld1
      change wpAnyH _ _ _ _ _ _ _ (Act.put _ none undef) _
      simp only [Act.put]
      refine wpAnyH_done (by kernel_rfl) ?_ _
      have HXr : Hid (Below w.heap.size w w13) := Lib.hid (below_step (below_step HX1.out below_drew_) hHeld)
      clear hHeld
      go_wp2_with (first
        | (refine wpList_load_blk rfl 25 (.tmp 6) rfl g12 rfl 25 [.int .i64 1, .int .i64 0, .slice (some ⟨g8, 0, none⟩) L L, .slice (some ⟨g10, 0, none⟩) n n] _ HB13.out Try.underlying25 rfl (by kernel_rfl) ?_)
        | (go_at_call 8; (with_reducible refine (HBy.out _ _ _ HMr.out).mono ?_); rintro e w2 ⟨A2, n2, d2, rfl, hy2, _, _, hb2⟩; have HY2 := Lib.hid hy2; have HX2 := Lib.hid (below_step HXr.out hb2); have HM2 := Lib.hid (HMr.out.through hb2); have HK2 := Lib.hid (HB13.out.through hb2); clear hy2 hb2)
        | (go_at_call 14; (with_reducible refine (HPa.out _ _ _ _ HY2.out).mono ?_); rintro e w3 ⟨B3, n3, c3, A3, t3, d3, rfl, _, hb3⟩; have HM3 := Lib.hid ((HM2.out.through hb3).through (below1_ w3 (.cells #[.int .i64 P.kd, .int .i64 P.fr, .slice B3 n3 c3, .slice A3 t3 d3] 25))); have HK3 := Lib.hid ((HK2.out.through hb3).alloc (.cells #[.int .i64 P.kd, .int .i64 P.fr, .slice B3 n3 c3, .slice A3 t3 d3] 25)); have HX3 : Hid (Below w.heap.size w (w3.alloc (.cells #[.int .i64 P.kd, .int .i64 P.fr, .slice B3 n3 c3, .slice A3 t3 d3] 25))) := Lib.hid ((below_step HX2.out hb3).alloc (below_step HX2.out hb3).size (.cells #[.int .i64 P.kd, .int .i64 P.fr, .slice B3 n3 c3, .slice A3 t3 d3] 25)); clear hb3)
        | (refine wpList_load_blk rfl 25 (.tmp 6) rfl g12 rfl 25 [.int .i64 1, .int .i64 0, .slice (some ⟨g8, 0, none⟩) L L, .slice (some ⟨g10, 0, none⟩) n n] _ HK3.out Try.underlying25 rfl (by kernel_rfl) ?_)
        | (go_at_call 9; (with_reducible refine (HCk.out _ _ _ HM3.out).mono ?_); rintro e w4 ⟨rfl, hb4⟩; have HX4 := Lib.hid (below_step HX3.out hb4); clear hb4))
      go_ret
      exact ⟨rfl, HX4.out⟩
    · as_aux_lemma =>
      refine step_alloc_ms rfl rfl ?_; intro g12 w12 hg12 hy12 hb12; have HB12 := Lib.hid hy12; have HG12 : Hid (w1.drew.heap.size ≤ g12) := Lib.hid (Nat.le_trans hHeld.size hg12); have HB10 := Lib.hid (HB10.out.through hb12); have HH12 := Lib.hid (below_step hHeld hb12); clear hg12 hy12 hb12
      refine hK.out _ _ HH12.out (fun hHeld1 => ?_)
      clear hHeld hK K
      have hHeld := hHeld1
      clear hHeld1
      change wpAnyH _ _ _ _ _ _ _ (Act.put _ (some (6 : Nat)) (.pointer (some ⟨g12, 0, none⟩))) _
      simp only [Act.put, List.setIfInBounds_toArray, List.set_cons_zero, List.set_cons_succ]
      refine wpAnyH_ready (rs := [8]) (by kernel_rfl) (by simp) ?_
      refine AllReadyH.cons (o := ⟨some 23, .makeSlice 22 (.tmp 22) (.tmp 22), _, _, _, none⟩) rfl (fun K hK => ?_) AllReadyH.nil
      refine step_make_by rfl (.tmp 22) rfl L (by simp [Act.eval]) HLb.out ?_; intro g8 w8 hg8 hy8 hb8; have HB8 := Lib.hid hy8; have HB10 := Lib.hid (HB10.out.through hb8); have HB12 := Lib.hid (HB12.out.through hb8); have HH8 := Lib.hid (below_step hHeld hb8); clear hg8 hy8 hb8
      refine hK.out _ _ HH8.out (fun hHeld1 => ?_)
      clear hHeld hK K
      have hHeld := hHeld1
      clear hHeld1
      change wpAnyH _ _ _ _ _ _ _ (Act.put _ (some (23 : Nat)) (.slice (some ⟨g8, 0, none⟩) L L)) _
      simp only [Act.put, List.setIfInBounds_toArray, List.set_cons_zero, List.set_cons_succ]
      refine wpAnyH_take (i := 11) (v := (.agg #[.int .i64 1, .int .i64 0, .slice (some ⟨g8, 0, none⟩) L L, .slice (some ⟨g10, 0, none⟩) n n])) rfl (by kernel_rfl) (by kernel_rfl) (by kernel_rfl) (fun _ _ _ h => h) (yields_build (by kernel_rfl) 25 #[(0, .const (.int .i64 1)), (2, .tmp 23), (3, .tmp 25)] rfl #[(0, .int .i64 1), (2, .slice (some ⟨g8, 0, none⟩) L L), (3, .slice (some ⟨g10, 0, none⟩) n n)] (by simp [Act.eval]) _ (fun W _ => Try.build_msl 1 (some ⟨g8, 0, none⟩) L L (some ⟨g10, 0, none⟩) n n W)) (by assumption) ?_
      change wpAnyH _ _ _ _ _ _ _ (Act.put _ (some (26 : Nat)) (.agg #[.int .i64 1, .int .i64 0, .slice (some ⟨g8, 0, none⟩) L L, .slice (some ⟨g10, 0, none⟩) n n])) _
      simp only [Act.put, List.setIfInBounds_toArray, List.set_cons_zero, List.set_cons_succ]
      refine wpAnyH_ready (rs := [13]) (by kernel_rfl) (by simp) ?_
      refine AllReadyH.cons (o := ⟨none, .store 25 (.tmp 6) (.tmp 26), _, _, _, none⟩) rfl (fun K hK => ?_) AllReadyH.nil
      refine step_store_blk rfl 25 (.tmp 6) (.tmp 26) rfl g12 [.int .i64 1, .int .i64 0, .slice (some ⟨g8, 0, none⟩) L L, .slice (some ⟨g10, 0, none⟩) n n] (by simp [Act.eval]) (by simp [Act.eval]) 25 [.int .i64 0, .int .i64 0, .slice none 0 0, .slice none 0 0] HB12.out (by kernel_rfl) rfl (one4m _ _ _ _ _ _ _ _) ?_; intro w13 hb13 hg13; have HB13 := Lib.hid hb13; have HMr : Hid (MsIn w13 (some ⟨g8, 0, none⟩) L (some ⟨g10, 0, none⟩) n n ⟨1, 0, List.replicate L 0, List.replicate n (List.replicate 32 0)⟩) := Lib.hid ⟨HB8.out.far hg13 HB12.out (no8 _ _ _ _ _ _ _ _), HB10.out.far_ hg13 HB12.out (no8 _ _ _ _ _ _ _ _)⟩; have HH13 := Lib.hid (hHeld.grown hg13 hHeld.size (fun k hk => by have := Option.some.inj hk; have := HG12.out; omega)); clear hb13 hg13
      refine hK.out _ _ HH13.out (fun hHeld1 => ?_)
      clear hHeld hK K
      have hHeld := hHeld1
      clear hHeld1
      change wpAnyH _ _ _ _ _ _ _ (Act.put _ none undef) _
      simp only [Act.put]
      refine wpAnyH_done (by kernel_rfl) ?_ _
      have HXr : Hid (Below w.heap.size w w13) := Lib.hid (below_step (below_step HX1.out below_drew_) hHeld)
      clear hHeld
      go_wp2_with (first
        | (refine wpList_load_blk rfl 25 (.tmp 6) rfl g12 rfl 25 [.int .i64 1, .int .i64 0, .slice (some ⟨g8, 0, none⟩) L L, .slice (some ⟨g10, 0, none⟩) n n] _ HB13.out Try.underlying25 rfl (by kernel_rfl) ?_)
        | (go_at_call 8; (with_reducible refine (HBy.out _ _ _ HMr.out).mono ?_); rintro e w2 ⟨A2, n2, d2, rfl, hy2, _, _, hb2⟩; have HY2 := Lib.hid hy2; have HX2 := Lib.hid (below_step HXr.out hb2); have HM2 := Lib.hid (HMr.out.through hb2); have HK2 := Lib.hid (HB13.out.through hb2); clear hy2 hb2)
        | (go_at_call 14; (with_reducible refine (HPa.out _ _ _ _ HY2.out).mono ?_); rintro e w3 ⟨B3, n3, c3, A3, t3, d3, rfl, _, hb3⟩; have HM3 := Lib.hid ((HM2.out.through hb3).through (below1_ w3 (.cells #[.int .i64 P.kd, .int .i64 P.fr, .slice B3 n3 c3, .slice A3 t3 d3] 25))); have HK3 := Lib.hid ((HK2.out.through hb3).alloc (.cells #[.int .i64 P.kd, .int .i64 P.fr, .slice B3 n3 c3, .slice A3 t3 d3] 25)); have HX3 : Hid (Below w.heap.size w (w3.alloc (.cells #[.int .i64 P.kd, .int .i64 P.fr, .slice B3 n3 c3, .slice A3 t3 d3] 25))) := Lib.hid ((below_step HX2.out hb3).alloc (below_step HX2.out hb3).size (.cells #[.int .i64 P.kd, .int .i64 P.fr, .slice B3 n3 c3, .slice A3 t3 d3] 25)); clear hb3)
        | (refine wpList_load_blk rfl 25 (.tmp 6) rfl g12 rfl 25 [.int .i64 1, .int .i64 0, .slice (some ⟨g8, 0, none⟩) L L, .slice (some ⟨g10, 0, none⟩) n n] _ HK3.out Try.underlying25 rfl (by kernel_rfl) ?_)
        | (go_at_call 9; (with_reducible refine (HCk.out _ _ _ HM3.out).mono ?_); rintro e w4 ⟨rfl, hb4⟩; have HX4 := Lib.hid (below_step HX3.out hb4); clear hb4))
      go_ret
      exact ⟨rfl, HX4.out⟩
  · as_aux_lemma =>
    refine step_alloc_ms rfl rfl ?_; intro g12 w12 hg12 hy12 hb12; have HB12 := Lib.hid hy12; have HG12 : Hid (w1.drew.heap.size ≤ g12) := Lib.hid (Nat.le_trans hHeld.size hg12); have HH12 := Lib.hid (below_step hHeld hb12); clear hg12 hy12 hb12
    refine hK.out _ _ HH12.out (fun hHeld1 => ?_)
    clear hHeld hK K
    have hHeld := hHeld1
    clear hHeld1
    change wpAnyH _ _ _ _ _ _ _ (Act.put _ (some (6 : Nat)) (.pointer (some ⟨g12, 0, none⟩))) _
    simp only [Act.put, List.setIfInBounds_toArray, List.set_cons_zero, List.set_cons_succ]
    refine wpAnyH_ready (rs := [8, 10]) (by kernel_rfl) (by simp) ?_
    refine AllReadyH.cons (o := ⟨some 23, .makeSlice 22 (.tmp 22) (.tmp 22), _, _, _, none⟩) rfl (fun K hK => ?_) (AllReadyH.cons (o := ⟨some 25, .makeSlice 23 (.tmp 24) (.tmp 24), _, _, _, none⟩) rfl (fun K hK => ?_) AllReadyH.nil)
    · as_aux_lemma =>
      refine step_make_by rfl (.tmp 22) rfl L (by simp [Act.eval]) HLb.out ?_; intro g8 w8 hg8 hy8 hb8; have HB8 := Lib.hid hy8; have HB12 := Lib.hid (HB12.out.through hb8); have HH8 := Lib.hid (below_step hHeld hb8); clear hg8 hy8 hb8
      refine hK.out _ _ HH8.out (fun hHeld1 => ?_)
      clear hHeld hK K
      have hHeld := hHeld1
      clear hHeld1
      change wpAnyH _ _ _ _ _ _ _ (Act.put _ (some (23 : Nat)) (.slice (some ⟨g8, 0, none⟩) L L)) _
      simp only [Act.put, List.setIfInBounds_toArray, List.set_cons_zero, List.set_cons_succ]
      refine wpAnyH_ready (rs := [10]) (by kernel_rfl) (by simp) ?_
      refine AllReadyH.cons (o := ⟨some 25, .makeSlice 23 (.tmp 24) (.tmp 24), _, _, _, none⟩) rfl (fun K hK => ?_) AllReadyH.nil
      refine step_make_tgs rfl (.tmp 24) rfl n (by simp [Act.eval]) HNb.out ?_; intro g10 w10 hg10 hy10 hb10; have HB10 := Lib.hid hy10; have HB8 := Lib.hid (HB8.out.through hb10); have HB12 := Lib.hid (HB12.out.through hb10); have HH10 := Lib.hid (below_step hHeld hb10); clear hg10 hy10 hb10
      refine hK.out _ _ HH10.out (fun hHeld1 => ?_)
      clear hHeld hK K
      have hHeld := hHeld1
      clear hHeld1
      change wpAnyH _ _ _ _ _ _ _ (Act.put _ (some (25 : Nat)) (.slice (some ⟨g10, 0, none⟩) n n)) _
      simp only [Act.put, List.setIfInBounds_toArray, List.set_cons_zero, List.set_cons_succ]
      refine wpAnyH_take (i := 11) (v := (.agg #[.int .i64 1, .int .i64 0, .slice (some ⟨g8, 0, none⟩) L L, .slice (some ⟨g10, 0, none⟩) n n])) rfl (by kernel_rfl) (by kernel_rfl) (by kernel_rfl) (fun _ _ _ h => h) (yields_build (by kernel_rfl) 25 #[(0, .const (.int .i64 1)), (2, .tmp 23), (3, .tmp 25)] rfl #[(0, .int .i64 1), (2, .slice (some ⟨g8, 0, none⟩) L L), (3, .slice (some ⟨g10, 0, none⟩) n n)] (by simp [Act.eval]) _ (fun W _ => Try.build_msl 1 (some ⟨g8, 0, none⟩) L L (some ⟨g10, 0, none⟩) n n W)) (by assumption) ?_
      change wpAnyH _ _ _ _ _ _ _ (Act.put _ (some (26 : Nat)) (.agg #[.int .i64 1, .int .i64 0, .slice (some ⟨g8, 0, none⟩) L L, .slice (some ⟨g10, 0, none⟩) n n])) _
      simp only [Act.put, List.setIfInBounds_toArray, List.set_cons_zero, List.set_cons_succ]
      refine wpAnyH_ready (rs := [13]) (by kernel_rfl) (by simp) ?_
      refine AllReadyH.cons (o := ⟨none, .store 25 (.tmp 6) (.tmp 26), _, _, _, none⟩) rfl (fun K hK => ?_) AllReadyH.nil
      refine step_store_blk rfl 25 (.tmp 6) (.tmp 26) rfl g12 [.int .i64 1, .int .i64 0, .slice (some ⟨g8, 0, none⟩) L L, .slice (some ⟨g10, 0, none⟩) n n] (by simp [Act.eval]) (by simp [Act.eval]) 25 [.int .i64 0, .int .i64 0, .slice none 0 0, .slice none 0 0] HB12.out (by kernel_rfl) rfl (one4m _ _ _ _ _ _ _ _) ?_; intro w13 hb13 hg13; have HB13 := Lib.hid hb13; have HMr : Hid (MsIn w13 (some ⟨g8, 0, none⟩) L (some ⟨g10, 0, none⟩) n n ⟨1, 0, List.replicate L 0, List.replicate n (List.replicate 32 0)⟩) := Lib.hid ⟨HB8.out.far hg13 HB12.out (no8 _ _ _ _ _ _ _ _), HB10.out.far_ hg13 HB12.out (no8 _ _ _ _ _ _ _ _)⟩; have HH13 := Lib.hid (hHeld.grown hg13 hHeld.size (fun k hk => by have := Option.some.inj hk; have := HG12.out; omega)); clear hb13 hg13
      refine hK.out _ _ HH13.out (fun hHeld1 => ?_)
      clear hHeld hK K
      have hHeld := hHeld1
      clear hHeld1
      change wpAnyH _ _ _ _ _ _ _ (Act.put _ none undef) _
      simp only [Act.put]
      refine wpAnyH_done (by kernel_rfl) ?_ _
      have HXr : Hid (Below w.heap.size w w13) := Lib.hid (below_step (below_step HX1.out below_drew_) hHeld)
      clear hHeld
      go_wp2_with (first
        | (refine wpList_load_blk rfl 25 (.tmp 6) rfl g12 rfl 25 [.int .i64 1, .int .i64 0, .slice (some ⟨g8, 0, none⟩) L L, .slice (some ⟨g10, 0, none⟩) n n] _ HB13.out Try.underlying25 rfl (by kernel_rfl) ?_)
        | (go_at_call 8; (with_reducible refine (HBy.out _ _ _ HMr.out).mono ?_); rintro e w2 ⟨A2, n2, d2, rfl, hy2, _, _, hb2⟩; have HY2 := Lib.hid hy2; have HX2 := Lib.hid (below_step HXr.out hb2); have HM2 := Lib.hid (HMr.out.through hb2); have HK2 := Lib.hid (HB13.out.through hb2); clear hy2 hb2)
        | (go_at_call 14; (with_reducible refine (HPa.out _ _ _ _ HY2.out).mono ?_); rintro e w3 ⟨B3, n3, c3, A3, t3, d3, rfl, _, hb3⟩; have HM3 := Lib.hid ((HM2.out.through hb3).through (below1_ w3 (.cells #[.int .i64 P.kd, .int .i64 P.fr, .slice B3 n3 c3, .slice A3 t3 d3] 25))); have HK3 := Lib.hid ((HK2.out.through hb3).alloc (.cells #[.int .i64 P.kd, .int .i64 P.fr, .slice B3 n3 c3, .slice A3 t3 d3] 25)); have HX3 : Hid (Below w.heap.size w (w3.alloc (.cells #[.int .i64 P.kd, .int .i64 P.fr, .slice B3 n3 c3, .slice A3 t3 d3] 25))) := Lib.hid ((below_step HX2.out hb3).alloc (below_step HX2.out hb3).size (.cells #[.int .i64 P.kd, .int .i64 P.fr, .slice B3 n3 c3, .slice A3 t3 d3] 25)); clear hb3)
        | (refine wpList_load_blk rfl 25 (.tmp 6) rfl g12 rfl 25 [.int .i64 1, .int .i64 0, .slice (some ⟨g8, 0, none⟩) L L, .slice (some ⟨g10, 0, none⟩) n n] _ HK3.out Try.underlying25 rfl (by kernel_rfl) ?_)
        | (go_at_call 9; (with_reducible refine (HCk.out _ _ _ HM3.out).mono ?_); rintro e w4 ⟨rfl, hb4⟩; have HX4 := Lib.hid (below_step HX3.out hb4); clear hb4))
      go_ret
      exact ⟨rfl, HX4.out⟩
    · as_aux_lemma =>
      refine step_make_tgs rfl (.tmp 24) rfl n (by simp [Act.eval]) HNb.out ?_; intro g10 w10 hg10 hy10 hb10; have HB10 := Lib.hid hy10; have HB12 := Lib.hid (HB12.out.through hb10); have HH10 := Lib.hid (below_step hHeld hb10); clear hg10 hy10 hb10
      refine hK.out _ _ HH10.out (fun hHeld1 => ?_)
      clear hHeld hK K
      have hHeld := hHeld1
      clear hHeld1
      change wpAnyH _ _ _ _ _ _ _ (Act.put _ (some (25 : Nat)) (.slice (some ⟨g10, 0, none⟩) n n)) _
      simp only [Act.put, List.setIfInBounds_toArray, List.set_cons_zero, List.set_cons_succ]
      refine wpAnyH_ready (rs := [8]) (by kernel_rfl) (by simp) ?_
      refine AllReadyH.cons (o := ⟨some 23, .makeSlice 22 (.tmp 22) (.tmp 22), _, _, _, none⟩) rfl (fun K hK => ?_) AllReadyH.nil
      refine step_make_by rfl (.tmp 22) rfl L (by simp [Act.eval]) HLb.out ?_; intro g8 w8 hg8 hy8 hb8; have HB8 := Lib.hid hy8; have HB10 := Lib.hid (HB10.out.through hb8); have HB12 := Lib.hid (HB12.out.through hb8); have HH8 := Lib.hid (below_step hHeld hb8); clear hg8 hy8 hb8
      refine hK.out _ _ HH8.out (fun hHeld1 => ?_)
      clear hHeld hK K
      have hHeld := hHeld1
      clear hHeld1
      change wpAnyH _ _ _ _ _ _ _ (Act.put _ (some (23 : Nat)) (.slice (some ⟨g8, 0, none⟩) L L)) _
      simp only [Act.put, List.setIfInBounds_toArray, List.set_cons_zero, List.set_cons_succ]
      refine wpAnyH_take (i := 11) (v := (.agg #[.int .i64 1, .int .i64 0, .slice (some ⟨g8, 0, none⟩) L L, .slice (some ⟨g10, 0, none⟩) n n])) rfl (by kernel_rfl) (by kernel_rfl) (by kernel_rfl) (fun _ _ _ h => h) (yields_build (by kernel_rfl) 25 #[(0, .const (.int .i64 1)), (2, .tmp 23), (3, .tmp 25)] rfl #[(0, .int .i64 1), (2, .slice (some ⟨g8, 0, none⟩) L L), (3, .slice (some ⟨g10, 0, none⟩) n n)] (by simp [Act.eval]) _ (fun W _ => Try.build_msl 1 (some ⟨g8, 0, none⟩) L L (some ⟨g10, 0, none⟩) n n W)) (by assumption) ?_
      change wpAnyH _ _ _ _ _ _ _ (Act.put _ (some (26 : Nat)) (.agg #[.int .i64 1, .int .i64 0, .slice (some ⟨g8, 0, none⟩) L L, .slice (some ⟨g10, 0, none⟩) n n])) _
      simp only [Act.put, List.setIfInBounds_toArray, List.set_cons_zero, List.set_cons_succ]
      refine wpAnyH_ready (rs := [13]) (by kernel_rfl) (by simp) ?_
      refine AllReadyH.cons (o := ⟨none, .store 25 (.tmp 6) (.tmp 26), _, _, _, none⟩) rfl (fun K hK => ?_) AllReadyH.nil
      refine step_store_blk rfl 25 (.tmp 6) (.tmp 26) rfl g12 [.int .i64 1, .int .i64 0, .slice (some ⟨g8, 0, none⟩) L L, .slice (some ⟨g10, 0, none⟩) n n] (by simp [Act.eval]) (by simp [Act.eval]) 25 [.int .i64 0, .int .i64 0, .slice none 0 0, .slice none 0 0] HB12.out (by kernel_rfl) rfl (one4m _ _ _ _ _ _ _ _) ?_; intro w13 hb13 hg13; have HB13 := Lib.hid hb13; have HMr : Hid (MsIn w13 (some ⟨g8, 0, none⟩) L (some ⟨g10, 0, none⟩) n n ⟨1, 0, List.replicate L 0, List.replicate n (List.replicate 32 0)⟩) := Lib.hid ⟨HB8.out.far hg13 HB12.out (no8 _ _ _ _ _ _ _ _), HB10.out.far_ hg13 HB12.out (no8 _ _ _ _ _ _ _ _)⟩; have HH13 := Lib.hid (hHeld.grown hg13 hHeld.size (fun k hk => by have := Option.some.inj hk; have := HG12.out; omega)); clear hb13 hg13
      refine hK.out _ _ HH13.out (fun hHeld1 => ?_)
      clear hHeld hK K
      have hHeld := hHeld1
      clear hHeld1
      change wpAnyH _ _ _ _ _ _ _ (Act.put _ none undef) _
      simp only [Act.put]
      refine wpAnyH_done (by kernel_rfl) ?_ _
      have HXr : Hid (Below w.heap.size w w13) := Lib.hid (below_step (below_step HX1.out below_drew_) hHeld)
      clear hHeld
      go_wp2_with (first
        | (refine wpList_load_blk rfl 25 (.tmp 6) rfl g12 rfl 25 [.int .i64 1, .int .i64 0, .slice (some ⟨g8, 0, none⟩) L L, .slice (some ⟨g10, 0, none⟩) n n] _ HB13.out Try.underlying25 rfl (by kernel_rfl) ?_)
        | (go_at_call 8; (with_reducible refine (HBy.out _ _ _ HMr.out).mono ?_); rintro e w2 ⟨A2, n2, d2, rfl, hy2, _, _, hb2⟩; have HY2 := Lib.hid hy2; have HX2 := Lib.hid (below_step HXr.out hb2); have HM2 := Lib.hid (HMr.out.through hb2); have HK2 := Lib.hid (HB13.out.through hb2); clear hy2 hb2)
        | (go_at_call 14; (with_reducible refine (HPa.out _ _ _ _ HY2.out).mono ?_); rintro e w3 ⟨B3, n3, c3, A3, t3, d3, rfl, _, hb3⟩; have HM3 := Lib.hid ((HM2.out.through hb3).through (below1_ w3 (.cells #[.int .i64 P.kd, .int .i64 P.fr, .slice B3 n3 c3, .slice A3 t3 d3] 25))); have HK3 := Lib.hid ((HK2.out.through hb3).alloc (.cells #[.int .i64 P.kd, .int .i64 P.fr, .slice B3 n3 c3, .slice A3 t3 d3] 25)); have HX3 : Hid (Below w.heap.size w (w3.alloc (.cells #[.int .i64 P.kd, .int .i64 P.fr, .slice B3 n3 c3, .slice A3 t3 d3] 25))) := Lib.hid ((below_step HX2.out hb3).alloc (below_step HX2.out hb3).size (.cells #[.int .i64 P.kd, .int .i64 P.fr, .slice B3 n3 c3, .slice A3 t3 d3] 25)); clear hb3)
        | (refine wpList_load_blk rfl 25 (.tmp 6) rfl g12 rfl 25 [.int .i64 1, .int .i64 0, .slice (some ⟨g8, 0, none⟩) L L, .slice (some ⟨g10, 0, none⟩) n n] _ HK3.out Try.underlying25 rfl (by kernel_rfl) ?_)
        | (go_at_call 9; (with_reducible refine (HCk.out _ _ _ HM3.out).mono ?_); rintro e w4 ⟨rfl, hb4⟩; have HX4 := Lib.hid (below_step HX3.out hb4); clear hb4))
      go_ret
      exact ⟨rfl, HX4.out⟩

end Go.Proofs.Ytkklgfcmgefedaa
