/-
  The program's With, walked.
-/
import Derived.Test.YtgbobemhogeeeaaEnO
namespace Go.Proofs.Ytgbobemhogeeeaa
open Go.RowKit

theorem results_cell_row_0 {P : Program} {fn : Func} {p : Tmp} {ty : TypeId} (h : fn.results = #[.cell p ty]) (tmps : Array Value) (w : World) (g : Nat) (t : TypeId) (cs : Array Value) (fr : Nat × Nat) (d : TypeDesc)
    (hp : tmps.getD p undef = .pointer (some ⟨g, 0, none⟩)) (hg : w.heap[g]? = some (.cells cs t fr))
    (hu : P.underlying ty = some d) (hd : (match d with | .struct _ | .array _ _ => true | _ => false) = true) (hi : (P.info? ty).map (·.size) = some cs.size) :
    (results fn tmps).run P w = .ok (.agg cs) w := by
  have hp' : tmps[p]?.getD undef = .pointer (some ⟨g, 0, none⟩) := by simpa using hp
  simp [results, h, hp', asAddr, run_loadVar_row w g t ty cs fr d hg hu hd hi]

/-- A call that hands back a request. -/
def RqOutC (w : World) (q : Rq) (e : Ending) (w' : World) : Prop :=
  ∃ (A : Option Addr) (m c : Nat), e = .returned (.agg #[.int .i64 q.co.cl, .int .i64 q.co.sp, .int .i64 q.co.op, .string (ba q.co.lt), .int .i64 q.co.a, .int .i64 q.co.b, .string (ba q.co.tx), .slice A m c]) ∧ EsIn w' A m q.es ∧ m ≤ c ∧ c ≤ maxLen ∧ Below w.heap.size w w'
/-- A call that hands back a request whose endorsements are its own. -/
def RqOwn (w : World) (q : Rq) (e : Ending) (w' : World) : Prop :=
  ∃ (A : Option Addr) (m c : Nat), e = .returned (.agg #[.int .i64 q.co.cl, .int .i64 q.co.sp, .int .i64 q.co.op, .string (ba q.co.lt), .int .i64 q.co.a, .int .i64 q.co.b, .string (ba q.co.tx), .slice A m c]) ∧ OEs w' w.heap.size (.slice A m c) q.es ∧ m ≤ c ∧ c ≤ maxLen ∧ Below w.heap.size w w'
theorem enR_take (es : List En) (ss : List Pl) (i : Nat) : (enR es ss).take i = enR (es.take i) (ss.take i) := by unfold enR; rw [List.take_zipWith]
theorem enR_drop (es : List En) (ss : List Pl) (i : Nat) : (enR es ss).drop i = enR (es.drop i) (ss.drop i) := by unfold enR; rw [List.drop_zipWith]
theorem AllIn.through {w w' : World} {es : List En} {ss : List Pl} (h : AllIn w es ss) (hb : Below w.heap.size w w') : AllIn w' es ss := h.mono fun _ _ h => h.through hb

set_option maxHeartbeats 16000000 in
set_option maxRecDepth 100000 in
theorem with_own (co : Cr) (es : List En) (A : Option Addr) (n c1 : Nat) (x : En) (B : Option Addr) (m d : Nat) (w : World) (h : EsIn w A n es) (hx : TsIn w (B, m, d) x.ts) (hn : n ≤ 1000) (hnc : n ≤ c1) (hts : ∀ e ∈ es, e.ts.length ≤ 1000000) (hxt : x.ts.length ≤ 1000000) :
    Calls Try.prog 10 #[.agg #[.int .i64 co.cl, .int .i64 co.sp, .int .i64 co.op, .string (ba co.lt), .int .i64 co.a, .int .i64 co.b, .string (ba co.tx), .slice A n c1], .agg #[.int .i64 x.og, .slice B m d]] w (RqOwn w ⟨co, withE es x⟩) := by
  have hz := Try.zero_rq
  have hbq := Try.build_rq
  have hlen := h.len
  have hle := placeE_le es x.og
  have HX : Hid (Below w.heap.size w (((w.alloc (.cells #[.int .i64 co.cl, .int .i64 co.sp, .int .i64 co.op, .string (ba co.lt), .int .i64 co.a, .int .i64 co.b, .string (ba co.tx), .slice A n c1] 26)).alloc (.cells #[.int .i64 x.og, .slice B m d] 34)).alloc (.cells #[.int .i64 0, .int .i64 0, .int .i64 0, .string (ba []), .int .i64 0, .int .i64 0, .string (ba []), .slice none 0 0] 26))) := Lib.hid ((below2_ w _ _).alloc (below2_ w _ _).size _)
  have H1 : Hid (Blk (((w.alloc (.cells #[.int .i64 co.cl, .int .i64 co.sp, .int .i64 co.op, .string (ba co.lt), .int .i64 co.a, .int .i64 co.b, .string (ba co.tx), .slice A n c1] 26)).alloc (.cells #[.int .i64 x.og, .slice B m d] 34)).alloc (.cells #[.int .i64 0, .int .i64 0, .int .i64 0, .string (ba []), .int .i64 0, .int .i64 0, .string (ba []), .slice none 0 0] 26)) w.heap.size 26 [.int .i64 co.cl, .int .i64 co.sp, .int .i64 co.op, .string (ba co.lt), .int .i64 co.a, .int .i64 co.b, .string (ba co.tx), .slice A n c1]) := Lib.hid (((Blk.fresh rfl rfl).alloc _).alloc _)
  have H2 : Hid (Blk (((w.alloc (.cells #[.int .i64 co.cl, .int .i64 co.sp, .int .i64 co.op, .string (ba co.lt), .int .i64 co.a, .int .i64 co.b, .string (ba co.tx), .slice A n c1] 26)).alloc (.cells #[.int .i64 x.og, .slice B m d] 34)).alloc (.cells #[.int .i64 0, .int .i64 0, .int .i64 0, .string (ba []), .int .i64 0, .int .i64 0, .string (ba []), .slice none 0 0] 26)) (w.heap.size + 1) 34 [.int .i64 x.og, .slice B m d]) := Lib.hid ((Blk.fresh (by simp) rfl).alloc _)
  have H3 : Hid (Blk (((w.alloc (.cells #[.int .i64 co.cl, .int .i64 co.sp, .int .i64 co.op, .string (ba co.lt), .int .i64 co.a, .int .i64 co.b, .string (ba co.tx), .slice A n c1] 26)).alloc (.cells #[.int .i64 x.og, .slice B m d] 34)).alloc (.cells #[.int .i64 0, .int .i64 0, .int .i64 0, .string (ba []), .int .i64 0, .int .i64 0, .string (ba []), .slice none 0 0] 26)) (w.heap.size + 2) 26 [.int .i64 0, .int .i64 0, .int .i64 0, .string (ba []), .int .i64 0, .int .i64 0, .string (ba []), .slice none 0 0]) := Lib.hid (Blk.fresh (by simp) rfl)
  have HPl0 := place_any es A n c1 x.og (((w.alloc (.cells #[.int .i64 co.cl, .int .i64 co.sp, .int .i64 co.op, .string (ba co.lt), .int .i64 co.a, .int .i64 co.b, .string (ba co.tx), .slice A n c1] 26)).alloc (.cells #[.int .i64 x.og, .slice B m d] 34)).alloc (.cells #[.int .i64 0, .int .i64 0, .int .i64 0, .string (ba []), .int .i64 0, .int .i64 0, .string (ba []), .slice none 0 0] 26)) (h.through HX.out) (by omega)
  obtain ⟨es', hes⟩ : ∃ es', withE es x = es' := ⟨_, rfl⟩
  have hwl := withE_len es x
  obtain ⟨i, b, hib⟩ : ∃ i b, placeE es x.og = (i, b) := ⟨_, _, rfl⟩
  have hes2 : es' = es.take i ++ [x] ++ es.drop b := by rw [← hes]; unfold withE; rw [hib]
  rw [hes] at hwl ⊢
  rw [hib] at HPl0 hle
  simp only at HPl0 hle
  have HPl := Lib.hid HPl0
  rw [hlen] at hle
  obtain ⟨ss, hS, hA⟩ := h
  have hrw : ∀ y ∈ enR es ss, y.length = 2 ∧ ∀ u ∈ y, u.oneCell' = true := fun y hy => ⟨enR_all es ss y hy, enR_one es ss y hy⟩
  have HRw := Lib.hid hrw
  have hT := hS.to_ hle.1
  have HT := Lib.hid hT
  have hsz : ∀ W, (sizeOf 34).run Try.prog W = .ok 2 W := fun W => by kernel_rfl
  have hel : Try.prog.elem 24 = 34 := by kernel_rfl
  have hs0 : ∀ W, (Instr.slice 24 (.slice A n c1) none (some (.int .i64 (i : Int))) none).run Try.prog W = .ok (.slice A i c1) W := fun W => by
    rw [run_slice_h (P := Try.prog) (w := W) 24 A n c1 Try.underlying24 .i64 i (by omega) (by omega), hel, hsz]
    have e0 : A.map (fun a => a.add (0 * 2)) = A := by cases A <;> simp [Addr.add]
    simp only [Result.andThen_ok, sliced, e0]
    simp
  obtain ⟨A4, hA4, hD⟩ := hS.from_ hle.2.1 hnc
  have HD := Lib.hid hD
  have hs1 : ∀ W, (Instr.slice 24 (.slice A n c1) (some (.int .i64 (b : Int))) none none).run Try.prog W = .ok (.slice A4 (n - b) (c1 - b)) W := fun W => by
    rw [run_slice_l (P := Try.prog) (w := W) 24 A n c1 Try.underlying24 .i64 b (by omega) (by omega), hel, hsz]
    simp only [Result.andThen_ok, sliced, Int.toNat_natCast, hA4]
  have hal : AllIn w es' (ss.take i ++ [(B, m, d)] ++ ss.drop b) := by
    rw [hes2]
    exact ((hA.take i).append (show AllIn w [x] [(B, m, d)] from ⟨hx, trivial⟩)).append (hA.drop b)
  have hrr : (enR es ss).take i ++ [[.int .i64 x.og, .slice B m d]] ++ (enR es ss).drop b = enR es' (ss.take i ++ [(B, m, d)] ++ ss.drop b) := by
    rw [hes2, enR_append (by simp only [List.length_append, List.length_take, List.length_cons, List.length_nil, hA.len]), enR_append (by simp only [List.length_take, hA.len]), enR_take, enR_drop]
    rfl
  have htk : ∀ e ∈ es', e.ts.length ≤ 1000000 := fun e he => by
    rw [hes2] at he
    rcases List.mem_append.1 he with h9 | h9
    · rcases List.mem_append.1 h9 with h9 | h9
      · exact hts e (List.mem_of_mem_take h9)
      · rw [List.mem_singleton.1 h9]; exact hxt
    · exact hts e (List.mem_of_mem_drop h9)
  obtain ⟨ss', hss⟩ : ∃ ss', ss.take i ++ [(B, m, d)] ++ ss.drop b = ss' := ⟨_, rfl⟩
  rw [hss] at hal hrr
  have HAL := Lib.hid hal
  have HRR := Lib.hid hrr
  have HTK := Lib.hid htk
  have HL' := Lib.hid hal.len
  have HWL := Lib.hid hwl
  have HLn := Lib.hid hlen
  have HIX := Lib.hid Try.ix_en
  have k7 := H1.out.cellAt (i := 7) rfl
  have k0 := H2.out.cellAt (i := 0) rfl
  clear hes hes2 hwl HPl0 hS hA hrw hT hsz hel hA4 hD hal hrr htk hss hts hxt hx hib hlen
  go_enter Try.func10, Try.ntmps10
  go_wp2_with (first
    | (go_at_call 29; (with_reducible refine (HPl.out).mono ?_); rintro e w2 ⟨rfl, hb2⟩; have HX2 : Hid (Below w.heap.size w w2) := Lib.hid (below_step HX.out hb2); have K1 := Lib.hid (H1.out.through hb2); have K2 := Lib.hid (H2.out.through hb2); have K3 := Lib.hid (H3.out.through hb2); clear hb2 k7 k0))
  refine wp_region_held_drew (S := fun W => Below w2.heap.size w2 W) (by kernel_rfl) (Below.refl _ _).drew (fun hHeld => ?_)
  change wpAnyH _ _ _ _ _ _ #[false, false, false, false, false, false, false, false, false, false, false, false, false] _ _
  refine wpAnyH_take (i := 0) (v := (.pointer (some ⟨w.heap.size, 7, none⟩))) rfl (by kernel_rfl) (by kernel_rfl) (by kernel_rfl) (fun _ _ _ h => h) (Or.inl ⟨by kernel_rfl, fun w hSw => ?_⟩) (by assumption) ?_
  · (try dsimp only at hSw); go_simp <;> (try rfl)
  change wpAnyH _ _ _ _ _ _ _ (Act.put _ (some (17 : Nat)) (.pointer (some ⟨w.heap.size, 7, none⟩))) _
  simp only [Act.put, List.setIfInBounds_toArray, List.set_cons_zero, List.set_cons_succ]
  refine wpAnyH_take (i := 1) (v := (.slice A n c1)) rfl (by kernel_rfl) (by kernel_rfl) (by kernel_rfl) (fun _ _ _ h => h) (yields_load_at (by kernel_rfl) 24 (.tmp 17) rfl (.pointer (some ⟨w.heap.size, 7, none⟩)) (by simp [Act.eval]) (.slice A n c1) (fun W hW => load_one' (Try.agg_es W) ((K1.out.through hW).cellAt (i := 7) rfl))) (by assumption) ?_
  change wpAnyH _ _ _ _ _ _ _ (Act.put _ (some (18 : Nat)) (.slice A n c1)) _
  simp only [Act.put, List.setIfInBounds_toArray, List.set_cons_zero, List.set_cons_succ]
  refine wpAnyH_take (i := 2) (v := (.int .i64 (i : Int))) rfl (by kernel_rfl) (by kernel_rfl) (by kernel_rfl) (fun _ _ _ h => h) (Or.inl ⟨by kernel_rfl, fun w hSw => ?_⟩) (by assumption) ?_
  · (try dsimp only at hSw); go_simp <;> (try rfl)
  change wpAnyH _ _ _ _ _ _ _ (Act.put _ (some (19 : Nat)) (.int .i64 (i : Int))) _
  simp only [Act.put, List.setIfInBounds_toArray, List.set_cons_zero, List.set_cons_succ]
  refine wpAnyH_take (i := 3) (v := (.slice A i c1)) rfl (by kernel_rfl) (by kernel_rfl) (by kernel_rfl) (fun _ _ _ h => h) (Or.inl ⟨by kernel_rfl, fun w hSw => ?_⟩) (by assumption) ?_
  · (try dsimp only at hSw); go_simp <;> (try rfl)
  change wpAnyH _ _ _ _ _ _ _ (Act.put _ (some (20 : Nat)) (.slice A i c1)) _
  simp only [Act.put, List.setIfInBounds_toArray, List.set_cons_zero, List.set_cons_succ]
  refine wpAnyH_take (i := 4) (v := (.agg #[.int .i64 x.og, .slice B m d])) rfl (by kernel_rfl) (by kernel_rfl) (by kernel_rfl) (fun _ _ _ h => h) (yieldsIf_load_mid (by kernel_rfl) 34 (.tmp 3) rfl (w.heap.size + 1) 0 (by simp [Act.eval]) [.int .i64 x.og, .slice B m d] _ (fun W hW => (K2.out.through hW).whole) Try.underlying34 rfl (by kernel_rfl)) (by assumption) ?_
  change wpAnyH _ _ _ _ _ _ _ (Act.put _ (some (21 : Nat)) (.agg #[.int .i64 x.og, .slice B m d])) _
  simp only [Act.put, List.setIfInBounds_toArray, List.set_cons_zero, List.set_cons_succ]
  refine wpAnyH_take (i := 6) (v := (.pointer (some ⟨w.heap.size, 7, none⟩))) rfl (by kernel_rfl) (by kernel_rfl) (by kernel_rfl) (fun _ _ _ h => h) (Or.inl ⟨by kernel_rfl, fun w hSw => ?_⟩) (by assumption) ?_
  · (try dsimp only at hSw); go_simp <;> (try rfl)
  change wpAnyH _ _ _ _ _ _ _ (Act.put _ (some (23 : Nat)) (.pointer (some ⟨w.heap.size, 7, none⟩))) _
  simp only [Act.put, List.setIfInBounds_toArray, List.set_cons_zero, List.set_cons_succ]
  refine wpAnyH_take (i := 7) (v := (.slice A n c1)) rfl (by kernel_rfl) (by kernel_rfl) (by kernel_rfl) (fun _ _ _ h => h) (yields_load_at (by kernel_rfl) 24 (.tmp 23) rfl (.pointer (some ⟨w.heap.size, 7, none⟩)) (by simp [Act.eval]) (.slice A n c1) (fun W hW => load_one' (Try.agg_es W) ((K1.out.through hW).cellAt (i := 7) rfl))) (by assumption) ?_
  change wpAnyH _ _ _ _ _ _ _ (Act.put _ (some (24 : Nat)) (.slice A n c1)) _
  simp only [Act.put, List.setIfInBounds_toArray, List.set_cons_zero, List.set_cons_succ]
  refine wpAnyH_take (i := 8) (v := (.int .i64 (b : Int))) rfl (by kernel_rfl) (by kernel_rfl) (by kernel_rfl) (fun _ _ _ h => h) (Or.inl ⟨by kernel_rfl, fun w hSw => ?_⟩) (by assumption) ?_
  · (try dsimp only at hSw); go_simp <;> (try rfl)
  change wpAnyH _ _ _ _ _ _ _ (Act.put _ (some (25 : Nat)) (.int .i64 (b : Int))) _
  simp only [Act.put, List.setIfInBounds_toArray, List.set_cons_zero, List.set_cons_succ]
  refine wpAnyH_take (i := 9) (v := (.slice A4 (n - b) (c1 - b))) rfl (by kernel_rfl) (by kernel_rfl) (by kernel_rfl) (fun _ _ _ h => h) (Or.inl ⟨by kernel_rfl, fun w hSw => ?_⟩) (by assumption) ?_
  · (try dsimp only at hSw); go_simp <;> (try rfl)
  change wpAnyH _ _ _ _ _ _ _ (Act.put _ (some (26 : Nat)) (.slice A4 (n - b) (c1 - b))) _
  simp only [Act.put, List.setIfInBounds_toArray, List.set_cons_zero, List.set_cons_succ]
  refine wpAnyH_ready (rs := [5]) (by kernel_rfl) (by simp) ?_
  refine AllReadyH.cons (o := ⟨some 22, .buildSlice 24 1 #[(0, .tmp 21)], _, _, _, none⟩) rfl (fun K hK => ?_) AllReadyH.nil
  refine step_build_el_w rfl Try.el_en (.tmp 21) rfl [.int .i64 x.og, .slice B m d] rfl rfl ?_; intro gx wx hbx hkx; have HBx := Lib.hid hbx; have HKx := Lib.hid hkx; clear hbx hkx
  refine hK.out _ _ (below_step hHeld HKx.out) (fun hHeld1 => ?_)
  clear hHeld hK K
  have hHeld := hHeld1
  clear hHeld1
  change wpAnyH _ _ _ _ _ _ _ (Act.put _ (some (22 : Nat)) (.slice (some ⟨gx, 0, none⟩) 1 1)) _
  simp only [Act.put, List.setIfInBounds_toArray, List.set_cons_zero, List.set_cons_succ]
  refine wpAnyH_ready (rs := [10]) (by kernel_rfl) (by simp) ?_
  refine AllReadyH.cons (o := ⟨some 27, .buildSlice 112 3 #[(0, .tmp 20), (1, .tmp 22), (2, .tmp 26)], _, _, _, none⟩) rfl (fun K hK => ?_) AllReadyH.nil
  refine step_build_three_w rfl 112 24 (.tmp 20) (.tmp 22) (.tmp 26) rfl (.slice A i c1) (.slice (some ⟨gx, 0, none⟩) 1 1) (.slice A4 (n - b) (c1 - b)) rfl rfl rfl (by kernel_rfl) ?_; intro gb wb hbb hkb; have HBb := Lib.hid hbb; have HKb := Lib.hid hkb; clear hbb hkb
  refine hK.out _ _ (below_step hHeld HKb.out) (fun hHeld1 => ?_)
  clear hHeld hK K
  have hHeld := hHeld1
  clear hHeld1
  change wpAnyH _ _ _ _ _ _ _ (Act.put _ (some (27 : Nat)) (.slice (some ⟨gb, 0, none⟩) 3 3)) _
  simp only [Act.put, List.setIfInBounds_toArray, List.set_cons_zero, List.set_cons_succ]
  refine wpAnyH_ready (rs := [11]) (by kernel_rfl) (by simp) ?_
  refine AllReadyH.cons rfl (fun K hK => ?_) AllReadyH.nil
  go_simp
  refine (concatE_any gb A (some ⟨gx, 0, none⟩) A4 i 1 (n - b) c1 1 (c1 - b) ((enR es ss).take i) [[.int .i64 x.og, .slice B m d]] ((enR es ss).drop b) wb HBb.out (HT.out.through (below_step HX2.out hHeld)) (Sl.one_ (HBx.out.through HKb.out)) (HD.out.through (below_step HX2.out hHeld)) (fun y hy => HRw.out y (List.mem_of_mem_take hy)) (fun y hy => by rw [List.mem_singleton.1 hy]; exact ⟨rfl, fun u hu => by simp at hu; rcases hu with rfl | rfl <;> rfl⟩) (fun y hy => HRw.out y (List.mem_of_mem_drop hy)) (by omega) (by omega)).mono ?_
  rintro e w7 ⟨v7, rfl, ho7, hb7⟩; have HO7 := Lib.hid ho7; have HX7 := Lib.hid hb7; have HWb := Lib.hid hHeld; clear ho7 hb7
  go_wp2_with fail
  refine hK.out _ _ (below_step hHeld HX7.out) (fun hHeld1 => ?_)
  clear hHeld hK K
  have hHeld := hHeld1
  clear hHeld1
  refine wpAnyH_take (i := 12) (v := (v7)) rfl (by kernel_rfl) (by kernel_rfl) (by kernel_rfl) (fun _ _ _ h => h) (Or.inl ⟨by kernel_rfl, fun w hSw => ?_⟩) (by assumption) ?_
  · (try dsimp only at hSw); go_simp <;> (try rfl)
  change wpAnyH _ _ _ _ _ _ _ (Act.put _ (some (7 : Nat)) (v7)) _
  simp only [Act.put, List.setIfInBounds_toArray, List.set_cons_zero, List.set_cons_succ]
  refine wpAnyH_done (by kernel_rfl) ?_ _
  have HX7e : Hid (Below w2.heap.size w2 w7) := Lib.hid hHeld
  clear hHeld
  obtain ⟨A7, n7, c7, rfl, hn7⟩ := HO7.out.out'
  have HNN := Lib.hid hn7
  clear hn7
  go_wp2
  have hO7 := HO7.out
  rw [HRR.out] at hO7
  have hln : (enR es' ss').length = es'.length := enR_len HL'.out
  have hn7' : n7 = es'.length := by rw [HNN.out, HRR.out, hln]
  have HN7 := Lib.hid hn7'
  have HO7' := Lib.hid hO7
  have hw2b : w2.heap.size ≤ wb.heap.size := HWb.out.size
  clear hn7' hO7 hln HO7
  go_loopw [31] (fun iv wr => ∃ (i2 : Nat) (s2 : List Pl), i2 ≤ n7 ∧ iv = .int .i64 (i2 : Int) ∧ s2.length = es'.length ∧ s2.drop i2 = ss'.drop i2 ∧ OAll wr wb.heap.size (es'.take i2) (s2.take i2) ∧ Os wr wb.heap.size 34 2 (.slice A7 n7 c7) (enR es' s2) ∧ Below w2.heap.size w2 wr) (fun iv _ => n7 - (intOf iv).toNat)
  case atStart => exact ⟨0, ss', Nat.zero_le _, rfl, HL'.out.symm, rfl, trivial, HO7'.out, HX7e.out⟩
  case round =>
    obtain ⟨i2, s2, hi2, rfl, hl2, hd2, ha2, ho2, hx2⟩ := hrel
    have HO2 := Lib.hid ho2
    have HXi := Lib.hid hx2
    have HA2 := Lib.hid ha2
    have HL2 := Lib.hid hl2
    have HD2 := Lib.hid hd2
    have hn79 : n7 ≤ 2000 := by have := HN7.out; have := HWL.out.1; have := HLn.out; omega
    clear ha2 ho2 hx2
    by_cases hlt : i2 < n7
    · have hie : i2 < es'.length := by rw [← HN7.out]; exact hlt
      have hge := List.getElem?_eq_getElem hie
      generalize es'[i2] = e at hge
      obtain ⟨⟨S1, S2, S3⟩, hgs, hts⟩ := HAL.out.at hge
      have hg2 : s2[i2]? = some (S1, S2, S3) := by
        have h9 := congrArg (fun l : List Pl => l[0]?) hd2
        simpa [hgs] using h9
      have hrow : (enR es' s2)[i2]? = some (enC e (S1, S2, S3)) := enR_get hge hg2
      obtain ⟨g7, cs, hob, hBg, hv, hbk, hcl, hset⟩ := HO2.out.set_ (j := 1) hrow (by omega)
      obtain ⟨A8, c8, hv8, hc8, hm8, hsl⟩ := HO2.out.out
      injection hv8 with e1 e2 e3
      injection hv with f1 f2 f3
      subst f1
      obtain ⟨g9, o9, q9, hA9, hq9, _, _, hrg⟩ := hsl.at (i := i2) (by rw [enR_len HL2.out.symm]; exact hie)
      rw [← e1] at hA9
      simp only [Option.some.injEq, Addr.mk.injEq] at hA9
      obtain ⟨rfl, rfl, _⟩ := hA9
      rw [hrow] at hq9
      injection hq9 with hq9
      subst hq9
      have hcell : wr.cell? ⟨g7, i2 * 2 + 1, none⟩ = some (.slice S1 S2 S3) := by
        have h9 := hrg 1 _ rfl
        rw [Nat.zero_add] at h9
        exact h9
      have hix : ∀ W, (Instr.indexAt 24 (.slice (some ⟨g7, 0, none⟩) n7 c7) (.int .i64 (i2 : Int))).run Try.prog W = .ok (.pointer (some ⟨g7, i2 * 2, none⟩)) W := fun W => by
        have h9 := HIX.out W g7 0 n7 c7 i2 hlt
        rw [Nat.zero_add] at h9
        exact h9
      have HBk := Lib.hid hbk
      have HLt := Lib.hid hcl
      have HSet := Lib.hid hset
      have HBg := Lib.hid hBg
      have HGe := Lib.hid hge
      have HG2 := Lib.hid hg2
      have HCl := Lib.hid (cloneT_any e.ts S1 S2 S3 wr (hts.through (below_step HX2.out HXi.out)) (by have := HTK.out e (List.mem_of_getElem? hge); have := hts.len; simp only at this; omega))
      clear hob hBg hbk hcl hset hc8 hm8 hsl e1 e2 e3 f2 f3 hrg hge hg2 hrow hts hd2 hl2
      go_wp2_with (first
        | (go_at_call 31; (with_reducible refine (HCl.out).mono ?_); rintro e w8 ⟨⟨P1, P2, P3⟩, rfl, hot, hb8⟩; have HOt := Lib.hid hot; have HB8 := Lib.hid hb8; clear hot hb8)
        | (refine wpList_store_cell rfl 32 (.tmp 43) (.tmp 41) rfl g7 (i2 * 2 + 1) rfl (.slice P1 P2 P3) rfl rfl rfl (fun w => by kernel_rfl) 34 cs (HBk.out.through HB8.out) HLt.out ?_; intro w9 hb9 hg9; have HO9 := Lib.hid (HSet.out _ _ hb9); have HG9 := Lib.hid hg9; clear hb9 hg9))
      have HXn : Hid (Below w2.heap.size w2 w9) := Lib.hid ((below_step HXi.out HB8.out).grown HG9.out (below_step HXi.out HB8.out).size (fun k hk => by have := Option.some.inj hk; have := HBg.out; omega))
      go_roundw
      case rel => exact ⟨i2 + 1, s2.set i2 (P1, P2, P3), by omega, by go_num, by rw [List.length_set]; exact HL2.out, (by rw [List.drop_set_of_lt (by omega), ← List.drop_drop, HD2.out, List.drop_drop]), (by
        rw [List.take_add_one, HGe.out, List.take_add_one, List.getElem?_set_self (by rw [HL2.out]; exact hie), List.take_set_of_le (by omega)]
        exact ((HA2.out.mono fun _ _ h => (h.through HB8.out).only HG9.out (HBk.out.through HB8.out) (by decide)).snoc ((HOt.out.weak (by have := HBg.out; have := HBk.out.lt; omega)).mono fun _ h => h.only HG9.out (HBk.out.through HB8.out) (by decide)))), (by rw [enR_set (P1, P2, P3) HGe.out]; exact HO9.out), HXn.out⟩
      case measure => simp [intOf]; omega
    · have hin : i2 = n7 := by omega
      have KR1 := Lib.hid (K1.out.through HXi.out)
      have KR3 := Lib.hid (K3.out.through HXi.out)
      have hall : OAll wr wb.heap.size es' s2 := by
        have h9 := HA2.out
        rw [List.take_of_length_le (by rw [hin, HN7.out]; exact Nat.le_refl _), List.take_of_length_le (by rw [hin, HN7.out, HL2.out]; exact Nat.le_refl _)] at h9
        exact h9
      obtain ⟨A8, c8, hv8, hc8, hm8, hsl⟩ := HO2.out.out
      injection hv8 with e1 e2 e3
      subst e1; subst e3
      have HAll := Lib.hid hall
      have HC8 := Lib.hid (And.intro (by rw [← e2] at hc8; exact hc8 : n7 ≤ c7) hm8)
      have HOl := Lib.hid HO2.out.lt
      clear hc8 hm8 hsl hall e2 hin hl2 hd2
      go_wp2_with (first
        | (refine wpList_load_mid rfl 23 (.tmp 45) rfl w.heap.size 0 rfl [.int .i64 co.cl, .int .i64 co.sp, .int .i64 co.op, .string (ba co.lt), .int .i64 co.a, .int .i64 co.b, .string (ba co.tx)] _ (Blk.front (post := [.slice A n c1]) KR1.out) Try.underlying23 rfl (by kernel_rfl) ?_)
        | (refine wpList_store_blk rfl 26 (.tmp 4) (.tmp 48) rfl (w.heap.size + 2) [.int .i64 co.cl, .int .i64 co.sp, .int .i64 co.op, .string (ba co.lt), .int .i64 co.a, .int .i64 co.b, .string (ba co.tx), .slice A7 n7 c7] rfl rfl 26 [.int .i64 0, .int .i64 0, .int .i64 0, .string (ba []), .int .i64 0, .int .i64 0, .string (ba []), .slice none 0 0] KR3.out (by kernel_rfl) rfl (one8 _ _ _ _ _ _ _ _ _ _) ?_; intro wy hby hgy; have HGy := Lib.hid hgy; have HBy := Lib.hid hby; have HXy : Hid (Below w.heap.size w wy) := Lib.hid ((below_step HX2.out HXi.out).grown hgy (below_step HX2.out HXi.out).size (fun k hk => by have := Option.some.inj hk; omega)); clear hby hgy))
      have hgl : w.heap.size + 2 < wb.heap.size := by have := K3.out.lt; omega
      have HEsy : OEs wy w.heap.size (.slice A7 n7 c7) es' := OEs.weak (B := wb.heap.size) ⟨s2, HO2.out.far HGy.out hgl, HAll.out.mono fun _ _ h => h.far HGy.out hgl⟩ (by omega)
      (try simp only [Exit.inBlock, Exit.then]); refine bodyPost_ret (results_cell_row_0 rfl _ _ (w.heap.size + 2) 26 _ (0, 0) _ rfl HBy.out Try.underlying26 rfl (by kernel_rfl)) rfl ?_
      exact ⟨A7, n7, c7, rfl, HEsy, HC8.out.1, HC8.out.2, HXy.out⟩


theorem with_any (co : Cr) (es : List En) (A : Option Addr) (n c1 : Nat) (x : En) (B : Option Addr) (m d : Nat) (w : World) (h : EsIn w A n es) (hx : TsIn w (B, m, d) x.ts) (hn : n ≤ 1000) (hnc : n ≤ c1) (hts : ∀ e ∈ es, e.ts.length ≤ 1000000) (hxt : x.ts.length ≤ 1000000) :
    Calls Try.prog 10 #[.agg #[.int .i64 co.cl, .int .i64 co.sp, .int .i64 co.op, .string (ba co.lt), .int .i64 co.a, .int .i64 co.b, .string (ba co.tx), .slice A n c1], .agg #[.int .i64 x.og, .slice B m d]] w (RqOutC w ⟨co, withE es x⟩) :=
  (with_own co es A n c1 x B m d w h hx hn hnc hts hxt).mono fun _ _ ⟨A, m, c, he, ho, h1, h2, h3⟩ => ⟨A, m, c, he, ho.es, h1, h2, h3⟩

end Go.Proofs.Ytgbobemhogeeeaa
