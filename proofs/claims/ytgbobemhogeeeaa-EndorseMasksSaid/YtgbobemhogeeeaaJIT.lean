/-
  Joined: IdT.
-/
import Derived.Test.YtgbobemhogeeeaaJIC
import Derived.Deep.CutRange
namespace Go.Proofs.Ytgbobemhogeeeaa
open Go.RowKit

/-- A book of the document's, whose maps lie in these blocks. -/
def ISr (W : World) (g r1 r2 : Nat) (ds ts : List (List UInt8)) : Prop := Blk W g tID [.map (some r1), .map (some r2)] ∧ MI W ds r1 ∧ MI W ts r2 ∧ r1 ≠ g ∧ r2 ≠ g ∧ r1 ≠ r2
theorem ISr.is {W : World} {g r1 r2 : Nat} {ds ts : List (List UInt8)} (h : ISr W g r1 r2 ds ts) : IS W g ds ts := ⟨r1, r2, h⟩
theorem ISr.through {W W' : World} {g r1 r2 : Nat} {ds ts : List (List UInt8)} (h : ISr W g r1 r2 ds ts) (hb : Below W.heap.size W W') : ISr W' g r1 r2 ds ts := by
  obtain ⟨h1, h2, h3, h4⟩ := h
  exact ⟨h1.through hb, h2.through hb, h3.through hb, h4⟩
/-- One map alone was turned. -/
theorem kf_map {w w' : World} {r : Nat} {ts : List (List UInt8)} (hg : w.grownBy w' (some r)) (hm : MI w' ts r) (hr : r < w.heap.size) : KF r w w' := by
  obtain ⟨es, ck, hb, _⟩ := hm
  refine ⟨⟨hg.os, hg.tape, hg.output, hg.size, fun k hk => hg.block k (Nat.lt_trans hk hr) (fun e => by have := Option.some.inj e; omega)⟩, fun k hk hc => ?_, fun k hl hk _ => hg.block k hl (fun e => hk (Option.some.inj e)), fun k ho => ?_⟩
  · obtain ⟨_, _, _, hc⟩ := hc
    exact hg.block k (Array.getElem?_eq_some_iff.1 hc).1 (fun e => hk (Option.some.inj e))
  · obtain ⟨cs, t, fr, i, h1, _⟩ := ho
    rw [hb] at h1
    cases h1
theorem step_updI {ops : Array Oper} {o : Oper} {a : Act} {W : World} {K : Act → World → Prop} {R : Exit → Act → World → Prop} {E : Prop} (hw : Region.wanted o (yielded ops a.tmps) = true) (m x v : Operand)
    (ho : o.op = .mapUpdate tMI m x v) {xs : List (List UInt8)} {r : Nat} (hm : MI W xs r) (z : List UInt8) (hz : z ∉ xs) (hem : a.eval m = .map (some r)) (hex : a.eval x = .string (ba z)) (hev : a.eval v = .int .i64 ((xs.length + 1 : Nat) : Int))
    (h : ∀ W', MI W' (also z xs) r → W.grownBy W' (some r) → K (a.put o.dst undef) W') : if Region.wanted o (yielded ops a.tmps) = true then Oper.wp Try.prog o a W K R else E := by
  rw [if_pos hw]
  obtain ⟨W', hrun, h1, h2⟩ := run_updI hm z hz
  unfold Oper.wp execOp
  simp only [ho, hem, hex, hev, Sem.run_bind, hrun, Result.andThen_ok]
  exact h W' h1 h2
theorem step_lenI {ops : Array Oper} {o : Oper} {a : Act} {W : World} {K : Act → World → Prop} {R : Exit → Act → World → Prop} {E : Prop} (hw : Region.wanted o (yielded ops a.tmps) = true) (x : Operand)
    (ho : o.op = .call { callee := .builtin .len, args := #[x], argTypes := #[tMI] }) (vm : Value) (hx : a.eval x = vm) (v : Value) (hrun : (Builtin.len_ #[tMI] o.type #[vm]).run Try.prog W = .ok v W)
    (h : K (a.put o.dst v) W) : if Region.wanted o (yielded ops a.tmps) = true then Oper.wp Try.prog o a W K R else E := by
  rw [if_pos hw]
  unfold Oper.wp execOp
  simp only [ho, resolve, invoke, builtin, Sem.run_bind, Sem.run_pure, Result.andThen_ok, List.map_toArray, List.map_cons, List.map_nil, hx, hrun]
  exact h

set_option maxHeartbeats 8000000 in
set_option maxRecDepth 100000 in
theorem itag_miss (g r1 r2 : Nat) (x z : Int) (t : List UInt8) (A : Option Addr) (n c : Nat) (ds ts : List (List UInt8)) (w : World) (h : ISr w g r1 r2 ds ts) (ht : By w (fun _ => True) A n t) (hn : n ≤ 1099511627776) (hl : ts.length < 1000000000) (hx : saidB x z t ∉ ts) :
    Calls Try.prog 114 #[(.pointer (some ⟨g, 0, none⟩)), .int .i64 x, .int .i64 z, .slice A n c] w fun e w' => e = .returned (.agg (vs (numB 255 (ord (saidB x z t) (also (saidB x z t) ts)))).toArray) ∧ ISr w' g r1 r2 ds (also (saidB x z t) ts) ∧ KF r2 w w' := by
  obtain ⟨h1, h2, h3, h4, h5, h6⟩ := h
  have hsd : ∀ W, By W (fun _ => True) A n t → Calls Try.prog 66 #[.int .i64 x, .int .i64 z, .slice A n c] W fun e w' => e = .returned (.string (ba (saidB x z t))) ∧ Below W.heap.size W w' := fun W hW => said_any x z t A n c W hW hn
  have hmem := mem_also (saidB x z t) ts
  have hol := ord_le hmem
  have hal := also_length (saidB x z t) ts
  obtain ⟨k, hk⟩ : ∃ k, k = ba (saidB x z t) := ⟨_, rfl⟩
  have HKk : Hid ((Value.string k) = .string (ba (saidB x z t))) := Lib.hid (by rw [hk])
  obtain ⟨o2, ho2⟩ : ∃ o2 : Nat, o2 = ord (saidB x z t) (also (saidB x z t) ts) := ⟨_, rfl⟩
  have hlk2 : ∀ W, MI W (also (saidB x z t) ts) r2 → (Instr.lookup tMI (.map (some r2)) (.string k) false).run Try.prog W = .ok (.int .i64 (o2 : Int)) W := fun W hW => by
    have h9 := run_lookI hW (saidB x z t)
    rw [look, if_pos hmem] at h9
    rw [hk, ho2]
    exact h9
  obtain ⟨r, hr⟩ : ∃ r, r = vs (numB 255 o2) := ⟨_, rfl⟩
  have hnb : ∀ W, Calls Try.prog 67 #[.int .u8 255, .int .i64 (o2 : Int)] W fun e w' => e = .returned (.agg r.toArray) ∧ Below W.heap.size W w' := fun W => by
    rw [hr]
    exact rnum6_any 255 o2 (by omega) W
  obtain ⟨r0, hr0⟩ : ∃ r0, r0 = vs (List.replicate 32 (0 : UInt8)) := ⟨_, rfl⟩
  have hz : ∀ W, (zeroValue 73).run Try.prog W = .ok (.agg r0.toArray) W := fun W => by rw [hr0]; kernel_rfl
  have HR0 : Hid (r0.length = 32) := Lib.hid (by rw [hr0]; rfl)
  have HRl : Hid (r.length = 32) := Lib.hid (by rw [hr, vs_length]; exact numB_length _ _)
  have HRo : Hid (r.toArray.all (·.oneCell') = true) := Lib.hid (by rw [hr]; exact one_u8')
  rw [← ho2, ← hr]
  have HLk2 := Lib.hid hlk2
  have HNb := Lib.hid hnb
  have hr2 := h3.lt
  have hr1 := h2.lt
  have hgl := h1.lt
  have hlk : ∀ W, MI W ts r2 → (Instr.lookup tMI (.map (some r2)) (.string k) false).run Try.prog W = .ok (.int .i64 0) W := fun W hW => by
    have h9 := run_lookI hW (saidB x z t)
    rw [look, if_neg hx] at h9
    rw [hk]
    exact h9
  obtain ⟨n0, hn0⟩ : ∃ n0, ts.length = n0 := ⟨_, rfl⟩
  have HLt := Lib.hid hn0
  have hwl : IntKind.i64.wrap ((n0 : Int) + 1) = (n0 : Int) + 1 := IntWalk.i64_in _ (by omega)
  have hwl2 : wrap64 ((n0 : Int) + 1) = (n0 : Int) + 1 := IntWalk.wrap64_in _ (by omega)
  have HX := Lib.hid hx
  have HLk := Lib.hid hlk
  rw [← hk] at hsd
  have HSd := Lib.hid hsd
  have HB := Lib.hid ht
  have X0 : Hid (Below w.heap.size w (w.alloc (.cells r0.toArray 73))) := Lib.hid ((Below.refl _ w).alloc (Nat.le_refl _) _)
  have H1 := Lib.hid (h1.through X0.out)
  have M1 := Lib.hid (h3.through X0.out)
  have D1 := Lib.hid (h2.through X0.out)
  have Q1 : Hid (Blk (w.alloc (.cells r0.toArray 73)) w.heap.size 73 r0) := Lib.hid (Blk.fresh rfl rfl)
  have HGR : Hid (g ≠ r2) := Lib.hid (fun e => h5 e.symm)
  have HRR : Hid (r1 ≠ r2) := Lib.hid h6
  have HR2 : Hid (r2 < w.heap.size) := Lib.hid hr2
  have HN := Lib.hid (And.intro h4 h5)
  obtain ⟨b8, hb8⟩ : ∃ b8, b8 = w.heap.size := ⟨_, rfl⟩
  have HBR : Hid (b8 ≠ r2) := Lib.hid (by omega)
  have HBR1 : Hid (b8 ≠ r1) := Lib.hid (by omega)
  have HGB : Hid (g ≠ b8) := Lib.hid (by omega)
  have HB8 : Hid (w.heap.size ≤ b8) := Lib.hid (by omega)
  have HM := Lib.hid hmem
  skip
  clear h1 h2 h3 h4 h5 h6 hsd hlk hlk2 ht hk hr ho2 hx hl hn hnb hr0 hmem hol hal hr1 hr2 hgl hn0
  go_enter Try.func114, Try.ntmps114
  go_wp2_with (first
    | (go_at_call 66; (with_reducible refine (HSd.out _ (HB.out.alloc _)).mono ?_); rintro e w1 ⟨rfl, hb1⟩; have XA : Hid (Below w.heap.size w w1) := Lib.hid (X0.out.trans (hb1.mono X0.out.size)); have HA := Lib.hid (H1.out.through hb1); have MA := Lib.hid (M1.out.through hb1); have DA := Lib.hid (D1.out.through hb1); have QA := Lib.hid (Q1.out.through hb1); have c1 : w1.cell? ⟨g, 1, none⟩ = some (.map (some r2)) := HA.out.cellAt rfl; have hlk := HLk.out _ MA.out; clear hb1))
  try dsimp only [Act.put]
  rw [← hb8] at QA
  rw [← hb8]
  clear hb8
  refine wp_region_held_drew (S := fun W => Blk W g tID [.map (some r1), .map (some r2)]) (by kernel_rfl) HA.out.drew (fun hHeld => ?_)
  change wpAnyH _ _ _ _ _ _ #[false, false, false, false, false, false, false, false, false, false, false, false] _ _
  refine wpAnyH_take (i := 0) (v := (.pointer (some ⟨g, 0, none⟩))) rfl (by kernel_rfl) (by kernel_rfl) (by kernel_rfl) (fun _ _ _ h => h) (Or.inl ⟨by kernel_rfl, fun w hSw => ?_⟩) (by assumption) ?_
  · (try dsimp only at hSw); go_simp <;> (try rfl)
  change wpAnyH _ _ _ _ _ _ _ (Act.put _ (some (21 : Nat)) (.pointer (some ⟨g, 0, none⟩))) _
  simp only [Act.put, List.setIfInBounds_toArray, List.set_cons_zero, List.set_cons_succ]
  refine wpAnyH_take (i := 1) (v := (.pointer (some ⟨g, 0, none⟩))) rfl (by kernel_rfl) (by kernel_rfl) (by kernel_rfl) (fun _ _ _ h => h) (Or.inl ⟨by kernel_rfl, fun w hSw => ?_⟩) (by assumption) ?_
  · (try dsimp only at hSw); go_simp <;> (try rfl)
  change wpAnyH _ _ _ _ _ _ _ (Act.put _ (some (22 : Nat)) (.pointer (some ⟨g, 0, none⟩))) _
  simp only [Act.put, List.setIfInBounds_toArray, List.set_cons_zero, List.set_cons_succ]
  refine wpAnyH_take (i := 2) (v := (.pointer (some ⟨g, 1, none⟩))) rfl (by kernel_rfl) (by kernel_rfl) (by kernel_rfl) (fun _ _ _ h => h) (Or.inl ⟨by kernel_rfl, fun w hSw => ?_⟩) (by assumption) ?_
  · (try dsimp only at hSw); go_simp <;> (try rfl)
  change wpAnyH _ _ _ _ _ _ _ (Act.put _ (some (23 : Nat)) (.pointer (some ⟨g, 1, none⟩))) _
  simp only [Act.put, List.setIfInBounds_toArray, List.set_cons_zero, List.set_cons_succ]
  refine wpAnyH_take (i := 3) (v := (.map (some r2))) rfl (by kernel_rfl) (by kernel_rfl) (by kernel_rfl) (fun _ _ _ h => h) (yields_load_at (by kernel_rfl) tMI (.tmp 23) rfl (.pointer (some ⟨g, 1, none⟩)) (by simp [Act.eval]) (.map (some r2)) (fun W hW => load_one' (Try.agg_mapI W) (hW.cellAt rfl))) (by assumption) ?_
  change wpAnyH _ _ _ _ _ _ _ (Act.put _ (some (24 : Nat)) (.map (some r2))) _
  simp only [Act.put, List.setIfInBounds_toArray, List.set_cons_zero, List.set_cons_succ]
  refine wpAnyH_take (i := 4) (v := (.string k)) rfl (by kernel_rfl) (by kernel_rfl) (by kernel_rfl) (fun _ _ _ h => h) (Or.inl ⟨by kernel_rfl, fun w hSw => ?_⟩) (by assumption) ?_
  · (try dsimp only at hSw); go_simp <;> (try rfl)
  change wpAnyH _ _ _ _ _ _ _ (Act.put _ (some (25 : Nat)) (.string k)) _
  simp only [Act.put, List.setIfInBounds_toArray, List.set_cons_zero, List.set_cons_succ]
  refine wpAnyH_take (i := 5) (v := (.pointer (some ⟨g, 0, none⟩))) rfl (by kernel_rfl) (by kernel_rfl) (by kernel_rfl) (fun _ _ _ h => h) (Or.inl ⟨by kernel_rfl, fun w hSw => ?_⟩) (by assumption) ?_
  · (try dsimp only at hSw); go_simp <;> (try rfl)
  change wpAnyH _ _ _ _ _ _ _ (Act.put _ (some (26 : Nat)) (.pointer (some ⟨g, 0, none⟩))) _
  simp only [Act.put, List.setIfInBounds_toArray, List.set_cons_zero, List.set_cons_succ]
  refine wpAnyH_take (i := 6) (v := (.pointer (some ⟨g, 0, none⟩))) rfl (by kernel_rfl) (by kernel_rfl) (by kernel_rfl) (fun _ _ _ h => h) (Or.inl ⟨by kernel_rfl, fun w hSw => ?_⟩) (by assumption) ?_
  · (try dsimp only at hSw); go_simp <;> (try rfl)
  change wpAnyH _ _ _ _ _ _ _ (Act.put _ (some (27 : Nat)) (.pointer (some ⟨g, 0, none⟩))) _
  simp only [Act.put, List.setIfInBounds_toArray, List.set_cons_zero, List.set_cons_succ]
  refine wpAnyH_take (i := 7) (v := (.pointer (some ⟨g, 1, none⟩))) rfl (by kernel_rfl) (by kernel_rfl) (by kernel_rfl) (fun _ _ _ h => h) (Or.inl ⟨by kernel_rfl, fun w hSw => ?_⟩) (by assumption) ?_
  · (try dsimp only at hSw); go_simp <;> (try rfl)
  change wpAnyH _ _ _ _ _ _ _ (Act.put _ (some (28 : Nat)) (.pointer (some ⟨g, 1, none⟩))) _
  simp only [Act.put, List.setIfInBounds_toArray, List.set_cons_zero, List.set_cons_succ]
  refine wpAnyH_take (i := 8) (v := (.map (some r2))) rfl (by kernel_rfl) (by kernel_rfl) (by kernel_rfl) (fun _ _ _ h => h) (yields_load_at (by kernel_rfl) tMI (.tmp 28) rfl (.pointer (some ⟨g, 1, none⟩)) (by simp [Act.eval]) (.map (some r2)) (fun W hW => load_one' (Try.agg_mapI W) (hW.cellAt rfl))) (by assumption) ?_
  change wpAnyH _ _ _ _ _ _ _ (Act.put _ (some (29 : Nat)) (.map (some r2))) _
  simp only [Act.put, List.setIfInBounds_toArray, List.set_cons_zero, List.set_cons_succ]
  refine wpAnyH_ready (rs := [9]) (by kernel_rfl) (by simp) ?_
  refine AllReadyH.cons (o := ⟨some 30, .call { callee := .builtin .len, args := #[.tmp 29], argTypes := #[tMI] }, _, _, _, none⟩) rfl (fun K hK => ?_) AllReadyH.nil
  refine step_lenI (by kernel_rfl) (.tmp 29) rfl (.map (some r2)) (by simp [Act.eval]) (.int .i64 (n0 : Int)) (by rw [← HLt.out]; exact run_lenI MA.out.drew _) ?_
  refine hK.out _ _ HA.out.drew (fun hHeld1 => ?_)
  clear hHeld hK K
  have hHeld := hHeld1
  clear hHeld1
  change wpAnyH _ _ _ _ _ _ _ (Act.put _ (some (30 : Nat)) (.int .i64 (n0 : Int))) _
  simp only [Act.put, List.setIfInBounds_toArray, List.set_cons_zero, List.set_cons_succ]
  refine wpAnyH_take (i := 10) (v := (.int .i64 ((n0 : Int) + 1))) rfl (by kernel_rfl) (by kernel_rfl) (by kernel_rfl) (fun _ _ _ h => h) (Or.inl ⟨by kernel_rfl, fun w hSw => ?_⟩) (by assumption) ?_
  · (try dsimp only at hSw); go_simp <;> (try rfl)
  change wpAnyH _ _ _ _ _ _ _ (Act.put _ (some (31 : Nat)) (.int .i64 ((n0 : Int) + 1))) _
  simp only [Act.put, List.setIfInBounds_toArray, List.set_cons_zero, List.set_cons_succ]
  refine wpAnyH_ready (rs := [11]) (by kernel_rfl) (by simp) ?_
  refine AllReadyH.cons (o := ⟨none, .mapUpdate tMI (.tmp 24) (.tmp 25) (.tmp 31), _, _, _, none⟩) rfl (fun K hK => ?_) AllReadyH.nil
  refine step_updI (by kernel_rfl) (.tmp 24) (.tmp 25) (.tmp 31) rfl MA.out (saidB x z t) HX.out (by simp [Act.eval]) (by simp only [Act.eval]; exact HKk.out) (by simp [Act.eval, HLt.out]) ?_; intro w2 hm2 hg2; have M2 := Lib.hid hm2; have H2 := Lib.hid (HA.out.drew.grown hg2 (fun e => HGR.out (Option.some.inj e))); have D2 := Lib.hid (DA.out.drew.grown hg2 (fun e => HRR.out (Option.some.inj e))); have Q2 := Lib.hid (QA.out.drew.grown hg2 (fun e => HBR.out (Option.some.inj e))); have F2 := Lib.hid ((KF.of_below HR2.out XA.out.drew).trans (kf_map hg2 hm2 (Nat.lt_of_lt_of_le HR2.out XA.out.size))); clear hm2 hg2
  refine hK.out _ _ H2.out (fun hHeld1 => ?_)
  clear hHeld hK K
  have hHeld := hHeld1
  clear hHeld1
  change wpAnyH _ _ _ _ _ _ _ (Act.put _ none undef) _
  simp only [Act.put]
  refine wpAnyH_done (by kernel_rfl) ?_ _
  have c2 : w2.cell? ⟨g, 1, none⟩ = some (.map (some r2)) := H2.out.cellAt rfl
  have hlk2 := HLk2.out _ M2.out
  go_wp2_with (first
    | (go_at_call 67; (with_reducible refine (HNb.out _).mono ?_); rintro e w3 ⟨rfl, hb3⟩; have H3 := Lib.hid (H2.out.through hb3); have M3 := Lib.hid (M2.out.through hb3); have D3 := Lib.hid (D2.out.through hb3); have Q3 := Lib.hid (Q2.out.through hb3); have F3 := Lib.hid (F2.out.below HR2.out hb3); clear hb3)
    | (refine wpList_store_blk rfl 73 (.tmp 8) (.tmp 38) rfl b8 r rfl rfl 73 r0 Q3.out (by rw [HRl.out]; kernel_rfl) (by rw [HR0.out, HRl.out]) HRo.out ?_; intro w4 hb4 hg4; have Q4 := Lib.hid hb4; have H4 := Lib.hid (H3.out.grown hg4 (fun e => HGB.out (Option.some.inj e))); have M4 := Lib.hid (M3.out.grown hg4 (fun e => HBR.out (Option.some.inj e).symm)); have D4 := Lib.hid (D3.out.grown hg4 (fun e => HBR1.out (Option.some.inj e).symm)); have F4 := Lib.hid (F3.out.grownB hg4 HB8.out HR2.out); clear hb4 hg4))
  refine bodyPost_ret (v := .agg r.toArray) (results_cell_row rfl _ _ b8 73 _ (0, 0) _ rfl Q4.out Try.underlying73 rfl ?r1) rfl ⟨rfl, ⟨H4.out, D4.out, M4.out, HN.out.1, HN.out.2, HRR.out⟩, F4.out⟩
  rw [List.size_toArray, HRl.out]; kernel_rfl

set_option maxHeartbeats 8000000 in
set_option maxRecDepth 100000 in
theorem itag_hit (g r1 r2 : Nat) (x z : Int) (t : List UInt8) (A : Option Addr) (n c : Nat) (ds ts : List (List UInt8)) (w : World) (h : ISr w g r1 r2 ds ts) (ht : By w (fun _ => True) A n t) (hn : n ≤ 1099511627776) (hl : ts.length < 1000000000) (hx : saidB x z t ∈ ts) :
    Calls Try.prog 114 #[(.pointer (some ⟨g, 0, none⟩)), .int .i64 x, .int .i64 z, .slice A n c] w fun e w' => e = .returned (.agg (vs (numB 255 (ord (saidB x z t) (also (saidB x z t) ts)))).toArray) ∧ ISr w' g r1 r2 ds (also (saidB x z t) ts) ∧ KF r2 w w' := by
  obtain ⟨h1, h2, h3, h4, h5, h6⟩ := h
  have hsd : ∀ W, By W (fun _ => True) A n t → Calls Try.prog 66 #[.int .i64 x, .int .i64 z, .slice A n c] W fun e w' => e = .returned (.string (ba (saidB x z t))) ∧ Below W.heap.size W w' := fun W hW => said_any x z t A n c W hW hn
  have hmem := mem_also (saidB x z t) ts
  have hol := ord_le hmem
  have hal := also_length (saidB x z t) ts
  obtain ⟨k, hk⟩ : ∃ k, k = ba (saidB x z t) := ⟨_, rfl⟩
  have HKk : Hid ((Value.string k) = .string (ba (saidB x z t))) := Lib.hid (by rw [hk])
  obtain ⟨o2, ho2⟩ : ∃ o2 : Nat, o2 = ord (saidB x z t) (also (saidB x z t) ts) := ⟨_, rfl⟩
  have hlk2 : ∀ W, MI W (also (saidB x z t) ts) r2 → (Instr.lookup tMI (.map (some r2)) (.string k) false).run Try.prog W = .ok (.int .i64 (o2 : Int)) W := fun W hW => by
    have h9 := run_lookI hW (saidB x z t)
    rw [look, if_pos hmem] at h9
    rw [hk, ho2]
    exact h9
  obtain ⟨r, hr⟩ : ∃ r, r = vs (numB 255 o2) := ⟨_, rfl⟩
  have hnb : ∀ W, Calls Try.prog 67 #[.int .u8 255, .int .i64 (o2 : Int)] W fun e w' => e = .returned (.agg r.toArray) ∧ Below W.heap.size W w' := fun W => by
    rw [hr]
    exact rnum6_any 255 o2 (by omega) W
  obtain ⟨r0, hr0⟩ : ∃ r0, r0 = vs (List.replicate 32 (0 : UInt8)) := ⟨_, rfl⟩
  have hz : ∀ W, (zeroValue 73).run Try.prog W = .ok (.agg r0.toArray) W := fun W => by rw [hr0]; kernel_rfl
  have HR0 : Hid (r0.length = 32) := Lib.hid (by rw [hr0]; rfl)
  have HRl : Hid (r.length = 32) := Lib.hid (by rw [hr, vs_length]; exact numB_length _ _)
  have HRo : Hid (r.toArray.all (·.oneCell') = true) := Lib.hid (by rw [hr]; exact one_u8')
  rw [← ho2, ← hr]
  have HLk2 := Lib.hid hlk2
  have HNb := Lib.hid hnb
  have hr2 := h3.lt
  have hr1 := h2.lt
  have hgl := h1.lt
  have hlk : ∀ W, MI W ts r2 → (Instr.lookup tMI (.map (some r2)) (.string k) false).run Try.prog W = .ok (.int .i64 (o2 : Int)) W := fun W hW => hlk2 W (by rw [also_mem hx]; exact hW)
  have ho0 : ((o2 : Int) == 0) = false := by
    have : o2 ≠ 0 := by rw [ho2]; unfold ord; omega
    simp; omega
  have ho0' : ¬ (o2 : Int) = 0 := by
    have : o2 ≠ 0 := by rw [ho2]; unfold ord; omega
    omega
  have HLk := Lib.hid hlk
  rw [← hk] at hsd
  have HSd := Lib.hid hsd
  have HB := Lib.hid ht
  have X0 : Hid (Below w.heap.size w (w.alloc (.cells r0.toArray 73))) := Lib.hid ((Below.refl _ w).alloc (Nat.le_refl _) _)
  have H1 := Lib.hid (h1.through X0.out)
  have M1 := Lib.hid (h3.through X0.out)
  have D1 := Lib.hid (h2.through X0.out)
  have Q1 : Hid (Blk (w.alloc (.cells r0.toArray 73)) w.heap.size 73 r0) := Lib.hid (Blk.fresh rfl rfl)
  have HGR : Hid (g ≠ r2) := Lib.hid (fun e => h5 e.symm)
  have HRR : Hid (r1 ≠ r2) := Lib.hid h6
  have HR2 : Hid (r2 < w.heap.size) := Lib.hid hr2
  have HN := Lib.hid (And.intro h4 h5)
  obtain ⟨b8, hb8⟩ : ∃ b8, b8 = w.heap.size := ⟨_, rfl⟩
  have HBR : Hid (b8 ≠ r2) := Lib.hid (by omega)
  have HBR1 : Hid (b8 ≠ r1) := Lib.hid (by omega)
  have HGB : Hid (g ≠ b8) := Lib.hid (by omega)
  have HB8 : Hid (w.heap.size ≤ b8) := Lib.hid (by omega)
  have HM := Lib.hid hmem
  have HXm := Lib.hid hx
  clear h1 h2 h3 h4 h5 h6 hsd hlk hlk2 ht hk hr ho2 hx hl hn hnb hr0 hmem hol hal hr1 hr2 hgl 
  go_enter Try.func114, Try.ntmps114
  go_upto_region 2 with (go_at_call 66; (with_reducible refine (HSd.out _ (HB.out.alloc _)).mono ?_); rintro e w1 ⟨rfl, hb1⟩; have XA : Hid (Below w.heap.size w w1) := Lib.hid (X0.out.trans (hb1.mono X0.out.size)); have HA := Lib.hid (H1.out.through hb1); have MA := Lib.hid (M1.out.through hb1); have DA := Lib.hid (D1.out.through hb1); have QA := Lib.hid (Q1.out.through hb1); have c1 : w1.cell? ⟨g, 1, none⟩ = some (.map (some r2)) := HA.out.cellAt rfl; have hlk := HLk.out _ MA.out; clear hb1)
  try dsimp only [Act.put]
  rw [← hb8] at QA
  rw [← hb8]
  clear hb8
  have H2 := HA
  have M2 : Hid (MI w1 (also (saidB x z t) ts) r2) := Lib.hid (by rw [also_mem HXm.out]; exact MA.out)
  have D2 := DA
  have Q2 := QA
  have F2 : Hid (KF r2 w w1) := Lib.hid (KF.of_below HR2.out XA.out)
  go_wp2_with (first
    | (go_at_call 67; (with_reducible refine (HNb.out _).mono ?_); rintro e w3 ⟨rfl, hb3⟩; have H3 := Lib.hid (H2.out.through hb3); have M3 := Lib.hid (M2.out.through hb3); have D3 := Lib.hid (D2.out.through hb3); have Q3 := Lib.hid (Q2.out.through hb3); have F3 := Lib.hid (F2.out.below HR2.out hb3); clear hb3)
    | (refine wpList_store_blk rfl 73 (.tmp 8) (.tmp 38) rfl b8 r rfl rfl 73 r0 Q3.out (by rw [HRl.out]; kernel_rfl) (by rw [HR0.out, HRl.out]) HRo.out ?_; intro w4 hb4 hg4; have Q4 := Lib.hid hb4; have H4 := Lib.hid (H3.out.grown hg4 (fun e => HGB.out (Option.some.inj e))); have M4 := Lib.hid (M3.out.grown hg4 (fun e => HBR.out (Option.some.inj e).symm)); have D4 := Lib.hid (D3.out.grown hg4 (fun e => HBR1.out (Option.some.inj e).symm)); have F4 := Lib.hid (F3.out.grownB hg4 HB8.out HR2.out); clear hb4 hg4))
  refine bodyPost_ret (v := .agg r.toArray) (results_cell_row rfl _ _ b8 73 _ (0, 0) _ rfl Q4.out Try.underlying73 rfl ?r1) rfl ⟨rfl, ⟨H4.out, D4.out, M4.out, HN.out.1, HN.out.2, HRR.out⟩, F4.out⟩
  rw [List.size_toArray, HRl.out]; kernel_rfl

theorem itag_any (g r1 r2 : Nat) (x z : Int) (t : List UInt8) (A : Option Addr) (n c : Nat) (ds ts : List (List UInt8)) (w : World) (h : ISr w g r1 r2 ds ts) (ht : By w (fun _ => True) A n t) (hn : n ≤ 1099511627776) (hl : ts.length < 1000000000) :
    Calls Try.prog 114 #[(.pointer (some ⟨g, 0, none⟩)), .int .i64 x, .int .i64 z, .slice A n c] w fun e w' => e = .returned (.agg (vs (numB 255 (ord (saidB x z t) (also (saidB x z t) ts)))).toArray) ∧ ISr w' g r1 r2 ds (also (saidB x z t) ts) ∧ KF r2 w w' := by
  by_cases hx : saidB x z t ∈ ts
  · exact itag_hit g r1 r2 x z t A n c ds ts w h ht hn hl hx
  · exact itag_miss g r1 r2 x z t A n c ds ts w h ht hn hl hx

end Go.Proofs.Ytgbobemhogeeeaa
