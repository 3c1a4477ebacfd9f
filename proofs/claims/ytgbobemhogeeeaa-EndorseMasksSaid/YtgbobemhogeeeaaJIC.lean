/-
  Joined: IdC.
-/
import Derived.Test.YtgbobemhogeeeaaJIB
namespace Go.Proofs.Ytgbobemhogeeeaa
open Go.RowKit

theorem itag_eql (xs ys : List UInt8) (hx : xs.length = 32) (hy : ys.length = 32) (w : World) : (binOp .eql 73 (.agg (vs xs).toArray) (.agg (vs ys).toArray)).run Try.prog w = .ok (.bool (xs == ys)) w :=
  run_eql_bytes w 73 5 32 Try.underlying73 Try.underlying5 (by kernel_rfl) (by kernel_rfl) xs ys hx hy
theorem yields_look1 {P : Program} {ops : Array Oper} {S : World → Prop} {op : Oper} {a : Act} (hw : Region.wanted op (yielded ops a.tmps) = true) (t : TypeId) (m x : Operand) (ho : op.op = .lookup t m x false)
    (vm vx : Value) (hm : a.eval m = vm) (hx : a.eval x = vx) (v : Value) (hS : ∀ w, S w → (Instr.lookup t vm vx false).run P w = .ok v w) : YieldsIf P ops S op v a :=
  .inl ⟨hw, fun w hw' => by
    unfold execOp
    simp only [ho, hm, hx, Sem.run_bind, hS w hw', Result.andThen_ok]
    rfl⟩

set_option maxHeartbeats 8000000 in
set_option maxRecDepth 100000 in
theorem icheck_hit (g : Nat) (x z : Int) (t tg : List UInt8) (A : Option Addr) (n c : Nat) (ds ts : List (List UInt8)) (w : World) (h : IS w g ds ts) (ht : By w (fun _ => True) A n t) (hn : n ≤ 1099511627776) (htg : tg.length = 32) (hl : ts.length < 1000000000) (hx : saidB x z t ∈ ts) :
    Calls Try.prog 36 #[.pointer (some ⟨g, 0, none⟩), .int .i64 x, .int .i64 z, .slice A n c, .agg (vs tg).toArray] w fun e w' => e = .returned (.bool (tg == numB 255 (ord (saidB x z t) ts))) ∧ Below w.heap.size w w' := by
  obtain ⟨r1, r2, h1, h2, h3, h4⟩ := h
  have hsd : ∀ W, By W (fun _ => True) A n t → Calls Try.prog 66 #[.int .i64 x, .int .i64 z, .slice A n c] W fun e w' => e = .returned (.string (ba (saidB x z t))) ∧ Below W.heap.size W w' := fun W hW => said_any x z t A n c W hW hn
  obtain ⟨k, hk⟩ : ∃ k, k = ba (saidB x z t) := ⟨_, rfl⟩
  obtain ⟨q, hq⟩ : ∃ q, q = vs tg := ⟨_, rfl⟩
  have hql : q.length = 32 := by rw [hq, vs_length, htg]
  obtain ⟨lv, hlv⟩ : ∃ lv, lv = look (saidB x z t) ts := ⟨_, rfl⟩
  have hlk : ∀ W, MI W ts r2 → (Instr.lookup tMI (.map (some r2)) (.string k) false).run Try.prog W = .ok (.int .i64 lv) W := fun W hW => by
    rw [hk, hlv]
    exact run_lookI hW _
  have hlo : lv = (ord (saidB x z t) ts : Int) := by rw [hlv, look, if_pos hx]
  have hgt : (0 : Int) < lv := by
    rw [hlo]
    unfold ord
    omega
  obtain ⟨r, hr⟩ : ∃ r, r = vs (numB 255 (ord (saidB x z t) ts)) := ⟨_, rfl⟩
  have hnb : ∀ W, Calls Try.prog 67 #[.int .u8 255, .int .i64 lv] W fun e w' => e = .returned (.agg r.toArray) ∧ Below W.heap.size W w' := fun W => by
    rw [hr, hlo]
    have h1 := ord_le hx
    exact rnum6_any 255 _ (by omega) W
  obtain ⟨res, hres⟩ : ∃ res, res = (tg == numB 255 (ord (saidB x z t) ts)) := ⟨_, rfl⟩
  have hcmp : ∀ W, (binOp .eql 73 (.agg q.toArray) (.agg r.toArray)).run Try.prog W = .ok (.bool res) W := fun W => by
    rw [hq, hr, hres]
    exact itag_eql _ _ htg (numB_length _ _) W
  rw [← hres]
  have HNb := Lib.hid hnb
  rw [← hk] at hsd
  rw [← hq]
  have HSd := Lib.hid hsd
  have HLk := Lib.hid hlk
  have HB := Lib.hid ht
  have HQl := Lib.hid hql
  have X0 : Hid (Below w.heap.size w (w.alloc (.cells q.toArray 73))) := Lib.hid ((Below.refl _ w).alloc (Nat.le_refl _) _)
  have H1 := Lib.hid (h1.through X0.out)
  have M1 := Lib.hid (h3.through X0.out)
  have Q1 : Hid (Blk (w.alloc (.cells q.toArray 73)) w.heap.size 73 q) := Lib.hid (Blk.fresh rfl rfl)
  clear h1 h2 h3 h4 hsd hlk ht hk hq hlv hx hl htg hql hn hlo hr hnb hres
  go_enter Try.func36, Try.ntmps36
  go_wp2
  try dsimp only [Act.put]
  obtain ⟨b, hb⟩ : ∃ b, b = w.heap.size := ⟨_, rfl⟩
  rw [← hb] at Q1
  rw [← hb]
  clear hb
  refine wp_region_held_drew (S := fun W => Blk W g tID [.map (some r1), .map (some r2)] ∧ MI W ts r2 ∧ Blk W b 73 q) (by kernel_rfl) ⟨H1.out.drew, M1.out.drew, Q1.out.drew⟩ (fun hHeld => ?_)
  change wpAnyH _ _ _ _ _ _ #[false, false, false, false, false, false, false, false, false, false] _ _
  refine wpAnyH_take (i := 0) (v := (.pointer (some ⟨g, 0, none⟩))) rfl (by kernel_rfl) (by kernel_rfl) (by kernel_rfl) (fun _ _ _ h => h) (Or.inl ⟨by kernel_rfl, fun w hSw => ?_⟩) (by assumption) ?_
  · (try dsimp only at hSw); go_simp <;> (try rfl)
  change wpAnyH _ _ _ _ _ _ _ (Act.put _ (some (12 : Nat)) (.pointer (some ⟨g, 0, none⟩))) _
  simp only [Act.put, List.setIfInBounds_toArray, List.set_cons_zero, List.set_cons_succ]
  refine wpAnyH_take (i := 1) (v := (.pointer (some ⟨g, 0, none⟩))) rfl (by kernel_rfl) (by kernel_rfl) (by kernel_rfl) (fun _ _ _ h => h) (Or.inl ⟨by kernel_rfl, fun w hSw => ?_⟩) (by assumption) ?_
  · (try dsimp only at hSw); go_simp <;> (try rfl)
  change wpAnyH _ _ _ _ _ _ _ (Act.put _ (some (13 : Nat)) (.pointer (some ⟨g, 0, none⟩))) _
  simp only [Act.put, List.setIfInBounds_toArray, List.set_cons_zero, List.set_cons_succ]
  refine wpAnyH_take (i := 2) (v := (.pointer (some ⟨g, 1, none⟩))) rfl (by kernel_rfl) (by kernel_rfl) (by kernel_rfl) (fun _ _ _ h => h) (Or.inl ⟨by kernel_rfl, fun w hSw => ?_⟩) (by assumption) ?_
  · (try dsimp only at hSw); go_simp <;> (try rfl)
  change wpAnyH _ _ _ _ _ _ _ (Act.put _ (some (14 : Nat)) (.pointer (some ⟨g, 1, none⟩))) _
  simp only [Act.put, List.setIfInBounds_toArray, List.set_cons_zero, List.set_cons_succ]
  refine wpAnyH_take (i := 3) (v := (.map (some r2))) rfl (by kernel_rfl) (by kernel_rfl) (by kernel_rfl) (fun _ _ _ h => h) (yields_load_at (by kernel_rfl) tMI (.tmp 14) rfl (.pointer (some ⟨g, 1, none⟩)) (by simp [Act.eval]) (.map (some r2)) (fun W hW => load_one' (Try.agg_mapI W) (hW.1.cellAt rfl))) (by assumption) ?_
  change wpAnyH _ _ _ _ _ _ _ (Act.put _ (some (15 : Nat)) (.map (some r2))) _
  simp only [Act.put, List.setIfInBounds_toArray, List.set_cons_zero, List.set_cons_succ]
  refine wpAnyH_take (i := 4) (v := (.int .i64 x)) rfl (by kernel_rfl) (by kernel_rfl) (by kernel_rfl) (fun _ _ _ h => h) (Or.inl ⟨by kernel_rfl, fun w hSw => ?_⟩) (by assumption) ?_
  · (try dsimp only at hSw); go_simp <;> (try rfl)
  change wpAnyH _ _ _ _ _ _ _ (Act.put _ (some (16 : Nat)) (.int .i64 x)) _
  simp only [Act.put, List.setIfInBounds_toArray, List.set_cons_zero, List.set_cons_succ]
  refine wpAnyH_take (i := 5) (v := (.int .i64 z)) rfl (by kernel_rfl) (by kernel_rfl) (by kernel_rfl) (fun _ _ _ h => h) (Or.inl ⟨by kernel_rfl, fun w hSw => ?_⟩) (by assumption) ?_
  · (try dsimp only at hSw); go_simp <;> (try rfl)
  change wpAnyH _ _ _ _ _ _ _ (Act.put _ (some (17 : Nat)) (.int .i64 z)) _
  simp only [Act.put, List.setIfInBounds_toArray, List.set_cons_zero, List.set_cons_succ]
  refine wpAnyH_take (i := 6) (v := (.slice A n c)) rfl (by kernel_rfl) (by kernel_rfl) (by kernel_rfl) (fun _ _ _ h => h) (Or.inl ⟨by kernel_rfl, fun w hSw => ?_⟩) (by assumption) ?_
  · (try dsimp only at hSw); go_simp <;> (try rfl)
  change wpAnyH _ _ _ _ _ _ _ (Act.put _ (some (18 : Nat)) (.slice A n c)) _
  simp only [Act.put, List.setIfInBounds_toArray, List.set_cons_zero, List.set_cons_succ]
  refine wpAnyH_ready (rs := [7]) (by kernel_rfl) (by simp) ?_
  refine AllReadyH.cons rfl (fun K hK => ?_) AllReadyH.nil
  go_simp
  refine (HSd.out _ (HB.out.through X0.out.drew)).mono ?_
  rintro e wa ⟨rfl, hb⟩; have XA : Hid (Below w.heap.size w wa) := Lib.hid (X0.out.drew.trans (hb.mono X0.out.size)); have HA := Lib.hid (H1.out.drew.through hb); have MA := Lib.hid (M1.out.drew.through hb); have QA := Lib.hid (Q1.out.drew.through hb); clear hb
  go_wp2_with fail
  refine hK.out _ _ ⟨HA.out, MA.out, QA.out⟩ (fun hHeld1 => ?_)
  clear hHeld hK K
  have hHeld := hHeld1
  clear hHeld1
  refine wpAnyH_take (i := 8) (v := (.int .i64 lv)) rfl (by kernel_rfl) (by kernel_rfl) (by kernel_rfl) (fun _ _ _ h => h) (yields_look1 (by kernel_rfl) tMI (.tmp 15) (.tmp 19) rfl (.map (some r2)) (.string k) (by simp [Act.eval]) (by simp [Act.eval]) (.int .i64 lv) (fun W hW => HLk.out W hW.2.1)) (by assumption) ?_
  change wpAnyH _ _ _ _ _ _ _ (Act.put _ (some (20 : Nat)) (.int .i64 lv)) _
  simp only [Act.put, List.setIfInBounds_toArray, List.set_cons_zero, List.set_cons_succ]
  refine wpAnyH_take (i := 9) (v := (.int .i64 lv)) rfl (by kernel_rfl) (by kernel_rfl) (by kernel_rfl) (fun _ _ _ h => h) (Or.inl ⟨by kernel_rfl, fun w hSw => ?_⟩) (by assumption) ?_
  · (try dsimp only at hSw); go_simp <;> (try rfl)
  change wpAnyH _ _ _ _ _ _ _ (Act.put _ (some (11 : Nat)) (.int .i64 lv)) _
  simp only [Act.put, List.setIfInBounds_toArray, List.set_cons_zero, List.set_cons_succ]
  refine wpAnyH_done (by kernel_rfl) ?_ _
  go_wp2
  try dsimp only [Act.put]
  refine wp_region_held_drew (S := fun W => Blk W b 73 q) (by kernel_rfl) QA.out.drew (fun hHeld => ?_)
  change wpAnyH _ _ _ _ _ _ #[false, false, false, false, false, false, false, false, false] _ _
  refine wpAnyH_take (i := 0) (v := (.int .i64 lv)) rfl (by kernel_rfl) (by kernel_rfl) (by kernel_rfl) (fun _ _ _ h => h) (Or.inl ⟨by kernel_rfl, fun w hSw => ?_⟩) (by assumption) ?_
  · (try dsimp only at hSw); go_simp <;> (try rfl)
  change wpAnyH _ _ _ _ _ _ _ (Act.put _ (some (21 : Nat)) (.int .i64 lv)) _
  simp only [Act.put, List.setIfInBounds_toArray, List.set_cons_zero, List.set_cons_succ]
  refine wpAnyH_take (i := 1) (v := (.bool true)) rfl (by kernel_rfl) (by kernel_rfl) (by kernel_rfl) (fun _ _ _ h => h) (Or.inl ⟨by kernel_rfl, fun w hSw => ?_⟩) (by assumption) ?_
  · (try dsimp only at hSw); go_simp <;> (try rfl)
  change wpAnyH _ _ _ _ _ _ _ (Act.put _ (some (22 : Nat)) (.bool true)) _
  simp only [Act.put, List.setIfInBounds_toArray, List.set_cons_zero, List.set_cons_succ]
  refine wpAnyH_take (i := 2) (v := (.bool true)) rfl (by kernel_rfl) (by kernel_rfl) (by kernel_rfl) (fun _ _ _ h => h) (Or.inl ⟨by kernel_rfl, fun w hSw => ?_⟩) (by assumption) ?_
  · (try dsimp only at hSw); go_simp <;> (try rfl)
  change wpAnyH _ _ _ _ _ _ _ (Act.put _ (some (23 : Nat)) (.bool true)) _
  simp only [Act.put, List.setIfInBounds_toArray, List.set_cons_zero, List.set_cons_succ]
  refine wpAnyH_take (i := 3) (v := (.agg q.toArray)) rfl (by kernel_rfl) (by kernel_rfl) (by kernel_rfl) (fun _ _ _ h => h) (yields_load_at (by kernel_rfl) 73 (.tmp 9) rfl (.pointer (some ⟨b, 0, none⟩)) (by simp [Act.eval]) (.agg q.toArray) (fun W hW => hW.loadAt 73 _ Try.underlying73 rfl (by rw [HQl.out]; kernel_rfl))) (by assumption) ?_
  change wpAnyH _ _ _ _ _ _ _ (Act.put _ (some (24 : Nat)) (.agg q.toArray)) _
  simp only [Act.put, List.setIfInBounds_toArray, List.set_cons_zero, List.set_cons_succ]
  refine wpAnyH_take (i := 4) (v := (.int .i64 lv)) rfl (by kernel_rfl) (by kernel_rfl) (by kernel_rfl) (fun _ _ _ h => h) (Or.inl ⟨by kernel_rfl, fun w hSw => ?_⟩) (by assumption) ?_
  · (try dsimp only at hSw); go_simp <;> (try rfl)
  change wpAnyH _ _ _ _ _ _ _ (Act.put _ (some (25 : Nat)) (.int .i64 lv)) _
  simp only [Act.put, List.setIfInBounds_toArray, List.set_cons_zero, List.set_cons_succ]
  refine wpAnyH_ready (rs := [5]) (by kernel_rfl) (by simp) ?_
  refine AllReadyH.cons rfl (fun K hK => ?_) AllReadyH.nil
  go_simp
  refine (HNb.out _).mono ?_
  rintro e wb ⟨rfl, hb⟩; have XB : Hid (Below w.heap.size w wb) := Lib.hid (XA.out.drew.trans (hb.mono XA.out.size)); have QB := Lib.hid (QA.out.drew.through hb); clear hb
  go_wp2_with fail
  refine hK.out _ _ QB.out (fun hHeld1 => ?_)
  clear hHeld hK K
  have hHeld := hHeld1
  clear hHeld1
  refine wpAnyH_take (i := 6) (v := (.bool res)) rfl (by kernel_rfl) (by kernel_rfl) (by kernel_rfl) (fun _ _ _ h => h) (Or.inl ⟨by kernel_rfl, fun w hSw => ?_⟩) (by assumption) ?_
  · (try dsimp only at hSw); go_simp <;> (try rfl)
  change wpAnyH _ _ _ _ _ _ _ (Act.put _ (some (27 : Nat)) (.bool res)) _
  simp only [Act.put, List.setIfInBounds_toArray, List.set_cons_zero, List.set_cons_succ]
  refine wpAnyH_take (i := 7) (v := (.bool res)) rfl (by kernel_rfl) (by kernel_rfl) (by kernel_rfl) (fun _ _ _ h => h) (Or.inl ⟨by kernel_rfl, fun w hSw => ?_⟩) (by assumption) ?_
  · (try dsimp only at hSw); go_simp <;> (try rfl)
  change wpAnyH _ _ _ _ _ _ _ (Act.put _ (some (28 : Nat)) (.bool res)) _
  simp only [Act.put, List.setIfInBounds_toArray, List.set_cons_zero, List.set_cons_succ]
  refine wpAnyH_take (i := 8) (v := (.bool res)) rfl (by kernel_rfl) (by kernel_rfl) (by kernel_rfl) (fun _ _ _ h => h) (Or.inl ⟨by kernel_rfl, fun w hSw => ?_⟩) (by assumption) ?_
  · (try dsimp only at hSw); go_simp <;> (try rfl)
  change wpAnyH _ _ _ _ _ _ _ (Act.put _ (some (10 : Nat)) (.bool res)) _
  simp only [Act.put, List.setIfInBounds_toArray, List.set_cons_zero, List.set_cons_succ]
  refine wpAnyH_done (by kernel_rfl) ?_ _
  go_wp2
  go_ret
  exact ⟨rfl, XB.out⟩

set_option maxHeartbeats 8000000 in
set_option maxRecDepth 100000 in
theorem icheck_miss (g : Nat) (x z : Int) (t tg : List UInt8) (A : Option Addr) (n c : Nat) (ds ts : List (List UInt8)) (w : World) (h : IS w g ds ts) (ht : By w (fun _ => True) A n t) (hn : n ≤ 1099511627776) (htg : tg.length = 32) (_hl : ts.length < 1000000000) (hx : saidB x z t ∉ ts) :
    Calls Try.prog 36 #[.pointer (some ⟨g, 0, none⟩), .int .i64 x, .int .i64 z, .slice A n c, .agg (vs tg).toArray] w fun e w' => e = .returned (.bool false) ∧ Below w.heap.size w w' := by
  obtain ⟨r1, r2, h1, h2, h3, h4⟩ := h
  have hsd : ∀ W, By W (fun _ => True) A n t → Calls Try.prog 66 #[.int .i64 x, .int .i64 z, .slice A n c] W fun e w' => e = .returned (.string (ba (saidB x z t))) ∧ Below W.heap.size W w' := fun W hW => said_any x z t A n c W hW hn
  obtain ⟨k, hk⟩ : ∃ k, k = ba (saidB x z t) := ⟨_, rfl⟩
  obtain ⟨q, hq⟩ : ∃ q, q = vs tg := ⟨_, rfl⟩
  have hql : q.length = 32 := by rw [hq, vs_length, htg]
  obtain ⟨lv, hlv⟩ : ∃ lv, lv = look (saidB x z t) ts := ⟨_, rfl⟩
  have hlk : ∀ W, MI W ts r2 → (Instr.lookup tMI (.map (some r2)) (.string k) false).run Try.prog W = .ok (.int .i64 lv) W := fun W hW => by
    rw [hk, hlv]
    exact run_lookI hW _
  have hlo : lv = 0 := by rw [hlv, look, if_neg hx]
  subst hlo
  rw [← hk] at hsd
  rw [← hq]
  have HSd := Lib.hid hsd
  have HLk := Lib.hid hlk
  have HB := Lib.hid ht
  have HQl := Lib.hid hql
  have X0 : Hid (Below w.heap.size w (w.alloc (.cells q.toArray 73))) := Lib.hid ((Below.refl _ w).alloc (Nat.le_refl _) _)
  have H1 := Lib.hid (h1.through X0.out)
  have M1 := Lib.hid (h3.through X0.out)
  have Q1 : Hid (Blk (w.alloc (.cells q.toArray 73)) w.heap.size 73 q) := Lib.hid (Blk.fresh rfl rfl)
  clear h1 h2 h3 h4 hsd hlk ht hk hq hlv hx htg hql hn 
  go_enter Try.func36, Try.ntmps36
  go_wp2
  try dsimp only [Act.put]
  obtain ⟨b, hb⟩ : ∃ b, b = w.heap.size := ⟨_, rfl⟩
  rw [← hb] at Q1
  rw [← hb]
  clear hb
  refine wp_region_held_drew (S := fun W => Blk W g tID [.map (some r1), .map (some r2)] ∧ MI W ts r2 ∧ Blk W b 73 q) (by kernel_rfl) ⟨H1.out.drew, M1.out.drew, Q1.out.drew⟩ (fun hHeld => ?_)
  change wpAnyH _ _ _ _ _ _ #[false, false, false, false, false, false, false, false, false, false] _ _
  refine wpAnyH_take (i := 0) (v := (.pointer (some ⟨g, 0, none⟩))) rfl (by kernel_rfl) (by kernel_rfl) (by kernel_rfl) (fun _ _ _ h => h) (Or.inl ⟨by kernel_rfl, fun w hSw => ?_⟩) (by assumption) ?_
  · (try dsimp only at hSw); go_simp <;> (try rfl)
  change wpAnyH _ _ _ _ _ _ _ (Act.put _ (some (12 : Nat)) (.pointer (some ⟨g, 0, none⟩))) _
  simp only [Act.put, List.setIfInBounds_toArray, List.set_cons_zero, List.set_cons_succ]
  refine wpAnyH_take (i := 1) (v := (.pointer (some ⟨g, 0, none⟩))) rfl (by kernel_rfl) (by kernel_rfl) (by kernel_rfl) (fun _ _ _ h => h) (Or.inl ⟨by kernel_rfl, fun w hSw => ?_⟩) (by assumption) ?_
  · (try dsimp only at hSw); go_simp <;> (try rfl)
  change wpAnyH _ _ _ _ _ _ _ (Act.put _ (some (13 : Nat)) (.pointer (some ⟨g, 0, none⟩))) _
  simp only [Act.put, List.setIfInBounds_toArray, List.set_cons_zero, List.set_cons_succ]
  refine wpAnyH_take (i := 2) (v := (.pointer (some ⟨g, 1, none⟩))) rfl (by kernel_rfl) (by kernel_rfl) (by kernel_rfl) (fun _ _ _ h => h) (Or.inl ⟨by kernel_rfl, fun w hSw => ?_⟩) (by assumption) ?_
  · (try dsimp only at hSw); go_simp <;> (try rfl)
  change wpAnyH _ _ _ _ _ _ _ (Act.put _ (some (14 : Nat)) (.pointer (some ⟨g, 1, none⟩))) _
  simp only [Act.put, List.setIfInBounds_toArray, List.set_cons_zero, List.set_cons_succ]
  refine wpAnyH_take (i := 3) (v := (.map (some r2))) rfl (by kernel_rfl) (by kernel_rfl) (by kernel_rfl) (fun _ _ _ h => h) (yields_load_at (by kernel_rfl) tMI (.tmp 14) rfl (.pointer (some ⟨g, 1, none⟩)) (by simp [Act.eval]) (.map (some r2)) (fun W hW => load_one' (Try.agg_mapI W) (hW.1.cellAt rfl))) (by assumption) ?_
  change wpAnyH _ _ _ _ _ _ _ (Act.put _ (some (15 : Nat)) (.map (some r2))) _
  simp only [Act.put, List.setIfInBounds_toArray, List.set_cons_zero, List.set_cons_succ]
  refine wpAnyH_take (i := 4) (v := (.int .i64 x)) rfl (by kernel_rfl) (by kernel_rfl) (by kernel_rfl) (fun _ _ _ h => h) (Or.inl ⟨by kernel_rfl, fun w hSw => ?_⟩) (by assumption) ?_
  · (try dsimp only at hSw); go_simp <;> (try rfl)
  change wpAnyH _ _ _ _ _ _ _ (Act.put _ (some (16 : Nat)) (.int .i64 x)) _
  simp only [Act.put, List.setIfInBounds_toArray, List.set_cons_zero, List.set_cons_succ]
  refine wpAnyH_take (i := 5) (v := (.int .i64 z)) rfl (by kernel_rfl) (by kernel_rfl) (by kernel_rfl) (fun _ _ _ h => h) (Or.inl ⟨by kernel_rfl, fun w hSw => ?_⟩) (by assumption) ?_
  · (try dsimp only at hSw); go_simp <;> (try rfl)
  change wpAnyH _ _ _ _ _ _ _ (Act.put _ (some (17 : Nat)) (.int .i64 z)) _
  simp only [Act.put, List.setIfInBounds_toArray, List.set_cons_zero, List.set_cons_succ]
  refine wpAnyH_take (i := 6) (v := (.slice A n c)) rfl (by kernel_rfl) (by kernel_rfl) (by kernel_rfl) (fun _ _ _ h => h) (Or.inl ⟨by kernel_rfl, fun w hSw => ?_⟩) (by assumption) ?_
  · (try dsimp only at hSw); go_simp <;> (try rfl)
  change wpAnyH _ _ _ _ _ _ _ (Act.put _ (some (18 : Nat)) (.slice A n c)) _
  simp only [Act.put, List.setIfInBounds_toArray, List.set_cons_zero, List.set_cons_succ]
  refine wpAnyH_ready (rs := [7]) (by kernel_rfl) (by simp) ?_
  refine AllReadyH.cons rfl (fun K hK => ?_) AllReadyH.nil
  go_simp
  refine (HSd.out _ (HB.out.through X0.out.drew)).mono ?_
  rintro e wa ⟨rfl, hb⟩; have XA : Hid (Below w.heap.size w wa) := Lib.hid (X0.out.drew.trans (hb.mono X0.out.size)); have HA := Lib.hid (H1.out.drew.through hb); have MA := Lib.hid (M1.out.drew.through hb); have QA := Lib.hid (Q1.out.drew.through hb); clear hb
  go_wp2_with fail
  refine hK.out _ _ ⟨HA.out, MA.out, QA.out⟩ (fun hHeld1 => ?_)
  clear hHeld hK K
  have hHeld := hHeld1
  clear hHeld1
  refine wpAnyH_take (i := 8) (v := (.int .i64 0)) rfl (by kernel_rfl) (by kernel_rfl) (by kernel_rfl) (fun _ _ _ h => h) (yields_look1 (by kernel_rfl) tMI (.tmp 15) (.tmp 19) rfl (.map (some r2)) (.string k) (by simp [Act.eval]) (by simp [Act.eval]) (.int .i64 0) (fun W hW => HLk.out W hW.2.1)) (by assumption) ?_
  change wpAnyH _ _ _ _ _ _ _ (Act.put _ (some (20 : Nat)) (.int .i64 0)) _
  simp only [Act.put, List.setIfInBounds_toArray, List.set_cons_zero, List.set_cons_succ]
  refine wpAnyH_take (i := 9) (v := (.int .i64 0)) rfl (by kernel_rfl) (by kernel_rfl) (by kernel_rfl) (fun _ _ _ h => h) (Or.inl ⟨by kernel_rfl, fun w hSw => ?_⟩) (by assumption) ?_
  · (try dsimp only at hSw); go_simp <;> (try rfl)
  change wpAnyH _ _ _ _ _ _ _ (Act.put _ (some (11 : Nat)) (.int .i64 0)) _
  simp only [Act.put, List.setIfInBounds_toArray, List.set_cons_zero, List.set_cons_succ]
  refine wpAnyH_done (by kernel_rfl) ?_ _
  go_wp2
  try dsimp only [Act.put]
  refine wp_region_held_drew (S := fun W => Blk W b 73 q) (by kernel_rfl) QA.out.drew (fun hHeld => ?_)
  change wpAnyH _ _ _ _ _ _ #[false, false, false, false, false, false, false, false, false] _ _
  refine wpAnyH_take (i := 0) (v := (.int .i64 0)) rfl (by kernel_rfl) (by kernel_rfl) (by kernel_rfl) (fun _ _ _ h => h) (Or.inl ⟨by kernel_rfl, fun w hSw => ?_⟩) (by assumption) ?_
  · (try dsimp only at hSw); go_simp <;> (try rfl)
  change wpAnyH _ _ _ _ _ _ _ (Act.put _ (some (21 : Nat)) (.int .i64 0)) _
  simp only [Act.put, List.setIfInBounds_toArray, List.set_cons_zero, List.set_cons_succ]
  refine wpAnyH_take (i := 1) (v := (.bool false)) rfl (by kernel_rfl) (by kernel_rfl) (by kernel_rfl) (fun _ _ _ h => h) (Or.inl ⟨by kernel_rfl, fun w hSw => ?_⟩) (by assumption) ?_
  · (try dsimp only at hSw); go_simp <;> (try rfl)
  change wpAnyH _ _ _ _ _ _ _ (Act.put _ (some (22 : Nat)) (.bool false)) _
  simp only [Act.put, List.setIfInBounds_toArray, List.set_cons_zero, List.set_cons_succ]
  refine wpAnyH_take (i := 2) (v := (.bool false)) rfl (by kernel_rfl) (by kernel_rfl) (by kernel_rfl) (fun _ _ _ h => h) (Or.inl ⟨by kernel_rfl, fun w hSw => ?_⟩) (by assumption) ?_
  · (try dsimp only at hSw); go_simp <;> (try rfl)
  change wpAnyH _ _ _ _ _ _ _ (Act.put _ (some (23 : Nat)) (.bool false)) _
  simp only [Act.put, List.setIfInBounds_toArray, List.set_cons_zero, List.set_cons_succ]
  refine wpAnyH_take (i := 3) (v := undef) rfl (by kernel_rfl) (by kernel_rfl) (by kernel_rfl) (fun _ _ _ h => h) (Or.inr ⟨by kernel_rfl, rfl⟩) (by assumption) ?_
  change wpAnyH _ _ _ _ _ _ _ (Act.put _ (some (24 : Nat)) undef) _
  simp only [Act.put, List.setIfInBounds_toArray, List.set_cons_zero, List.set_cons_succ]
  refine wpAnyH_take (i := 4) (v := undef) rfl (by kernel_rfl) (by kernel_rfl) (by kernel_rfl) (fun _ _ _ h => h) (Or.inr ⟨by kernel_rfl, rfl⟩) (by assumption) ?_
  change wpAnyH _ _ _ _ _ _ _ (Act.put _ (some (25 : Nat)) undef) _
  simp only [Act.put, List.setIfInBounds_toArray, List.set_cons_zero, List.set_cons_succ]
  refine wpAnyH_take (i := 5) (v := undef) rfl (by kernel_rfl) (by kernel_rfl) (by kernel_rfl) (fun _ _ _ h => h) (Or.inr ⟨by kernel_rfl, rfl⟩) (by assumption) ?_
  change wpAnyH _ _ _ _ _ _ _ (Act.put _ (some (26 : Nat)) undef) _
  simp only [Act.put, List.setIfInBounds_toArray, List.set_cons_zero, List.set_cons_succ]
  refine wpAnyH_take (i := 6) (v := undef) rfl (by kernel_rfl) (by kernel_rfl) (by kernel_rfl) (fun _ _ _ h => h) (Or.inr ⟨by kernel_rfl, rfl⟩) (by assumption) ?_
  change wpAnyH _ _ _ _ _ _ _ (Act.put _ (some (27 : Nat)) undef) _
  simp only [Act.put, List.setIfInBounds_toArray, List.set_cons_zero, List.set_cons_succ]
  refine wpAnyH_take (i := 7) (v := (.bool false)) rfl (by kernel_rfl) (by kernel_rfl) (by kernel_rfl) (fun _ _ _ h => h) (Or.inl ⟨by kernel_rfl, fun w hSw => ?_⟩) (by assumption) ?_
  · (try dsimp only at hSw); go_simp <;> (try rfl)
  change wpAnyH _ _ _ _ _ _ _ (Act.put _ (some (28 : Nat)) (.bool false)) _
  simp only [Act.put, List.setIfInBounds_toArray, List.set_cons_zero, List.set_cons_succ]
  refine wpAnyH_take (i := 8) (v := (.bool false)) rfl (by kernel_rfl) (by kernel_rfl) (by kernel_rfl) (fun _ _ _ h => h) (Or.inl ⟨by kernel_rfl, fun w hSw => ?_⟩) (by assumption) ?_
  · (try dsimp only at hSw); go_simp <;> (try rfl)
  change wpAnyH _ _ _ _ _ _ _ (Act.put _ (some (10 : Nat)) (.bool false)) _
  simp only [Act.put, List.setIfInBounds_toArray, List.set_cons_zero, List.set_cons_succ]
  refine wpAnyH_done (by kernel_rfl) ?_ _
  go_wp2
  go_ret
  exact ⟨rfl, XA.out.drew⟩

theorem icheck_any (g : Nat) (x z : Int) (t tg : List UInt8) (A : Option Addr) (n c : Nat) (ds ts : List (List UInt8)) (w : World) (h : IS w g ds ts) (ht : By w (fun _ => True) A n t) (hn : n ≤ 1099511627776) (htg : tg.length = 32) (hl : ts.length < 1000000000) :
    Calls Try.prog 36 #[.pointer (some ⟨g, 0, none⟩), .int .i64 x, .int .i64 z, .slice A n c, .agg (vs tg).toArray] w fun e w' => e = .returned (.bool (decide (saidB x z t ∈ ts) && (tg == numB 255 (ord (saidB x z t) ts)))) ∧ Below w.heap.size w w' := by
  by_cases hx : saidB x z t ∈ ts
  · rw [decide_eq_true hx, Bool.true_and]
    exact icheck_hit g x z t tg A n c ds ts w h ht hn htg hl hx
  · rw [decide_eq_false hx, Bool.false_and]
    exact icheck_miss g x z t tg A n c ds ts w h ht hn htg hl hx

end Go.Proofs.Ytgbobemhogeeeaa
