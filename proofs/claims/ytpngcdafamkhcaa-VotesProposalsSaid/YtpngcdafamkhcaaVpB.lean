/-
  The program's place, asked, Vote, Reply, Proposal: bytes.
-/
import Derived.Test.YtpngcdafamkhcaaVpA
import Derived.Test.YtpngcdafamkhcaaBaB
namespace Go.Proofs.Ytpngcdafamkhcaa
open Go.RowKit

/-- a call that makes these bytes itself -/
def MadeS (w : World) (n : Nat) (xs : List UInt8) (e : Ending) (w' : World) : Prop :=
  ∃ A c, e = .returned (.slice A n c) ∧ w'.ownsRow w.heap.size 5 1 (.slice A n c) n (vs xs) ∧ By w' (fun _ => True) A n xs ∧ n ≤ c ∧ c ≤ maxLen ∧ Below w.heap.size w w'
theorem MadeS.of {w : World} {n : Nat} {xs : List UInt8} {e : Ending} {w' : World} (h : Made w n xs e w') : MadeS w n xs e w' := by
  obtain ⟨v, rfl, ho, hb⟩ := h
  obtain ⟨A, c, rfl, hn, hm, _⟩ := own_form ho
  exact ⟨A, c, rfl, ho, (By.of_own ho).weak fun _ _ => trivial, hn, hm, hb⟩
theorem MadeS.byt {w : World} {n : Nat} {xs : List UInt8} {e : Ending} {w' : World} (h : MadeS w n xs e w') : Byt w xs e w' := by
  obtain ⟨A, c, rfl, _, hy, hn, hm, hb⟩ := h
  exact ⟨A, n, c, rfl, hy, hn, hm, hb⟩
theorem put_made {Q : Nat → Prop} {A : Option Addr} {n c : Nat} {xs : List UInt8} {w : World} (k : Nat) (hk : wid k = true) (v : Nat) (hv : v < 18446744073709551616) (h : By w Q A n xs) (hn : xs.length ≤ 1099511627776) (hnc : n ≤ c) :
    Calls Try.prog 45 #[.slice A n c, .int .u64 v, .int .i64 k] w (MadeS w (n + k) (xs ++ beB v k)) := by
  refine (put_any Q A n c xs v k (by omega) (by omega) w h (by rw [← h.len]; exact hn) hnc).mono fun e w' hm => ?_
  rw [Int.toNat_natCast, putB_wid hk] at hm
  have e2 : putN n (k : Int) = n + k := by unfold putN; rw [if_pos hk]; rfl
  rw [e2] at hm
  exact MadeS.of hm
theorem By.of_range {w : World} {g o n : Nat} {xs : List UInt8} (h : w.rangeAt g o (vs xs)) (hn : xs.length = n) : By w (fun _ => True) (some ⟨g, o, none⟩) n xs :=
  ⟨hn, fun _ => ⟨g, o, rfl, trivial, fun j u hu => h j _ (by rw [vs_get, hu]; rfl)⟩⟩
theorem own_thr17 {w w' : World} {base sz n : Nat} {e : TypeId} {v : Value} {xs : List Value} (h : w.ownsRow base e sz v n xs) (hb : Below w.heap.size w w') : w'.ownsRow base e sz v n xs :=
  h.kept (only_below (g := w.heap.size) hb) (.inr (fun e => by have := h.lt _ e; omega))

set_option maxHeartbeats 16000000 in
set_option maxRecDepth 100000 in
theorem vplace_any (a b : Int) (w : World) :
    Calls Try.prog 18 #[.int .i64 a, .int .i64 b] w (MadeS w 16 (beB (u64N a) 8 ++ beB (u64N b) 8)) := by
  have hcva := fun (W : World) => conv_u64 2 68 Try.underlying2 Try.underlying68 a W
  have hcvb := fun (W : World) => conv_u64 2 68 Try.underlying2 Try.underlying68 b W
  have HP1 : Hid (∀ (W : World) (B : Option Addr) (k d : Nat), By W (fun _ => True) B k [] → k ≤ d → Calls Try.prog 45 #[.slice B k d, .int .u64 ((u64N a : Nat) : Int), .int .i64 8] W (MadeS W (k + 8) (beB (u64N a) 8))) := Lib.hid (fun W B k d hY hd => by have h9 := put_made 8 rfl (u64N a) (by unfold u64N; omega) (c := d) hY (by simp) hd; rw [List.nil_append] at h9; exact h9)
  have HP2 : Hid (∀ (W : World) (B : Option Addr) (k d : Nat), By W (fun _ => True) B k (beB (u64N a) 8) → k ≤ d → Calls Try.prog 45 #[.slice B k d, .int .u64 ((u64N b : Nat) : Int), .int .i64 8] W (MadeS W (k + 8) (beB (u64N a) 8 ++ beB (u64N b) 8))) := Lib.hid (fun W B k d hY hd => put_made 8 rfl (u64N b) (by unfold u64N; omega) hY (by rw [beB_length]; omega) hd)
  go_enter Try.func18, Try.ntmps18
  go_wp2_with (first
    | (go_at_call 45; (with_reducible refine (HP1.out _ none 0 0 By.none_ (Nat.le_refl _)).mono ?_); rintro e w1 ⟨A1, c1, rfl, _, hy1, hn1, _, hb1⟩; have HY1 := Lib.hid hy1; have HC1 := Lib.hid hn1; have HX1 := Lib.hid hb1; clear hy1 hn1 hb1)
    | (go_at_call 45; (with_reducible refine (HP2.out _ _ _ _ HY1.out HC1.out).mono ?_); rintro e w2 ⟨A2, c2, rfl, ho2, hy2, hn2, hm2, hb2⟩; have HO2 := Lib.hid (own_weak ho2 HX1.out.size); have HY2 := Lib.hid hy2; have HC2 := Lib.hid (And.intro hn2 hm2); have HX2 := Lib.hid (below_step HX1.out hb2); clear ho2 hy2 hn2 hm2 hb2))
  go_ret
  exact ⟨A2, c2, rfl, HO2.out, HY2.out, HC2.out.1, HC2.out.2, HX2.out⟩

set_option maxHeartbeats 16000000 in
set_option maxRecDepth 100000 in
theorem vasked_any (a b : Int) (w : World) :
    Calls Try.prog 46 #[.int .i64 a, .int .i64 b] w (MadeS w 9 (beB (u64N a) 1 ++ beB (u64N b) 8)) := by
  have hcva := fun (W : World) => conv_u64 3 68 Try.underlying3 Try.underlying68 a W
  have hcvb := fun (W : World) => conv_u64 2 68 Try.underlying2 Try.underlying68 b W
  have HP1 : Hid (∀ (W : World) (B : Option Addr) (k d : Nat), By W (fun _ => True) B k [] → k ≤ d → Calls Try.prog 45 #[.slice B k d, .int .u64 ((u64N a : Nat) : Int), .int .i64 1] W (MadeS W (k + 1) (beB (u64N a) 1))) := Lib.hid (fun W B k d hY hd => by have h9 := put_made 1 rfl (u64N a) (by unfold u64N; omega) (c := d) hY (by simp) hd; rw [List.nil_append] at h9; exact h9)
  have HP2 : Hid (∀ (W : World) (B : Option Addr) (k d : Nat), By W (fun _ => True) B k (beB (u64N a) 1) → k ≤ d → Calls Try.prog 45 #[.slice B k d, .int .u64 ((u64N b : Nat) : Int), .int .i64 8] W (MadeS W (k + 8) (beB (u64N a) 1 ++ beB (u64N b) 8))) := Lib.hid (fun W B k d hY hd => put_made 8 rfl (u64N b) (by unfold u64N; omega) hY (by rw [beB_length]; omega) hd)
  go_enter Try.func46, Try.ntmps46
  go_wp2_with (first
    | (go_at_call 45; (with_reducible refine (HP1.out _ none 0 0 By.none_ (Nat.le_refl _)).mono ?_); rintro e w1 ⟨A1, c1, rfl, _, hy1, hn1, _, hb1⟩; have HY1 := Lib.hid hy1; have HC1 := Lib.hid hn1; have HX1 := Lib.hid hb1; clear hy1 hn1 hb1)
    | (go_at_call 45; (with_reducible refine (HP2.out _ _ _ _ HY1.out HC1.out).mono ?_); rintro e w2 ⟨A2, c2, rfl, ho2, hy2, hn2, hm2, hb2⟩; have HO2 := Lib.hid (own_weak ho2 HX1.out.size); have HY2 := Lib.hid hy2; have HC2 := Lib.hid (And.intro hn2 hm2); have HX2 := Lib.hid (below_step HX1.out hb2); clear ho2 hy2 hn2 hm2 hb2))
  go_ret
  exact ⟨A2, c2, rfl, HO2.out, HY2.out, HC2.out.1, HC2.out.2, HX2.out⟩

theorem below_trans {B : Nat} {a b c : World} (h : Below B a b) (h' : Below B b c) : Below B a c :=
  ⟨h'.os.trans h.os, h'.tape.trans h.tape, h'.output.trans h.output, Nat.le_trans h.size h'.size, fun k hk => (h'.block k hk).trans (h.block k hk)⟩
set_option maxHeartbeats 16000000 in
set_option maxRecDepth 100000 in
theorem vvote_any (v : Vo) (w : World) (hd : v.dg.length = 32) :
    Calls Try.prog 13 #[.agg (Vo.cells v).toArray] w (Byt w (encVo v)) := by
  obtain ⟨i0, hi, hz0, hz1, hz2⟩ := info_parts Try.info_u8
  have HB : Hid (Blk (w.alloc (.cells (Vo.cells v).toArray 43)) w.heap.size 43 (Vo.cells v)) := Lib.hid (Blk.fresh rfl rfl)
  have HX : Hid (Below w.heap.size w (w.alloc (.cells (Vo.cells v).toArray 43))) := Lib.hid (below1_ w _)
  have HR : Hid ((w.alloc (.cells (Vo.cells v).toArray 43)).rangeAt w.heap.size 2 (vs v.dg)) := Lib.hid (Blk.range (pre := [.int .i64 v.vw, .int .i64 v.sq]) (post := []) (by simpa [Vo.cells] using HB.out))
  have HD := Lib.hid hd
  have HPl : Hid (∀ W : World, Calls Try.prog 18 #[.int .i64 v.vw, .int .i64 v.sq] W (MadeS W 16 (beB (u64N v.vw) 8 ++ beB (u64N v.sq) 8))) := Lib.hid (fun W => vplace_any v.vw v.sq W)
  have hsl := fun W => Try.sl_dg w.heap.size 2 W
  clear hd
  go_enter Try.func13, Try.ntmps13
  go_wp2
  try dsimp only [Act.put]
  refine wp_region_held_drew (S := fun W => Below (w.alloc (.cells (Vo.cells v).toArray 43)).heap.size (w.alloc (.cells (Vo.cells v).toArray 43)) W) (by kernel_rfl) (Below.refl _ _).drew (fun hHeld => ?_)
  change wpAnyH _ _ _ _ _ _ #[false, false, false, false, false, false, false, false, false] _ _
  refine wpAnyH_take (i := 0) (v := (.pointer (some ⟨w.heap.size, 0, none⟩))) rfl (by kernel_rfl) (by kernel_rfl) (by kernel_rfl) (fun _ _ _ h => h) (Or.inl ⟨by kernel_rfl, fun w hSw => ?_⟩) (by assumption) ?_
  · (try dsimp only at hSw); go_simp <;> (try rfl)
  change wpAnyH _ _ _ _ _ _ _ (Act.put _ (some (3 : Nat)) (.pointer (some ⟨w.heap.size, 0, none⟩))) _
  simp only [Act.put, List.setIfInBounds_toArray, List.set_cons_zero, List.set_cons_succ]
  refine wpAnyH_take (i := 1) (v := (.int .i64 v.vw)) rfl (by kernel_rfl) (by kernel_rfl) (by kernel_rfl) (fun _ _ _ h => h) (yields_load_at (by kernel_rfl) 2 (.tmp 3) rfl (.pointer (some ⟨w.heap.size, 0, none⟩)) (by simp [Act.eval]) (.int .i64 v.vw) (fun W hW => load_one' (Try.agg_i64 W) ((HB.out.through hW).cellAt (i := 0) rfl))) (by assumption) ?_
  change wpAnyH _ _ _ _ _ _ _ (Act.put _ (some (4 : Nat)) (.int .i64 v.vw)) _
  simp only [Act.put, List.setIfInBounds_toArray, List.set_cons_zero, List.set_cons_succ]
  refine wpAnyH_take (i := 2) (v := (.pointer (some ⟨w.heap.size, 1, none⟩))) rfl (by kernel_rfl) (by kernel_rfl) (by kernel_rfl) (fun _ _ _ h => h) (Or.inl ⟨by kernel_rfl, fun w hSw => ?_⟩) (by assumption) ?_
  · (try dsimp only at hSw); go_simp <;> (try rfl)
  change wpAnyH _ _ _ _ _ _ _ (Act.put _ (some (5 : Nat)) (.pointer (some ⟨w.heap.size, 1, none⟩))) _
  simp only [Act.put, List.setIfInBounds_toArray, List.set_cons_zero, List.set_cons_succ]
  refine wpAnyH_take (i := 3) (v := (.int .i64 v.sq)) rfl (by kernel_rfl) (by kernel_rfl) (by kernel_rfl) (fun _ _ _ h => h) (yields_load_at (by kernel_rfl) 2 (.tmp 5) rfl (.pointer (some ⟨w.heap.size, 1, none⟩)) (by simp [Act.eval]) (.int .i64 v.sq) (fun W hW => load_one' (Try.agg_i64 W) ((HB.out.through hW).cellAt (i := 1) rfl))) (by assumption) ?_
  change wpAnyH _ _ _ _ _ _ _ (Act.put _ (some (6 : Nat)) (.int .i64 v.sq)) _
  simp only [Act.put, List.setIfInBounds_toArray, List.set_cons_zero, List.set_cons_succ]
  refine wpAnyH_take (i := 5) (v := (.pointer (some ⟨w.heap.size, 2, none⟩))) rfl (by kernel_rfl) (by kernel_rfl) (by kernel_rfl) (fun _ _ _ h => h) (Or.inl ⟨by kernel_rfl, fun w hSw => ?_⟩) (by assumption) ?_
  · (try dsimp only at hSw); go_simp <;> (try rfl)
  change wpAnyH _ _ _ _ _ _ _ (Act.put _ (some (8 : Nat)) (.pointer (some ⟨w.heap.size, 2, none⟩))) _
  simp only [Act.put, List.setIfInBounds_toArray, List.set_cons_zero, List.set_cons_succ]
  refine wpAnyH_take (i := 6) (v := (.slice (some ⟨w.heap.size, 2, none⟩) 32 32)) rfl (by kernel_rfl) (by kernel_rfl) (by kernel_rfl) (fun _ _ _ h => h) (Or.inl ⟨by kernel_rfl, fun w hSw => ?_⟩) (by assumption) ?_
  · (try dsimp only at hSw); go_simp <;> (try rfl)
  change wpAnyH _ _ _ _ _ _ _ (Act.put _ (some (9 : Nat)) (.slice (some ⟨w.heap.size, 2, none⟩) 32 32)) _
  simp only [Act.put, List.setIfInBounds_toArray, List.set_cons_zero, List.set_cons_succ]
  refine wpAnyH_ready (rs := [4]) (by kernel_rfl) (by simp) ?_
  refine AllReadyH.cons rfl (fun K hK => ?_) AllReadyH.nil
  go_simp
  refine (HPl.out _).mono ?_
  rintro e wp ⟨Ap, cp, rfl, hop, _, hcp, hmp, hbp⟩; have HOp := Lib.hid (own_weak hop hHeld.size); have HKp := Lib.hid (below_step hHeld hbp); have HRp := Lib.hid (rangeAt.through HR.out HKp.out); clear hop hcp hmp hbp
  go_wp2_with fail
  refine hK.out _ _ HKp.out (fun hHeld1 => ?_)
  clear hHeld hK K
  have hHeld := hHeld1
  clear hHeld1
  refine wpAnyH_ready (rs := [7]) (by kernel_rfl) (by simp) ?_
  refine AllReadyH.cons (o := ⟨some 10, .call { callee := .builtin .append, args := #[.tmp 7, .tmp 9], argTypes := #[31, 31] }, _, _, _, none⟩) rfl (fun K hK => ?_) AllReadyH.nil
  refine step_append_by (by kernel_rfl) (.tmp 7) (.tmp 9) 31 rfl (w.alloc (.cells (Vo.cells v).toArray 43)).heap.size i0 Try.underlying31 hi hz0 hz1 hz2 (.slice Ap 16 cp) 16 (beB (u64N v.vw) 8 ++ beB (u64N v.sq) 8) (by simp [Act.eval]) HOp.out (fun _ => True) (some ⟨w.heap.size, 2, none⟩) 32 32 v.dg (by simp [Act.eval]) (By.of_range HRp.out HD.out) (by omega) HKp.out.size 48 rfl _ rfl ?_; intro A9 c9 w9 ho9 hn9 hm9 hb9; have HY9 := Lib.hid ((By.of_own ho9).weak (Q' := fun _ => True) fun _ _ => trivial); have HC9 := Lib.hid (And.intro hn9 hm9); have HK9 : Hid (Below (w.alloc (.cells (Vo.cells v).toArray 43)).heap.size (w.alloc (.cells (Vo.cells v).toArray 43)) w9) := Lib.hid (below_trans HKp.out hb9); clear ho9 hn9 hm9 hb9
  refine hK.out _ _ HK9.out (fun hHeld1 => ?_)
  clear hHeld hK K
  have hHeld := hHeld1
  clear hHeld1
  change wpAnyH _ _ _ _ _ _ _ (Act.put _ (some (10 : Nat)) (.slice A9 48 c9)) _
  simp only [Act.put, List.setIfInBounds_toArray, List.set_cons_zero, List.set_cons_succ]
  refine wpAnyH_take (i := 8) (v := (.slice A9 48 c9)) rfl (by kernel_rfl) (by kernel_rfl) (by kernel_rfl) (fun _ _ _ h => h) (Or.inl ⟨by kernel_rfl, fun w hSw => ?_⟩) (by assumption) ?_
  · (try dsimp only at hSw); go_simp <;> (try rfl)
  change wpAnyH _ _ _ _ _ _ _ (Act.put _ (some (2 : Nat)) (.slice A9 48 c9)) _
  simp only [Act.put, List.setIfInBounds_toArray, List.set_cons_zero, List.set_cons_succ]
  refine wpAnyH_done (by kernel_rfl) ?_ _
  have HXc := Lib.hid (below_step HX.out hHeld)
  clear hHeld
  go_wp2
  go_ret
  exact ⟨A9, 48, c9, rfl, by have h9 := HY9.out; simpa only [encVo, List.append_assoc] using h9, HC9.out.1, HC9.out.2, HXc.out⟩

set_option maxHeartbeats 16000000 in
set_option maxRecDepth 100000 in
theorem vreply_any (v : Re) (w : World) :
    Calls Try.prog 16 #[.agg (Re.cells v).toArray] w (Byt w (encRe v)) := by
  obtain ⟨i0, hi, hz0, hz1, hz2⟩ := info_parts Try.info_u8
  have HB0 : Hid (Blk (w.alloc (.cells (Re.cells v).toArray 48)) w.heap.size 48 (Re.cells v)) := Lib.hid (Blk.fresh rfl rfl)
  have HX0 : Hid (Below w.heap.size w (w.alloc (.cells (Re.cells v).toArray 48))) := Lib.hid (below1_ w _)
  have HZ0 : Hid (w.heap.size + 1 ≤ (w.alloc (.cells (Re.cells v).toArray 48)).heap.size) := Lib.hid (by simp)
  have k0 := HB0.out.cellAt (i := 0) rfl
  have hcv0 := fun (W : World) => conv_u64 2 68 Try.underlying2 Try.underlying68 v.vw W
  have hcv3 := fun (W : World) => conv_u64 33 68 Try.underlying33 Try.underlying68 v.rs W
  have HP1 : Hid (∀ (W : World) (B : Option Addr) (k d : Nat), By W (fun _ => True) B k [] → k ≤ d → Calls Try.prog 45 #[.slice B k d, .int .u64 ((u64N v.vw : Nat) : Int), .int .i64 8] W (MadeS W (k + 8) (beB (u64N v.vw) 8))) := Lib.hid (fun W B k d hY hd => by have h9 := put_made 8 rfl (u64N v.vw) (by unfold u64N; omega) (c := d) hY (by simp) hd; rw [List.nil_append] at h9; exact h9)
  have HAs : Hid (∀ W : World, Calls Try.prog 46 #[.int .i64 v.cl, .int .i64 v.sp] W (MadeS W 9 (beB (u64N v.cl) 1 ++ beB (u64N v.sp) 8))) := Lib.hid (fun W => vasked_any v.cl v.sp W)
  have HP2 : Hid (∀ (W : World) (B : Option Addr) (k d : Nat), By W (fun _ => True) B k (beB (u64N v.vw) 8 ++ (beB (u64N v.cl) 1 ++ beB (u64N v.sp) 8)) → k ≤ d → Calls Try.prog 45 #[.slice B k d, .int .u64 ((u64N v.rs : Nat) : Int), .int .i64 1] W (Byt W (beB (u64N v.vw) 8 ++ (beB (u64N v.cl) 1 ++ beB (u64N v.sp) 8) ++ beB (u64N v.rs) 1))) := Lib.hid (fun W B k d hY hd => put_by 1 rfl (u64N v.rs) (by unfold u64N; omega) hY (by simp only [List.length_append, beB_length]; omega) hd)
  go_enter Try.func16, Try.ntmps16
  go_wp2_with (first
    | (go_at_call 45; (with_reducible refine (HP1.out _ none 0 0 By.none_ (Nat.le_refl _)).mono ?_); rintro e w1 ⟨A1, c1, rfl, ho1, hy1, hn1, _, hb1⟩; have HO1 := Lib.hid (own_weak ho1 HZ0.out); have HX1 := Lib.hid (below_step HX0.out hb1); have HB1 := Lib.hid (HB0.out.through hb1); have HZ1 : Hid (w.heap.size + 1 ≤ w1.heap.size) := Lib.hid (Nat.le_trans HZ0.out hb1.size); clear k0 ho1 hy1 hn1 hb1; have k1 := HB1.out.cellAt (i := 1) rfl; have k2 := HB1.out.cellAt (i := 2) rfl)
    | (go_at_call 46; (with_reducible refine (HAs.out _).mono ?_); rintro e w2 ⟨A2, c2, rfl, _, hy2, hn2, _, hb2⟩; have HO2 := Lib.hid (own_thr17 HO1.out hb2); have HY2 := Lib.hid hy2; have HX2 := Lib.hid (below_step HX1.out hb2); have HB2 := Lib.hid (HB1.out.through hb2); have HZ2 : Hid (w.heap.size + 1 ≤ w2.heap.size) := Lib.hid (Nat.le_trans HZ1.out hb2.size); clear k1 k2 hy2 hn2 hb2)
    | (at_builtin; refine wpList_append_by _ rfl (.tmp 8) (.tmp 13) 31 rfl (w.heap.size + 1) i0 Try.underlying31 hi hz0 hz1 hz2 (.slice A1 8 c1) 8 (vs (beB (u64N v.vw) 8)) rfl HO2.out (fun _ => True) A2 9 c2 (beB (u64N v.cl) 1 ++ beB (u64N v.sp) 8) rfl HY2.out (by omega) HZ2.out ?_; intro v3 w3 hown3 hgrow3 _; have HO3 : Hid (w3.ownsRow (w.heap.size + 1) 5 1 v3 17 (vs (beB (u64N v.vw) 8 ++ (beB (u64N v.cl) 1 ++ beB (u64N v.sp) 8)))) := Lib.hid (by rw [← vs_append]; exact hown3); have HX3 : Hid (Below w.heap.size w w3) := Lib.hid (HX2.out.grown hgrow3 HX2.out.size (fun g hg => Nat.le_of_succ_le (HO2.out.lt g hg).1)); have HB3 := Lib.hid (HB2.out.grown hgrow3 (fun e => by have := (HO2.out.lt _ e.symm).1; omega)); obtain ⟨A3, c3, rfl, hn3, _, _⟩ := own_form HO3.out; have HY3 := Lib.hid ((By.of_own HO3.out).weak (Q' := fun _ => True) fun _ _ => trivial); have HC3 := Lib.hid hn3; have k3 := HB3.out.cellAt (i := 3) rfl; clear hown3 hgrow3 hn3)
    | (go_at_call 45; (with_reducible refine (HP2.out _ _ _ _ HY3.out HC3.out).mono ?_); rintro e w4 ⟨A4, n4, d4, rfl, hy4, hn4, hm4, hb4⟩; have HY4 := Lib.hid hy4; have HC4 := Lib.hid (And.intro hn4 hm4); have HX4 := Lib.hid (below_step HX3.out hb4); clear hy4 hn4 hm4 hb4))
  go_ret
  exact ⟨A4, n4, d4, rfl, by have h9 := HY4.out; simpa only [encRe, List.append_assoc] using h9, HC4.out.1, HC4.out.2, HX4.out⟩

set_option maxHeartbeats 16000000 in
set_option maxRecDepth 100000 in
theorem vprop_any (v : Pr) (A : Option Addr) (k c : Nat) (w : World) (h : EysIn w A k v.es) (hk : k ≤ 1000000) (hl : ∀ y ∈ v.es, y.co.lt.length ≤ 1000000 ∧ y.co.tx.length ≤ 1000000) (hL : (encB v.es).length ≤ 100000000000) :
    Calls Try.prog 5 #[.agg #[.int .i64 v.vw, .int .i64 v.sq, .slice A k c]] w (Byt w (encPr v)) := by
  have HB : Hid (Blk (w.alloc (.cells #[.int .i64 v.vw, .int .i64 v.sq, .slice A k c] 24)) w.heap.size 24 [.int .i64 v.vw, .int .i64 v.sq, .slice A k c]) := Lib.hid (Blk.fresh rfl rfl)
  have HX : Hid (Below w.heap.size w (w.alloc (.cells #[.int .i64 v.vw, .int .i64 v.sq, .slice A k c] 24))) := Lib.hid (below1_ w _)
  have HPl : Hid (∀ W : World, Calls Try.prog 18 #[.int .i64 v.vw, .int .i64 v.sq] W (MadeS W 16 (beB (u64N v.vw) 8 ++ beB (u64N v.sq) 8))) := Lib.hid (fun W => vplace_any v.vw v.sq W)
  have HBt : Hid (∀ W : World, Below (w.alloc (.cells #[.int .i64 v.vw, .int .i64 v.sq, .slice A k c] 24)).heap.size (w.alloc (.cells #[.int .i64 v.vw, .int .i64 v.sq, .slice A k c] 24)) W → Calls Try.prog 19 #[.slice A k c] W (Byt W (encB v.es))) := Lib.hid (fun W hW => bytesB_any v.es A k c W (h.through (below_step HX.out hW)) hk hl hL)
  have HRw : Hid (∀ (W : World) (C : Option Addr) (m d : Nat) (C' : Option Addr) (m' d' : Nat), By W (fun _ => True) C m (beB (u64N v.vw) 8 ++ beB (u64N v.sq) 8) → By W (fun _ => True) C' m' (encB v.es) → m ≤ d → Calls Try.prog 17 #[.slice C m d, .slice C' m' d'] W (Byt W (beB (u64N v.vw) 8 ++ beB (u64N v.sq) 8 ++ rowB (encB v.es)))) := Lib.hid (fun W C m d C' m' d' h1 h2 h3 => row_by h1 h2 (by simp only [List.length_append, beB_length]; omega) (by omega) h3)
  clear h hk hl hL
  go_enter Try.func5, Try.ntmps5
  go_wp2
  try dsimp only [Act.put]
  refine wp_region_held_drew (S := fun W => Below (w.alloc (.cells #[.int .i64 v.vw, .int .i64 v.sq, .slice A k c] 24)).heap.size (w.alloc (.cells #[.int .i64 v.vw, .int .i64 v.sq, .slice A k c] 24)) W) (by kernel_rfl) (Below.refl _ _).drew (fun hHeld => ?_)
  change wpAnyH _ _ _ _ _ _ #[false, false, false, false, false, false, false, false, false, false] _ _
  refine wpAnyH_take (i := 0) (v := (.pointer (some ⟨w.heap.size, 0, none⟩))) rfl (by kernel_rfl) (by kernel_rfl) (by kernel_rfl) (fun _ _ _ h => h) (Or.inl ⟨by kernel_rfl, fun w hSw => ?_⟩) (by assumption) ?_
  · (try dsimp only at hSw); go_simp <;> (try rfl)
  change wpAnyH _ _ _ _ _ _ _ (Act.put _ (some (3 : Nat)) (.pointer (some ⟨w.heap.size, 0, none⟩))) _
  simp only [Act.put, List.setIfInBounds_toArray, List.set_cons_zero, List.set_cons_succ]
  refine wpAnyH_take (i := 1) (v := (.int .i64 v.vw)) rfl (by kernel_rfl) (by kernel_rfl) (by kernel_rfl) (fun _ _ _ h => h) (yields_load_at (by kernel_rfl) 2 (.tmp 3) rfl (.pointer (some ⟨w.heap.size, 0, none⟩)) (by simp [Act.eval]) (.int .i64 v.vw) (fun W hW => load_one' (Try.agg_i64 W) ((HB.out.through hW).cellAt (i := 0) rfl))) (by assumption) ?_
  change wpAnyH _ _ _ _ _ _ _ (Act.put _ (some (4 : Nat)) (.int .i64 v.vw)) _
  simp only [Act.put, List.setIfInBounds_toArray, List.set_cons_zero, List.set_cons_succ]
  refine wpAnyH_take (i := 2) (v := (.pointer (some ⟨w.heap.size, 1, none⟩))) rfl (by kernel_rfl) (by kernel_rfl) (by kernel_rfl) (fun _ _ _ h => h) (Or.inl ⟨by kernel_rfl, fun w hSw => ?_⟩) (by assumption) ?_
  · (try dsimp only at hSw); go_simp <;> (try rfl)
  change wpAnyH _ _ _ _ _ _ _ (Act.put _ (some (5 : Nat)) (.pointer (some ⟨w.heap.size, 1, none⟩))) _
  simp only [Act.put, List.setIfInBounds_toArray, List.set_cons_zero, List.set_cons_succ]
  refine wpAnyH_take (i := 3) (v := (.int .i64 v.sq)) rfl (by kernel_rfl) (by kernel_rfl) (by kernel_rfl) (fun _ _ _ h => h) (yields_load_at (by kernel_rfl) 2 (.tmp 5) rfl (.pointer (some ⟨w.heap.size, 1, none⟩)) (by simp [Act.eval]) (.int .i64 v.sq) (fun W hW => load_one' (Try.agg_i64 W) ((HB.out.through hW).cellAt (i := 1) rfl))) (by assumption) ?_
  change wpAnyH _ _ _ _ _ _ _ (Act.put _ (some (6 : Nat)) (.int .i64 v.sq)) _
  simp only [Act.put, List.setIfInBounds_toArray, List.set_cons_zero, List.set_cons_succ]
  refine wpAnyH_take (i := 5) (v := (.pointer (some ⟨w.heap.size, 2, none⟩))) rfl (by kernel_rfl) (by kernel_rfl) (by kernel_rfl) (fun _ _ _ h => h) (Or.inl ⟨by kernel_rfl, fun w hSw => ?_⟩) (by assumption) ?_
  · (try dsimp only at hSw); go_simp <;> (try rfl)
  change wpAnyH _ _ _ _ _ _ _ (Act.put _ (some (8 : Nat)) (.pointer (some ⟨w.heap.size, 2, none⟩))) _
  simp only [Act.put, List.setIfInBounds_toArray, List.set_cons_zero, List.set_cons_succ]
  refine wpAnyH_take (i := 6) (v := (.slice A k c)) rfl (by kernel_rfl) (by kernel_rfl) (by kernel_rfl) (fun _ _ _ h => h) (yields_load_at (by kernel_rfl) 22 (.tmp 8) rfl (.pointer (some ⟨w.heap.size, 2, none⟩)) (by simp [Act.eval]) (.slice A k c) (fun W hW => load_one' (Try.agg_es W) ((HB.out.through hW).cellAt (i := 2) rfl))) (by assumption) ?_
  change wpAnyH _ _ _ _ _ _ _ (Act.put _ (some (9 : Nat)) (.slice A k c)) _
  simp only [Act.put, List.setIfInBounds_toArray, List.set_cons_zero, List.set_cons_succ]
  refine wpAnyH_ready (rs := [4]) (by kernel_rfl) (by simp) ?_
  refine AllReadyH.cons rfl (fun K hK => ?_) AllReadyH.nil
  go_simp
  refine (HPl.out _).mono ?_
  rintro e wp ⟨Ap, cp, rfl, _, hyp, hcp, _, hbp⟩; have HYp := Lib.hid hyp; have HCp := Lib.hid hcp; have HKp := Lib.hid (below_step hHeld hbp); clear hyp hcp hbp
  go_wp2_with fail
  refine hK.out _ _ HKp.out (fun hHeld1 => ?_)
  clear hHeld hK K
  have hHeld := hHeld1
  clear hHeld1
  refine wpAnyH_ready (rs := [7]) (by kernel_rfl) (by simp) ?_
  refine AllReadyH.cons rfl (fun K hK => ?_) AllReadyH.nil
  go_simp
  refine (HBt.out _ hHeld).mono ?_
  rintro e wq ⟨Aq, nq, cq, rfl, hyq, _, _, hbq⟩; have HYq := Lib.hid hyq; have HYp2 := Lib.hid (HYp.out.through hbq); have HKq := Lib.hid (below_step hHeld hbq); clear hyq hbq
  go_wp2_with fail
  refine hK.out _ _ HKq.out (fun hHeld1 => ?_)
  clear hHeld hK K
  have hHeld := hHeld1
  clear hHeld1
  refine wpAnyH_ready (rs := [8]) (by kernel_rfl) (by simp) ?_
  refine AllReadyH.cons rfl (fun K hK => ?_) AllReadyH.nil
  go_simp
  refine (HRw.out _ _ _ _ _ _ _ HYp2.out HYq.out HCp.out).mono ?_
  rintro e wr ⟨Ar, nr, dr, rfl, hyr, hcr, hmr, hbr⟩; have HYr := Lib.hid hyr; have HCr := Lib.hid (And.intro hcr hmr); have HKr := Lib.hid (below_step hHeld hbr); clear hyr hcr hmr hbr
  go_wp2_with fail
  refine hK.out _ _ HKr.out (fun hHeld1 => ?_)
  clear hHeld hK K
  have hHeld := hHeld1
  clear hHeld1
  refine wpAnyH_take (i := 9) (v := (.slice Ar nr dr)) rfl (by kernel_rfl) (by kernel_rfl) (by kernel_rfl) (fun _ _ _ h => h) (Or.inl ⟨by kernel_rfl, fun w hSw => ?_⟩) (by assumption) ?_
  · (try dsimp only at hSw); go_simp <;> (try rfl)
  change wpAnyH _ _ _ _ _ _ _ (Act.put _ (some (2 : Nat)) (.slice Ar nr dr)) _
  simp only [Act.put, List.setIfInBounds_toArray, List.set_cons_zero, List.set_cons_succ]
  refine wpAnyH_done (by kernel_rfl) ?_ _
  have HXc := Lib.hid (below_step HX.out hHeld)
  clear hHeld
  go_wp2
  go_ret
  exact ⟨Ar, nr, dr, rfl, by have h9 := HYr.out; simpa only [encPr, List.append_assoc] using h9, HCr.out.1, HCr.out.2, HXc.out⟩

end Go.Proofs.Ytpngcdafamkhcaa
