/-
  Joined: PwQ.
-/
import Derived.Test.YtpolofehkckaoaaUT43
import Derived.Test.YtpolofehkckaoaaUTT
namespace Go.Proofs.Ytpolofehkckaoaa
open Go.RowKit Go.Shelf
attribute [local go_sem] Oper.semAt_some

theorem Try.agg_pp (w : World) : (isAgg 24).run Try.prog w = .ok false w := by kernel_rfl
theorem Try.sz_i6 (w : World) : (sizeOf 2).run Try.prog w = .ok 1 w := by kernel_rfl
theorem Try.agg_bo23 (w : World) : (isAgg 4).run Try.prog w = .ok false w := by kernel_rfl
theorem Try.sz_bo23 (w : World) : (sizeOf 4).run Try.prog w = .ok 1 w := by kernel_rfl
theorem KpE.of_grown {n₀ : Nat} {E : Nat → Prop} {A B : World} {g : Nat} (h : A.grownBy B (some g)) (hE : E g) (hn : n₀ ≤ g ∧ n₀ ≤ A.heap.size) : KpE n₀ E A B := ⟨(Below.refl n₀ A).grown h hn.2 (fun q hq => by rw [← Option.some.inj hq]; exact hn.1), fun b _ h1 _ h3 => (h.block b (Array.getElem?_eq_some_iff.1 h1).1 (fun e => h3 (by rw [Option.some.inj e]; exact hE))).trans h1⟩
theorem KpE.drew (n₀ : Nat) (E : Nat → Prop) (A : World) : KpE n₀ E A A.drew := ⟨(Below.refl n₀ A).drew, fun _ _ h _ _ => h⟩
theorem keeps_drew (n : Nat) (A : World) : KeepsFrom n A A.drew := ⟨Nat.le_refl _, fun _ _ _ h _ => h⟩
def gS (o : List (List Po)) (k : Int) (s : Int × Po × Bool) (x : Po) : Int × Po × Bool := if s.1 < x.sq ∧ k ≤ (supO x o : Int) then (x.sq, x, true) else s
def gF (o : List (List Po)) (k above : Int) (xs : List Po) : Int × Po × Bool := xs.foldl (gS o k) (above, poZ, false)
theorem gF_snoc {o : List (List Po)} {k above : Int} {xs : List Po} {x : Po} : gF o k above (xs ++ [x]) = gS o k (gF o k above xs) x := by unfold gF; rw [List.foldl_append]; rfl
def calmQ (Q : Exit → Act → World → Prop) : Exit → Act → World → Prop
 | .panic _, _, _ => False
 | e, a, w => Q e a w
theorem calmQ_out {Q : Exit → Act → World → Prop} {e : Exit} {a : Act} {w : World} (h : calmQ Q e a w) : Q e a w := by
 cases e <;> first | exact h | exact h.elim
theorem gF_len (o : List (List Po)) (k above : Int) : ∀ xs : List Pq, (gF o k above (xs.map Subtype.val)).2.1.dg.length = 32 := fun xs => by
 unfold gF
 suffices h : ∀ (xs : List Pq) (s : Int × Po × Bool), s.2.1.dg.length = 32 → ((xs.map Subtype.val).foldl (gS o k) s).2.1.dg.length = 32 from h xs _ rfl
 intro xs
 induction xs with
 | nil => exact fun s h => h
 | cons x xs ih =>
  intro s h
  rw [List.map_cons, List.foldl_cons]
  refine ih _ ?_
  unfold gS
  split
  ·exact x.2
  ·exact h
theorem blk_own {β : Type} (B : Nat) (t : TypeId) (f : β → List Value) : _root_.Go.Own (fun s W => Blk W B t (f s)) := fun s X Y row hs hg hrow =>
 hs.grown hg (fun e' => by obtain ⟨o, ho, hc⟩ := hrow B e'.symm; rw [show X.heap[B]? = _ from hs] at ho; cases ho; cases hc)
theorem keeps_grown {B g : Nat} {W W' : World} {t : TypeId} {cs : List Value} (hg : W.grownBy W' (some g)) (hb : Blk W g t cs) : KeepsFrom B W W' :=
 ⟨hg.size, fun k o _ hk ho => (hg.block k (Array.getElem?_eq_some_iff.1 hk).1 (fun e => by
  have e2 := Option.some.inj e
  rw [e2, show W.heap[g]? = _ from hb] at hk
  injection hk with hk
  rw [← hk] at ho
  cases ho)).trans hk⟩
theorem keeps_below {B : Nat} {W W' : World} (h : Below W.heap.size W W') : KeepsFrom B W W' := ⟨h.size, fun k _ _ hk _ => (h.block k (Array.getElem?_eq_some_iff.1 hk).1).trans hk⟩
set_option maxHeartbeats 16000000 in
set_option maxRecDepth 100000 in
theorem greatest_p {w : World} {B mo mv : Nat} {r : Ptp} {ows : List Ow} {OE VE : List (Int × Value)} {vf : Nat → Pl} (h : PPt w B mo mv r ows OE VE vf) (above k : Int) (xs : List Pq) (gf : Nat) (lb : Array Value)
  (hseq : ∀ (E : Nat → Prop) (W0 : World), Below w.heap.size w W0 → (∀ q, E q → q < W0.heap.size) → SeqStopsK Fence.wide 3 Try.prog gf lb encQ (KpE w.heap.size E) (fun ys => ys = xs) (fun pre => pre <+: xs) xs.length W0)
  (hfe : ∀ args w, (callFunc gf args).run Try.prog w = .ok (.enter gf args) w) :
  Calls Try.prog 31 #[(.pointer (some ⟨B, 0, none⟩)), .func (.func gf) #[] lb, .int .i64 above, .int .i64 k] w fun e w' => e = .returned (.tuple #[.agg (Po.cells (gF r.of k above (xs.map Subtype.val)).2.1).toArray, .bool (gF r.of k above (xs.map Subtype.val)).2.2]) ∧ Below w.heap.size w w' := by
 have hz : ∀ W, (zeroValue tPo).run Try.prog W = .ok (.agg (Po.cells poZ).toArray) W := fun W => Try.zero_po W
 have HH := Lib.hid h
 have HSq := Lib.hid hseq
 clear h hseq
 refine (callsIn_wide (n := 4)).1 ?_
 have x1 := below1_ w (.cells #[(.pointer (some ⟨B, 0, none⟩))] 24)
 have c0 : Blk (w.alloc (.cells #[(.pointer (some ⟨B, 0, none⟩))] 24)) w.heap.size 24 [(.pointer (some ⟨B, 0, none⟩))] := Blk.fresh rfl rfl
 have x2 := below1_ (w.alloc (.cells #[(.pointer (some ⟨B, 0, none⟩))] 24)) (.cells #[.int .i64 above] 2)
 have c1 : Blk ((w.alloc (.cells #[(.pointer (some ⟨B, 0, none⟩))] 24)).alloc (.cells #[.int .i64 above] 2)) (w.heap.size + 1) 2 [.int .i64 above] := Blk.fresh (by simp) rfl
 have x3 := below1_ ((w.alloc (.cells #[(.pointer (some ⟨B, 0, none⟩))] 24)).alloc (.cells #[.int .i64 above] 2)) (.cells #[.int .i64 k] 3)
 have c2 : Blk (((w.alloc (.cells #[(.pointer (some ⟨B, 0, none⟩))] 24)).alloc (.cells #[.int .i64 above] 2)).alloc (.cells #[.int .i64 k] 3)) (w.heap.size + 1 + 1) 3 [.int .i64 k] := Blk.fresh (by simp) rfl
 have x4 := below1_ (((w.alloc (.cells #[(.pointer (some ⟨B, 0, none⟩))] 24)).alloc (.cells #[.int .i64 above] 2)).alloc (.cells #[.int .i64 k] 3)) (.cells (Po.cells poZ).toArray tPo)
 have c3 : Blk ((((w.alloc (.cells #[(.pointer (some ⟨B, 0, none⟩))] 24)).alloc (.cells #[.int .i64 above] 2)).alloc (.cells #[.int .i64 k] 3)).alloc (.cells (Po.cells poZ).toArray tPo)) (w.heap.size + 1 + 1 + 1) tPo (Po.cells poZ) := Blk.fresh (by simp) rfl
 have x5 := below1_ ((((w.alloc (.cells #[(.pointer (some ⟨B, 0, none⟩))] 24)).alloc (.cells #[.int .i64 above] 2)).alloc (.cells #[.int .i64 k] 3)).alloc (.cells (Po.cells poZ).toArray tPo)) (.cells (Po.cells poZ).toArray tPo)
 have c4 : Blk (((((w.alloc (.cells #[(.pointer (some ⟨B, 0, none⟩))] 24)).alloc (.cells #[.int .i64 above] 2)).alloc (.cells #[.int .i64 k] 3)).alloc (.cells (Po.cells poZ).toArray tPo)).alloc (.cells (Po.cells poZ).toArray tPo)) (w.heap.size + 1 + 1 + 1 + 1) tPo (Po.cells poZ) := Blk.fresh (by simp) rfl
 have x6 := below1_ (((((w.alloc (.cells #[(.pointer (some ⟨B, 0, none⟩))] 24)).alloc (.cells #[.int .i64 above] 2)).alloc (.cells #[.int .i64 k] 3)).alloc (.cells (Po.cells poZ).toArray tPo)).alloc (.cells (Po.cells poZ).toArray tPo)) (.cells #[.bool false] 4)
 have c5 : Blk ((((((w.alloc (.cells #[(.pointer (some ⟨B, 0, none⟩))] 24)).alloc (.cells #[.int .i64 above] 2)).alloc (.cells #[.int .i64 k] 3)).alloc (.cells (Po.cells poZ).toArray tPo)).alloc (.cells (Po.cells poZ).toArray tPo)).alloc (.cells #[.bool false] 4)) (w.heap.size + 1 + 1 + 1 + 1 + 1) 4 [.bool false] := Blk.fresh (by simp) rfl
 have hsz : ((((((w.alloc (.cells #[(.pointer (some ⟨B, 0, none⟩))] 24)).alloc (.cells #[.int .i64 above] 2)).alloc (.cells #[.int .i64 k] 3)).alloc (.cells (Po.cells poZ).toArray tPo)).alloc (.cells (Po.cells poZ).toArray tPo)).alloc (.cells #[.bool false] 4)).heap.size = w.heap.size + 6 := by simp
 have d0 := ((((c0.through x2).through x3).through x4).through x5).through x6
 have d1 := (((c1.through x3).through x4).through x5).through x6
 have d2 := ((c2.through x4).through x5).through x6
 have d3 := (c3.through x5).through x6
 have d4 := c4.through x6
 have hb := below_step (below_step (below_step (below_step (below_step x1 x2) x3) x4) x5) x6
 clear c0 c1 c2 c3 c4 x1 x2 x3 x4 x5 x6
 refine callsIn_of_wp_marks Try.func31 rfl trivial ?_ rfl
 simp only [Try.ntmps31, List.size_toArray, List.length_cons, List.length_nil, Nat.reduceAdd, Nat.reduceSub, Array.replicate_succ, Array.replicate_zero, List.push_toArray, List.append_toArray, List.nil_append, List.cons_append]
 gi_wp2
 generalize ((((((w.alloc (.cells #[(.pointer (some ⟨B, 0, none⟩))] 24)).alloc (.cells #[.int .i64 above] 2)).alloc (.cells #[.int .i64 k] 3)).alloc (.cells (Po.cells poZ).toArray tPo)).alloc (.cells (Po.cells poZ).toArray tPo)).alloc (.cells #[.bool false] 4)) = W0 at *
 generalize hp5 : w.heap.size + 1 + 1 + 1 + 1 + 1 = p5 at *
 generalize hp4 : w.heap.size + 1 + 1 + 1 + 1 = p4 at *
 generalize hp3 : w.heap.size + 1 + 1 + 1 = p3 at *
 generalize hp2 : w.heap.size + 1 + 1 = p2 at *
 generalize hp1 : w.heap.size + 1 = p1 at *
 have hpp : p1 = w.heap.size + 1 ∧ p2 = w.heap.size + 2 ∧ p3 = w.heap.size + 3 ∧ p4 = w.heap.size + 4 ∧ p5 = w.heap.size + 5 := by omega
 have HPP := Lib.hid hpp
 have HB0 := Lib.hid hb
 clear hp1 hp2 hp3 hp4 hp5
 refine wpIn_rangeFunc_ownH rfl (by omega) (gf := gf) (lb := lb) rfl trivial hfe
  (HSq.out (fun q => q = p1 ∨ q = p4 ∨ q = p5) W0 hb (fun q hq => by have := d1.lt; have := d4.lt; have := c5.lt; omega)) KpE.trans
  (fun W l o o' hl hW hc _ => ⟨belowK_b (w := W0) (by omega) W l o o' hl hW hc (by assumption), fun b ob h1 h2 _ => (World.putObj_heap_other (fun e => by rw [e] at h1; rw [hW] at h1; injection h1 with h1; rw [h1] at hc; rw [hc] at h2; cases h2)).trans h1⟩) (Below.refl _ _) (fun _ => rfl)
  (fun pre W => (Blk W p1 2 [.int .i64 (gF r.of k above (pre.map Subtype.val)).1] ∧ Blk W p4 tPo (Po.cells (gF r.of k above (pre.map Subtype.val)).2.1) ∧ Blk W p5 4 [.bool (gF r.of k above (pre.map Subtype.val)).2.2] ∧ Blk W w.heap.size 24 [(.pointer (some ⟨B, 0, none⟩))] ∧ Blk W p2 3 [.int .i64 k] ∧ Blk W p3 tPo (Po.cells poZ)) ∧ Below w.heap.size w W)
  (fun _ _ _ => False)
  (OwnFrom.and (OwnFrom.and (Own.from (blk_own _ _ _) _) (OwnFrom.and (Own.from (blk_own _ _ _) _) (OwnFrom.and (Own.from (blk_own _ _ _) _) (OwnFrom.and (Own.from (blk_own _ _ (fun _ => [(.pointer (some ⟨B, 0, none⟩))])) _) (OwnFrom.and (Own.from (blk_own _ _ (fun _ => [.int .i64 k])) _) (Own.from (blk_own _ _ (fun _ => Po.cells poZ)) _)))))) (ownFrom_below (Nat.le_refl _) (by omega)))
  (fun _ _ _ _ _ hs _ _ => hs)
  ⟨⟨d1, d4, c5, d0, d2, d3⟩, hb⟩
  (fun x a' W => ∃ Bx, p5 < Bx ∧ Blk W Bx tPo (Po.cells x.1) ∧ a' = { tmps := #[(.pointer (some ⟨B, 0, none⟩)), .func (.func gf) #[] lb, .int .i64 above, .int .i64 k, .pointer (some ⟨w.heap.size, 0, none⟩), undef, .pointer (some ⟨p1, 0, none⟩), .pointer (some ⟨p2, 0, none⟩), .pointer (some ⟨p3, 0, none⟩), .bool false, .pointer (some ⟨p4, 0, none⟩), .pointer (some ⟨p5, 0, none⟩), .pointer (some ⟨Bx, 0, none⟩), .func (.func gf) #[] lb, .agg (Po.cells x.1).toArray, undef, undef, undef, undef, undef, undef, undef, undef, undef, undef, undef, undef, undef, undef, undef, undef], defers := [] })
  (fun x a' _ X Y row hs hg hr => by obtain ⟨Bx, h1, h2, h3⟩ := hs; exact ⟨Bx, h1, blk_own Bx tPo (fun (_ : Unit) => Po.cells x.1) () X Y row h2 hg (fun r e => (hr r e).2), h3⟩)
  ?assign ?body ?done ?stop
 case assign =>
  rintro l pre x W K ⟨⟨b1, b4, b5, b0, b2, b3⟩, hB1⟩ hK
  have HXl : Hid ((Po.cells x.1).length = 33) := Lib.hid (Po.cells_len _ x.2)
  dsimp only [encQ]
  simp only [List.zip_toArray, List.zip_cons_cons, List.zip_nil_right, List.foldl_toArray', List.size_toArray, List.length_cons, List.length_nil, List.foldl_cons, List.foldl_nil, List.setIfInBounds_toArray, List.set_cons_succ, List.set_cons_zero]
  gi_wp2_with (refine wpListIn_store_p (W2.round l) rfl tPo (.tmp 12) (.tmp 14) rfl W.heap.size (Po.cells x.1) rfl rfl tPo (Po.cells poZ) (Blk.fresh rfl rfl) (by rw [HXl.out]; kernel_rfl) (by rw [HXl.out]; rfl) (Po.one x.1) ?_; simp only [Act.put]; intro w5 hb5 hg5; have HB5 := Lib.hid hb5; have HX5 := Lib.hid (below_new hg5); clear hb5 hg5)
  exact hK _ _ (keeps_below HX5.out) (KpE.of_below HX5.out hB1.size) ⟨⟨b1.through HX5.out, b4.through HX5.out, b5.through HX5.out, b0.through HX5.out, b2.through HX5.out, b3.through HX5.out⟩, hB1.trans (HX5.out.mono hB1.size)⟩ ⟨W.heap.size, by have := b5.lt; omega, HB5.out, rfl⟩
 case body =>
  rintro l pre x a' W hl ⟨r0, hr0⟩ ⟨⟨b1, b4, b5, b0, b2, b3⟩, hB1⟩ ⟨Bx, hBx, bX, rfl⟩ hlt
  have HSn : Hid (gF r.of k above ((pre ++ [x]).map Subtype.val) = gS r.of k (gF r.of k above (pre.map Subtype.val)) x.1) := Lib.hid (by rw [List.map_append]; exact gF_snoc)
  have HXl : Hid ((Po.cells x.1).length = 33) := Lib.hid (Po.cells_len _ x.2)
  generalize hG : gF r.of k above (pre.map Subtype.val) = G at *
  obtain ⟨av, bp, fd⟩ := G
  have HRx := Lib.hid bX.rng0
  have HP := Lib.hid (HH.out.low hB1 HH.out.lt)
  have HB := Lib.hid hB1
  have C1 := Lib.hid b1
  have C4 := Lib.hid b4
  have C5 := Lib.hid b5
  have C0 := Lib.hid b0
  have C2 := Lib.hid b2
  have C3 := Lib.hid b3
  have CX := Lib.hid bX
  have HLx := Lib.hid hBx
  have HBl : Hid ((Po.cells bp).length = 33) := Lib.hid (Po.cells_len _ (by have h9 := gF_len r.of k above pre; rw [hG] at h9; exact h9))
  clear hG hsz hb hr0 hl d0 c5 d4 d3 d2 d1 b1 b4 b5 b0 b2 b3 bX hB1 hBx hpp
  by_cases hg1 : av < x.1.sq
  ·have hd1 : decide (av < x.1.sq) = true := decide_eq_true hg1
   by_cases hg2 : k ≤ (supO x.1 r.of : Int)
   ·have hd2 : decide (k ≤ (supO x.1 r.of : Int)) = true := decide_eq_true hg2
    have HT : Hid (gS r.of k (av, bp, fd) x.1 = (x.1.sq, x.1, true)) := Lib.hid (by unfold gS; rw [if_pos ⟨hg1, hg2⟩])
    clear hg1 hg2
    gi_wp2
    refine wpIn_region_held (S := fun W5 => Below W.heap.size W W5) (by kernel_rfl) (by kernel_rfl) (no_out (fun _ _ h => h)) (Below.refl _ W).drew (fun hHeld => ?_)
    change wpAnyH _ _ _ _ _ _ #[false, false, false, false, false, false, false, false, false, false, false] _ _
    refine tkq (i := 0) (d := 15) (v := (.pointer (some ⟨Bx, 0, none⟩))) rfl rfl (Or.inl ⟨by kernel_rfl, fun w hSw => ?_⟩) (by assumption) ?_
    ·(try dsimp only at hSw); go_simp <;> (try rfl)
    simp only [Act.put, sq1, sq2, sq3]
    refine tkq (i := 1) (d := 16) (v := (.int .i64 x.1.sq)) rfl rfl (yields_load_at (by kernel_rfl) 2 (.tmp 15) rfl (.pointer (some ⟨Bx, 0, none⟩)) (by simp [Act.eval]) (.int .i64 x.1.sq) (fun W hW => load_one' (Try.agg_i6 W) ((CX.out.through hW).cellAt (i := 0) rfl))) (by assumption) ?_
    simp only [Act.put, sq1, sq2, sq3]
    refine tkq (i := 2) (d := 17) (v := (.int .i64 av)) rfl rfl (yields_load_at (by kernel_rfl) 2 (.tmp 6) rfl (.pointer (some ⟨p1, 0, none⟩)) (by simp [Act.eval]) (.int .i64 av) (fun W hW => load_one' (Try.agg_i6 W) ((C1.out.through hW).cellAt (i := 0) rfl))) (by assumption) ?_
    simp only [Act.put, sq1, sq2, sq3]
    refine tkq (i := 3) (d := 18) (v := (.bool true)) rfl rfl (Or.inl ⟨by kernel_rfl, fun w hSw => ?_⟩) (by assumption) ?_
    ·(try dsimp only at hSw); go_simp <;> (try rfl)
    simp only [Act.put, sq1, sq2, sq3]
    refine tkq (i := 4) (d := 19) (v := (.bool true)) rfl rfl (Or.inl ⟨by kernel_rfl, fun w hSw => ?_⟩) (by assumption) ?_
    ·(try dsimp only at hSw); go_simp <;> (try rfl)
    simp only [Act.put, sq1, sq2, sq3]
    refine tkq (i := 5) (d := 20) (v := (.pointer (some ⟨B, 0, none⟩))) rfl rfl (yields_load_at (by kernel_rfl) 24 (.tmp 4) rfl (.pointer (some ⟨w.heap.size, 0, none⟩)) (by simp [Act.eval]) (.pointer (some ⟨B, 0, none⟩)) (fun W hW => load_one' (Try.agg_pp W) ((C0.out.through hW).cellAt (i := 0) rfl))) (by assumption) ?_
    simp only [Act.put, sq1, sq2, sq3]
    refine tkq (i := 6) (d := 21) (v := (.agg (Po.cells x.1).toArray)) rfl rfl (yieldsIf_load_mid (by kernel_rfl) tPo (.tmp 12) rfl Bx 0 (by simp [Act.eval]) (Po.cells x.1) _ (fun W hW => rangeAt.through HRx.out hW) Try.underlying31 rfl (by rw [HXl.out]; kernel_rfl)) (by assumption) ?_
    simp only [Act.put, sq1, sq2, sq3]
    refine tkq (i := 8) (d := 23) (v := (.int .i64 k)) rfl rfl (yields_load_at (by kernel_rfl) 3 (.tmp 7) rfl (.pointer (some ⟨p2, 0, none⟩)) (by simp [Act.eval]) (.int .i64 k) (fun W hW => load_one' (Try.agg_in W) ((C2.out.through hW).cellAt (i := 0) rfl))) (by assumption) ?_
    simp only [Act.put, sq1, sq2, sq3]
    refine wpAnyH_ready (rs := [7]) (by kernel_rfl) (by simp) ?_
    refine AllReadyH.cons rfl (fun K hK => ?_) AllReadyH.nil
    go_simp
    refine (support_p x.1 (HP.out.through hHeld) x.2).mono ?_
    rintro e w7 ⟨rfl, hb7⟩; have HX7 := Lib.hid (below_step hHeld hb7); clear hb7
    go_wp2_with fail
    refine hK.out _ _ HX7.out (fun hHeld1 => ?_)
    clear hHeld hK K
    have hHeld := hHeld1
    clear hHeld1
    refine tkq (i := 9) (d := 24) (v := (.bool true)) rfl rfl (Or.inl ⟨by kernel_rfl, fun w hSw => ?_⟩) (by assumption) ?_
    ·(try dsimp only at hSw); go_simp <;> (try rfl)
    simp only [Act.put, sq1, sq2, sq3]
    refine tkq (i := 10) (d := 25) (v := (.bool true)) rfl rfl (Or.inl ⟨by kernel_rfl, fun w hSw => ?_⟩) (by assumption) ?_
    ·(try dsimp only at hSw); go_simp <;> (try rfl)
    simp only [Act.put, sq1, sq2, sq3]
    refine wpAnyH_done (by kernel_rfl) ?_ _
    clear hHeld
    gi_wp2
    refine wpIn_region_held (S := fun W6 => Blk W6 Bx tPo (Po.cells x.1)) (by kernel_rfl) (by kernel_rfl) (no_out (fun _ _ h => h)) (CX.out.through HX7.out).drew (fun hHeld => ?_)
    change wpAnyH _ _ _ _ _ _ #[false, false, false, false, false, false] _ _
    refine tkq (i := 0) (d := 26) (v := (.agg (Po.cells x.1).toArray)) rfl rfl (yieldsIf_load_mid (by kernel_rfl) tPo (.tmp 12) rfl Bx 0 (by simp [Act.eval]) (Po.cells x.1) _ (fun W hW => (hW.rng0)) Try.underlying31 rfl (by rw [HXl.out]; kernel_rfl)) (by assumption) ?_
    simp only [Act.put, sq1, sq2, sq3]
    refine tkq (i := 1) (d := 27) (v := (.pointer (some ⟨Bx, 0, none⟩))) rfl rfl (Or.inl ⟨by kernel_rfl, fun w hSw => ?_⟩) (by assumption) ?_
    ·(try dsimp only at hSw); go_simp <;> (try rfl)
    simp only [Act.put, sq1, sq2, sq3]
    refine tkq (i := 2) (d := 28) (v := (.int .i64 x.1.sq)) rfl rfl (yields_load_at (by kernel_rfl) 2 (.tmp 27) rfl (.pointer (some ⟨Bx, 0, none⟩)) (by simp [Act.eval]) (.int .i64 x.1.sq) (fun W hW => load_one' (Try.agg_i6 W) (hW.cellAt (i := 0) rfl))) (by assumption) ?_
    simp only [Act.put, sq1, sq2, sq3]
    refine wpAnyH_ready (rs := [3]) (by kernel_rfl) (by simp) ?_
    refine AllReadyH.cons (o := ⟨none, .store tPo (.tmp 10) (.tmp 26), _, _, _, none⟩) rfl (fun K hK => ?_) AllReadyH.nil
    refine step_store_blk rfl tPo (.tmp 10) (.tmp 26) rfl p4 (Po.cells x.1) (by simp [Act.eval]) (by simp [Act.eval]) tPo (Po.cells bp) (C4.out.through HX7.out).drew (by rw [HXl.out]; kernel_rfl) (by rw [HXl.out]; exact HBl.out) (Po.one x.1) ?_; intro w8 hb8 hg8; have HB8 := Lib.hid hb8; have HG8 := Lib.hid hg8; have HY8 := Lib.hid (hHeld.grown hg8 (fun e => by have := Option.some.inj e; have := HPP.out; have := HLx.out; omega)); clear hb8 hg8
    refine hK.out _ _ HY8.out (fun hHeld1 => ?_)
    clear hHeld hK K
    have hHeld := hHeld1
    clear hHeld1
    change wpAnyH _ _ _ _ _ _ _ (Act.put _ none undef) _
    simp only [Act.put]
    refine wpAnyH_ready (rs := [4]) (by kernel_rfl) (by simp) ?_
    refine AllReadyH.cons (o := ⟨none, .store 2 (.tmp 6) (.tmp 28), _, _, _, none⟩) rfl (fun K hK => ?_) AllReadyH.nil
    refine step_store_cell (by kernel_rfl) 2 (.tmp 6) (.tmp 28) rfl p1 0 (by simp [Act.eval]) (.int .i64 x.1.sq) (by simp [Act.eval]) rfl rfl Try.sz_i6 2 [.int .i64 av] (((C1.out.through HX7.out).drew).grown HG8.out (fun e => by have := Option.some.inj e; have := HPP.out; have := HLx.out; omega)) (by simp) ?_; intro w9 hb9 hg9; have HB9 : Hid (Blk w9 p1 2 [.int .i64 x.1.sq]) := Lib.hid hb9; have HG9 := Lib.hid hg9; have HY9 := Lib.hid (hHeld.grown hg9 (fun e => by have := Option.some.inj e; have := HPP.out; have := HLx.out; omega)); clear hb9 hg9
    refine hK.out _ _ HY9.out (fun hHeld1 => ?_)
    clear hHeld hK K
    have hHeld := hHeld1
    clear hHeld1
    change wpAnyH _ _ _ _ _ _ _ (Act.put _ none undef) _
    simp only [Act.put]
    refine wpAnyH_ready (rs := [5]) (by kernel_rfl) (by simp) ?_
    refine AllReadyH.cons (o := ⟨none, .store 4 (.tmp 11) (.const (.bool true)), _, _, _, none⟩) rfl (fun K hK => ?_) AllReadyH.nil
    refine step_store_cell (by kernel_rfl) 4 (.tmp 11) (.const (.bool true)) rfl p5 0 (by simp [Act.eval]) (.bool true) rfl rfl rfl Try.sz_bo23 4 [.bool fd] ((((C5.out.through HX7.out).drew).grown HG8.out (fun e => by have := Option.some.inj e; have := HPP.out; have := HLx.out; omega)).grown HG9.out (fun e => by have := Option.some.inj e; have := HPP.out; have := HLx.out; omega)) (by simp) ?_; intro w10 hb10 hg10; have HB10 : Hid (Blk w10 p5 4 [.bool true]) := Lib.hid hb10; have HG10 := Lib.hid hg10; have HY10 := Lib.hid (hHeld.grown hg10 (fun e => by have := Option.some.inj e; have := HPP.out; have := HLx.out; omega)); clear hb10 hg10
    refine hK.out _ _ HY10.out (fun hHeld1 => ?_)
    clear hHeld hK K
    have hHeld := hHeld1
    clear hHeld1
    change wpAnyH _ _ _ _ _ _ _ (Act.put _ none undef) _
    simp only [Act.put]
    refine wpAnyH_done (by kernel_rfl) ?_ _
    clear hHeld
    gi_wp2
    have k7 := KpE.of_below (E := fun q => q = p1 ∨ q = p4 ∨ q = p5) HX7.out HB.out.size
    have hs7 := HX7.out.size
    have hsd : w7.drew.heap.size = w7.heap.size := rfl
    have hsb := HB.out.size
    have hs8 := HG8.out.size
    have hs9 := HG9.out.size
    have k8 := k7.trans ((KpE.drew _ _ _).trans (KpE.of_grown HG8.out (.inr (.inl rfl)) (by have := HPP.out; omega)))
    have k9 := k8.trans (KpE.of_grown HG9.out (.inl rfl) (by have := HPP.out; omega))
    have k10 := k9.trans (KpE.of_grown HG10.out (.inr (.inr rfl)) (by have := HPP.out; omega))
    refine ⟨(((keeps_below HX7.out).trans (keeps_drew _ _)).trans (keeps_grown HG8.out (C4.out.through HX7.out).drew)).trans ((keeps_grown HG9.out (((C1.out.through HX7.out).drew).grown HG8.out (fun e => by have := Option.some.inj e; have := HPP.out; have := HLx.out; omega))).trans (keeps_grown HG10.out ((((C5.out.through HX7.out).drew).grown HG8.out (fun e => by have := Option.some.inj e; have := HPP.out; have := HLx.out; omega)).grown HG9.out (fun e => by have := Option.some.inj e; have := HPP.out; have := HLx.out; omega)))), k10, ?_⟩
    simp only [HSn.out, HT.out]
    exact ⟨⟨HB9.out.grown HG10.out (fun e => by have := Option.some.inj e; have := HPP.out; have := HLx.out; omega), (HB8.out.grown HG9.out (fun e => by have := Option.some.inj e; have := HPP.out; have := HLx.out; omega)).grown HG10.out (fun e => by have := Option.some.inj e; have := HPP.out; have := HLx.out; omega), HB10.out, (((((C0.out.through HX7.out).drew).grown HG8.out (fun e => by have := Option.some.inj e; have := HPP.out; have := HLx.out; omega)).grown HG9.out (fun e => by have := Option.some.inj e; have := HPP.out; have := HLx.out; omega)).grown HG10.out (fun e => by have := Option.some.inj e; have := HPP.out; have := HLx.out; omega)), (((((C2.out.through HX7.out).drew).grown HG8.out (fun e => by have := Option.some.inj e; have := HPP.out; have := HLx.out; omega)).grown HG9.out (fun e => by have := Option.some.inj e; have := HPP.out; have := HLx.out; omega)).grown HG10.out (fun e => by have := Option.some.inj e; have := HPP.out; have := HLx.out; omega)), (((((C3.out.through HX7.out).drew).grown HG8.out (fun e => by have := Option.some.inj e; have := HPP.out; have := HLx.out; omega)).grown HG9.out (fun e => by have := Option.some.inj e; have := HPP.out; have := HLx.out; omega)).grown HG10.out (fun e => by have := Option.some.inj e; have := HPP.out; have := HLx.out; omega))⟩, HB.out.trans k10.below⟩
   ·have hd2 : decide (k ≤ (supO x.1 r.of : Int)) = false := decide_eq_false hg2
    have HT : Hid (gS r.of k (av, bp, fd) x.1 = (av, bp, fd)) := Lib.hid (by unfold gS; rw [if_neg (fun h => hg2 h.2)])
    clear hg1 hg2
    gi_wp2
    refine wpIn_region_held (S := fun W5 => Below W.heap.size W W5) (by kernel_rfl) (by kernel_rfl) (no_out (fun _ _ h => h)) (Below.refl _ W).drew (fun hHeld => ?_)
    change wpAnyH _ _ _ _ _ _ #[false, false, false, false, false, false, false, false, false, false, false] _ _
    refine tkq (i := 0) (d := 15) (v := (.pointer (some ⟨Bx, 0, none⟩))) rfl rfl (Or.inl ⟨by kernel_rfl, fun w hSw => ?_⟩) (by assumption) ?_
    ·(try dsimp only at hSw); go_simp <;> (try rfl)
    simp only [Act.put, sq1, sq2, sq3]
    refine tkq (i := 1) (d := 16) (v := (.int .i64 x.1.sq)) rfl rfl (yields_load_at (by kernel_rfl) 2 (.tmp 15) rfl (.pointer (some ⟨Bx, 0, none⟩)) (by simp [Act.eval]) (.int .i64 x.1.sq) (fun W hW => load_one' (Try.agg_i6 W) ((CX.out.through hW).cellAt (i := 0) rfl))) (by assumption) ?_
    simp only [Act.put, sq1, sq2, sq3]
    refine tkq (i := 2) (d := 17) (v := (.int .i64 av)) rfl rfl (yields_load_at (by kernel_rfl) 2 (.tmp 6) rfl (.pointer (some ⟨p1, 0, none⟩)) (by simp [Act.eval]) (.int .i64 av) (fun W hW => load_one' (Try.agg_i6 W) ((C1.out.through hW).cellAt (i := 0) rfl))) (by assumption) ?_
    simp only [Act.put, sq1, sq2, sq3]
    refine tkq (i := 3) (d := 18) (v := (.bool true)) rfl rfl (Or.inl ⟨by kernel_rfl, fun w hSw => ?_⟩) (by assumption) ?_
    ·(try dsimp only at hSw); go_simp <;> (try rfl)
    simp only [Act.put, sq1, sq2, sq3]
    refine tkq (i := 4) (d := 19) (v := (.bool true)) rfl rfl (Or.inl ⟨by kernel_rfl, fun w hSw => ?_⟩) (by assumption) ?_
    ·(try dsimp only at hSw); go_simp <;> (try rfl)
    simp only [Act.put, sq1, sq2, sq3]
    refine tkq (i := 5) (d := 20) (v := (.pointer (some ⟨B, 0, none⟩))) rfl rfl (yields_load_at (by kernel_rfl) 24 (.tmp 4) rfl (.pointer (some ⟨w.heap.size, 0, none⟩)) (by simp [Act.eval]) (.pointer (some ⟨B, 0, none⟩)) (fun W hW => load_one' (Try.agg_pp W) ((C0.out.through hW).cellAt (i := 0) rfl))) (by assumption) ?_
    simp only [Act.put, sq1, sq2, sq3]
    refine tkq (i := 6) (d := 21) (v := (.agg (Po.cells x.1).toArray)) rfl rfl (yieldsIf_load_mid (by kernel_rfl) tPo (.tmp 12) rfl Bx 0 (by simp [Act.eval]) (Po.cells x.1) _ (fun W hW => rangeAt.through HRx.out hW) Try.underlying31 rfl (by rw [HXl.out]; kernel_rfl)) (by assumption) ?_
    simp only [Act.put, sq1, sq2, sq3]
    refine tkq (i := 8) (d := 23) (v := (.int .i64 k)) rfl rfl (yields_load_at (by kernel_rfl) 3 (.tmp 7) rfl (.pointer (some ⟨p2, 0, none⟩)) (by simp [Act.eval]) (.int .i64 k) (fun W hW => load_one' (Try.agg_in W) ((C2.out.through hW).cellAt (i := 0) rfl))) (by assumption) ?_
    simp only [Act.put, sq1, sq2, sq3]
    refine wpAnyH_ready (rs := [7]) (by kernel_rfl) (by simp) ?_
    refine AllReadyH.cons rfl (fun K hK => ?_) AllReadyH.nil
    go_simp
    refine (support_p x.1 (HP.out.through hHeld) x.2).mono ?_
    rintro e w7 ⟨rfl, hb7⟩; have HX7 := Lib.hid (below_step hHeld hb7); clear hb7
    go_wp2_with fail
    refine hK.out _ _ HX7.out (fun hHeld1 => ?_)
    clear hHeld hK K
    have hHeld := hHeld1
    clear hHeld1
    refine tkq (i := 9) (d := 24) (v := (.bool false)) rfl rfl (Or.inl ⟨by kernel_rfl, fun w hSw => ?_⟩) (by assumption) ?_
    ·(try dsimp only at hSw); go_simp <;> (try rfl)
    simp only [Act.put, sq1, sq2, sq3]
    refine tkq (i := 10) (d := 25) (v := (.bool false)) rfl rfl (Or.inl ⟨by kernel_rfl, fun w hSw => ?_⟩) (by assumption) ?_
    ·(try dsimp only at hSw); go_simp <;> (try rfl)
    simp only [Act.put, sq1, sq2, sq3]
    refine wpAnyH_done (by kernel_rfl) ?_ _
    clear hHeld
    gi_wp2
    exact ⟨keeps_below HX7.out, KpE.of_below HX7.out HB.out.size, by simp only [HSn.out, HT.out]; exact ⟨⟨C1.out.through HX7.out, C4.out.through HX7.out, C5.out.through HX7.out, C0.out.through HX7.out, C2.out.through HX7.out, C3.out.through HX7.out⟩, HB.out.trans (HX7.out.mono HB.out.size)⟩⟩
  ·have hd1 : decide (av < x.1.sq) = false := decide_eq_false hg1
   have HT : Hid (gS r.of k (av, bp, fd) x.1 = (av, bp, fd)) := Lib.hid (by unfold gS; rw [if_neg (fun h => hg1 h.1)])
   clear hg1
   gi_wp2
   refine wpIn_region_held (S := fun W5 => Below W.heap.size W W5) (by kernel_rfl) (by kernel_rfl) (no_out (fun _ _ h => h)) (Below.refl _ W).drew (fun hHeld => ?_)
   change wpAnyH _ _ _ _ _ _ #[false, false, false, false, false, false, false, false, false, false, false] _ _
   refine tkq (i := 0) (d := 15) (v := (.pointer (some ⟨Bx, 0, none⟩))) rfl rfl (Or.inl ⟨by kernel_rfl, fun w hSw => ?_⟩) (by assumption) ?_
   ·(try dsimp only at hSw); go_simp <;> (try rfl)
   simp only [Act.put, sq1, sq2, sq3]
   refine tkq (i := 1) (d := 16) (v := (.int .i64 x.1.sq)) rfl rfl (yields_load_at (by kernel_rfl) 2 (.tmp 15) rfl (.pointer (some ⟨Bx, 0, none⟩)) (by simp [Act.eval]) (.int .i64 x.1.sq) (fun W hW => load_one' (Try.agg_i6 W) ((CX.out.through hW).cellAt (i := 0) rfl))) (by assumption) ?_
   simp only [Act.put, sq1, sq2, sq3]
   refine tkq (i := 2) (d := 17) (v := (.int .i64 av)) rfl rfl (yields_load_at (by kernel_rfl) 2 (.tmp 6) rfl (.pointer (some ⟨p1, 0, none⟩)) (by simp [Act.eval]) (.int .i64 av) (fun W hW => load_one' (Try.agg_i6 W) ((C1.out.through hW).cellAt (i := 0) rfl))) (by assumption) ?_
   simp only [Act.put, sq1, sq2, sq3]
   refine tkq (i := 3) (d := 18) (v := (.bool false)) rfl rfl (Or.inl ⟨by kernel_rfl, fun w hSw => ?_⟩) (by assumption) ?_
   ·(try dsimp only at hSw); go_simp <;> (try rfl)
   simp only [Act.put, sq1, sq2, sq3]
   refine tkq (i := 4) (d := 19) (v := (.bool false)) rfl rfl (Or.inl ⟨by kernel_rfl, fun w hSw => ?_⟩) (by assumption) ?_
   ·(try dsimp only at hSw); go_simp <;> (try rfl)
   simp only [Act.put, sq1, sq2, sq3]
   refine tkv (i := 5) (d := 20) rfl rfl (by assumption) ?_
   simp only [Act.put, sq1, sq2, sq3]
   refine tkv (i := 6) (d := 21) rfl rfl (by assumption) ?_
   simp only [Act.put, sq1, sq2, sq3]
   refine tkv (i := 7) (d := 22) rfl rfl (by assumption) ?_
   simp only [Act.put, sq1, sq2, sq3]
   refine tkv (i := 8) (d := 23) rfl rfl (by assumption) ?_
   simp only [Act.put, sq1, sq2, sq3]
   refine tkv (i := 9) (d := 24) rfl rfl (by assumption) ?_
   simp only [Act.put, sq1, sq2, sq3]
   refine tkq (i := 10) (d := 25) (v := (.bool false)) rfl rfl (Or.inl ⟨by kernel_rfl, fun w hSw => ?_⟩) (by assumption) ?_
   ·(try dsimp only at hSw); go_simp <;> (try rfl)
   simp only [Act.put, sq1, sq2, sq3]
   refine wpAnyH_done (by kernel_rfl) ?_ _
   have HX7 := Lib.hid hHeld
   clear hHeld
   gi_wp2
   exact ⟨keeps_below HX7.out, KpE.of_below HX7.out HB.out.size, by simp only [HSn.out, HT.out]; exact ⟨⟨C1.out.through HX7.out, C4.out.through HX7.out, C5.out.through HX7.out, C0.out.through HX7.out, C2.out.through HX7.out, C3.out.through HX7.out⟩, HB.out.trans (HX7.out.mono HB.out.size)⟩⟩
 case done =>
  rintro D zs W hD rfl ⟨⟨b1, b4, b5, b0, b2, b3⟩, hB1⟩ hK
  obtain ⟨G, hG⟩ : ∃ G, gF r.of k above (zs.map Subtype.val) = G := ⟨_, rfl⟩
  have hgl := gF_len r.of k above zs
  rw [hG] at b1 b4 b5 hgl
  have HG0 := Lib.hid hG
  obtain ⟨av, bp, fd⟩ := G
  have HBl : Hid ((Po.cells bp).length = 33) := Lib.hid (Po.cells_len _ hgl)
  have HKd := Lib.hid hK
  have HDl := Lib.hid (Array.getElem?_eq_some_iff.1 hK).1
  have HD := Lib.hid (show D ≠ p3 by have := d3.lt; omega)
  have HDn : Hid (w.heap.size ≤ D) := Lib.hid (by have := hb.size; omega)
  have HB := Lib.hid hB1
  have C3 := Lib.hid b3
  have C4 := Lib.hid b4
  have C5 := Lib.hid b5
  rename_i Kc hcont
  clear hG hgl hK b1 b0 b2 hB1 hsz hb hD d0 c5 d4 d3 d2 d1 hpp
  simp only [Exit.inBlock, Exit.then]
  refine hcont _ _ ?_
  refine wpIn_mono (wpIn_wide.2 ?_) (Q := calmQ Kc) (fun e a w h => calmQ_out h)
  go_wp2
  refine wp_region_held_drew (S := fun W6 => Blk W6 p4 tPo (Po.cells bp) ∧ Blk W6 p5 4 [.bool fd]) (by kernel_rfl) ⟨C4.out.drew, C5.out.drew⟩ (fun hHeld => ?_)
  change wpAnyH _ _ _ _ _ _ #[false, false, false, false] _ _
  refine wpAnyH_take (i := 0) (v := (.agg (Po.cells bp).toArray)) rfl (by kernel_rfl) (by kernel_rfl) (by kernel_rfl) (fun _ _ _ h => False.elim h) (yieldsIf_load_mid (by kernel_rfl) tPo (.tmp 10) rfl p4 0 (by simp [Act.eval]) (Po.cells bp) _ (fun W hW => (hW.1.rng0)) Try.underlying31 rfl (by rw [HBl.out]; kernel_rfl)) (by assumption) ?_
  change wpAnyH _ _ _ _ _ _ _ (Act.put _ (some (29 : Nat)) (.agg (Po.cells bp).toArray)) _
  simp only [Act.put, sq1, sq2, sq3]
  refine wpAnyH_take (i := 1) (v := (.bool fd)) rfl (by kernel_rfl) (by kernel_rfl) (by kernel_rfl) (fun _ _ _ h => False.elim h) (yields_load_at (by kernel_rfl) 4 (.tmp 11) rfl (.pointer (some ⟨p5, 0, none⟩)) (by simp [Act.eval]) (.bool fd) (fun W hW => load_one' (Try.agg_bo23 W) (hW.2.cellAt (i := 0) rfl))) (by assumption) ?_
  change wpAnyH _ _ _ _ _ _ _ (Act.put _ (some (30 : Nat)) (.bool fd)) _
  simp only [Act.put, sq1, sq2, sq3]
  refine wpAnyH_ready (rs := [2]) (by kernel_rfl) (by simp) ?_
  refine AllReadyH.cons (o := ⟨none, .store tPo (.tmp 8) (.tmp 29), _, _, _, none⟩) rfl (fun K hK => ?_) AllReadyH.nil
  refine step_store_blk rfl tPo (.tmp 8) (.tmp 29) rfl p3 (Po.cells bp) (by simp [Act.eval]) (by simp [Act.eval]) tPo (Po.cells poZ) C3.out.drew (by rw [HBl.out]; kernel_rfl) (by rw [HBl.out]; rfl) (Po.one bp) ?_; intro w8 hb8 hg8; have HB8 := Lib.hid hb8; have HG8 := Lib.hid hg8; have HY8 := Lib.hid (show Blk w8 p4 tPo (Po.cells bp) ∧ Blk w8 p5 4 [.bool fd] from ⟨hHeld.1.grown hg8 (fun e => by have := Option.some.inj e; have := HPP.out; omega), hHeld.2.grown hg8 (fun e => by have := Option.some.inj e; have := HPP.out; omega)⟩); clear hb8 hg8
  refine hK.out _ _ HY8.out (fun hHeld1 => ?_)
  clear hHeld hK K
  have hHeld := hHeld1
  clear hHeld1
  change wpAnyH _ _ _ _ _ _ _ (Act.put _ none undef) _
  simp only [Act.put]
  refine wpAnyH_take (i := 3) (v := (.bool fd)) rfl (by kernel_rfl) (by kernel_rfl) (by kernel_rfl) (fun _ _ _ h => False.elim h) (Or.inl ⟨by kernel_rfl, fun w hSw => ?_⟩) (by assumption) ?_
  ·(try dsimp only at hSw); go_simp <;> (try rfl)
  change wpAnyH _ _ _ _ _ _ _ (Act.put _ (some (9 : Nat)) (.bool fd)) _
  simp only [Act.put, sq1, sq2, sq3]
  refine wpAnyH_done (by kernel_rfl) ?_ _
  clear hHeld
  go_wp2
  (try simp only [Exit.then])
  have hk8 : w8.heap[D]? = some (.deferred (some [])) := (HG8.out.block D HDl.out (fun e => HD.out (Option.some.inj e))).trans HKd.out
  show LeavesInM _ _ _ _ _ _ _ _ _
  refine ⟨by simp, .inl ⟨_, _, rfl, run_takeDeferred hk8, ?_⟩⟩
  have hb9 : Blk (w8.putObj D (.deferred none)) p3 tPo (Po.cells bp) := HB8.out.grown (grownBy_putObj' _ D (.deferred none)) (fun e => HD.out (Option.some.inj e).symm)
  refine ⟨_, results_cell_row_tmp1 rfl _ _ p3 tPo _ (0, 0) _ rfl hb9 Try.underlying31 rfl (by rw [List.size_toArray, HBl.out]; kernel_rfl), ?_⟩
  have hb8 := (HB.out.drew).grown HG8.out (by have h1 := HB.out.size; exact h1) (fun q hq => by rw [← Option.some.inj hq]; have := HPP.out; omega)
  have hz8 := hb8.size
  exact ⟨by rw [HG0.out]; rfl, hb8.grown (grownBy_putObj' _ D (.deferred none)) hz8 (fun q hq => by rw [← Option.some.inj hq]; exact HDn.out)⟩

 case stop =>
  rintro D c pre W _ _ h _
  exact h.elim

end Go.Proofs.Ytpolofehkckaoaa
