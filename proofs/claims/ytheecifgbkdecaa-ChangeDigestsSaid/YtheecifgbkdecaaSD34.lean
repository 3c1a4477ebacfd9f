/-
  CwG CwO
-/
import Derived.Test.YtheecifgbkdecaaSD32
import Derived.Test.YtheecifgbkdecaaSD33
import Derived.Test.YtheecifgbkdecaaSD22
namespace Go.Proofs.Ytheecifgbkdecaa
open Go.RowKit

theorem Blk.whl_ {w : World} {g : Nat} {t : TypeId} {cs : List Value} (h : Blk w g t cs) : w.rangeAt g 0 cs := Blk.range (pre := []) (post := []) (by simpa using h)

set_option maxHeartbeats 16000000 in
set_option maxRecDepth 100000 in
theorem cl1_any (p : Po) (w : World) : Calls Try.prog 79 #[.agg (Po.cells p).toArray] w fun e w' => e = .returned (.bool (markB p.sq)) ∧ Below w.heap.size w w' := by
  have HB : Hid (Blk (w.alloc (.cells (Po.cells p).toArray 52)) w.heap.size 52 (Po.cells p)) := Lib.hid (Blk.fresh rfl rfl)
  have HX : Hid (Below w.heap.size w (w.alloc (.cells (Po.cells p).toArray 52))) := Lib.hid (below1_ w _)
  have k0 := HB.out.cellAt (i := 0) rfl
  obtain ⟨q, hq⟩ : ∃ q, markB p.sq = q := ⟨_, rfl⟩
  have HM : Hid (∀ W : World, Calls Try.prog 78 #[.int .i64 p.sq] W fun e w' => e = .returned (.bool q) ∧ w' = W) := Lib.hid (fun W => hq ▸ cmark_any p.sq W)
  rw [hq]
  clear hq
  go_enter Try.func79, Try.ntmps79
  go_wp2_with (first
    | (go_at_call 78; (with_reducible refine (HM.out _).mono ?_); rintro e w1 ⟨rfl, rfl⟩))
  go_ret
  exact ⟨rfl, HX.out⟩

set_option maxHeartbeats 16000000 in
set_option maxRecDepth 100000 in
theorem cl3_any (p : Po) (w : World) : Calls Try.prog 82 #[.agg (Po.cells p).toArray] w fun e w' => e = .returned (.int .i64 p.sq) ∧ Below w.heap.size w w' := by
  have HB : Hid (Blk (w.alloc (.cells (Po.cells p).toArray 52)) w.heap.size 52 (Po.cells p)) := Lib.hid (Blk.fresh rfl rfl)
  have HX : Hid (Below w.heap.size w (w.alloc (.cells (Po.cells p).toArray 52))) := Lib.hid (below1_ w _)
  have k0 := HB.out.cellAt (i := 0) rfl
  go_enter Try.func82, Try.ntmps82
  go_wp2
  go_ret
  exact ⟨rfl, HX.out⟩

set_option maxHeartbeats 16000000 in
set_option maxRecDepth 100000 in
theorem cl4_any (p : Pf) (B : Option Addr) (m c : Nat) (w : World) : Calls Try.prog 83 #[.agg #[.int .i64 p.sq, .int .i64 p.vw, .slice B m c]] w fun e w' => e = .returned (.int .i64 p.sq) ∧ Below w.heap.size w w' := by
  have HB : Hid (Blk (w.alloc (.cells #[.int .i64 p.sq, .int .i64 p.vw, .slice B m c] 55)) w.heap.size 55 [.int .i64 p.sq, .int .i64 p.vw, .slice B m c]) := Lib.hid (Blk.fresh rfl rfl)
  have HX : Hid (Below w.heap.size w (w.alloc (.cells #[.int .i64 p.sq, .int .i64 p.vw, .slice B m c] 55))) := Lib.hid (below1_ w _)
  have k0 := HB.out.cellAt (i := 0) rfl
  go_enter Try.func83, Try.ntmps83
  go_wp2
  go_ret
  exact ⟨rfl, HX.out⟩

set_option maxHeartbeats 16000000 in
set_option maxRecDepth 100000 in
theorem cl5_any (p : Pf) (B : Option Addr) (m c : Nat) (w : World) : Calls Try.prog 84 #[.agg #[.int .i64 p.sq, .int .i64 p.vw, .slice B m c]] w fun e w' => e = .returned (.int .i64 p.vw) ∧ Below w.heap.size w w' := by
  have HB : Hid (Blk (w.alloc (.cells #[.int .i64 p.sq, .int .i64 p.vw, .slice B m c] 55)) w.heap.size 55 [.int .i64 p.sq, .int .i64 p.vw, .slice B m c]) := Lib.hid (Blk.fresh rfl rfl)
  have HX : Hid (Below w.heap.size w (w.alloc (.cells #[.int .i64 p.sq, .int .i64 p.vw, .slice B m c] 55))) := Lib.hid (below1_ w _)
  have k0 := HB.out.cellAt (i := 1) rfl
  go_enter Try.func84, Try.ntmps84
  go_wp2
  go_ret
  exact ⟨rfl, HX.out⟩

set_option maxHeartbeats 16000000 in
set_option maxRecDepth 100000 in
theorem cl2_any (p : Pf) (B : Option Addr) (m dd : Nat) (c : Ch) (P Q R : Pl) (n : Int) (gc gn : Nat) (w : World) (hc : Blk w gc 25 (Ch.cells c P Q R)) (hn : Blk w gn 3 [.int .i64 n]) (h : EysIn w B m p.es) (hmd : m ≤ dd) (hlw : isW c.lw = true) (hl : ∀ y ∈ p.es, y.co.lt.length ≤ 1000000) :
    Calls Try.prog 80 #[.agg #[.int .i64 p.sq, .int .i64 p.vw, .slice B m dd], .pointer (some ⟨gc, 0, none⟩), .pointer (some ⟨gn, 0, none⟩)] w fun e w' => e = .returned (.bool (prfB c.vw c.lw n p)) ∧ Below w.heap.size w w' := by
  have H1 : Hid (Blk (w.alloc (.cells #[.int .i64 p.sq, .int .i64 p.vw, .slice B m dd] 55)) w.heap.size 55 [.int .i64 p.sq, .int .i64 p.vw, .slice B m dd]) := Lib.hid (Blk.fresh rfl rfl)
  have HX : Hid (Below w.heap.size w (w.alloc (.cells #[.int .i64 p.sq, .int .i64 p.vw, .slice B m dd] 55))) := Lib.hid (below1_ w _)
  have H2 : Hid (Blk (w.alloc (.cells #[.int .i64 p.sq, .int .i64 p.vw, .slice B m dd] 55)) gc 25 (Ch.cells c P Q R)) := Lib.hid (hc.through HX.out)
  have H3 : Hid (Blk (w.alloc (.cells #[.int .i64 p.sq, .int .i64 p.vw, .slice B m dd] 55)) gn 3 [.int .i64 n]) := Lib.hid (hn.through HX.out)
  obtain ⟨bb, hbb⟩ : ∃ bb, prfB c.vw c.lw n p = bb := ⟨_, rfl⟩
  rw [hbb]
  obtain ⟨ck, hck⟩ : ∃ ck, chkB p.es n = ck := ⟨_, rfl⟩
  have HCk : Hid (Calls Try.prog 81 #[.slice B m dd, .int .i64 n] (w.alloc (.cells #[.int .i64 p.sq, .int .i64 p.vw, .slice B m dd] 55)) fun e w' => e = .returned (.int .i64 ck) ∧ Below (w.alloc (.cells #[.int .i64 p.sq, .int .i64 p.vw, .slice B m dd] 55)).heap.size (w.alloc (.cells #[.int .i64 p.sq, .int .i64 p.vw, .slice B m dd] 55)) w') := Lib.hid (hck ▸ check_any p.es n B m dd (w.alloc (.cells #[.int .i64 p.sq, .int .i64 p.vw, .slice B m dd] 55)) (h.through HX.out) hmd (fun y hy => by have := hl y hy; omega))
  have hlo : 0 ≤ c.lw ∧ c.lw ≤ 1048576 := by simpa [isW] using hlw
  obtain ⟨top, htop⟩ : ∃ t : Int, c.lw + 8 = t := ⟨_, rfl⟩
  have hwr : IntKind.i64.wrap (c.lw + 8) = top := by rw [IntWalk.i64_in _ (by omega)]; exact htop
  have HQ : Hid (bb = (decide (c.lw < p.sq) && decide (p.sq ≤ top) && decide (0 ≤ p.vw) && decide (p.vw < c.vw) && decide (ck = 0))) := Lib.hid (by rw [← hbb, ← htop, ← hck]; rfl)
  have k0 := H1.out.cellAt (i := 0) rfl
  have k1 := H1.out.cellAt (i := 1) rfl
  have k2 := H1.out.cellAt (i := 2) rfl
  have j0 := H2.out.cellAt (i := 0) rfl
  have j1 := H2.out.cellAt (i := 1) rfl
  have n0 := H3.out.cellAt (i := 0) rfl
  clear h hc hn hlw hl hbb hck hlo htop
  by_cases c1 : c.lw < p.sq
  · have d1 : decide (c.lw < p.sq) = true := by simpa using c1
    by_cases c2 : p.sq ≤ top
    · have d2 : decide (p.sq ≤ top) = true := by simpa using c2
      by_cases c3 : 0 ≤ p.vw
      · have d3 : decide (0 ≤ p.vw) = true := by simpa using c3
        by_cases c4 : p.vw < c.vw
        · have d4 : decide (p.vw < c.vw) = true := by simpa using c4
          obtain ⟨ckb, hckb⟩ : ∃ b, (ck == 0) = b := ⟨_, rfl⟩
          have HF : Hid (bb = ckb) := Lib.hid (by rw [HQ.out, d1, d2, d3, d4, ← hckb]; by_cases h0 : ck = 0 <;> simp [h0])
          clear c1 c2 c3 c4
          go_enter Try.func80, Try.ntmps80
          go_wp2_with (first
            | go_skip
            | (go_at_call 81; (with_reducible refine (HCk.out).mono ?_); rintro e w1 ⟨rfl, hb1⟩; have HX1 := Lib.hid (below_step HX.out hb1); clear hb1))
          go_ret
          exact ⟨ret_bo HF.out.symm, HX1.out⟩

        · have d4 : decide (p.vw < c.vw) = false := by simpa using c4
          have HF : Hid (bb = false) := Lib.hid (by rw [HQ.out, d4]; simp)
          clear c1 c2 c3 c4
          go_enter Try.func80, Try.ntmps80
          go_wp2_with (first
            | go_skip)
          go_ret
          exact ⟨ret_bo HF.out.symm, HX.out⟩

      · have d3 : decide (0 ≤ p.vw) = false := by simpa using c3
        have HF : Hid (bb = false) := Lib.hid (by rw [HQ.out, d3]; simp)
        clear c1 c2 c3
        go_enter Try.func80, Try.ntmps80
        go_wp2_with (first
          | go_skip)
        go_ret
        exact ⟨ret_bo HF.out.symm, HX.out⟩

    · have d2 : decide (p.sq ≤ top) = false := by simpa using c2
      have HF : Hid (bb = false) := Lib.hid (by rw [HQ.out, d2]; simp)
      clear c1 c2
      go_enter Try.func80, Try.ntmps80
      go_wp2_with (first
        | go_skip)
      go_ret
      exact ⟨ret_bo HF.out.symm, HX.out⟩

  · have d1 : decide (c.lw < p.sq) = false := by simpa using c1
    have HF : Hid (bb = false) := Lib.hid (by rw [HQ.out, d1]; simp)
    clear c1
    go_enter Try.func80, Try.ntmps80
    go_wp2_with (first
      | go_skip)
    go_ret
    exact ⟨ret_bo HF.out.symm, HX.out⟩

end Go.Proofs.Ytheecifgbkdecaa

namespace Go.Proofs.Ytheecifgbkdecaa
open Go.RowKit

/-- of what was there, two blocks alone may have turned -/
structure Tw (g h : Nat) (w w' : World) : Prop where
  os : w'.os = w.os
  tape : w'.tape = w.tape
  output : w'.output = w.output
  size : w.heap.size ≤ w'.heap.size
  block : ∀ b, b < w.heap.size → b ≠ g → b ≠ h → w'.heap[b]? = w.heap[b]?
theorem Tw.refl (g h : Nat) (w : World) : Tw g h w w := ⟨rfl, rfl, rfl, Nat.le_refl _, fun _ _ _ _ => rfl⟩
theorem Tw.trans {g h : Nat} {w m w' : World} (a : Tw g h w m) (b : Tw g h m w') : Tw g h w w' :=
  ⟨b.os.trans a.os, b.tape.trans a.tape, b.output.trans a.output, Nat.le_trans a.size b.size, fun k hk h1 h2 => (b.block k (Nat.lt_of_lt_of_le hk a.size) h1 h2).trans (a.block k hk h1 h2)⟩
theorem Tw.turn {g h : Nat} {w m w' : World} {row : Option Nat} (a : Tw g h w m) (hb : m.grownBy w' row) (hr : ∀ b, row = some b → b = g ∨ b = h ∨ w.heap.size ≤ b) : Tw g h w w' :=
  ⟨hb.os.trans a.os, hb.tape.trans a.tape, hb.output.trans a.output, Nat.le_trans a.size hb.size, fun k hk h1 h2 => (hb.block k (Nat.lt_of_lt_of_le hk a.size) (fun e => by rcases hr k e.symm with h9 | h9 | h9 <;> omega)).trans (a.block k hk h1 h2)⟩
theorem Tw.grown {g h : Nat} {w m w' : World} (a : Tw g h w m) (hb : m.grownBy w' (some g)) : Tw g h w w' := a.turn hb (fun _ e => .inl (Option.some.inj e).symm)
theorem Tw.deep {g h : Nat} {w m w' : World} (a : Tw g h w m) (hb : Below m.heap.size m w') : Tw g h w w' :=
  ⟨hb.os.trans a.os, hb.tape.trans a.tape, hb.output.trans a.output, Nat.le_trans a.size hb.size, fun k hk h1 h2 => (hb.block k (Nat.lt_of_lt_of_le hk a.size)).trans (a.block k hk h1 h2)⟩
theorem Tw.blk {g h q : Nat} {w w' : World} {t : TypeId} {cs : List Value} (a : Tw g h w w') (hb : Blk w q t cs) (h1 : q ≠ g) (h2 : q ≠ h) : Blk w' q t cs := (a.block q hb.lt h1 h2).trans hb
theorem Tw.below {g h B : Nat} {v w w' : World} (a : Tw g h w w') (hb : Below B v w) (hB : B ≤ w.heap.size) (h1 : B ≤ g) (h2 : B ≤ h) : Below B v w' :=
  ⟨a.os.trans hb.os, a.tape.trans hb.tape, a.output.trans hb.output, Nat.le_trans hb.size a.size, fun k hk => (a.block k (by omega) (by omega) (by omega)).trans (hb.block k hk)⟩
theorem Tw.os_ {g h B k : Nat} {w w' : World} {e : TypeId} {v : Value} {xs : List (List Value)} (a : Tw g h w w') (ho : Os w B e k v xs) (h1 : g < B) (h2 : h < B) : Os w' B e k v xs := ho.keep fun b hb hl _ => a.block b hl (by omega) (by omega)
theorem Tw.ey {g h B : Nat} {w w' : World} {v : Value} {es : List Ey} (a : Tw g h w w') (ho : OEy w B v es) (h1 : g < B) (h2 : h < B) : OEy w' B v es := ⟨a.os_ ho.1 h1 h2, ho.2⟩
theorem Tw.opo {g h B : Nat} {w w' : World} {v : Value} {ps : List Po} (a : Tw g h w w') (ho : OPo w B v ps) (h1 : g < B) (h2 : h < B) : OPo w' B v ps := ⟨a.os_ ho.1 h1 h2, ho.2⟩
theorem Tw.opf {g h B : Nat} {w w' : World} {v : Value} {ps : List Pf} (a : Tw g h w w') (ho : OPf w B v ps) (h1 : g < B) (h2 : h < B) : OPf w' B v ps := by
  obtain ⟨ss, h3, h4⟩ := ho
  exact ⟨ss, a.os_ h3 h1 h2, h4.mono fun _ _ h => a.ey h h1 h2⟩
theorem Try.cagg_prd (w : World) : (isAgg 73).run Try.prog w = .ok false w := by kernel_rfl
theorem Try.cagg_sl (w : World) : (isAgg 28).run Try.prog w = .ok false w := by kernel_rfl

set_option maxHeartbeats 16000000 in
set_option maxRecDepth 100000 in
theorem rdpo_any {Q : Nat → Prop} (g gr : Nat) (st : Option (List UInt8)) (w : World) (h : Rs Q w g tR st) (hQ : ∀ b, Q b → b < w.heap.size) (hr : Blk w gr 73 [(.pointer (some ⟨g, 0, none⟩))]) (hne : gr ≠ g) :
    Calls Try.prog 49 #[.pointer (some ⟨gr, 0, none⟩)] w fun e w' => e = .returned (.agg (Po.cells (rdPo st).1).toArray) ∧ Rs Q w' g tR (rdPo st).2 ∧ w.grownBy w' (some g) := by
  have HNR := Lib.hid hne
  have HQ := Lib.hid hQ
  have HGr := Lib.hid hr
  obtain ⟨gz, hgz⟩ : ∃ gz, w.heap.size = gz := ⟨_, rfl⟩
  have HGZ : Hid (w.heap.size ≤ gz) := Lib.hid (Nat.le_of_eq hgz)
  have HNZ : Hid (gz ≠ g) := Lib.hid (by have := h.lt; omega)
  obtain ⟨r1, hr1⟩ : ∃ r1, r1 = Po.cells ⟨0, List.replicate 32 0⟩ := ⟨_, rfl⟩
  have hzp : ∀ W, (zeroValue 52).run Try.prog W = .ok (.agg r1.toArray) W := fun W => by rw [hr1]; kernel_rfl
  have HR1l : Hid (r1.length = 33) := Lib.hid (by rw [hr1]; rfl)
  have HX1 : Hid (Below w.heap.size w (w.alloc (.cells r1.toArray 52))) := Lib.hid (below1_ w _)
  have HB1 : Hid (Blk (w.alloc (.cells r1.toArray 52)) gz 52 r1) := Lib.hid (Blk.fresh hgz.symm rfl)
  have HR1 := Lib.hid (h.alloc (.cells r1.toArray 52))
  have HNm : Hid (∀ W : World, Rs Q W g tR st → Calls Try.prog 46 #[(.pointer (some ⟨g, 0, none⟩))] W fun e w' => e = .returned (.int .i64 (sx 8 (nval 8 st))) ∧ Rs Q w' g tR (nnext 8 st) ∧ W.grownBy w' (some g)) := Lib.hid (fun W h9 => cnum_any h9)
  have HDg : Hid (∀ W : World, Rs Q W g tR (nnext 8 st) → (∀ b, Q b → b < W.heap.size) → Calls Try.prog 50 #[(.pointer (some ⟨g, 0, none⟩))] W fun e w' => e = .returned (.agg (vs (tagOf (tval 32 (nnext 8 st)))).toArray) ∧ Rs Q w' g tR (nnext 32 (nnext 8 st)) ∧ W.grownBy w' (some g)) := Lib.hid (fun W h9 h8 => cdig_any h9 h8)
  have hdl : (tagOf (tval 32 (nnext 8 st))).length = 32 := tagOf_len _
  unfold rdPo
  simp only
  generalize sx 8 (nval 8 st) = sq at *
  generalize tagOf (tval 32 (nnext 8 st)) = dg at *
  have HPL : Hid ((Po.cells ⟨sq, dg⟩).length = 33) := Lib.hid (Po.cells_len _ hdl)
  have hbp := fun (W : World) => Try.build_po sq dg hdl W
  clear h hQ hr hne hr1 hdl
  go_enter Try.func49, Try.ntmps49
  go_wp2
  try dsimp only [Act.put]
  clear hgz
  generalize w.alloc (.cells r1.toArray 52) = w1 at *
  refine wp_region_held_drew (S := fun W => w.grownBy W (some g)) (by kernel_rfl) (only_below HX1.out.drew) (fun hHeld => ?_)
  change wpAnyH _ _ _ _ _ _ #[false, false, false, false, false, false] _ _
  refine wpAnyH_take (i := 0) (v := (.pointer (some ⟨g, 0, none⟩))) rfl (by kernel_rfl) (by kernel_rfl) (by kernel_rfl) (fun _ _ _ h => h) (yields_load_at (by kernel_rfl) 73 (.tmp 0) rfl (.pointer (some ⟨gr, 0, none⟩)) (by simp [Act.eval]) (.pointer (some ⟨g, 0, none⟩)) (fun W hW => load_one' (Try.cagg_prd W) ((HGr.out.grown hW (fun e => HNR.out (Option.some.inj e))).cellAt (i := 0) rfl))) (by assumption) ?_
  change wpAnyH _ _ _ _ _ _ _ (Act.put _ (some (2 : Nat)) (.pointer (some ⟨g, 0, none⟩))) _
  simp only [Act.put, List.setIfInBounds_toArray, List.set_cons_zero, List.set_cons_succ]
  refine wpAnyH_take (i := 2) (v := (.pointer (some ⟨g, 0, none⟩))) rfl (by kernel_rfl) (by kernel_rfl) (by kernel_rfl) (fun _ _ _ h => h) (yields_load_at (by kernel_rfl) 73 (.tmp 0) rfl (.pointer (some ⟨gr, 0, none⟩)) (by simp [Act.eval]) (.pointer (some ⟨g, 0, none⟩)) (fun W hW => load_one' (Try.cagg_prd W) ((HGr.out.grown hW (fun e => HNR.out (Option.some.inj e))).cellAt (i := 0) rfl))) (by assumption) ?_
  change wpAnyH _ _ _ _ _ _ _ (Act.put _ (some (4 : Nat)) (.pointer (some ⟨g, 0, none⟩))) _
  simp only [Act.put, List.setIfInBounds_toArray, List.set_cons_zero, List.set_cons_succ]
  refine wpAnyH_ready (rs := [1]) (by kernel_rfl) (by simp) ?_
  refine AllReadyH.cons rfl (fun K hK => ?_) AllReadyH.nil
  go_simp
  refine ((HNm.out _ HR1.out.drew)).mono ?_
  rintro e w2 ⟨rfl, hr2, hg2⟩; have HR2 := Lib.hid hr2; have HG2 := Lib.hid (only_trans hHeld hg2); have HB2 := Lib.hid (HB1.out.drew.grown hg2 (fun e => HNZ.out (Option.some.inj e))); clear hr2 hg2
  go_wp2_with fail
  refine hK.out _ _ HG2.out (fun hHeld1 => ?_)
  clear hHeld hK K
  have hHeld := hHeld1
  clear hHeld1
  refine wpAnyH_ready (rs := [3]) (by kernel_rfl) (by simp) ?_
  refine AllReadyH.cons rfl (fun K hK => ?_) AllReadyH.nil
  go_simp
  refine ((HDg.out _ HR2.out (fun b hb => by have := HQ.out b hb; have := HG2.out.size; omega))).mono ?_
  rintro e w3 ⟨rfl, hr3, hg3⟩; have HR3 := Lib.hid hr3; have HG3 := Lib.hid (only_trans hHeld hg3); have HB3 := Lib.hid (HB2.out.grown hg3 (fun e => HNZ.out (Option.some.inj e))); clear hr3 hg3
  go_wp2_with fail
  refine hK.out _ _ HG3.out (fun hHeld1 => ?_)
  clear hHeld hK K
  have hHeld := hHeld1
  clear hHeld1
  refine wpAnyH_take (i := 4) (v := (.agg (Po.cells ⟨sq, dg⟩).toArray)) rfl (by kernel_rfl) (by kernel_rfl) (by kernel_rfl) (fun _ _ _ h => h) (yields_build (by kernel_rfl) 52 #[(0, .tmp 3), (1, .tmp 5)] rfl #[(0, .int .i64 sq), (1, .agg (vs dg).toArray)] (by simp [Act.eval]) (.agg (Po.cells ⟨sq, dg⟩).toArray) (fun W _ => hbp W)) (by assumption) ?_
  change wpAnyH _ _ _ _ _ _ _ (Act.put _ (some (6 : Nat)) (.agg (Po.cells ⟨sq, dg⟩).toArray)) _
  simp only [Act.put, List.setIfInBounds_toArray, List.set_cons_zero, List.set_cons_succ]
  refine wpAnyH_ready (rs := [5]) (by kernel_rfl) (by simp) ?_
  refine AllReadyH.cons (o := ⟨none, .store 52 (.tmp 1) (.tmp 6), _, _, _, none⟩) rfl (fun K hK => ?_) AllReadyH.nil
  refine step_store_blk rfl 52 (.tmp 1) (.tmp 6) rfl gz (Po.cells ⟨sq, dg⟩) (by simp [Act.eval]) (by simp [Act.eval]) 52 r1 HB3.out (by rw [HPL.out]; kernel_rfl) (by rw [HPL.out, HR1l.out]) (Po.one_ _) ?_; intro w4 hb4 hg4; have HB4 := Lib.hid hb4; have HR4 := Lib.hid (HR3.out.other hg4 (fun b hb => ⟨fun e => HNZ.out (by have := Option.some.inj hb; omega), fun h9 => by have := HQ.out b h9; have := Option.some.inj hb; have := HGZ.out; omega⟩)); have HG4 := Lib.hid (only_own_ hHeld hg4 (fun h e => by have := Option.some.inj e; have := HGZ.out; omega)); clear hb4 hg4
  refine hK.out _ _ HG4.out (fun hHeld1 => ?_)
  clear hHeld hK K
  have hHeld := hHeld1
  clear hHeld1
  change wpAnyH _ _ _ _ _ _ _ (Act.put _ none undef) _
  simp only [Act.put]
  refine wpAnyH_done (by kernel_rfl) ?_ _
  clear hHeld
  go_wp2_with fail
  (try simp only [Exit.inBlock, Exit.then])
  refine bodyPost_ret (v := .agg (Po.cells ⟨sq, dg⟩).toArray) (results_cell_row rfl _ _ gz 52 _ (0, 0) _ rfl HB4.out Try.underlying52 rfl ?r0) rfl ⟨rfl, HR4.out, HG4.out⟩
  rw [List.size_toArray, HPL.out]
  kernel_rfl

end Go.Proofs.Ytheecifgbkdecaa
