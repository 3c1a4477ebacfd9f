/-
  Joined: PwJ.
-/
import Derived.Test.YtpolofehkckaoaaUT41
import Derived.Test.YtpolofehkckaoaaUT42
namespace Go.Proofs.Ytpolofehkckaoaa
open Go.RowKit Go.Shelf
attribute [local go_sem] Oper.semAt_some

abbrev Pq := { p : Po // p.dg.length = 32 }
def encQ (x : Pq) : Array Value := #[.agg (Po.cells x.1).toArray]
/-- a list of points, each with a digest -/
def pqs (l : List Po) (h : ∀ p ∈ l, p.dg.length = 32) : List Pq := l.attach.map fun p => ⟨p.1, h p.1 p.2⟩
theorem pqs_map {l : List Po} (h : ∀ p ∈ l, p.dg.length = 32) : (pqs l h).map Subtype.val = l := by
 unfold pqs
 rw [List.map_map]
 exact List.attach_map_subtype_val l
set_option maxHeartbeats 16000000 in
set_option maxRecDepth 100000 in
theorem values1_p (l Bs n₀ : Nat) (xs : List Pq) (A : Option Addr) (k c : Nat) (hk : k ≤ 1000000) (J Jx : List Pq → World → Prop)
  (hY : ∀ pre x W, J pre W → pre.length < k → YieldAt Fence.wide 2 Try.prog l (encQ x) W fun e W' =>
   (e = .returned (.bool true) ∧ J (pre ++ [x]) W' ∧ Below n₀ W W') ∨ (e = .returned (.bool false) ∧ Jx (pre ++ [x]) W'))
  (W : World) (hn : W.heap.size ≥ n₀) (hBs : W.cell? ⟨Bs, 0, none⟩ = some (.slice A k c)) (hp : PosIn W A k (xs.map Subtype.val)) (hlow : ∀ q, plB (A, k, k) q → q < n₀) (hJa : ∀ s A B, J s A → Below A.heap.size A B → J s B) (h0 : J [] W) :
  CallsIn Fence.wide 3 Try.prog 50 #[.func (.yield l) #[] #[], .pointer (some ⟨Bs, 0, none⟩)] W fun e W' => (∃ v, e = .returned v) ∧
   ((∃ ys, ys = xs ∧ J ys W') ∨ (∃ pre, pre <+: xs ∧ Jx pre W')) := by
 have hz : ∀ W, (zeroValue tPo).run Try.prog W = .ok (.agg (Po.cells poZ).toArray) W := fun W => Try.zero_po W
 have HP := Lib.hid hp
 have HLn := Lib.hid hp.len
 have HLow := Lib.hid hlow
 have HJ0 := Lib.hid h0
 have HJa := Lib.hid hJa
 have HYy := Lib.hid hY
 have HN := Lib.hid hn
 clear hp hlow h0 hJa hY hn
 refine callsIn_of_wp Try.func50 rfl trivial ?_ rfl
 simp only [Try.ntmps50, List.size_toArray, List.length_cons, List.length_nil, Nat.reduceAdd, Nat.reduceSub, Array.replicate_succ, Array.replicate_zero, List.push_toArray, List.append_toArray, List.nil_append, List.cons_append]
 gi_wp2
 gi_loopw [7] (fun iv wr => ∃ i : Nat, i ≤ k ∧ iv = .int .i64 (i : Int) ∧ J (xs.take i) wr ∧ Below n₀ W wr) (fun iv _ => k - (intOf iv).toNat)
 case atStart => exact ⟨0, Nat.zero_le _, rfl, by rw [List.take_zero]; exact HJ0.out, Below.refl _ _⟩
 case round =>
  obtain ⟨i, hi, rfl, hJs, hw⟩ := hrel
  have HJs := Lib.hid hJs
  have HW := Lib.hid hw
  have hib : i ≤ 1000000 := by omega
  clear hJs hw
  by_cases hlt : i < k
  ·obtain ⟨g0, o0, y, rfl, hy, _, _, hyd, hry⟩ := HP.out.at hlt
   have hil : i < xs.length := by have := HLn.out; rw [List.length_map] at this; omega
   have hxi : xs[i]? = some xs[i] := List.getElem?_eq_getElem hil
   have hye : y = xs[i].1 := by
    rw [List.getElem?_map, hxi] at hy
    exact (Option.some.inj hy).symm
   obtain ⟨x, hx9⟩ : ∃ x, xs[i] = x := ⟨_, rfl⟩
   rw [hx9] at hxi hye
   subst hye
   have HRx : Hid (wr.rangeAt g0 (o0 + i * 33) (Po.cells x.1)) := Lib.hid (fun j u hu => (HW.out.cell (p := ⟨g0, _, none⟩) (HLow.out g0 ⟨by show 0 < k; omega, _, rfl, rfl⟩)).trans (hry j u hu))
   have HXl : Hid ((Po.cells x.1).length = 33) := Lib.hid (Po.cells_len _ x.2)
   have hix := fun (W : World) => Try.ix_po W g0 o0 k c i hlt
   have HTk : Hid (xs.take (i + 1) = xs.take i ++ [x]) := Lib.hid (by rw [List.take_add_one, hxi]; rfl)
   have HTl : Hid ((xs.take i).length < k) := Lib.hid (by rw [List.length_take]; omega)
   have HS : Hid (n₀ ≤ wr.heap.size) := Lib.hid (Nat.le_trans HN.out HW.out.size)
   clear hry hy hyd hil hxi hx9
   gi_wp2_with (first
    | (refine wpListIn_load_p W2.wide rfl tPo (.tmp 9) rfl (.pointer (some ⟨g0, o0 + i * 33, none⟩)) (.agg (Po.cells x.1).toArray) rfl (run_loadAt_mid _ g0 (o0 + i * 33) tPo (Po.cells x.1) _ HRx.out Try.underlying31 rfl (by rw [HXl.out]; kernel_rfl)) ?_)
    | (refine wpListIn_store_p W2.wide rfl tPo (.tmp 4) (.tmp 10) rfl wr.heap.size (Po.cells x.1) rfl rfl tPo (Po.cells poZ) (Blk.fresh rfl rfl) (by rw [HXl.out]; kernel_rfl) (by rw [HXl.out]; rfl) (Po.one x.1) ?_; simp only [Act.put]; intro w5 hb5 hg5; have HB5 := Lib.hid hb5; have HX5 := Lib.hid (below_new hg5); obtain ⟨fn9, tm9, as9, bo9, hy9, hR9⟩ := HYy.out _ x w5 (HJa.out _ _ _ HJs.out HX5.out) HTl.out; unfold encQ at hy9; have HR9 := Lib.hid hR9; clear hb5 hg5 hR9)
    | (refine wpListIn_load_p W2.wide rfl tPo (.tmp 4) rfl (.pointer (some ⟨wr.heap.size, 0, none⟩)) (.agg (Po.cells x.1).toArray) rfl (HB5.out.loadAt tPo _ Try.underlying31 rfl (by rw [HXl.out]; kernel_rfl)) ?_))
   refine HR9.out.mono ?_
   rintro e W3 (⟨rfl, hJ3, hk3⟩ | ⟨rfl, hJx3⟩)
   ·gi_wp2
    go_roundw
    case rel => exact ⟨i + 1, by omega, by simp, by rw [HTk.out]; exact hJ3, (HW.out.trans (HX5.out.mono HS.out)).trans hk3⟩
    case measure => simp [intOf]; omega
   ·gi_wp2
    refine bodyPost_ret (results_none rfl _ _ _) rfl ?_
    exact ⟨⟨_, rfl⟩, .inr ⟨xs.take i ++ [x], by rw [← HTk.out]; exact List.take_prefix _ _, hJx3⟩⟩
  ·obtain rfl : i = k := by omega
   gi_wp2
   go_end0
   exact ⟨⟨_, rfl⟩, .inl ⟨xs, rfl, by have h9 := HJs.out; rw [List.take_of_length_le (by have := HLn.out; rw [List.length_map] at this; omega)] at h9; exact h9⟩⟩
/-- what a round keeps: all that lies below, and all cells but one's own -/
structure KpE (n₀ : Nat) (E : Nat → Prop) (W W' : World) : Prop where
 below : Below n₀ W W'
 cells : ∀ (b : Nat) (o : Obj), W.heap[b]? = some o → o.isCells = true → ¬ E b → W'.heap[b]? = some o
theorem KpE.trans {n₀ : Nat} {E : Nat → Prop} {A B C : World} (h : KpE n₀ E A B) (h' : KpE n₀ E B C) : KpE n₀ E A C := ⟨h.below.trans h'.below, fun b o h1 h2 h3 => h'.cells b o (h.cells b o h1 h2 h3) h2 h3⟩
theorem KpE.of_below {n₀ : Nat} {E : Nat → Prop} {A B : World} (h : Below A.heap.size A B) (hn : n₀ ≤ A.heap.size) : KpE n₀ E A B := ⟨h.mono hn, fun b _ h1 _ _ => (h.block b (Array.getElem?_eq_some_iff.1 h1).1).trans h1⟩
theorem KpE.rangeAt {n₀ : Nat} {E : Nat → Prop} {W W' : World} (h : KpE n₀ E W W') {g o : Nat} {cs : List Value} (hr : W.rangeAt g o cs) (hE : ¬ E g) : W'.rangeAt g o cs := fun j v hv => by
 have h1 := hr j v hv
 have h2 : ∃ ob, W.heap[g]? = some ob ∧ ob.isCells = true := by
  unfold World.cell? at h1
  simp only at h1
  split at h1
  ·rename_i cs' t fr he
   exact ⟨_, he, rfl⟩
  ·cases h1
 obtain ⟨ob, h3, h4⟩ := h2
 have h5 := h.cells g ob h3 h4 hE
 rw [show W'.cell? ⟨g, o + j, none⟩ = W.cell? ⟨g, o + j, none⟩ by unfold World.cell?; simp only [h5, h3]]
 exact h1
theorem KpE.pos {n₀ : Nat} {E : Nat → Prop} {W W' : World} (h : KpE n₀ E W W') {A : Option Addr} {k : Nat} {l : List Po} (hp : PosIn W A k l) (hE : ∀ q, plB (A, k, k) q → ¬ E q) : PosIn W' A k l :=
 ⟨⟨hp.1.1, fun hn => by
  obtain ⟨g, o, e, hc⟩ := hp.1.2 hn
  exact ⟨g, o, e, fun i cs hi => h.rangeAt (hc i cs hi) (hE g ⟨hn, _, e, rfl⟩)⟩⟩, hp.2⟩
theorem Ft.of_n {n : Nat} {W W' : World} (h : Below n W W') : Ft (fun q => n ≤ q) W W' := ⟨h.os, h.tape, h.output, h.size, fun b _ hn => h.block b (by omega)⟩
theorem PPt.low {w w' : World} {B mo mv n : Nat} {r : Ptp} {ows : List Ow} {OE VE : List (Int × Value)} {vf : Nat → Pl} (h : PPt w B mo mv r ows OE VE vf) (hb : Below n w w') (hn : ∀ q, DW B mo mv r ows vf q → q < n) : PPt w' B mo mv r ows OE VE vf :=
 h.off (Ft.of_n hb) (fun q hq h9 => by have := hn q hq; omega)
set_option maxHeartbeats 16000000 in
set_option maxRecDepth 100000 in
theorem all1_p (l Bs n₀ : Nat) (E : Nat → Prop) (ofs : List (List Pq)) {B mo mv : Nat} {r : Ptp} {ows : List Ow} {OE VE : List (Int × Value)} {vf : Nat → Pl} (J Jx : List Pq → World → Prop)
  (hY : ∀ pre x W, J pre W → pre.length < ofs.flatten.length → YieldAt Fence.wide 2 Try.prog l (encQ x) W fun e W' =>
   (e = .returned (.bool true) ∧ J (pre ++ [x]) W' ∧ KpE n₀ E W W') ∨ (e = .returned (.bool false) ∧ Jx (pre ++ [x]) W'))
  (W : World) (hn : n₀ ≤ W.heap.size) (hBs : W.cell? ⟨Bs, 0, none⟩ = some (.pointer (some ⟨B, 0, none⟩))) (hBn : Bs < n₀) (h : PPt W B mo mv r ows OE VE vf) (hlow : ∀ q, DW B mo mv r ows vf q → q < n₀) (hE : ∀ q, E q → q < W.heap.size) (hofs : ofs.map (fun l => l.map Subtype.val) = r.of) (hlen : ows.length ≤ 100000) (hJa : ∀ s A B, J s A → Below A.heap.size A B → J s B) (h0 : J [] W) :
  CallsIn Fence.wide 3 Try.prog 51 #[.func (.yield l) #[] #[], .pointer (some ⟨Bs, 0, none⟩)] W fun e W' => (∃ v, e = .returned v) ∧
   ((∃ ys, ys = ofs.flatten ∧ J ys W') ∨ (∃ pre, pre <+: ofs.flatten ∧ Jx pre W')) := by
 have hz : ∀ W, (zeroValue tPo).run Try.prog W = .ok (.agg (Po.cells poZ).toArray) W := fun W => Try.zero_po W
 have HH := Lib.hid h
 have HLow := Lib.hid hlow
 have HJ0 := Lib.hid h0
 have HJa := Lib.hid hJa
 have HYy := Lib.hid hY
 have HN := Lib.hid hn
 have HEl := Lib.hid hE
 have HOf := Lib.hid hofs
 have HLen := Lib.hid hlen
 have HBs := Lib.hid hBs
 have HBn := Lib.hid hBn
 have k0 := h.box.cellAt (i := 0) rfl
 have HNl : Hid (ofs.length = r.n) := Lib.hid (by rw [← h.nl, ← hofs, List.length_map])
 have hn7 : r.n ≤ 7 := h.n7
 clear hlow h0 hJa hY hn hE hofs hlen h hBn
 refine callsIn_of_wp Try.func51 rfl trivial ?_ rfl
 simp only [Try.ntmps51, List.size_toArray, List.length_cons, List.length_nil, Nat.reduceAdd, Nat.reduceSub, Array.replicate_succ, Array.replicate_zero, List.push_toArray, List.append_toArray, List.nil_append, List.cons_append]
 gi_wp2
 gi_loopw [10] (fun iv wr => ∃ i : Nat, i ≤ r.n ∧ iv = .int .i64 (i : Int) ∧ J (ofs.take i).flatten wr ∧ Below n₀ W wr) (fun iv _ => r.n - (intOf iv).toNat)
 case atStart => exact ⟨0, Nat.zero_le _, rfl, by rw [List.take_zero]; exact HJ0.out, Below.refl _ _⟩
 case round =>
  obtain ⟨i, hi, rfl, hJs, hw⟩ := hrel
  have HJs := Lib.hid hJs
  have HW := Lib.hid hw
  clear hJs hw
  by_cases hlt : i < r.n
  ·have HHr := Lib.hid (HH.out.low HW.out HLow.out)
   have hBr : wr.cell? ⟨Bs, 0, none⟩ = some (.pointer (some ⟨B, 0, none⟩)) := (HW.out.cell (p := ⟨Bs, 0, none⟩) HBn.out).trans HBs.out
   have hil : i < ofs.length := by rw [HNl.out]; exact hlt
   obtain ⟨li, hli⟩ : ∃ li, ofs[i] = li := ⟨_, rfl⟩
   have hgi : ofs[i]? = some li := by rw [List.getElem?_eq_getElem hil, hli]
   have HLi : Hid (r.of.getD i [] = li.map Subtype.val) := Lib.hid (by rw [← HOf.out, List.getD_eq_getElem?_getD, List.getElem?_map, hgi]; rfl)
   have HFl : Hid (ofs.flatten = (ofs.take i).flatten ++ li ++ (ofs.drop (i + 1)).flatten) := Lib.hid (by
    conv => lhs; rw [← List.take_append_drop i ofs, List.drop_eq_getElem_cons hil, hli]
    simp)
   have HTk : Hid ((ofs.take (i + 1)).flatten = (ofs.take i).flatten ++ li) := Lib.hid (by rw [List.take_add_one, hgi]; simp)
   have HNr : Hid (n₀ ≤ wr.heap.size) := Lib.hid (Nat.le_trans HN.out HW.out.size)
   clear hil hli hgi
   have hf16 : Fence.wide.fn 16 := trivial
   gi_wp2_with (gi_at_call 16; refine (callsIn_wide.2 (votes_any i HHr.out hlt HLen.out)).mono ?_; rintro e w5 ⟨⟨A5, k5, c5, rfl, ho5, hp5, _, _⟩, hb5⟩; rw [HLi.out] at hp5; have HP5 := Lib.hid hp5; have HX5 := Lib.hid hb5; have HO5 := Lib.hid (fun q (hq : plB (A5, k5, k5) q) => (ho5.lt q (by obtain ⟨_, a9, e9, e8⟩ := hq; simp only at e9; subst e9; simp [Value.ownBlock, e8])).1); clear hp5 hb5 ho5)
   have HEs : Hid (∀ q, plB (A5, k5, k5) q → ¬ E q) := Lib.hid (fun q hq h9 => by
    have h1 := HO5.out q hq
    have h2 := HEl.out q h9
    have h3 := HW.out.size
    omega)
   have HK5 : Hid (li.length = k5) := Lib.hid (by have := HP5.out.len; rwa [List.length_map] at this)
   have hk5 : k5 ≤ 1000000 := by
    have h1 := HK5.out
    have h2 : (li.map Subtype.val).length ≤ 100000 := by
     rw [← HLi.out]
     by_cases hs : i = r.self
     ·have h3 := HH.out.ol
      unfold ownL at h3
      rw [hs, h3, List.length_map]
      exact HLen.out
     ·have := (HH.out.vat i hlt hs).2.2.2
      omega
    rw [List.length_map] at h2
    omega
   have HW5 := Lib.hid (HW.out.trans (HX5.out.mono HNr.out))
   have HN5 : Hid (n₀ ≤ w5.heap.size) := Lib.hid (Nat.le_trans HNr.out HX5.out.size)
   have HJ5 := Lib.hid (HJa.out _ _ _ HJs.out HX5.out)
   gi_loopw [17] (fun jv wr2 => ∃ j : Nat, j ≤ k5 ∧ jv = .int .i64 (j : Int) ∧ J ((ofs.take i).flatten ++ li.take j) wr2 ∧ Below n₀ W wr2 ∧ PosIn wr2 A5 k5 (li.map Subtype.val)) (fun jv _ => k5 - (intOf jv).toNat)
   case atStart => exact ⟨0, Nat.zero_le _, rfl, by rw [List.take_zero, List.append_nil]; exact HJ5.out, HW5.out, HP5.out⟩
   case round =>
    obtain ⟨j, hj, rfl, hJ2, hw2, hp2⟩ := hrel
    have HJ2 := Lib.hid hJ2
    have HW2 := Lib.hid hw2
    have HP2 := Lib.hid hp2
    have hjb : j ≤ 1000000 := by omega
    clear hJ2 hw2 hp2
    by_cases hlj : j < k5
    ·obtain ⟨g0, o0, y, rfl, hy, _, _, hyd, hry⟩ := HP2.out.at hlj
     have hjl : j < li.length := by rw [HK5.out]; exact hlj
     have hxi : li[j]? = some li[j] := List.getElem?_eq_getElem hjl
     have hye : y = li[j].1 := by
      rw [List.getElem?_map, hxi] at hy
      exact (Option.some.inj hy).symm
     obtain ⟨x, hx9⟩ : ∃ x, li[j] = x := ⟨_, rfl⟩
     rw [hx9] at hxi hye
     subst hye
     have HRx := Lib.hid hry
     have HXl : Hid ((Po.cells x.1).length = 33) := Lib.hid (Po.cells_len _ x.2)
     have hix := fun (W : World) => Try.ix_po W g0 o0 k5 c5 j hlj
     have HTj : Hid ((ofs.take i).flatten ++ li.take (j + 1) = (ofs.take i).flatten ++ li.take j ++ [x]) := Lib.hid (by rw [List.take_add_one, hxi, List.append_assoc]; rfl)
     have HTl : Hid (((ofs.take i).flatten ++ li.take j).length < ofs.flatten.length) := Lib.hid (by rw [HFl.out]; simp only [List.length_append, List.length_take]; omega)
     have HPre : Hid ((ofs.take i).flatten ++ li.take j ++ [x] <+: ofs.flatten) := Lib.hid (by
      rw [HFl.out, ← HTj.out, List.append_assoc]
      refine (List.prefix_append_right_inj _).2 ?_
      exact (List.take_prefix _ _).trans (List.prefix_append _ _))
     have HS : Hid (n₀ ≤ wr.heap.size) := Lib.hid (Nat.le_trans HN.out HW2.out.size)
     clear hry hy hyd hjl hxi hx9
     gi_wp2_with (first
      | (refine wpListIn_load_p W2.wide rfl tPo (.tmp 19) rfl (.pointer (some ⟨g0, o0 + j * 33, none⟩)) (.agg (Po.cells x.1).toArray) rfl (run_loadAt_mid _ g0 (o0 + j * 33) tPo (Po.cells x.1) _ HRx.out Try.underlying31 rfl (by rw [HXl.out]; kernel_rfl)) ?_)
      | (refine wpListIn_store_p W2.wide rfl tPo (.tmp 5) (.tmp 20) rfl wr.heap.size (Po.cells x.1) rfl rfl tPo (Po.cells poZ) (Blk.fresh rfl rfl) (by rw [HXl.out]; kernel_rfl) (by rw [HXl.out]; rfl) (Po.one x.1) ?_; simp only [Act.put]; intro w7 hb7 hg7; have HB7 := Lib.hid hb7; have HX7 := Lib.hid (below_new hg7); obtain ⟨fn9, tm9, as9, bo9, hy9, hR9⟩ := HYy.out _ x w7 (HJa.out _ _ _ HJ2.out HX7.out) HTl.out; unfold encQ at hy9; have HR9 := Lib.hid hR9; clear hb7 hg7 hR9)
      | (refine wpListIn_load_p W2.wide rfl tPo (.tmp 5) rfl (.pointer (some ⟨wr.heap.size, 0, none⟩)) (.agg (Po.cells x.1).toArray) rfl (HB7.out.loadAt tPo _ Try.underlying31 rfl (by rw [HXl.out]; kernel_rfl)) ?_))
     refine HR9.out.mono ?_
     rintro e W3 (⟨rfl, hJ3, hk3⟩ | ⟨rfl, hJx3⟩)
     ·gi_wp2
      go_roundw
      case rel => exact ⟨j + 1, by omega, by simp, by rw [HTj.out]; exact hJ3, (HW2.out.trans (HX7.out.mono HS.out)).trans hk3.below, hk3.pos (HP2.out.through HX7.out) HEs.out⟩
      case measure => simp [intOf]; omega
     ·gi_wp2
      refine bodyPost_ret (results_none rfl _ _ _) rfl ?_
      exact ⟨⟨_, rfl⟩, .inr ⟨_, HPre.out, hJx3⟩⟩
    ·obtain rfl : j = k5 := by omega
     gi_wp2
     refine ⟨⟨i + 1, by omega, by simp, ?_, HW2.out⟩, by simp [intOf]; omega⟩
     have h9 := HJ2.out
     have e9 : li.take j = li := List.take_of_length_le (by rw [HK5.out]; exact Nat.le_refl _)
     rw [e9, ← HTk.out] at h9
     exact h9
  ·obtain rfl : i = r.n := by omega
   gi_wp2
   go_end0
   exact ⟨⟨_, rfl⟩, .inl ⟨_, rfl, by have h9 := HJs.out; rw [List.take_of_length_le (by rw [HNl.out]; exact Nat.le_refl _)] at h9; exact h9⟩⟩

end Go.Proofs.Ytpolofehkckaoaa
