/-
  The program's slices.Clone, Grow, Concat at letters and at outcomes; put.
-/
import Derived.Test.YtkbeodlihmmdbaaPgB4
import Derived.Test.YtkbeodlihmmdbaaEl2
import Derived.Test.YtkbeodlihmmdbaaLgW
namespace Go.Proofs.Ytkbeodlihmmdbaa
open Go.RowKit

/-- What a call hands back: a slice of these elements, in memory. -/
def SlOut (w : World) (k : Nat) (xs : List (List Value)) (e : Ending) (w' : World) : Prop := ∃ A n c, e = .returned (.slice A n c) ∧ Sl w' k A n xs ∧ n ≤ c ∧ Below w.heap.size w w' ∧ ∀ a, A = some a → w.heap.size ≤ a.block
theorem Lt.cells_len (ls : List Lt) : ∀ y ∈ ls.map Lt.cells, y.length = 6 := fun y hy => by
  obtain ⟨x, _, rfl⟩ := List.mem_map.1 hy
  rfl
theorem Oc.cells_len (ls : List Oc) : ∀ y ∈ ls.map Oc.cells, y.length = 3 := fun y hy => by
  obtain ⟨x, _, rfl⟩ := List.mem_map.1 hy
  rfl
theorem Lt.cells_one (ls : List Lt) : ∀ y ∈ ls.map Lt.cells, ∀ u ∈ y, u.oneCell' = true := fun y hy u hu => by
  obtain ⟨x, _, rfl⟩ := List.mem_map.1 hy
  simp [Lt.cells] at hu
  rcases hu with rfl | rfl | rfl | rfl | rfl | rfl <;> rfl
theorem Oc.cells_one (ls : List Oc) : ∀ y ∈ ls.map Oc.cells, ∀ u ∈ y, u.oneCell' = true := fun y hy u hu => by
  obtain ⟨x, _, rfl⟩ := List.mem_map.1 hy
  simp [Oc.cells] at hu
  rcases hu with rfl | rfl | rfl <;> rfl
theorem Sl.from_ {w : World} {k n c i : Nat} {A : Option Addr} {xs : List (List Value)} (h : Sl w k A n xs) (hi : i ≤ n) (hc : n ≤ c) : ∃ A', (if c = i then A else A.map (·.add (i * k))) = A' ∧ Sl w k A' (n - i) (xs.drop i) :=
  ⟨_, rfl, by rw [List.length_drop, h.1], fun hn => by
    obtain ⟨g, o, e, hcell⟩ := h.2 (by omega)
    subst e
    rw [if_neg (by omega)]
    refine ⟨g, o + i * k, ?_, fun j cs hj => ?_⟩
    · simp only [Option.map_some, Option.some.injEq]
      unfold Addr.add; split <;> simp_all
    · have h1 := hcell (i + j) cs (by rw [← hj, List.getElem?_drop])
      rw [show o + (i + j) * k = o + i * k + j * k by rw [Nat.add_mul]; omega] at h1
      exact h1⟩
theorem Sl.to_ {w : World} {k n i : Nat} {A : Option Addr} {xs : List (List Value)} (h : Sl w k A n xs) (hi : i ≤ n) : Sl w k A i (xs.take i) :=
  ⟨by rw [List.length_take, h.1]; omega, fun hn => by
    obtain ⟨g, o, e, hcell⟩ := h.2 (by omega)
    refine ⟨g, o, e, fun j cs hj => hcell j cs ?_⟩
    rw [List.getElem?_take] at hj
    split at hj
    · exact hj
    · cases hj⟩
theorem Sl.one_ {w : World} {k g : Nat} {e : TypeId} {q : List Value} (h : Blk w g e q) : Sl w k (some ⟨g, 0, none⟩) 1 [q] :=
  ⟨rfl, fun _ => ⟨g, 0, rfl, fun i cs hi => by
    cases i with
    | zero =>
      simp at hi
      subst hi
      intro j u hu
      have := h.cellAt hu
      simpa using this
    | succ i => simp at hi⟩⟩
theorem Os.made (w : World) (e : TypeId) (k : Nat) : Os (w.alloc (.cells #[] e)) w.heap.size e k (.slice (some ⟨w.heap.size, 0, none⟩) 0 0) [] :=
  ⟨World.ownsRow_made w #[] 0 (Nat.le_refl _) (by simp [maxLen]) (by simp), fun x hx => by cases hx⟩
theorem slOut_of {w w' : World} {B : Nat} {e : TypeId} {k : Nat} {v : Value} {xs : List (List Value)} (h : Os w' B e k v xs) (hB : w.heap.size ≤ B) (hb : Below w.heap.size w w') : SlOut w k xs (.returned v) w' := by
  have hlt := h.lt
  obtain ⟨A, c, rfl, hc, _, hs⟩ := h.out
  refine ⟨A, _, c, rfl, hs, hc, hb, fun a ha => ?_⟩
  subst ha
  exact Nat.le_trans hB (hlt a.block rfl).1
theorem Sl.far {w w' : World} {k n g : Nat} {A : Option Addr} {xs : List (List Value)} (h : Sl w k A n xs) (hg : w.grownBy w' (some g)) (hA : ∀ a, A = some a → g < a.block) : Sl w' k A n xs :=
  ⟨h.1, fun hn => by
    obtain ⟨g', o, e, hc⟩ := h.2 hn
    exact ⟨g', o, e, fun i cs hi => rangeAt.only (hc i cs hi) hg (fun e2 => by have := hA _ e; simp at this; omega)⟩⟩
/-- how much three lists are together -/
def s3 (a b c : Nat) : Nat → Nat
  | 0 => 0
  | 1 => a
  | 2 => a + b
  | _ => a + b + c
def p3 {α : Type} (a b c : List α) : Nat → List α
  | 0 => []
  | 1 => a
  | 2 => a ++ b
  | _ => a ++ b ++ c
theorem step_build_three {P : Program} {ops : Array Oper} {o : Oper} {a : Act} {w : World} {K : Act → World → Prop} {Q : Exit → Act → World → Prop} {F : Prop} (hgd : o.guard = none) (s e : TypeId) (x y z : Operand) (ho : o.op = .buildSlice s 3 #[(0, x), (1, y), (2, z)])
    (p q r : Value) (hx : a.eval x = p) (hy : a.eval y = q) (hz : a.eval z = r) (hrun : (Instr.buildSlice s 3 #[(0, p), (1, q), (2, r)]).run P w = .ok (.slice (some ⟨w.heap.size, 0, none⟩) 3 3) (w.alloc (.cells #[p, q, r] e)))
    (h : K (a.put o.dst (.slice (some ⟨w.heap.size, 0, none⟩) 3 3)) (w.alloc (.cells #[p, q, r] e))) : if Region.wanted o (yielded ops a.tmps) = true then Oper.wp P o a w K Q else F := by
  have hw : Region.wanted o (yielded ops a.tmps) = true := by simp [Region.wanted, hgd]
  rw [if_pos hw]
  unfold Oper.wp execOp
  simp only [ho, Sem.run_bind, List.map_toArray, List.map_cons, List.map_nil, hx, hy, hz, hrun, Result.andThen_ok]
  exact h
theorem step_build_three_w {P : Program} {ops : Array Oper} {o : Oper} {a : Act} {w : World} {K : Act → World → Prop} {Q : Exit → Act → World → Prop} {F : Prop} (hgd : o.guard = none) (s e : TypeId) (x y z : Operand) (ho : o.op = .buildSlice s 3 #[(0, x), (1, y), (2, z)])
    (p q r : Value) (hx : a.eval x = p) (hy : a.eval y = q) (hz : a.eval z = r) (hrun : (Instr.buildSlice s 3 #[(0, p), (1, q), (2, r)]).run P w = .ok (.slice (some ⟨w.heap.size, 0, none⟩) 3 3) (w.alloc (.cells #[p, q, r] e)))
    (h : ∀ g w', Blk w' g e [p, q, r] → Below w.heap.size w w' → K (a.put o.dst (.slice (some ⟨g, 0, none⟩) 3 3)) w') : if Region.wanted o (yielded ops a.tmps) = true then Oper.wp P o a w K Q else F :=
  step_build_three hgd s e x y z ho p q r hx hy hz hrun (h _ _ (Blk.fresh rfl rfl) ((Below.refl _ w).alloc (Nat.le_refl _) _))

set_option maxHeartbeats 4000000 in
theorem cloneL_any (ls : List Lt) (A : Option Addr) (n c : Nat) (w : World) (h : Sl w 6 A n (ls.map Lt.cells)) (hn : n ≤ 1000000) :
    Calls Try.prog 30 #[.slice A n c] w (SlOut w 6 (ls.map Lt.cells)) := by
  have q22 : ∀ (w : World) (a : Option Addr) (n c n' c' : Nat), (binOp .eql 22 (.slice a n c) (.slice none n' c')).run Try.prog w = .ok (.bool a.isNone) w := fun w a n c n' c' => Lib.run_eql_slice_nil w _ _ a n c n' c' Try.underlying22
  rcases A with _ | ad
  · obtain rfl : n = 0 := by
      rcases Nat.eq_zero_or_pos n with h0 | h0
      · exact h0
      · obtain ⟨_, _, h, _⟩ := h.2 h0
        cases h
    have hl : ls.map Lt.cells = [] := List.eq_nil_of_length_eq_zero h.1
    rw [hl]
    clear h hl
    go_enter Try.func30, Try.ntmps30
    go_wp2
    go_ret
    exact ⟨none, 0, 0, rfl, Sl.none_, Nat.le_refl _, Below.refl _ _, fun a ha => by cases ha⟩
  · have HI := Lib.hid h
    obtain ⟨xs, hxs⟩ : ∃ xs, ls.map Lt.cells = xs := ⟨_, rfl⟩
    have h6 := Lt.cells_len ls
    have h1 := Lt.cells_one ls
    rw [hxs] at h6 h1 HI ⊢
    have H6 := Lib.hid h6
    have H1 := Lib.hid h1
    clear h hxs h6 h1
    go_enter Try.func30, Try.ntmps30
    go_wp2_with (at_builtin; go_loud (refine wpList_append_sl rfl Try.el_lt (.tmp 5) (.tmp 6) rfl w.heap.size (.slice (some ⟨w.heap.size, 0, none⟩) 0 0) [] rfl (Os.made w 27 6) (some ad) n c xs rfl (HI.out.alloc _) H6.out H1.out (by simp; omega) (by simp) ?_); intro v' w1 ho hg; have HO := Lib.hid ho; have HX : Hid (Below w.heap.size w w1) := Lib.hid ((below1 w _).grown hg (by simp) (fun q hq => by simp [Value.ownBlock] at hq; omega)); clear ho hg)
    go_ret
    exact slOut_of HO.out (Nat.le_refl _) HX.out

set_option maxHeartbeats 4000000 in
theorem growL_any (m : Nat) (h0 : 0 < m) (hm : m ≤ 1000000) (w : World) :
    Calls Try.prog 89 #[.slice none 0 0, .int .i64 (m : Int)] w fun e w' => ∃ v, e = .returned v ∧ Os w' w.heap.size 27 6 v [] ∧ Below w.heap.size w w' := by
  have hw1 : IntKind.i64.wrap ((m : Int) - 0) = (m : Int) := by rw [IntWalk.i64_in _ (by omega)]; omega
  have hd0 : decide ((m : Int) < 0) = false := by simp
  have hd1 : decide ((0 : Int) < (m : Int)) = true := by simp; omega
  go_enter Try.func89, Try.ntmps89
  go_wp2_with (at_builtin; refine wpList_append_zeros rfl Try.el_lt 3 Try.underlying3 (.tmp 20) (.tmp 21) rfl rfl m rfl h0 hm ?_; intro cap w1 ho hcap hb; have HO := Lib.hid ho; have HX := Lib.hid hb; clear ho hb)
  go_ret
  exact ⟨_, rfl, HO.out, HX.out⟩

set_option maxHeartbeats 8000000 in
set_option maxRecDepth 100000 in
theorem concatL_any (gb : Nat) (A1 A2 A3 : Option Addr) (n1 n2 n3 c1 c2 c3 : Nat) (x1 x2 x3 : List Lt) (w : World) (hb : Blk w gb 22 [.slice A1 n1 c1, .slice A2 n2 c2, .slice A3 n3 c3]) (h1 : Sl w 6 A1 n1 (x1.map Lt.cells)) (h2 : Sl w 6 A2 n2 (x2.map Lt.cells)) (h3 : Sl w 6 A3 n3 (x3.map Lt.cells)) (h0 : 0 < n2) (hn : n1 + n2 + n3 ≤ 100000) :
    Calls Try.prog 66 #[.slice (some ⟨gb, 0, none⟩) 3 3] w (SlOut w 6 ((x1 ++ x2 ++ x3).map Lt.cells)) := by
  have hix : ∀ (W : World) (i : Nat), i < 3 → (Instr.indexAt 106 (.slice (some ⟨gb, 0, none⟩) 3 3) (.int .i64 (i : Int))).run Try.prog W = .ok (.pointer (some ⟨gb, i, none⟩)) W := fun W i hi => by
    have hs : ∀ W, (sizeOf 22).run Try.prog W = .ok 1 W := fun W => by kernel_rfl
    rw [run_indexAt_slice (P := Try.prog) W 106 ⟨gb, 0, none⟩ 3 3 .i64 i Try.underlying106, if_pos ⟨by omega, by omega⟩, show Try.prog.elem 106 = 22 by kernel_rfl, hs]
    simp [Addr.add]
    omega
  have HIX := Lib.hid hix
  have HB := Lib.hid hb
  have H1 := Lib.hid h1
  have H2 := Lib.hid h2
  have H3 := Lib.hid h3
  clear hix hb h1 h2 h3
  go_enter Try.func66, Try.ntmps66
  go_wp2
  go_loopw [3, 11] (fun sv iv wr => ∃ i : Nat, i ≤ 3 ∧ iv = .int .i64 i ∧ sv = .int .i64 (s3 n1 n2 n3 i : Nat) ∧ w = wr) (fun _ iv _ => 3 - (intOf iv).toNat)
  case atStart => exact ⟨0, by omega, rfl, rfl, rfl⟩
  case round =>
    obtain ⟨i, hi, rfl, rfl, rfl⟩ := hrel
    have c0 := HB.out.cellAt (i := 0) rfl
    have c1' := HB.out.cellAt (i := 1) rfl
    have c2' := HB.out.cellAt (i := 2) rfl
    rcases i with _ | _ | _ | i
    · have hx := HIX.out w 0 (by omega)
      simp only [s3]
      go_wp2
      go_roundw
      case rel => exact ⟨1, by omega, by go_num, rfl, trivial⟩
      case measure => simp [intOf]
    · have hx := HIX.out w 1 (by omega)
      simp only [s3]
      go_wp2
      go_roundw
      case rel => exact ⟨2, by omega, by go_num, rfl, trivial⟩
      case measure => simp [intOf]
    · have hx := HIX.out w 2 (by omega)
      simp only [s3]
      go_wp2
      go_roundw
      case rel => exact ⟨3, by omega, by go_num, rfl, trivial⟩
      case measure => simp [intOf]
    · obtain rfl : i = 0 := by omega
      have hs : s3 n1 n2 n3 (0 + 1 + 1 + 1) = n1 + n2 + n3 := rfl
      rw [hs]
      have hl : n1 + n2 + n3 ≤ 1000000 := by omega
      have hp : 0 < n1 + n2 + n3 := by omega
      have hb1 : n1 ≤ 100000 := by omega
      have hb2 : n1 + n2 ≤ 100000 := by omega
      have hb3 : n3 ≤ 100000 := by omega
      generalize n1 + n2 + n3 = m at *
      clear c0 c1' c2' hs
      go_wp2_with (go_at_call 89; (with_reducible refine (growL_any m hp hl _).mono ?_); rintro e w1 ⟨v1, rfl, ho1, hb1⟩; have HO1 := Lib.hid ho1; have HX1 := Lib.hid hb1; have HB1 := Lib.hid (HB.out.through hb1); clear ho1 hb1)
      go_loopw [6, 27] (fun sv iv wr => ∃ i : Nat, i ≤ 3 ∧ iv = .int .i64 i ∧ Os wr w.heap.size 27 6 sv ((p3 x1 x2 x3 i).map Lt.cells) ∧ Below w.heap.size w wr) (fun _ iv _ => 3 - (intOf iv).toNat)
      case atStart => exact ⟨0, by omega, rfl, HO1.out, HX1.out⟩
      case round =>
        obtain ⟨i, hi, rfl, ho, hx⟩ := hrel
        obtain ⟨An, nn, cn, rfl, hnn⟩ := ho.out'
        have HNN := Lib.hid hnn
        have HO := Lib.hid ho
        have HX := Lib.hid hx
        have HBw := Lib.hid (HB.out.through hx)
        have c0 := HBw.out.cellAt (i := 0) rfl
        have c1' := HBw.out.cellAt (i := 1) rfl
        have c2' := HBw.out.cellAt (i := 2) rfl
        clear ho hx hnn
        rcases i with _ | _ | _ | i
        · have hx := HIX.out wr 0 (by omega)
          have hlen := Lib.hid H1.out.len
          simp only [p3, List.map_nil] at HO ⊢
          go_wp2_with (at_builtin; go_loud (refine wpList_append_sl rfl Try.el_lt (.tmp 31) (.tmp 32) rfl w.heap.size (.slice An nn cn) (List.map Lt.cells []) rfl HO.out A1 n1 c1 (x1.map Lt.cells) rfl (H1.out.through HX.out) (Lt.cells_len _) (Lt.cells_one _) (by have h7 := H1.out.len; have h8 := H2.out.len; simp only [List.length_map] at h7 h8; simp; omega) HX.out.size ?_); intro v3 w3 ho3 hg3; have HO2 := Lib.hid ho3; have HX2 : Hid (Below w.heap.size w w3) := Lib.hid (HX.out.grown hg3 HX.out.size (fun q hq => (HO.out.lt q hq).1)); clear ho3 hg3)
          go_roundw
          case rel => exact ⟨1, by omega, by go_num, by simpa [p3] using HO2.out, HX2.out⟩
          case measure => simp [intOf]
        · have hx := HIX.out wr 1 (by omega)
          have hlen := Lib.hid H1.out.len
          have hlen2 := Lib.hid H2.out.len
          simp only [p3] at HO ⊢
          go_wp2_with (at_builtin; go_loud (refine wpList_append_sl rfl Try.el_lt (.tmp 31) (.tmp 32) rfl w.heap.size (.slice An nn cn) (List.map Lt.cells x1) rfl HO.out A2 n2 c2 (x2.map Lt.cells) rfl (H2.out.through HX.out) (Lt.cells_len _) (Lt.cells_one _) (by have h7 := H1.out.len; have h8 := H2.out.len; simp only [List.length_map] at h7 h8; simp; omega) HX.out.size ?_); intro v3 w3 ho3 hg3; have HO2 := Lib.hid ho3; have HX2 : Hid (Below w.heap.size w w3) := Lib.hid (HX.out.grown hg3 HX.out.size (fun q hq => (HO.out.lt q hq).1)); clear ho3 hg3)
          go_roundw
          case rel => exact ⟨2, by omega, by go_num, by simpa [p3] using HO2.out, HX2.out⟩
          case measure => simp [intOf]
        · have hx := HIX.out wr 2 (by omega)
          have hlen := Lib.hid H1.out.len
          have hlen2 := Lib.hid H2.out.len
          have hlen3 := Lib.hid H3.out.len
          simp only [p3] at HO ⊢
          go_wp2_with (at_builtin; go_loud (refine wpList_append_sl rfl Try.el_lt (.tmp 31) (.tmp 32) rfl w.heap.size (.slice An nn cn) (List.map Lt.cells (x1 ++ x2)) rfl HO.out A3 n3 c3 (x3.map Lt.cells) rfl (H3.out.through HX.out) (Lt.cells_len _) (Lt.cells_one _) (by have h7 := H1.out.len; have h8 := H2.out.len; simp only [List.length_map] at h7 h8; simp; omega) HX.out.size ?_); intro v3 w3 ho3 hg3; have HO2 := Lib.hid ho3; have HX2 : Hid (Below w.heap.size w w3) := Lib.hid (HX.out.grown hg3 HX.out.size (fun q hq => (HO.out.lt q hq).1)); clear ho3 hg3)
          go_roundw
          case rel => exact ⟨3, by omega, by go_num, by simpa [p3] using HO2.out, HX2.out⟩
          case measure => simp [intOf]
        · obtain rfl : i = 0 := by omega
          go_wp2
          go_ret
          exact slOut_of HO.out (Nat.le_refl _) HX.out

set_option maxHeartbeats 4000000 in
theorem cloneO_any (ls : List Oc) (A : Option Addr) (n c : Nat) (w : World) (h : Sl w 3 A n (ls.map Oc.cells)) (hn : n ≤ 1000000) :
    Calls Try.prog 29 #[.slice A n c] w (SlOut w 3 (ls.map Oc.cells)) := by
  have q22 : ∀ (w : World) (a : Option Addr) (n c n' c' : Nat), (binOp .eql 23 (.slice a n c) (.slice none n' c')).run Try.prog w = .ok (.bool a.isNone) w := fun w a n c n' c' => Lib.run_eql_slice_nil w _ _ a n c n' c' Try.underlying23
  rcases A with _ | ad
  · obtain rfl : n = 0 := by
      rcases Nat.eq_zero_or_pos n with h0 | h0
      · exact h0
      · obtain ⟨_, _, h, _⟩ := h.2 h0
        cases h
    have hl : ls.map Oc.cells = [] := List.eq_nil_of_length_eq_zero h.1
    rw [hl]
    clear h hl
    go_enter Try.func29, Try.ntmps29
    go_wp2
    go_ret
    exact ⟨none, 0, 0, rfl, Sl.none_, Nat.le_refl _, Below.refl _ _, fun a ha => by cases ha⟩
  · have HI := Lib.hid h
    obtain ⟨xs, hxs⟩ : ∃ xs, ls.map Oc.cells = xs := ⟨_, rfl⟩
    have h6 := Oc.cells_len ls
    have h1 := Oc.cells_one ls
    rw [hxs] at h6 h1 HI ⊢
    have H6 := Lib.hid h6
    have H1 := Lib.hid h1
    clear h hxs h6 h1
    go_enter Try.func29, Try.ntmps29
    go_wp2_with (at_builtin; go_loud (refine wpList_append_sl rfl Try.el_oc (.tmp 5) (.tmp 6) rfl w.heap.size (.slice (some ⟨w.heap.size, 0, none⟩) 0 0) [] rfl (Os.made w 30 3) (some ad) n c xs rfl (HI.out.alloc _) H6.out H1.out (by simp; omega) (by simp) ?_); intro v' w1 ho hg; have HO := Lib.hid ho; have HX : Hid (Below w.heap.size w w1) := Lib.hid ((below1 w _).grown hg (by simp) (fun q hq => by simp [Value.ownBlock] at hq; omega)); clear ho hg)
    go_ret
    exact slOut_of HO.out (Nat.le_refl _) HX.out

set_option maxHeartbeats 4000000 in
theorem growO_any (m : Nat) (h0 : 0 < m) (hm : m ≤ 1000000) (w : World) :
    Calls Try.prog 96 #[.slice none 0 0, .int .i64 (m : Int)] w fun e w' => ∃ v, e = .returned v ∧ Os w' w.heap.size 30 3 v [] ∧ Below w.heap.size w w' := by
  have hw1 : IntKind.i64.wrap ((m : Int) - 0) = (m : Int) := by rw [IntWalk.i64_in _ (by omega)]; omega
  have hd0 : decide ((m : Int) < 0) = false := by simp
  have hd1 : decide ((0 : Int) < (m : Int)) = true := by simp; omega
  go_enter Try.func96, Try.ntmps96
  go_wp2_with (at_builtin; refine wpList_append_zeros rfl Try.el_oc 3 Try.underlying3 (.tmp 20) (.tmp 21) rfl rfl m rfl h0 hm ?_; intro cap w1 ho hcap hb; have HO := Lib.hid ho; have HX := Lib.hid hb; clear ho hb)
  go_ret
  exact ⟨_, rfl, HO.out, HX.out⟩

set_option maxHeartbeats 8000000 in
set_option maxRecDepth 100000 in
theorem concatO_any (gb : Nat) (A1 A2 A3 : Option Addr) (n1 n2 n3 c1 c2 c3 : Nat) (x1 x2 x3 : List Oc) (w : World) (hb : Blk w gb 23 [.slice A1 n1 c1, .slice A2 n2 c2, .slice A3 n3 c3]) (h1 : Sl w 3 A1 n1 (x1.map Oc.cells)) (h2 : Sl w 3 A2 n2 (x2.map Oc.cells)) (h3 : Sl w 3 A3 n3 (x3.map Oc.cells)) (h0 : 0 < n2) (hn : n1 + n2 + n3 ≤ 100000) :
    Calls Try.prog 68 #[.slice (some ⟨gb, 0, none⟩) 3 3] w (SlOut w 3 ((x1 ++ x2 ++ x3).map Oc.cells)) := by
  have hix : ∀ (W : World) (i : Nat), i < 3 → (Instr.indexAt 112 (.slice (some ⟨gb, 0, none⟩) 3 3) (.int .i64 (i : Int))).run Try.prog W = .ok (.pointer (some ⟨gb, i, none⟩)) W := fun W i hi => by
    have hs : ∀ W, (sizeOf 23).run Try.prog W = .ok 1 W := fun W => by kernel_rfl
    rw [run_indexAt_slice (P := Try.prog) W 112 ⟨gb, 0, none⟩ 3 3 .i64 i Try.underlying112, if_pos ⟨by omega, by omega⟩, show Try.prog.elem 112 = 23 by kernel_rfl, hs]
    simp [Addr.add]
    omega
  have HIX := Lib.hid hix
  have HB := Lib.hid hb
  have H1 := Lib.hid h1
  have H2 := Lib.hid h2
  have H3 := Lib.hid h3
  clear hix hb h1 h2 h3
  go_enter Try.func68, Try.ntmps68
  go_wp2
  go_loopw [3, 11] (fun sv iv wr => ∃ i : Nat, i ≤ 3 ∧ iv = .int .i64 i ∧ sv = .int .i64 (s3 n1 n2 n3 i : Nat) ∧ w = wr) (fun _ iv _ => 3 - (intOf iv).toNat)
  case atStart => exact ⟨0, by omega, rfl, rfl, rfl⟩
  case round =>
    obtain ⟨i, hi, rfl, rfl, rfl⟩ := hrel
    have c0 := HB.out.cellAt (i := 0) rfl
    have c1' := HB.out.cellAt (i := 1) rfl
    have c2' := HB.out.cellAt (i := 2) rfl
    rcases i with _ | _ | _ | i
    · have hx := HIX.out w 0 (by omega)
      simp only [s3]
      go_wp2
      go_roundw
      case rel => exact ⟨1, by omega, by go_num, rfl, trivial⟩
      case measure => simp [intOf]
    · have hx := HIX.out w 1 (by omega)
      simp only [s3]
      go_wp2
      go_roundw
      case rel => exact ⟨2, by omega, by go_num, rfl, trivial⟩
      case measure => simp [intOf]
    · have hx := HIX.out w 2 (by omega)
      simp only [s3]
      go_wp2
      go_roundw
      case rel => exact ⟨3, by omega, by go_num, rfl, trivial⟩
      case measure => simp [intOf]
    · obtain rfl : i = 0 := by omega
      have hs : s3 n1 n2 n3 (0 + 1 + 1 + 1) = n1 + n2 + n3 := rfl
      rw [hs]
      have hl : n1 + n2 + n3 ≤ 1000000 := by omega
      have hp : 0 < n1 + n2 + n3 := by omega
      have hb1 : n1 ≤ 100000 := by omega
      have hb2 : n1 + n2 ≤ 100000 := by omega
      have hb3 : n3 ≤ 100000 := by omega
      generalize n1 + n2 + n3 = m at *
      clear c0 c1' c2' hs
      go_wp2_with (go_at_call 96; (with_reducible refine (growO_any m hp hl _).mono ?_); rintro e w1 ⟨v1, rfl, ho1, hb1⟩; have HO1 := Lib.hid ho1; have HX1 := Lib.hid hb1; have HB1 := Lib.hid (HB.out.through hb1); clear ho1 hb1)
      go_loopw [6, 27] (fun sv iv wr => ∃ i : Nat, i ≤ 3 ∧ iv = .int .i64 i ∧ Os wr w.heap.size 30 3 sv ((p3 x1 x2 x3 i).map Oc.cells) ∧ Below w.heap.size w wr) (fun _ iv _ => 3 - (intOf iv).toNat)
      case atStart => exact ⟨0, by omega, rfl, HO1.out, HX1.out⟩
      case round =>
        obtain ⟨i, hi, rfl, ho, hx⟩ := hrel
        obtain ⟨An, nn, cn, rfl, hnn⟩ := ho.out'
        have HNN := Lib.hid hnn
        have HO := Lib.hid ho
        have HX := Lib.hid hx
        have HBw := Lib.hid (HB.out.through hx)
        have c0 := HBw.out.cellAt (i := 0) rfl
        have c1' := HBw.out.cellAt (i := 1) rfl
        have c2' := HBw.out.cellAt (i := 2) rfl
        clear ho hx hnn
        rcases i with _ | _ | _ | i
        · have hx := HIX.out wr 0 (by omega)
          have hlen := Lib.hid H1.out.len
          simp only [p3, List.map_nil] at HO ⊢
          go_wp2_with (at_builtin; go_loud (refine wpList_append_sl rfl Try.el_oc (.tmp 31) (.tmp 32) rfl w.heap.size (.slice An nn cn) (List.map Oc.cells []) rfl HO.out A1 n1 c1 (x1.map Oc.cells) rfl (H1.out.through HX.out) (Oc.cells_len _) (Oc.cells_one _) (by have h7 := H1.out.len; have h8 := H2.out.len; simp only [List.length_map] at h7 h8; simp; omega) HX.out.size ?_); intro v3 w3 ho3 hg3; have HO2 := Lib.hid ho3; have HX2 : Hid (Below w.heap.size w w3) := Lib.hid (HX.out.grown hg3 HX.out.size (fun q hq => (HO.out.lt q hq).1)); clear ho3 hg3)
          go_roundw
          case rel => exact ⟨1, by omega, by go_num, by simpa [p3] using HO2.out, HX2.out⟩
          case measure => simp [intOf]
        · have hx := HIX.out wr 1 (by omega)
          have hlen := Lib.hid H1.out.len
          have hlen2 := Lib.hid H2.out.len
          simp only [p3] at HO ⊢
          go_wp2_with (at_builtin; go_loud (refine wpList_append_sl rfl Try.el_oc (.tmp 31) (.tmp 32) rfl w.heap.size (.slice An nn cn) (List.map Oc.cells x1) rfl HO.out A2 n2 c2 (x2.map Oc.cells) rfl (H2.out.through HX.out) (Oc.cells_len _) (Oc.cells_one _) (by have h7 := H1.out.len; have h8 := H2.out.len; simp only [List.length_map] at h7 h8; simp; omega) HX.out.size ?_); intro v3 w3 ho3 hg3; have HO2 := Lib.hid ho3; have HX2 : Hid (Below w.heap.size w w3) := Lib.hid (HX.out.grown hg3 HX.out.size (fun q hq => (HO.out.lt q hq).1)); clear ho3 hg3)
          go_roundw
          case rel => exact ⟨2, by omega, by go_num, by simpa [p3] using HO2.out, HX2.out⟩
          case measure => simp [intOf]
        · have hx := HIX.out wr 2 (by omega)
          have hlen := Lib.hid H1.out.len
          have hlen2 := Lib.hid H2.out.len
          have hlen3 := Lib.hid H3.out.len
          simp only [p3] at HO ⊢
          go_wp2_with (at_builtin; go_loud (refine wpList_append_sl rfl Try.el_oc (.tmp 31) (.tmp 32) rfl w.heap.size (.slice An nn cn) (List.map Oc.cells (x1 ++ x2)) rfl HO.out A3 n3 c3 (x3.map Oc.cells) rfl (H3.out.through HX.out) (Oc.cells_len _) (Oc.cells_one _) (by have h7 := H1.out.len; have h8 := H2.out.len; simp only [List.length_map] at h7 h8; simp; omega) HX.out.size ?_); intro v3 w3 ho3 hg3; have HO2 := Lib.hid ho3; have HX2 : Hid (Below w.heap.size w w3) := Lib.hid (HX.out.grown hg3 HX.out.size (fun q hq => (HO.out.lt q hq).1)); clear ho3 hg3)
          go_roundw
          case rel => exact ⟨3, by omega, by go_num, by simpa [p3] using HO2.out, HX2.out⟩
          case measure => simp [intOf]
        · obtain rfl : i = 0 := by omega
          go_wp2
          go_ret
          exact slOut_of HO.out (Nat.le_refl _) HX.out

end Go.Proofs.Ytkbeodlihmmdbaa
