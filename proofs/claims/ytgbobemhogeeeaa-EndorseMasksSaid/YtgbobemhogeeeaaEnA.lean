/-
  slices.Grow and Concat at endorsements, slices.Clone at tags.
-/
import Derived.Test.YtgbobemhogeeeaaRqPp
import Derived.Test.YtgbobemhogeeeaaEl2
import Derived.Test.YtgbobemhogeeeaaRqS
namespace Go.Proofs.Ytgbobemhogeeeaa
open Go.RowKit

theorem Os.out' {w : World} {B : Nat} {e : TypeId} {k : Nat} {v : Value} {xs : List (List Value)} (h : Os w B e k v xs) : ∃ A n c, v = .slice A n c ∧ n = xs.length := by
  obtain ⟨A, c, h1, _⟩ := h.out
  exact ⟨A, _, c, h1, rfl⟩
theorem Sl.from_ {w : World} {k n c i : Nat} {A : Option Addr} {xs : List (List Value)} (h : Sl w k A n xs) (hi : i ≤ n) (hc : n ≤ c) : ∃ A', (if c = i then A else A.map (·.add (i * k))) = A' ∧ Sl w k A' (n - i) (xs.drop i) :=
  ⟨_, rfl, by rw [List.length_drop, h.1], fun hn => by
    obtain ⟨g, o, e, hcell⟩ := h.2 (by omega)
    subst e
    rw [if_neg (by omega)]
    refine ⟨g, o + i * k, ?_, fun j cs hj => ?_⟩
    · simp only [Option.map_some, Option.some.injEq]
      unfold Addr.add; split <;> simp_all
    · have h1 := hcell (i + j) cs (by rw [← hj, List.getElem?_drop])
      rw [show o + (i + j) * k = o + i * k + j * k by rw [Nat.add_mul]; omega] at h1
      exact h1⟩
theorem Sl.to_ {w : World} {k n i : Nat} {A : Option Addr} {xs : List (List Value)} (h : Sl w k A n xs) (hi : i ≤ n) : Sl w k A i (xs.take i) :=
  ⟨by rw [List.length_take, h.1]; omega, fun hn => by
    obtain ⟨g, o, e, hcell⟩ := h.2 (by omega)
    refine ⟨g, o, e, fun j cs hj => hcell j cs ?_⟩
    rw [List.getElem?_take] at hj
    split at hj
    · exact hj
    · cases hj⟩
theorem Sl.one_ {w : World} {k g : Nat} {e : TypeId} {q : List Value} (h : Blk w g e q) : Sl w k (some ⟨g, 0, none⟩) 1 [q] :=
  ⟨rfl, fun _ => ⟨g, 0, rfl, fun i cs hi => by
    cases i with
    | zero =>
      simp at hi
      subst hi
      intro j u hu
      have := h.cellAt hu
      simpa using this
    | succ i => simp at hi⟩⟩
theorem Os.made (w : World) (e : TypeId) (k : Nat) : Os (w.alloc (.cells #[] e)) w.heap.size e k (.slice (some ⟨w.heap.size, 0, none⟩) 0 0) [] :=
  ⟨World.ownsRow_made w #[] 0 (Nat.le_refl _) (by simp [maxLen]) (by simp), fun x hx => by cases hx⟩
/-- how much three lists are together -/
def s3 (a b c : Nat) : Nat → Nat
  | 0 => 0
  | 1 => a
  | 2 => a + b
  | _ => a + b + c
def p3 {α : Type} (a b c : List α) : Nat → List α
  | 0 => []
  | 1 => a
  | 2 => a ++ b
  | _ => a ++ b ++ c
theorem step_build_three {P : Program} {ops : Array Oper} {o : Oper} {a : Act} {w : World} {K : Act → World → Prop} {Q : Exit → Act → World → Prop} {F : Prop} (hgd : o.guard = none) (s e : TypeId) (x y z : Operand) (ho : o.op = .buildSlice s 3 #[(0, x), (1, y), (2, z)])
    (p q r : Value) (hx : a.eval x = p) (hy : a.eval y = q) (hz : a.eval z = r) (hrun : (Instr.buildSlice s 3 #[(0, p), (1, q), (2, r)]).run P w = .ok (.slice (some ⟨w.heap.size, 0, none⟩) 3 3) (w.alloc (.cells #[p, q, r] e)))
    (h : K (a.put o.dst (.slice (some ⟨w.heap.size, 0, none⟩) 3 3)) (w.alloc (.cells #[p, q, r] e))) : if Region.wanted o (yielded ops a.tmps) = true then Oper.wp P o a w K Q else F := by
  have hw : Region.wanted o (yielded ops a.tmps) = true := by simp [Region.wanted, hgd]
  rw [if_pos hw]
  unfold Oper.wp execOp
  simp only [ho, Sem.run_bind, List.map_toArray, List.map_cons, List.map_nil, hx, hy, hz, hrun, Result.andThen_ok]
  exact h
theorem step_build_three_w {P : Program} {ops : Array Oper} {o : Oper} {a : Act} {w : World} {K : Act → World → Prop} {Q : Exit → Act → World → Prop} {F : Prop} (hgd : o.guard = none) (s e : TypeId) (x y z : Operand) (ho : o.op = .buildSlice s 3 #[(0, x), (1, y), (2, z)])
    (p q r : Value) (hx : a.eval x = p) (hy : a.eval y = q) (hz : a.eval z = r) (hrun : (Instr.buildSlice s 3 #[(0, p), (1, q), (2, r)]).run P w = .ok (.slice (some ⟨w.heap.size, 0, none⟩) 3 3) (w.alloc (.cells #[p, q, r] e)))
    (h : ∀ g w', Blk w' g e [p, q, r] → Below w.heap.size w w' → K (a.put o.dst (.slice (some ⟨g, 0, none⟩) 3 3)) w') : if Region.wanted o (yielded ops a.tmps) = true then Oper.wp P o a w K Q else F :=
  step_build_three hgd s e x y z ho p q r hx hy hz hrun (h _ _ (Blk.fresh rfl rfl) ((Below.refl _ w).alloc (Nat.le_refl _) _))


theorem vs_rows {ts : List (List UInt8)} (h : ∀ t ∈ ts, t.length = 32) : (∀ y ∈ ts.map vs, y.length = 32) ∧ ∀ y ∈ ts.map vs, ∀ u ∈ y, u.oneCell' = true :=
  ⟨fun y hy => by obtain ⟨t, ht, rfl⟩ := List.mem_map.1 hy; rw [vs_length, h t ht], fun y hy u hu => by obtain ⟨t, ht, rfl⟩ := List.mem_map.1 hy; exact vs_one u hu⟩
set_option maxHeartbeats 4000000 in
theorem cloneT_any (ts : List (List UInt8)) (A : Option Addr) (n c : Nat) (w : World) (h : TsIn w (A, n, c) ts) (hn : n ≤ 1000000) :
    Calls Try.prog 31 #[.slice A n c] w fun e w' => ∃ p : Pl, e = .returned (.slice p.1 p.2.1 p.2.2) ∧ OTs w' w.heap.size p ts ∧ Below w.heap.size w w' := by
  have q22 : ∀ (w : World) (a : Option Addr) (n c n' c' : Nat), (binOp .eql 32 (.slice a n c) (.slice none n' c')).run Try.prog w = .ok (.bool a.isNone) w := fun w a n c n' c' => Lib.run_eql_slice_nil w _ _ a n c n' c' Try.underlying32
  have h32 := h.2.1
  rcases A with _ | ad
  · obtain rfl : n = 0 := by
      rcases Nat.eq_zero_or_pos n with h0 | h0
      · exact h0
      · obtain ⟨_, _, h, _⟩ := h.1.2 h0
        cases h
    obtain rfl : ts = [] := List.eq_nil_of_length_eq_zero h.len
    clear h h32
    go_enter Try.func31, Try.ntmps31
    go_wp2
    go_ret
    exact ⟨(none, 0, 0), rfl, ⟨Os.nil _ _ _ _, fun t ht => by cases ht⟩, Below.refl _ _⟩
  · have HI := Lib.hid h.1
    have HL := Lib.hid h.len
    have HR := Lib.hid (vs_rows h32)
    have H32 := Lib.hid h32
    clear h h32
    go_enter Try.func31, Try.ntmps31
    go_wp2_with (at_builtin; (refine wpList_append_sl rfl Try.el_tg (.tmp 5) (.tmp 6) rfl w.heap.size (.slice (some ⟨w.heap.size, 0, none⟩) 0 0) [] rfl (Os.made w 73 32) (some ad) n c (ts.map vs) rfl (HI.out.alloc _) HR.out.1 HR.out.2 (by have := HL.out; simp; omega) (by simp) ?_); intro v' w1 ho hg; have HO := Lib.hid ho; have HX : Hid (Below w.heap.size w w1) := Lib.hid ((below1_ w _).grown hg (by simp) (fun q hq => by simp [Value.ownBlock] at hq; omega)); clear ho hg)
    obtain ⟨A7, c7, rfl, _, _, _⟩ := HO.out.out
    go_ret
    first | exact ⟨(A7, _, c7), rfl, ⟨HO.out, H32.out⟩, HX.out⟩ | exact ⟨A7, _, c7, rfl, ⟨HO.out, H32.out⟩, HX.out⟩
set_option maxHeartbeats 4000000 in
theorem growE_any (m : Nat) (h0 : 0 < m) (hm : m ≤ 1000000) (w : World) :
    Calls Try.prog 63 #[.slice none 0 0, .int .i64 (m : Int)] w fun e w' => ∃ v, e = .returned v ∧ Os w' w.heap.size 34 2 v [] ∧ Below w.heap.size w w' := by
  have hw1 : IntKind.i64.wrap ((m : Int) - 0) = (m : Int) := by rw [IntWalk.i64_in _ (by omega)]; omega
  have hd0 : decide ((m : Int) < 0) = false := by simp
  have hd1 : decide ((0 : Int) < (m : Int)) = true := by simp; omega
  go_enter Try.func63, Try.ntmps63
  go_wp2_with (at_builtin; refine wpList_append_zeros rfl Try.el_en 3 Try.underlying3 (.tmp 20) (.tmp 21) rfl rfl m rfl h0 hm ?_; intro cap w1 ho hcap hb; have HO := Lib.hid ho; have HX := Lib.hid hb; clear ho hb)
  go_ret
  exact ⟨_, rfl, HO.out, HX.out⟩

set_option maxHeartbeats 8000000 in
set_option maxRecDepth 100000 in
theorem concatE_any (gb : Nat) (A1 A2 A3 : Option Addr) (n1 n2 n3 c1 c2 c3 : Nat) (x1 x2 x3 : List (List Value)) (w : World) (hb : Blk w gb 24 [.slice A1 n1 c1, .slice A2 n2 c2, .slice A3 n3 c3]) (h1 : Sl w 2 A1 n1 x1) (h2 : Sl w 2 A2 n2 x2) (h3 : Sl w 2 A3 n3 x3) (hr1 : ∀ y ∈ x1, y.length = 2 ∧ ∀ u ∈ y, u.oneCell' = true) (hr2 : ∀ y ∈ x2, y.length = 2 ∧ ∀ u ∈ y, u.oneCell' = true) (hr3 : ∀ y ∈ x3, y.length = 2 ∧ ∀ u ∈ y, u.oneCell' = true) (h0 : 0 < n2) (hn : n1 + n2 + n3 ≤ 100000) :
    Calls Try.prog 30 #[.slice (some ⟨gb, 0, none⟩) 3 3] w fun e w' => ∃ v, e = .returned v ∧ Os w' w.heap.size 34 2 v (x1 ++ x2 ++ x3) ∧ Below w.heap.size w w' := by
  have hix : ∀ (W : World) (i : Nat), i < 3 → (Instr.indexAt 112 (.slice (some ⟨gb, 0, none⟩) 3 3) (.int .i64 (i : Int))).run Try.prog W = .ok (.pointer (some ⟨gb, i, none⟩)) W := fun W i hi => by
    have hs : ∀ W, (sizeOf 24).run Try.prog W = .ok 1 W := fun W => by kernel_rfl
    rw [run_indexAt_slice (P := Try.prog) W 112 ⟨gb, 0, none⟩ 3 3 .i64 i Try.underlying112, if_pos ⟨by omega, by omega⟩, show Try.prog.elem 112 = 24 by kernel_rfl, hs]
    simp [Addr.add]
    omega
  have HIX := Lib.hid hix
  have HB := Lib.hid hb
  have H1 := Lib.hid h1
  have H2 := Lib.hid h2
  have H3 := Lib.hid h3
  have HR1 := Lib.hid hr1
  have HR2 := Lib.hid hr2
  have HR3 := Lib.hid hr3
  clear hix hb h1 h2 h3 hr1 hr2 hr3
  go_enter Try.func30, Try.ntmps30
  go_wp2
  go_loopw [3, 11] (fun sv iv wr => ∃ i : Nat, i ≤ 3 ∧ iv = .int .i64 i ∧ sv = .int .i64 (s3 n1 n2 n3 i : Nat) ∧ w = wr) (fun _ iv _ => 3 - (intOf iv).toNat)
  case atStart => exact ⟨0, by omega, rfl, rfl, rfl⟩
  case round =>
    obtain ⟨i, hi, rfl, rfl, rfl⟩ := hrel
    have c0 := HB.out.cellAt (i := 0) rfl
    have c1' := HB.out.cellAt (i := 1) rfl
    have c2' := HB.out.cellAt (i := 2) rfl
    rcases i with _ | _ | _ | i
    · have hx := HIX.out w 0 (by omega)
      simp only [s3]
      go_wp2
      go_roundw
      case rel => exact ⟨1, by omega, by go_num, rfl, trivial⟩
      case measure => simp [intOf]
    · have hx := HIX.out w 1 (by omega)
      simp only [s3]
      go_wp2
      go_roundw
      case rel => exact ⟨2, by omega, by go_num, rfl, trivial⟩
      case measure => simp [intOf]
    · have hx := HIX.out w 2 (by omega)
      simp only [s3]
      go_wp2
      go_roundw
      case rel => exact ⟨3, by omega, by go_num, rfl, trivial⟩
      case measure => simp [intOf]
    · obtain rfl : i = 0 := by omega
      have hs : s3 n1 n2 n3 (0 + 1 + 1 + 1) = n1 + n2 + n3 := rfl
      rw [hs]
      have hl : n1 + n2 + n3 ≤ 1000000 := by omega
      have hp : 0 < n1 + n2 + n3 := by omega
      have hb1 : n1 ≤ 100000 := by omega
      have hb2 : n1 + n2 ≤ 100000 := by omega
      have hb3 : n3 ≤ 100000 := by omega
      generalize n1 + n2 + n3 = m at *
      clear c0 c1' c2' hs
      go_wp2_with (go_at_call 63; (with_reducible refine (growE_any m hp hl _).mono ?_); rintro e w1 ⟨v1, rfl, ho1, hb1⟩; have HO1 := Lib.hid ho1; have HX1 := Lib.hid hb1; have HB1 := Lib.hid (HB.out.through hb1); clear ho1 hb1)
      go_loopw [6, 27] (fun sv iv wr => ∃ i : Nat, i ≤ 3 ∧ iv = .int .i64 i ∧ Os wr w.heap.size 34 2 sv (p3 x1 x2 x3 i) ∧ Below w.heap.size w wr) (fun _ iv _ => 3 - (intOf iv).toNat)
      case atStart => exact ⟨0, by omega, rfl, HO1.out, HX1.out⟩
      case round =>
        obtain ⟨i, hi, rfl, ho, hx⟩ := hrel
        obtain ⟨An, nn, cn, rfl, hnn⟩ := ho.out'
        have HNN := Lib.hid hnn
        have HO := Lib.hid ho
        have HX := Lib.hid hx
        have HBw := Lib.hid (HB.out.through hx)
        have c0 := HBw.out.cellAt (i := 0) rfl
        have c1' := HBw.out.cellAt (i := 1) rfl
        have c2' := HBw.out.cellAt (i := 2) rfl
        clear ho hx hnn
        rcases i with _ | _ | _ | i
        · have hx := HIX.out wr 0 (by omega)
          have hlen := Lib.hid H1.out.len
          simp only [p3] at HO ⊢
          go_wp2_with (at_builtin; (refine wpList_append_sl rfl Try.el_en (.tmp 31) (.tmp 32) rfl w.heap.size (.slice An nn cn) [] rfl HO.out A1 n1 c1 x1 rfl (H1.out.through HX.out) (fun y hy => (HR1.out y hy).1) (fun y hy => (HR1.out y hy).2) (by have h7 := H1.out.len; have h8 := H2.out.len; (try rw [List.length_append]); (try rw [List.length_nil]); omega) HX.out.size ?_); intro v3 w3 ho3 hg3; have HO2 := Lib.hid ho3; have HX2 : Hid (Below w.heap.size w w3) := Lib.hid (HX.out.grown hg3 HX.out.size (fun q hq => (HO.out.lt q hq).1)); clear ho3 hg3)
          go_roundw
          case rel => exact ⟨1, by omega, by go_num, by simpa [p3] using HO2.out, HX2.out⟩
          case measure => simp [intOf]
        · have hx := HIX.out wr 1 (by omega)
          have hlen := Lib.hid H1.out.len
          have hlen2 := Lib.hid H2.out.len
          simp only [p3] at HO ⊢
          go_wp2_with (at_builtin; (refine wpList_append_sl rfl Try.el_en (.tmp 31) (.tmp 32) rfl w.heap.size (.slice An nn cn) x1 rfl HO.out A2 n2 c2 x2 rfl (H2.out.through HX.out) (fun y hy => (HR2.out y hy).1) (fun y hy => (HR2.out y hy).2) (by have h7 := H1.out.len; have h8 := H2.out.len; (try rw [List.length_append]); (try rw [List.length_nil]); omega) HX.out.size ?_); intro v3 w3 ho3 hg3; have HO2 := Lib.hid ho3; have HX2 : Hid (Below w.heap.size w w3) := Lib.hid (HX.out.grown hg3 HX.out.size (fun q hq => (HO.out.lt q hq).1)); clear ho3 hg3)
          go_roundw
          case rel => exact ⟨2, by omega, by go_num, by simpa [p3] using HO2.out, HX2.out⟩
          case measure => simp [intOf]
        · have hx := HIX.out wr 2 (by omega)
          have hlen := Lib.hid H1.out.len
          have hlen2 := Lib.hid H2.out.len
          have hlen3 := Lib.hid H3.out.len
          simp only [p3] at HO ⊢
          go_wp2_with (at_builtin; (refine wpList_append_sl rfl Try.el_en (.tmp 31) (.tmp 32) rfl w.heap.size (.slice An nn cn) (x1 ++ x2) rfl HO.out A3 n3 c3 x3 rfl (H3.out.through HX.out) (fun y hy => (HR3.out y hy).1) (fun y hy => (HR3.out y hy).2) (by have h7 := H1.out.len; have h8 := H2.out.len; (try rw [List.length_append]); (try rw [List.length_nil]); omega) HX.out.size ?_); intro v3 w3 ho3 hg3; have HO2 := Lib.hid ho3; have HX2 : Hid (Below w.heap.size w w3) := Lib.hid (HX.out.grown hg3 HX.out.size (fun q hq => (HO.out.lt q hq).1)); clear ho3 hg3)
          go_roundw
          case rel => exact ⟨3, by omega, by go_num, by simpa [p3] using HO2.out, HX2.out⟩
          case measure => simp [intOf]
        · obtain rfl : i = 0 := by omega
          go_wp2
          go_ret
          exact ⟨_, rfl, HO.out, HX.out⟩


end Go.Proofs.Ytgbobemhogeeeaa
