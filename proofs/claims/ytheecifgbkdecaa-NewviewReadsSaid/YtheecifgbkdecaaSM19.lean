/-
  ChQ
-/
import Derived.BigGuard
import Derived.Test.YtheecifgbkdecaaSM13
import Derived.Test.YtheecifgbkdecaaSM18
import Derived.Test.YtheecifgbkdecaaSM12
namespace Go.Proofs.Ytheecifgbkdecaa
open Go.RowKit

theorem rdMany_step {α : Type} (rd : Option (List UInt8) → α × Option (List UInt8)) (k : Nat) (xs : List UInt8) (pre : List α) : (pre ++ (rdMany rd (k + 1) (some xs)).1, (rdMany rd (k + 1) (some xs)).2) = ((pre ++ [(rd (some xs)).1]) ++ (rdMany rd k (rd (some xs)).2).1, (rdMany rd k (rd (some xs)).2).2) := by
 rw [rdMany_some]
 simp
theorem cval_le_ (most : Nat) (st : Option (List UInt8)) : cval most st ≤ most := by unfold cval; split <;> omega
theorem pf_ne : (55 : TypeId) ≠ 61 := by decide
section
variable {w w' : World} {B : Nat} {v : Value} {es : List Ey}
theorem OEy.weak_ {B' : Nat} (h : OEy w B v es) (hb : B' ≤ B) : OEy w B' v es := ⟨h.1.weak hb, h.2⟩
theorem OEy.own {B' k : Nat} {vv : Value} {rows : List (List Value)} (h : OEy w B v es) (ho : Os w B' 55 k vv rows) (hg : w.grownBy w' vv.ownBlock) : OEy w' B v es := by
 rcases ho.1.2 with ⟨hv, _⟩ | ⟨g, cap, cur, hv, hb, hq, _⟩
 ·rw [hv] at hg
  exact h.through ((Below.refl _ w).grown hg (Nat.le_refl _) (fun k hk => by simp [Value.ownBlock] at hk))
 ·rw [hv] at hg
  exact h.only hg hq pf_ne
end
/-- proofs' batches, each in memory that the call has made from B on -/
def AllB (w : World) (B : Nat) : List Pf → List Pl → Prop
 | [], [] => True
 | p :: ps, s :: ss => OEy w B (.slice s.1 s.2.1 s.2.2) p.es ∧ AllB w B ps ss
 | [], _ :: _ => False
 | _ :: _, [] => False
section
variable {w w' : World} {B : Nat}
theorem AllB.all : ∀ {ps : List Pf} {ss : List Pl}, AllB w B ps ss → AllP w ps ss
 | [], [], _ => trivial
 | _ :: _, s :: _, h => by
  obtain ⟨A, n, c, e, h1, h2, h3, _⟩ := h.1.out
  injection e with e1 e2 e3
  obtain ⟨a, b, d⟩ := s
  simp only at e1 e2 e3
  subst e1 e2 e3
  exact ⟨⟨h3, h1, h2⟩, AllB.all h.2⟩
 | [], _ :: _, h => h.elim
 | _ :: _, [], h => h.elim
theorem AllB.mono : ∀ {ps : List Pf} {ss : List Pl}, AllB w B ps ss → (∀ (v : Value) es, OEy w B v es → OEy w' B v es) → AllB w' B ps ss
 | [], [], _, _ => trivial
 | _ :: _, _ :: _, h, hm => ⟨hm _ _ h.1, AllB.mono h.2 hm⟩
 | [], _ :: _, h, _ => h.elim
 | _ :: _, [], h, _ => h.elim
theorem AllB.len {ps : List Pf} {ss : List Pl} (h : AllB w B ps ss) : ps.length = ss.length := h.all.len
theorem AllB.through {ps : List Pf} {ss : List Pl} (h : AllB w B ps ss) (hb : Below w.heap.size w w') : AllB w' B ps ss := h.mono fun _ _ h => h.through hb
theorem AllB.own {ps : List Pf} {ss : List Pl} {B' k : Nat} {vv : Value} {rows : List (List Value)} (h : AllB w B ps ss) (ho : Os w B' 55 k vv rows) (hg : w.grownBy w' vv.ownBlock) : AllB w' B ps ss := h.mono fun _ _ h => h.own ho hg
theorem AllB.snoc : ∀ {ps : List Pf} {ss : List Pl} {p : Pf} {s : Pl}, AllB w B ps ss → OEy w B (.slice s.1 s.2.1 s.2.2) p.es → AllB w B (ps ++ [p]) (ss ++ [s])
 | [], [], _, _, _, h => ⟨h, trivial⟩
 | _ :: _, _ :: _, _, _, h, h' => ⟨h.1, AllB.snoc h.2 h'⟩
 | [], _ :: _, _, _, h, _ => h.elim
 | _ :: _, [], _, _, h, _ => h.elim
/-- a call's own row of proofs -/
def OPf (w : World) (B : Nat) (v : Value) (ps : List Pf) : Prop := ∃ ss, Os w B 55 3 v (pfR ps ss) ∧ AllB w B ps ss
theorem OPf.through {v : Value} {ps : List Pf} (h : OPf w B v ps) (hb : Below w.heap.size w w') : OPf w' B v ps := by
 obtain ⟨ss, h1, h2⟩ := h
 exact ⟨ss, h1.through hb, h2.through hb⟩
theorem OPf.off {v : Value} {ps : List Pf} {g : Nat} (h : OPf w B v ps) (hg : w.grownBy w' (some g)) (hl : g < B) : OPf w' B v ps := by
 obtain ⟨ss, h1, h2⟩ := h
 exact ⟨ss, h1.far hg hl, h2.mono fun _ _ h => h.far hg hl⟩
theorem OPf.nil (w : World) (B : Nat) : OPf w B (.slice none 0 0) [] := ⟨[], Os.nil _ _ _ _, trivial⟩
theorem OPf.out {v : Value} {ps : List Pf} (h : OPf w B v ps) : ∃ A c, v = .slice A ps.length c ∧ ps.length ≤ c ∧ c ≤ maxLen ∧ PfsIn w A ps.length ps := by
 obtain ⟨ss, h1, h2⟩ := h
 obtain ⟨A, c, e, hn, hm, hs⟩ := h1.out
 rw [pfR_len h2.len] at e hn hs
 exact ⟨A, c, e, hn, hm, ss, hs, h2.all⟩
end
theorem cnext_stL (m : Nat) (st : Option (List UInt8)) : stL (cnext m st) ≤ stL st := by
 unfold cnext
 split <;> first | exact nnext_stL _ _ | (simp [stL])

set_option maxHeartbeats 32000000 in
set_option maxRecDepth 100000 in
theorem rreadpfs_any {Q : Nat → Prop} (g most : Nat) (st : Option (List UInt8)) (w : World) (h : Rs Q w g tQ st) (hQ : ∀ b, Q b → b < w.heap.size) (hl : stL st ≤ 1000000) (hm : most ≤ 64) :
  Calls Try.prog 58 #[.pointer (some ⟨g, 0, none⟩), .int .i64 most] w fun e w' => ∃ A n c, e = .returned (.tuple #[.slice A n c, .bool ((rdPfs most st).1.all (·.2))]) ∧ OPf w' w.heap.size (.slice A n c) ((rdPfs most st).1.map (·.1)) ∧ Rs Q w' g tQ (rdPfs most st).2 ∧ w.grownBy w' (some g) := by
 have HLT := Lib.hid h.lt
 have HQ := Lib.hid hQ
 have HCn : Hid (Calls Try.prog 56 #[.pointer (some ⟨g, 0, none⟩), .int .i64 most] w fun e w' => e = .returned (.int .i64 (cval most st)) ∧ Rs Q w' g tQ (cnext most st) ∧ w.grownBy w' (some g)) := Lib.hid (rcount_rs h most)
 have hle := cval_le_ most st
 have hls := Nat.le_trans (cnext_stL most st) hl
 unfold rdPfs
 generalize cval most st = k at *
 generalize cnext most st = st0 at *
 obtain ⟨L, hL⟩ : ∃ L, rdMany rdPf k st0 = L := ⟨_, rfl⟩
 rw [hL]
 have HL := Lib.hid hL
 have HK : Hid (k ≤ 64) := Lib.hid (by omega)
 have HS0 := Lib.hid hls
 clear h hQ hl hm hle hls hL
 go_enter Try.func58, Try.ntmps58
 go_wp2_with (first
  | (go_at_call 56; (with_reducible refine HCn.out.mono ?_); rintro e w1 ⟨rfl, hr1, hg1⟩; have HR1 := Lib.hid hr1; have HG1 := Lib.hid hg1; clear hr1 hg1))
 go_loopw [6, 7, 8] (fun vv bv kv wr => ∃ (r : Nat) (pre : List (Pf × Bool)) (A : Option Addr) (n c : Nat) (s : Option (List UInt8)), r + pre.length ≤ 64 ∧ kv = .int .i64 (r : Int) ∧ bv = .bool (pre.all (·.2)) ∧ vv = .slice A n c ∧ (pre ++ (rdMany rdPf r s).1, (rdMany rdPf r s).2) = L ∧ stL s ≤ 1000000 ∧ Rs Q wr g tQ s ∧ OPf wr w.heap.size (.slice A n c) (pre.map (·.1)) ∧ w.grownBy wr (some g)) (fun _ _ kv _ => (intOf kv).toNat)
 case atStart => exact ⟨k, [], none, 0, 0, st0, by have := HK.out; simpa using this, rfl, rfl, rfl, by simpa using HL.out, HS0.out, HR1.out, OPf.nil _ _, HG1.out⟩
 case round =>
  obtain ⟨r, pre, A, n, c, s, hk, rfl, rfl, rfl, hL2, hsl, hr, ho, hg⟩ := hrel
  have HRj := Lib.hid hr
  have HOj := Lib.hid ho
  have HGj := Lib.hid hg
  have HKb := Lib.hid hk
  obtain ⟨er, hcell, her⟩ := hr.err
  obtain ⟨b0, hb0⟩ : ∃ b, pre.all (·.2) = b := ⟨_, rfl⟩
  rw [hb0]
  have HB0 := Lib.hid hb0
  clear hr ho hg hk hb0
  cases r with
  | zero =>
   rw [rdMany_zero, List.append_nil] at hL2
   have HL2 := Lib.hid hL2
   clear hL2 her hcell hsl
   go_wp2
   go_ret2
   exact ⟨A, n, c, by rw [← HL2.out, HB0.out]; rfl, by rw [← HL2.out]; exact HOj.out, by rw [← HL2.out]; exact HRj.out, HGj.out⟩
  | succ r =>
   have hkd : decide ((0 : Int) < (r : Int) + 1) = true := decide_eq_true (by omega)
   have hwr : IntKind.i64.wrap ((r : Int) + 1 - 1) = (r : Int) := by rw [IntWalk.i64_in _ (by have := HKb.out; omega)]; omega
   have hwr2 : (r : Int) + 1 - 1 = (r : Int) := by omega
   have hr64 : r ≤ 64 := by have := HKb.out; omega
   cases s with
   | none =>
    rw [rdMany_none, List.append_nil] at hL2
    have HL2 := Lib.hid hL2
    have hne : (er == 0) = false := by simpa using her
    clear hL2 her hsl
    go_wp2
    go_ret2
    exact ⟨A, n, c, by rw [← HL2.out, HB0.out]; rfl, by rw [← HL2.out]; exact HOj.out, by rw [← HL2.out]; exact HRj.out, HGj.out⟩
   | some x =>
    have he0 : er = 0 := her.2 (by simp)
    subst he0
    have hLn : (pre ++ [((⟨sx 8 (nval 8 (some x)), sx 8 (nval 8 (nnext 8 (some x))), (docR 1048576 (nval 2 (some (rval 1048576 (nnext 8 (nnext 8 (some x)))))) true [] (nnext 2 (some (rval 1048576 (nnext 8 (nnext 8 (some x))))))).1⟩ : Pf), (docR 1048576 (nval 2 (some (rval 1048576 (nnext 8 (nnext 8 (some x)))))) true [] (nnext 2 (some (rval 1048576 (nnext 8 (nnext 8 (some x))))))).2.1 && decide ((docR 1048576 (nval 2 (some (rval 1048576 (nnext 8 (nnext 8 (some x)))))) true [] (nnext 2 (some (rval 1048576 (nnext 8 (nnext 8 (some x))))))).2.2 = some []))] ++ (rdMany rdPf r (rnext 1048576 (nnext 8 (nnext 8 (some x))))).1, (rdMany rdPf r (rnext 1048576 (nnext 8 (nnext 8 (some x))))).2) = L := (rdMany_step rdPf r x pre).symm.trans hL2
    have h2l : stL (nnext 8 (nnext 8 (some x))) ≤ 1000000 := Nat.le_trans (nnext_stL _ _) (Nat.le_trans (nnext_stL _ _) hsl)
    have h3l : stL (rnext 1048576 (nnext 8 (nnext 8 (some x)))) ≤ 1000000 := Nat.le_trans (rnext_stL _ _) h2l
    have hrl : (rval 1048576 (nnext 8 (nnext 8 (some x)))).length ≤ 1000000 := Nat.le_trans (rval_stL _ _) h2l
    have HN1 : Hid (∀ W : World, Rs Q W g tQ (some x) → Calls Try.prog 55 #[.pointer (some ⟨g, 0, none⟩), .int .i64 8] W fun e w' => e = .returned (.int .u64 (nval 8 (some x))) ∧ Rs Q w' g tQ (nnext 8 (some x)) ∧ W.grownBy w' (some g)) := Lib.hid (fun W h9 => rnumber_rs h9 8 rfl)
    have HN2 : Hid (∀ W : World, Rs Q W g tQ (nnext 8 (some x)) → Calls Try.prog 55 #[.pointer (some ⟨g, 0, none⟩), .int .i64 8] W fun e w' => e = .returned (.int .u64 (nval 8 (nnext 8 (some x)))) ∧ Rs Q w' g tQ (nnext 8 (nnext 8 (some x))) ∧ W.grownBy w' (some g)) := Lib.hid (fun W h9 => rnumber_rs h9 8 rfl)
    have hc1 := fun (W : World) => conv_i64 70 2 Try.underlying70 Try.underlying2 (nval 8 (some x)) (by have := nval_lt 8 (some x); omega) W
    have hc2 := fun (W : World) => conv_i64 70 2 Try.underlying70 Try.underlying2 (nval 8 (nnext 8 (some x))) (by have := nval_lt 8 (nnext 8 (some x)); omega) W
    have HRw : Hid (∀ W : World, Rs Q W g tQ (nnext 8 (nnext 8 (some x))) → Calls Try.prog 74 #[.pointer (some ⟨g, 0, none⟩), .int .i64 1048576] W fun e w' => ∃ B m c, e = .returned (.slice B m c) ∧ (m ≤ c ∧ c ≤ maxLen) ∧ By w' (fun b => W.heap.size ≤ b) B m (rval 1048576 (nnext 8 (nnext 8 (some x)))) ∧ Rs Q w' g tQ (rnext 1048576 (nnext 8 (nnext 8 (some x)))) ∧ W.grownBy w' (some g)) := Lib.hid (fun W h9 => by
     have h8 := rrow_rsF h9 1048576 (by omega)
     rw [show ((1048576 : Nat) : Int) = 1048576 from rfl] at h8
     exact h8)
    have HR15 : Hid (∀ (Q' : Nat → Prop) (g' : Nat) (W : World), Rs Q' W g' tQ (some (rval 1048576 (nnext 8 (nnext 8 (some x))))) → (∀ b, Q' b → b < W.heap.size) → Calls Try.prog 98 #[.pointer (some ⟨g', 0, none⟩)] W fun e w' => ∃ (A : Option Addr) (m c : Nat), e = .returned (.tuple #[.slice A m c, .bool (docR 1048576 (nval 2 (some (rval 1048576 (nnext 8 (nnext 8 (some x)))))) true [] (nnext 2 (some (rval 1048576 (nnext 8 (nnext 8 (some x))))))).2.1]) ∧ EysIn w' A m (docR 1048576 (nval 2 (some (rval 1048576 (nnext 8 (nnext 8 (some x)))))) true [] (nnext 2 (some (rval 1048576 (nnext 8 (nnext 8 (some x))))))).1 ∧ m ≤ c ∧ c ≤ maxLen ∧ Rs Q' w' g' tQ (docR 1048576 (nval 2 (some (rval 1048576 (nnext 8 (nnext 8 (some x)))))) true [] (nnext 2 (some (rval 1048576 (nnext 8 (nnext 8 (some x))))))).2.2 ∧ W.grownBy w' (some g') ∧ (∀ a, A = some a → W.heap.size ≤ a.block) ∧ OEy w' W.heap.size (.slice A m c) (docR 1048576 (nval 2 (some (rval 1048576 (nnext 8 (nnext 8 (some x)))))) true [] (nnext 2 (some (rval 1048576 (nnext 8 (nnext 8 (some x))))))).1) := Lib.hid (fun Q' g' W h9 h8 => rread15_own g' _ W h9 h8 (by simp only [stL]; exact hrl))
    clear hL2 her hsl h2l
    generalize (docR 1048576 (nval 2 (some (rval 1048576 (nnext 8 (nnext 8 (some x)))))) true [] (nnext 2 (some (rval 1048576 (nnext 8 (nnext 8 (some x))))))) = D at hLn HR15
    obtain ⟨es, ok, left⟩ := D
    simp only at hLn HR15
    generalize sx 8 (nval 8 (some x)) = sq at hLn hc1
    generalize nval 8 (some x) = k1 at HN1 hc1
    generalize sx 8 (nval 8 (nnext 8 (some x))) = vw at hLn hc2
    generalize nval 8 (nnext 8 (some x)) = k2 at HN2 hc2
    generalize (rval 1048576 (nnext 8 (nnext 8 (some x)))) = row at HRw HR15 hrl
    generalize (rnext 1048576 (nnext 8 (nnext 8 (some x)))) = s3 at hLn HRw h3l
    generalize (nnext 8 (nnext 8 (some x))) = s2 at HN2 HRw
    generalize (nnext 8 (some x)) = s1 at HN1 HN2
    obtain ⟨le, hle⟩ : ∃ b, decide (left = some []) = b := ⟨_, rfl⟩
    rw [hle] at hLn
    have HLe := Lib.hid hle
    have HRl := Lib.hid hrl
    have HSl := Lib.hid h3l
    clear hle hrl h3l
    cases b0 with
    | false =>
     have HLn := Lib.hid hLn
     clear hLn
     cases ok with
     | false =>
      go_wp2_with (first
       | go_big_skip
       | (go_at_call 55; (with_reducible refine (HN1.out _ HRj.out).mono ?_); rintro e v1 ⟨rfl, hr1, hg1⟩; have HRa := Lib.hid hr1; have J1 := Lib.hid hg1; clear hr1 hg1)
       | (go_at_call 55; (with_reducible refine (HN2.out _ HRa.out).mono ?_); rintro e v2 ⟨rfl, hr2, hg2⟩; have HRc := Lib.hid hr2; have J2 := Lib.hid (only_trans J1.out hg2); clear hr2 hg2)
       | (go_at_call 74; (with_reducible refine (HRw.out _ (HRc.out.alloc (.cells #[.int .i64 sq, .int .i64 vw, .slice none 0 0] 55))).mono ?_); rintro e v3 ⟨Br, mr, cr, rfl, ⟨hcr, hmr⟩, hy3, hr3, hg3⟩; have HRd := Lib.hid hr3; have J3 := Lib.hid (only_trans (only_trans J2.out (only_below (below1_ v2 (.cells #[.int .i64 sq, .int .i64 vw, .slice none 0 0] 55)))) hg3); have HBd : Hid (Blk v3 v2.heap.size 55 [.int .i64 sq, .int .i64 vw, .slice none 0 0]) := Lib.hid ((Blk.fresh rfl rfl : Blk (v2.alloc (.cells #[.int .i64 sq, .int .i64 vw, .slice none 0 0] 55)) v2.heap.size 55 [.int .i64 sq, .int .i64 vw, .slice none 0 0]).grown hg3 (fun e => by have := Option.some.inj e; have := HRc.out.lt; omega)); have HVd : Hid (v2.heap.size + 1 ≤ v3.heap.size) := Lib.hid (by have := hg3.size; simpa using this); have HQd : Hid (Rs (fun b => b < v3.heap.size) (v3.alloc (.cells #[.slice Br mr cr, .int .i64 0] 88)) v3.heap.size tQ (some row)) := Lib.hid (rs_built (Q := fun b => b < v3.heap.size) (hy3.lt.weak fun _ h => h.2) hcr hmr (by have := HRl.out; have := hy3.len; omega)); have HBe := Lib.hid (HBd.out.alloc (.cells #[.slice Br mr cr, .int .i64 0] 88)); have HRe := Lib.hid (HRd.out.alloc (.cells #[.slice Br mr cr, .int .i64 0] 88)); have J3b := Lib.hid (only_trans J3.out (only_below (below1_ v3 (.cells #[.slice Br mr cr, .int .i64 0] 88)))); clear hr3 hg3 hy3 hcr hmr)
       | (go_at_call 98; (with_reducible refine (HR15.out _ _ _ HQd.out (fun b hb => by simp; omega)).mono ?_); rintro e v4 ⟨Be, me, ce, rfl, _, _, _, hq4, hg4, _, ho4⟩; have HE4 := Lib.hid (OEy.weak_ ho4 (show w.heap.size ≤ (v3.alloc (.cells #[.slice Br mr cr, .int .i64 0] 88)).heap.size by simp; have := HGj.out.size; have := J3.out.size; omega)); have HQf := Lib.hid hq4; have HBf := Lib.hid (HBe.out.grown hg4 (fun e => by have := Option.some.inj e; have := HVd.out; omega)); have HRf := Lib.hid (HRe.out.other hg4 (fun b hb => ⟨fun e => by have := Option.some.inj hb; have := HRd.out.lt; omega, fun h9 => by have := Option.some.inj hb; have := HQ.out b h9; have := HGj.out.size; have := J3.out.size; omega⟩)); have J4 := Lib.hid (only_own_ J3b.out hg4 (fun h e => by have := Option.some.inj e; have := J3.out.size; omega)); clear hq4 hg4 ho4)
       | (refine wpList_store_cell rfl 53 (.tmp 53) (.tmp 52) rfl v2.heap.size 2 (by simp [Act.eval]) (.slice Be me ce) (by simp [Act.eval]) rfl rfl (fun w => by kernel_rfl) 55 [.int .i64 sq, .int .i64 vw, .slice none 0 0] HBf.out (by simp) ?_; intro v6 hb6 hg6; have HBg : Hid (Blk v6 v2.heap.size 55 [.int .i64 sq, .int .i64 vw, .slice Be me ce]) := Lib.hid hb6; have HE6 := Lib.hid (HE4.out.only hg6 HBf.out pf_ne); have HRg := Lib.hid (HRf.out.other hg6 (fun b hb => ⟨fun e => by have := Option.some.inj hb; have := HRc.out.lt; omega, fun h9 => by have := Option.some.inj hb; have := HQ.out b h9; have := HGj.out.size; have := J2.out.size; omega⟩)); have J6 := Lib.hid (only_own_ J4.out hg6 (fun h e => by have := Option.some.inj e; have := J2.out.size; omega)); obtain ⟨ss, ho6, ha6⟩ := HOj.out.off J6.out HLT.out; have HS6 := Lib.hid ho6; have HA6 := Lib.hid ha6; have HZ6 : Hid (w.heap.size ≤ v6.heap.size) := Lib.hid (Nat.le_trans HGj.out.size J6.out.size); clear hb6 hg6 ho6 ha6)
       | (refine wpList_load_blk rfl 55 (.tmp 9) rfl v2.heap.size rfl 55 [.int .i64 sq, .int .i64 vw, .slice Be me ce] _ HBg.out Try.underlying55 rfl (by kernel_rfl) ?_)
       | (refine wpList_build_el rfl Try.el_pf (.tmp 55) rfl [.int .i64 sq, .int .i64 vw, .slice Be me ce] rfl rfl ?_)
       | (at_builtin; refine wpList_append_el rfl Try.el_pf (.tmp 54) (.tmp 56) rfl w.heap.size (.slice A n c) (pfR (pre.map (·.1)) ss) rfl (HS6.out.alloc (.cells #[.int .i64 sq, .int .i64 vw, .slice Be me ce] 55)) v6.heap.size [.int .i64 sq, .int .i64 vw, .slice Be me ce] rfl (Blk.fresh rfl rfl) rfl (fun u hu => by simp at hu; rcases hu with rfl | rfl | rfl <;> rfl) (by rw [pfR_len HA6.out.len, List.length_map]; have := HKb.out; omega) (by have := HZ6.out; simp; omega) ?_; intro v7 w9 ho7 hg7; have HW := Lib.hid (fun b hb => (HS6.out.lt b hb).1); obtain ⟨A7, N7, c7, rfl⟩ : ∃ (A : Option Addr) (N c : Nat), v7 = .slice A N c := (by obtain ⟨A, c, h9, _⟩ := ho7.out; exact ⟨A, _, c, h9⟩); have HE9 := (HE6.out.through (below1_ v6 (.cells #[.int .i64 sq, .int .i64 vw, .slice Be me ce] 55))).own (HS6.out.alloc (.cells #[.int .i64 sq, .int .i64 vw, .slice Be me ce] 55)) hg7; have HA9 := Lib.hid (AllB.snoc (p := (⟨sq, vw, es⟩ : Pf)) (s := ((Be, me, ce) : Pl)) ((HA6.out.through (below1_ v6 (.cells #[.int .i64 sq, .int .i64 vw, .slice Be me ce] 55))).own (HS6.out.alloc (.cells #[.int .i64 sq, .int .i64 vw, .slice Be me ce] 55)) hg7) HE9); clear HE9; have HO9 : Hid (OPf w9 w.heap.size (.slice A7 N7 c7) ((pre ++ [((⟨sq, vw, es⟩ : Pf), false && le)]).map (·.1))) := Lib.hid ⟨ss ++ [(Be, me, ce)], by rw [List.map_append, show [((⟨sq, vw, es⟩ : Pf), false && le)].map (·.1) = [(⟨sq, vw, es⟩ : Pf)] from rfl, pfR_snoc HA6.out.len]; exact ho7, by rw [List.map_append]; exact HA9.out⟩; have HR9 := Lib.hid ((HRg.out.alloc (.cells #[.int .i64 sq, .int .i64 vw, .slice Be me ce] 55)).other hg7 (fun b hb => ⟨fun e => by have := HW.out b hb; have := HLT.out; omega, fun h9 => by have := HW.out b hb; have := HQ.out b h9; omega⟩)); have HG9 : Hid (w.grownBy w9 (some g)) := Lib.hid (only_own_ (only_trans (only_trans HGj.out J6.out) (only_below (below1_ v6 (.cells #[.int .i64 sq, .int .i64 vw, .slice Be me ce] 55)))) hg7 (fun h e => HW.out h e)); clear ho7 hg7))
      go_roundw
      case rel => exact ⟨r, pre ++ [((⟨sq, vw, es⟩ : Pf), false && le)], A7, N7, c7, s3, (by have := HKb.out; simp; omega), by go_num, congrArg Value.bool (by rw [List.all_append, HB0.out]; rfl), rfl, HLn.out, HSl.out, HR9.out, HO9.out, HG9.out⟩
      case measure => simp [intOf]
     | true =>
      go_wp2_with (first
       | go_big_skip
       | (go_at_call 55; (with_reducible refine (HN1.out _ HRj.out).mono ?_); rintro e v1 ⟨rfl, hr1, hg1⟩; have HRa := Lib.hid hr1; have J1 := Lib.hid hg1; clear hr1 hg1)
       | (go_at_call 55; (with_reducible refine (HN2.out _ HRa.out).mono ?_); rintro e v2 ⟨rfl, hr2, hg2⟩; have HRc := Lib.hid hr2; have J2 := Lib.hid (only_trans J1.out hg2); clear hr2 hg2)
       | (go_at_call 74; (with_reducible refine (HRw.out _ (HRc.out.alloc (.cells #[.int .i64 sq, .int .i64 vw, .slice none 0 0] 55))).mono ?_); rintro e v3 ⟨Br, mr, cr, rfl, ⟨hcr, hmr⟩, hy3, hr3, hg3⟩; have HRd := Lib.hid hr3; have J3 := Lib.hid (only_trans (only_trans J2.out (only_below (below1_ v2 (.cells #[.int .i64 sq, .int .i64 vw, .slice none 0 0] 55)))) hg3); have HBd : Hid (Blk v3 v2.heap.size 55 [.int .i64 sq, .int .i64 vw, .slice none 0 0]) := Lib.hid ((Blk.fresh rfl rfl : Blk (v2.alloc (.cells #[.int .i64 sq, .int .i64 vw, .slice none 0 0] 55)) v2.heap.size 55 [.int .i64 sq, .int .i64 vw, .slice none 0 0]).grown hg3 (fun e => by have := Option.some.inj e; have := HRc.out.lt; omega)); have HVd : Hid (v2.heap.size + 1 ≤ v3.heap.size) := Lib.hid (by have := hg3.size; simpa using this); have HQd : Hid (Rs (fun b => b < v3.heap.size) (v3.alloc (.cells #[.slice Br mr cr, .int .i64 0] 88)) v3.heap.size tQ (some row)) := Lib.hid (rs_built (Q := fun b => b < v3.heap.size) (hy3.lt.weak fun _ h => h.2) hcr hmr (by have := HRl.out; have := hy3.len; omega)); have HBe := Lib.hid (HBd.out.alloc (.cells #[.slice Br mr cr, .int .i64 0] 88)); have HRe := Lib.hid (HRd.out.alloc (.cells #[.slice Br mr cr, .int .i64 0] 88)); have J3b := Lib.hid (only_trans J3.out (only_below (below1_ v3 (.cells #[.slice Br mr cr, .int .i64 0] 88)))); clear hr3 hg3 hy3 hcr hmr)
       | (go_at_call 98; (with_reducible refine (HR15.out _ _ _ HQd.out (fun b hb => by simp; omega)).mono ?_); rintro e v4 ⟨Be, me, ce, rfl, _, _, _, hq4, hg4, _, ho4⟩; have HE4 := Lib.hid (OEy.weak_ ho4 (show w.heap.size ≤ (v3.alloc (.cells #[.slice Br mr cr, .int .i64 0] 88)).heap.size by simp; have := HGj.out.size; have := J3.out.size; omega)); have HQf := Lib.hid hq4; have HBf := Lib.hid (HBe.out.grown hg4 (fun e => by have := Option.some.inj e; have := HVd.out; omega)); have HRf := Lib.hid (HRe.out.other hg4 (fun b hb => ⟨fun e => by have := Option.some.inj hb; have := HRd.out.lt; omega, fun h9 => by have := Option.some.inj hb; have := HQ.out b h9; have := HGj.out.size; have := J3.out.size; omega⟩)); have J4 := Lib.hid (only_own_ J3b.out hg4 (fun h e => by have := Option.some.inj e; have := J3.out.size; omega)); clear hq4 hg4 ho4)
       | (refine wpList_store_cell rfl 53 (.tmp 53) (.tmp 52) rfl v2.heap.size 2 (by simp [Act.eval]) (.slice Be me ce) (by simp [Act.eval]) rfl rfl (fun w => by kernel_rfl) 55 [.int .i64 sq, .int .i64 vw, .slice none 0 0] HBf.out (by simp) ?_; intro v6 hb6 hg6; have HBg : Hid (Blk v6 v2.heap.size 55 [.int .i64 sq, .int .i64 vw, .slice Be me ce]) := Lib.hid hb6; have HE6 := Lib.hid (HE4.out.only hg6 HBf.out pf_ne); have HRg := Lib.hid (HRf.out.other hg6 (fun b hb => ⟨fun e => by have := Option.some.inj hb; have := HRc.out.lt; omega, fun h9 => by have := Option.some.inj hb; have := HQ.out b h9; have := HGj.out.size; have := J2.out.size; omega⟩)); have J6 := Lib.hid (only_own_ J4.out hg6 (fun h e => by have := Option.some.inj e; have := J2.out.size; omega)); obtain ⟨ss, ho6, ha6⟩ := HOj.out.off J6.out HLT.out; have HS6 := Lib.hid ho6; have HA6 := Lib.hid ha6; have HZ6 : Hid (w.heap.size ≤ v6.heap.size) := Lib.hid (Nat.le_trans HGj.out.size J6.out.size); clear hb6 hg6 ho6 ha6)
       | (refine wpList_load_blk rfl 55 (.tmp 9) rfl v2.heap.size rfl 55 [.int .i64 sq, .int .i64 vw, .slice Be me ce] _ HBg.out Try.underlying55 rfl (by kernel_rfl) ?_)
       | (refine wpList_build_el rfl Try.el_pf (.tmp 55) rfl [.int .i64 sq, .int .i64 vw, .slice Be me ce] rfl rfl ?_)
       | (at_builtin; refine wpList_append_el rfl Try.el_pf (.tmp 54) (.tmp 56) rfl w.heap.size (.slice A n c) (pfR (pre.map (·.1)) ss) rfl (HS6.out.alloc (.cells #[.int .i64 sq, .int .i64 vw, .slice Be me ce] 55)) v6.heap.size [.int .i64 sq, .int .i64 vw, .slice Be me ce] rfl (Blk.fresh rfl rfl) rfl (fun u hu => by simp at hu; rcases hu with rfl | rfl | rfl <;> rfl) (by rw [pfR_len HA6.out.len, List.length_map]; have := HKb.out; omega) (by have := HZ6.out; simp; omega) ?_; intro v7 w9 ho7 hg7; have HW := Lib.hid (fun b hb => (HS6.out.lt b hb).1); obtain ⟨A7, N7, c7, rfl⟩ : ∃ (A : Option Addr) (N c : Nat), v7 = .slice A N c := (by obtain ⟨A, c, h9, _⟩ := ho7.out; exact ⟨A, _, c, h9⟩); have HE9 := (HE6.out.through (below1_ v6 (.cells #[.int .i64 sq, .int .i64 vw, .slice Be me ce] 55))).own (HS6.out.alloc (.cells #[.int .i64 sq, .int .i64 vw, .slice Be me ce] 55)) hg7; have HA9 := Lib.hid (AllB.snoc (p := (⟨sq, vw, es⟩ : Pf)) (s := ((Be, me, ce) : Pl)) ((HA6.out.through (below1_ v6 (.cells #[.int .i64 sq, .int .i64 vw, .slice Be me ce] 55))).own (HS6.out.alloc (.cells #[.int .i64 sq, .int .i64 vw, .slice Be me ce] 55)) hg7) HE9); clear HE9; have HO9 : Hid (OPf w9 w.heap.size (.slice A7 N7 c7) ((pre ++ [((⟨sq, vw, es⟩ : Pf), true && le)]).map (·.1))) := Lib.hid ⟨ss ++ [(Be, me, ce)], by rw [List.map_append, show [((⟨sq, vw, es⟩ : Pf), true && le)].map (·.1) = [(⟨sq, vw, es⟩ : Pf)] from rfl, pfR_snoc HA6.out.len]; exact ho7, by rw [List.map_append]; exact HA9.out⟩; have HR9 := Lib.hid ((HRg.out.alloc (.cells #[.int .i64 sq, .int .i64 vw, .slice Be me ce] 55)).other hg7 (fun b hb => ⟨fun e => by have := HW.out b hb; have := HLT.out; omega, fun h9 => by have := HW.out b hb; have := HQ.out b h9; omega⟩)); have HG9 : Hid (w.grownBy w9 (some g)) := Lib.hid (only_own_ (only_trans (only_trans HGj.out J6.out) (only_below (below1_ v6 (.cells #[.int .i64 sq, .int .i64 vw, .slice Be me ce] 55)))) hg7 (fun h e => HW.out h e)); clear ho7 hg7))
      go_roundw
      case rel => exact ⟨r, pre ++ [((⟨sq, vw, es⟩ : Pf), true && le)], A7, N7, c7, s3, (by have := HKb.out; simp; omega), by go_num, congrArg Value.bool (by rw [List.all_append, HB0.out]; rfl), rfl, HLn.out, HSl.out, HR9.out, HO9.out, HG9.out⟩
      case measure => simp [intOf]
    | true =>
     have HLn := Lib.hid hLn
     clear hLn
     cases ok with
     | false =>
      go_wp2_with (first
       | go_big_skip
       | (go_at_call 55; (with_reducible refine (HN1.out _ HRj.out).mono ?_); rintro e v1 ⟨rfl, hr1, hg1⟩; have HRa := Lib.hid hr1; have J1 := Lib.hid hg1; clear hr1 hg1)
       | (go_at_call 55; (with_reducible refine (HN2.out _ HRa.out).mono ?_); rintro e v2 ⟨rfl, hr2, hg2⟩; have HRc := Lib.hid hr2; have J2 := Lib.hid (only_trans J1.out hg2); clear hr2 hg2)
       | (go_at_call 74; (with_reducible refine (HRw.out _ (HRc.out.alloc (.cells #[.int .i64 sq, .int .i64 vw, .slice none 0 0] 55))).mono ?_); rintro e v3 ⟨Br, mr, cr, rfl, ⟨hcr, hmr⟩, hy3, hr3, hg3⟩; have HRd := Lib.hid hr3; have J3 := Lib.hid (only_trans (only_trans J2.out (only_below (below1_ v2 (.cells #[.int .i64 sq, .int .i64 vw, .slice none 0 0] 55)))) hg3); have HBd : Hid (Blk v3 v2.heap.size 55 [.int .i64 sq, .int .i64 vw, .slice none 0 0]) := Lib.hid ((Blk.fresh rfl rfl : Blk (v2.alloc (.cells #[.int .i64 sq, .int .i64 vw, .slice none 0 0] 55)) v2.heap.size 55 [.int .i64 sq, .int .i64 vw, .slice none 0 0]).grown hg3 (fun e => by have := Option.some.inj e; have := HRc.out.lt; omega)); have HVd : Hid (v2.heap.size + 1 ≤ v3.heap.size) := Lib.hid (by have := hg3.size; simpa using this); have HQd : Hid (Rs (fun b => b < v3.heap.size) (v3.alloc (.cells #[.slice Br mr cr, .int .i64 0] 88)) v3.heap.size tQ (some row)) := Lib.hid (rs_built (Q := fun b => b < v3.heap.size) (hy3.lt.weak fun _ h => h.2) hcr hmr (by have := HRl.out; have := hy3.len; omega)); have HBe := Lib.hid (HBd.out.alloc (.cells #[.slice Br mr cr, .int .i64 0] 88)); have HRe := Lib.hid (HRd.out.alloc (.cells #[.slice Br mr cr, .int .i64 0] 88)); have J3b := Lib.hid (only_trans J3.out (only_below (below1_ v3 (.cells #[.slice Br mr cr, .int .i64 0] 88)))); clear hr3 hg3 hy3 hcr hmr)
       | (go_at_call 98; (with_reducible refine (HR15.out _ _ _ HQd.out (fun b hb => by simp; omega)).mono ?_); rintro e v4 ⟨Be, me, ce, rfl, _, _, _, hq4, hg4, _, ho4⟩; have HE4 := Lib.hid (OEy.weak_ ho4 (show w.heap.size ≤ (v3.alloc (.cells #[.slice Br mr cr, .int .i64 0] 88)).heap.size by simp; have := HGj.out.size; have := J3.out.size; omega)); have HQf := Lib.hid hq4; have HBf := Lib.hid (HBe.out.grown hg4 (fun e => by have := Option.some.inj e; have := HVd.out; omega)); have HRf := Lib.hid (HRe.out.other hg4 (fun b hb => ⟨fun e => by have := Option.some.inj hb; have := HRd.out.lt; omega, fun h9 => by have := Option.some.inj hb; have := HQ.out b h9; have := HGj.out.size; have := J3.out.size; omega⟩)); have J4 := Lib.hid (only_own_ J3b.out hg4 (fun h e => by have := Option.some.inj e; have := J3.out.size; omega)); clear hq4 hg4 ho4)
       | (refine wpList_store_cell rfl 53 (.tmp 53) (.tmp 52) rfl v2.heap.size 2 (by simp [Act.eval]) (.slice Be me ce) (by simp [Act.eval]) rfl rfl (fun w => by kernel_rfl) 55 [.int .i64 sq, .int .i64 vw, .slice none 0 0] HBf.out (by simp) ?_; intro v6 hb6 hg6; have HBg : Hid (Blk v6 v2.heap.size 55 [.int .i64 sq, .int .i64 vw, .slice Be me ce]) := Lib.hid hb6; have HE6 := Lib.hid (HE4.out.only hg6 HBf.out pf_ne); have HRg := Lib.hid (HRf.out.other hg6 (fun b hb => ⟨fun e => by have := Option.some.inj hb; have := HRc.out.lt; omega, fun h9 => by have := Option.some.inj hb; have := HQ.out b h9; have := HGj.out.size; have := J2.out.size; omega⟩)); have J6 := Lib.hid (only_own_ J4.out hg6 (fun h e => by have := Option.some.inj e; have := J2.out.size; omega)); obtain ⟨ss, ho6, ha6⟩ := HOj.out.off J6.out HLT.out; have HS6 := Lib.hid ho6; have HA6 := Lib.hid ha6; have HZ6 : Hid (w.heap.size ≤ v6.heap.size) := Lib.hid (Nat.le_trans HGj.out.size J6.out.size); clear hb6 hg6 ho6 ha6)
       | (refine wpList_load_blk rfl 55 (.tmp 9) rfl v2.heap.size rfl 55 [.int .i64 sq, .int .i64 vw, .slice Be me ce] _ HBg.out Try.underlying55 rfl (by kernel_rfl) ?_)
       | (refine wpList_build_el rfl Try.el_pf (.tmp 55) rfl [.int .i64 sq, .int .i64 vw, .slice Be me ce] rfl rfl ?_)
       | (at_builtin; refine wpList_append_el rfl Try.el_pf (.tmp 54) (.tmp 56) rfl w.heap.size (.slice A n c) (pfR (pre.map (·.1)) ss) rfl (HS6.out.alloc (.cells #[.int .i64 sq, .int .i64 vw, .slice Be me ce] 55)) v6.heap.size [.int .i64 sq, .int .i64 vw, .slice Be me ce] rfl (Blk.fresh rfl rfl) rfl (fun u hu => by simp at hu; rcases hu with rfl | rfl | rfl <;> rfl) (by rw [pfR_len HA6.out.len, List.length_map]; have := HKb.out; omega) (by have := HZ6.out; simp; omega) ?_; intro v7 w9 ho7 hg7; have HW := Lib.hid (fun b hb => (HS6.out.lt b hb).1); obtain ⟨A7, N7, c7, rfl⟩ : ∃ (A : Option Addr) (N c : Nat), v7 = .slice A N c := (by obtain ⟨A, c, h9, _⟩ := ho7.out; exact ⟨A, _, c, h9⟩); have HE9 := (HE6.out.through (below1_ v6 (.cells #[.int .i64 sq, .int .i64 vw, .slice Be me ce] 55))).own (HS6.out.alloc (.cells #[.int .i64 sq, .int .i64 vw, .slice Be me ce] 55)) hg7; have HA9 := Lib.hid (AllB.snoc (p := (⟨sq, vw, es⟩ : Pf)) (s := ((Be, me, ce) : Pl)) ((HA6.out.through (below1_ v6 (.cells #[.int .i64 sq, .int .i64 vw, .slice Be me ce] 55))).own (HS6.out.alloc (.cells #[.int .i64 sq, .int .i64 vw, .slice Be me ce] 55)) hg7) HE9); clear HE9; have HO9 : Hid (OPf w9 w.heap.size (.slice A7 N7 c7) ((pre ++ [((⟨sq, vw, es⟩ : Pf), false && le)]).map (·.1))) := Lib.hid ⟨ss ++ [(Be, me, ce)], by rw [List.map_append, show [((⟨sq, vw, es⟩ : Pf), false && le)].map (·.1) = [(⟨sq, vw, es⟩ : Pf)] from rfl, pfR_snoc HA6.out.len]; exact ho7, by rw [List.map_append]; exact HA9.out⟩; have HR9 := Lib.hid ((HRg.out.alloc (.cells #[.int .i64 sq, .int .i64 vw, .slice Be me ce] 55)).other hg7 (fun b hb => ⟨fun e => by have := HW.out b hb; have := HLT.out; omega, fun h9 => by have := HW.out b hb; have := HQ.out b h9; omega⟩)); have HG9 : Hid (w.grownBy w9 (some g)) := Lib.hid (only_own_ (only_trans (only_trans HGj.out J6.out) (only_below (below1_ v6 (.cells #[.int .i64 sq, .int .i64 vw, .slice Be me ce] 55)))) hg7 (fun h e => HW.out h e)); clear ho7 hg7))
      go_roundw
      case rel => exact ⟨r, pre ++ [((⟨sq, vw, es⟩ : Pf), false && le)], A7, N7, c7, s3, (by have := HKb.out; simp; omega), by go_num, congrArg Value.bool (by rw [List.all_append, HB0.out]; rfl), rfl, HLn.out, HSl.out, HR9.out, HO9.out, HG9.out⟩
      case measure => simp [intOf]
     | true =>
      go_wp2_with (first
       | go_big_skip
       | (go_at_call 55; (with_reducible refine (HN1.out _ HRj.out).mono ?_); rintro e v1 ⟨rfl, hr1, hg1⟩; have HRa := Lib.hid hr1; have J1 := Lib.hid hg1; clear hr1 hg1)
       | (go_at_call 55; (with_reducible refine (HN2.out _ HRa.out).mono ?_); rintro e v2 ⟨rfl, hr2, hg2⟩; have HRc := Lib.hid hr2; have J2 := Lib.hid (only_trans J1.out hg2); clear hr2 hg2)
       | (go_at_call 74; (with_reducible refine (HRw.out _ (HRc.out.alloc (.cells #[.int .i64 sq, .int .i64 vw, .slice none 0 0] 55))).mono ?_); rintro e v3 ⟨Br, mr, cr, rfl, ⟨hcr, hmr⟩, hy3, hr3, hg3⟩; have HRd := Lib.hid hr3; have J3 := Lib.hid (only_trans (only_trans J2.out (only_below (below1_ v2 (.cells #[.int .i64 sq, .int .i64 vw, .slice none 0 0] 55)))) hg3); have HBd : Hid (Blk v3 v2.heap.size 55 [.int .i64 sq, .int .i64 vw, .slice none 0 0]) := Lib.hid ((Blk.fresh rfl rfl : Blk (v2.alloc (.cells #[.int .i64 sq, .int .i64 vw, .slice none 0 0] 55)) v2.heap.size 55 [.int .i64 sq, .int .i64 vw, .slice none 0 0]).grown hg3 (fun e => by have := Option.some.inj e; have := HRc.out.lt; omega)); have HVd : Hid (v2.heap.size + 1 ≤ v3.heap.size) := Lib.hid (by have := hg3.size; simpa using this); have HQd : Hid (Rs (fun b => b < v3.heap.size) (v3.alloc (.cells #[.slice Br mr cr, .int .i64 0] 88)) v3.heap.size tQ (some row)) := Lib.hid (rs_built (Q := fun b => b < v3.heap.size) (hy3.lt.weak fun _ h => h.2) hcr hmr (by have := HRl.out; have := hy3.len; omega)); have HBe := Lib.hid (HBd.out.alloc (.cells #[.slice Br mr cr, .int .i64 0] 88)); have HRe := Lib.hid (HRd.out.alloc (.cells #[.slice Br mr cr, .int .i64 0] 88)); have J3b := Lib.hid (only_trans J3.out (only_below (below1_ v3 (.cells #[.slice Br mr cr, .int .i64 0] 88)))); clear hr3 hg3 hy3 hcr hmr)
       | (go_at_call 98; (with_reducible refine (HR15.out _ _ _ HQd.out (fun b hb => by simp; omega)).mono ?_); rintro e v4 ⟨Be, me, ce, rfl, _, _, _, hq4, hg4, _, ho4⟩; have HE4 := Lib.hid (OEy.weak_ ho4 (show w.heap.size ≤ (v3.alloc (.cells #[.slice Br mr cr, .int .i64 0] 88)).heap.size by simp; have := HGj.out.size; have := J3.out.size; omega)); have HQf := Lib.hid hq4; have HBf := Lib.hid (HBe.out.grown hg4 (fun e => by have := Option.some.inj e; have := HVd.out; omega)); have HRf := Lib.hid (HRe.out.other hg4 (fun b hb => ⟨fun e => by have := Option.some.inj hb; have := HRd.out.lt; omega, fun h9 => by have := Option.some.inj hb; have := HQ.out b h9; have := HGj.out.size; have := J3.out.size; omega⟩)); have J4 := Lib.hid (only_own_ J3b.out hg4 (fun h e => by have := Option.some.inj e; have := J3.out.size; omega)); clear hq4 hg4 ho4)
       | (go_at_call 59; (refine (rend_rs HQf.out).mono ?_); rintro e wE ⟨x5, rfl, hx5, rfl⟩; have hxe : (x5 == 0) = le := (by rw [← HLe.out, Bool.eq_iff_iff]; simpa using hx5); clear hx5)
       | (refine wpList_store_cell rfl 53 (.tmp 53) (.tmp 52) rfl v2.heap.size 2 (by simp [Act.eval]) (.slice Be me ce) (by simp [Act.eval]) rfl rfl (fun w => by kernel_rfl) 55 [.int .i64 sq, .int .i64 vw, .slice none 0 0] HBf.out (by simp) ?_; intro v6 hb6 hg6; have HBg : Hid (Blk v6 v2.heap.size 55 [.int .i64 sq, .int .i64 vw, .slice Be me ce]) := Lib.hid hb6; have HE6 := Lib.hid (HE4.out.only hg6 HBf.out pf_ne); have HRg := Lib.hid (HRf.out.other hg6 (fun b hb => ⟨fun e => by have := Option.some.inj hb; have := HRc.out.lt; omega, fun h9 => by have := Option.some.inj hb; have := HQ.out b h9; have := HGj.out.size; have := J2.out.size; omega⟩)); have J6 := Lib.hid (only_own_ J4.out hg6 (fun h e => by have := Option.some.inj e; have := J2.out.size; omega)); obtain ⟨ss, ho6, ha6⟩ := HOj.out.off J6.out HLT.out; have HS6 := Lib.hid ho6; have HA6 := Lib.hid ha6; have HZ6 : Hid (w.heap.size ≤ v6.heap.size) := Lib.hid (Nat.le_trans HGj.out.size J6.out.size); clear hb6 hg6 ho6 ha6)
       | (refine wpList_load_blk rfl 55 (.tmp 9) rfl v2.heap.size rfl 55 [.int .i64 sq, .int .i64 vw, .slice Be me ce] _ HBg.out Try.underlying55 rfl (by kernel_rfl) ?_)
       | (refine wpList_build_el rfl Try.el_pf (.tmp 55) rfl [.int .i64 sq, .int .i64 vw, .slice Be me ce] rfl rfl ?_)
       | (at_builtin; refine wpList_append_el rfl Try.el_pf (.tmp 54) (.tmp 56) rfl w.heap.size (.slice A n c) (pfR (pre.map (·.1)) ss) rfl (HS6.out.alloc (.cells #[.int .i64 sq, .int .i64 vw, .slice Be me ce] 55)) v6.heap.size [.int .i64 sq, .int .i64 vw, .slice Be me ce] rfl (Blk.fresh rfl rfl) rfl (fun u hu => by simp at hu; rcases hu with rfl | rfl | rfl <;> rfl) (by rw [pfR_len HA6.out.len, List.length_map]; have := HKb.out; omega) (by have := HZ6.out; simp; omega) ?_; intro v7 w9 ho7 hg7; have HW := Lib.hid (fun b hb => (HS6.out.lt b hb).1); obtain ⟨A7, N7, c7, rfl⟩ : ∃ (A : Option Addr) (N c : Nat), v7 = .slice A N c := (by obtain ⟨A, c, h9, _⟩ := ho7.out; exact ⟨A, _, c, h9⟩); have HE9 := (HE6.out.through (below1_ v6 (.cells #[.int .i64 sq, .int .i64 vw, .slice Be me ce] 55))).own (HS6.out.alloc (.cells #[.int .i64 sq, .int .i64 vw, .slice Be me ce] 55)) hg7; have HA9 := Lib.hid (AllB.snoc (p := (⟨sq, vw, es⟩ : Pf)) (s := ((Be, me, ce) : Pl)) ((HA6.out.through (below1_ v6 (.cells #[.int .i64 sq, .int .i64 vw, .slice Be me ce] 55))).own (HS6.out.alloc (.cells #[.int .i64 sq, .int .i64 vw, .slice Be me ce] 55)) hg7) HE9); clear HE9; have HO9 : Hid (OPf w9 w.heap.size (.slice A7 N7 c7) ((pre ++ [((⟨sq, vw, es⟩ : Pf), true && le)]).map (·.1))) := Lib.hid ⟨ss ++ [(Be, me, ce)], by rw [List.map_append, show [((⟨sq, vw, es⟩ : Pf), true && le)].map (·.1) = [(⟨sq, vw, es⟩ : Pf)] from rfl, pfR_snoc HA6.out.len]; exact ho7, by rw [List.map_append]; exact HA9.out⟩; have HR9 := Lib.hid ((HRg.out.alloc (.cells #[.int .i64 sq, .int .i64 vw, .slice Be me ce] 55)).other hg7 (fun b hb => ⟨fun e => by have := HW.out b hb; have := HLT.out; omega, fun h9 => by have := HW.out b hb; have := HQ.out b h9; omega⟩)); have HG9 : Hid (w.grownBy w9 (some g)) := Lib.hid (only_own_ (only_trans (only_trans HGj.out J6.out) (only_below (below1_ v6 (.cells #[.int .i64 sq, .int .i64 vw, .slice Be me ce] 55)))) hg7 (fun h e => HW.out h e)); clear ho7 hg7))
      go_roundw
      case rel => exact ⟨r, pre ++ [((⟨sq, vw, es⟩ : Pf), true && le)], A7, N7, c7, s3, (by have := HKb.out; simp; omega), by go_num, congrArg Value.bool (by rw [List.all_append, HB0.out]; simp), rfl, HLn.out, HSl.out, HR9.out, HO9.out, HG9.out⟩
      case measure => simp [intOf]

end Go.Proofs.Ytheecifgbkdecaa
