/-
  NvR
-/
import Derived.Deep.CutBlock
import Derived.Test.YtheecifgbkdecaaSM27
import Derived.Test.YtheecifgbkdecaaSM28
namespace Go.Proofs.Ytheecifgbkdecaa
open Go.RowKit

theorem Try.build_sg (fr : Int) (C : Ch) (P Q R : Pl) (w : World) : (Instr.build 106 #[(0, .int .i64 fr), (1, .agg (Ch.cells C P Q R).toArray)]).run Try.prog w = .ok (.agg (sgC ⟨fr, C⟩ (P, Q, R)).toArray) w := by kernel_rfl
theorem sgC_one (s : Sg) (t : Pl × Pl × Pl) : ∀ u ∈ sgC s t, u.oneCell' = true := fun u hu => by
 simp [sgC, Ch.cells] at hu
 rcases hu with rfl | rfl | rfl | rfl | rfl | rfl <;> rfl
section
variable {w w' : World} {B B' k k' : Nat} {v vv : Value} {rows xs : List (List Value)} {e e' : TypeId}
theorem Os.own_ (h : Os w B e k v xs) (ho : Os w B' e' k' vv rows) (hg : w.grownBy w' vv.ownBlock) (hne : e' ≠ e) : Os w' B e k v xs := by
 rcases ho.1.2 with ⟨hv, _⟩ | ⟨g, cap, cur, hv, hb, hq, _⟩
 ·rw [hv] at hg
  exact h.through ((Below.refl _ w).grown hg (Nat.le_refl _) (fun k hk => by simp [Value.ownBlock] at hk))
 ·rw [hv] at hg
  exact h.only hg hq hne
theorem AllB.own_ {ps : List Pf} {ss : List Pl} (h : AllB w B ps ss) (ho : Os w B' 106 k' vv rows) (hg : w.grownBy w' vv.ownBlock) : AllB w' B ps ss := h.mono fun _ _ h => ⟨Os.own_ h.1 ho hg (by decide), h.2⟩
theorem ChOwn.own {P Q R : Pl} {C : Ch} (h : ChOwn w B P Q R C) (ho : Os w B' 106 k' vv rows) (hg : w.grownBy w' vv.ownBlock) : ChOwn w' B P Q R C := by
 obtain ⟨h1, ⟨ss, h2, h3⟩, ts, h4, h5⟩ := h
 exact ⟨⟨Os.own_ h1.1 ho hg (by decide), h1.2⟩, ⟨ss, Os.own_ h2 ho hg (by decide), h3.own_ ho hg⟩, ts, Os.own_ h4 ho hg (by decide), h5.own_ ho hg⟩
def AllO (w : World) (B : Nat) : List Sg → List (Pl × Pl × Pl) → Prop
 | [], [] => True
 | s :: l, t :: ts => ChOwn w B t.1 t.2.1 t.2.2 s.ch ∧ AllO w B l ts
 | [], _ :: _ => False
 | _ :: _, [] => False
theorem AllO.all : ∀ {l : List Sg} {ts : List (Pl × Pl × Pl)}, AllO w B l ts → AllS w l ts
 | [], [], _ => trivial
 | _ :: _, _ :: _, h => ⟨chin_of h.1.1 h.1.2.1 h.1.2.2, AllO.all h.2⟩
 | [], _ :: _, h => h.elim
 | _ :: _, [], h => h.elim
theorem AllO.mono : ∀ {l : List Sg} {ts : List (Pl × Pl × Pl)}, AllO w B l ts → (∀ P Q R C, ChOwn w B P Q R C → ChOwn w' B P Q R C) → AllO w' B l ts
 | [], [], _, _ => trivial
 | _ :: _, _ :: _, h, hm => ⟨hm _ _ _ _ h.1, AllO.mono h.2 hm⟩
 | [], _ :: _, h, _ => h.elim
 | _ :: _, [], h, _ => h.elim
theorem AllO.len {l : List Sg} {ts : List (Pl × Pl × Pl)} (h : AllO w B l ts) : l.length = ts.length := h.all.len
theorem AllO.through {l : List Sg} {ts : List (Pl × Pl × Pl)} (h : AllO w B l ts) (hb : Below w.heap.size w w') : AllO w' B l ts := h.mono fun _ _ _ _ h => h.through hb
theorem AllO.own {l : List Sg} {ts : List (Pl × Pl × Pl)} (h : AllO w B l ts) (ho : Os w B' 106 k' vv rows) (hg : w.grownBy w' vv.ownBlock) : AllO w' B l ts := h.mono fun _ _ _ _ h => h.own ho hg
theorem AllO.snoc : ∀ {l : List Sg} {ts : List (Pl × Pl × Pl)} {s : Sg} {t : Pl × Pl × Pl}, AllO w B l ts → ChOwn w B t.1 t.2.1 t.2.2 s.ch → AllO w B (l ++ [s]) (ts ++ [t])
 | [], [], _, _, _, h => ⟨h, trivial⟩
 | _ :: _, _ :: _, _, _, h, h' => ⟨h.1, AllO.snoc h.2 h'⟩
 | [], _ :: _, _, _, h, _ => h.elim
 | _ :: _, [], _, _, h, _ => h.elim
/-- a call's own row of signed changes -/
def OSg (w : World) (B : Nat) (v : Value) (l : List Sg) : Prop := ∃ ts, Os w B 106 6 v (sgR l ts) ∧ AllO w B l ts
theorem OSg.off {l : List Sg} {g : Nat} (h : OSg w B v l) (hg : w.grownBy w' (some g)) (hl : g < B) : OSg w' B v l := by
 obtain ⟨ts, h1, h2⟩ := h
 exact ⟨ts, h1.far hg hl, h2.mono fun _ _ _ _ h => h.off hg hl⟩
theorem OSg.nil (w : World) (B : Nat) : OSg w B (.slice none 0 0) [] := ⟨[], Os.nil _ _ _ _, trivial⟩
theorem OSg.out {l : List Sg} (h : OSg w B v l) : ∃ A c, v = .slice A l.length c ∧ l.length ≤ c ∧ c ≤ maxLen ∧ SgsIn w A l.length l := by
 obtain ⟨ts, h1, h2⟩ := h
 obtain ⟨A, c, e, hn, hm, hs⟩ := h1.out
 rw [sgR_len h2.len] at e hn hs
 exact ⟨A, c, e, hn, hm, ts, hs, h2.all⟩
end
theorem parseCh_lt {row : List UInt8} {n : Int} {L : Nat} (h : row.length ≤ L) : (∀ p ∈ (parseCh row n).1.pp, ∀ y ∈ p.es, y.co.lt.length ≤ L) ∧ ∀ p ∈ (parseCh row n).1.pd, ∀ y ∈ p.es, y.co.lt.length ≤ L := by
 unfold parseCh finCh
 have hs : stL (some row) ≤ L := by simp only [stL]; exact h
 have h2 : stL (nnext 8 (nnext 8 (some row))) ≤ L := Nat.le_trans (nnext_stL _ _) (Nat.le_trans (nnext_stL _ _) hs)
 have h3 : stL (rdPos (nnext 8 (nnext 8 (some row)))).2 ≤ L := Nat.le_trans (rdMany_stL rdPo_stL _ _) (Nat.le_trans (cnext_stL _ _) h2)
 have h4 : stL (rdPfs 8 (rdPos (nnext 8 (nnext 8 (some row)))).2).2 ≤ L := Nat.le_trans (rdMany_stL rdPf_stL _ _) (Nat.le_trans (cnext_stL _ _) h3)
 split
 ·exact ⟨fun p hp => by simp [Ch.no] at hp, fun p hp => by simp [Ch.no] at hp⟩
 ·split
  ·exact ⟨rdPfs_lt h3, rdPfs_lt h4⟩
  ·exact ⟨fun p hp => by simp [Ch.no] at hp, fun p hp => by simp [Ch.no] at hp⟩
theorem rdSg_stL (n : Int) (st : Option (List UInt8)) : stL (rdSg n st).2 ≤ stL st := Nat.le_trans (rnext_stL _ _) (nnext_stL _ _)
theorem rdSgs_lt {n : Int} {L : Nat} : ∀ (k : Nat) (s : Option (List UInt8)), stL s ≤ L → ∀ q ∈ (rdMany (rdSg n) k s).1, (∀ p ∈ q.1.ch.pp, ∀ y ∈ p.es, y.co.lt.length ≤ L) ∧ ∀ p ∈ q.1.ch.pd, ∀ y ∈ p.es, y.co.lt.length ≤ L := fun k => by
 induction k with
 | zero => intro s _ q hq; cases hq
 | succ k ih =>
  intro s hs q hq
  cases s with
  | none => rw [rdMany_none] at hq; cases hq
  | some xs =>
   rw [rdMany_some] at hq
   rcases List.mem_cons.1 hq with rfl | hq
   ·exact parseCh_lt (Nat.le_trans (rval_stL _ _) (Nat.le_trans (nnext_stL _ _) hs))
   ·exact ih _ (Nat.le_trans (rdSg_stL _ _) hs) q hq
/-- a call that answers a view, a proof of it, and an error -/
def NvOut (w : World) (p : Int × List Sg) (er : Int) (e : Ending) (w' : World) : Prop := ∃ (A : Option Addr) (n c : Nat), e = .returned (.tuple #[.int .i64 p.1, .slice A n c, .int .i64 er]) ∧ SgsIn w' A n p.2 ∧ n ≤ c ∧ c ≤ maxLen ∧ Below w.heap.size w w'

set_option maxHeartbeats 64000000 in
set_option maxRecDepth 100000 in
theorem rparse19_any (xs : List UInt8) (N : Int) (A : Option Addr) (n c : Nat) (w : World) (h : By w (fun _ => True) A n xs) (hnc : n ≤ c) (hc : c ≤ maxLen) (hn : n ≤ 1000000) :
  Calls Try.prog 29 #[.slice A n c, .int .i64 N] w (NvOut w (parseNv xs N).1 (parseNv xs N).2) := by
 obtain ⟨P, hPP⟩ : ∃ P, parseNv xs N = P := ⟨_, rfl⟩
 rw [hPP]
 by_cases b1 : N < 1
 ·have d1 : decide (N < 1) = true := by simpa using b1
  have hP : P = ((0, []), 1) := by rw [← hPP]; unfold parseNv; rw [if_pos (by simp [badN, b1])]
  subst hP
  clear hPP h b1 hnc hc hn
  go_enter Try.func29, Try.ntmps29
  go_wp2
  go_ret3
  exact ⟨none, 0, 0, rfl, SgsIn.none_, Nat.le_refl _, by simp [maxLen], Below.refl _ _⟩
 have d1 : decide (N < 1) = false := by simpa using b1
 by_cases b2 : 7 < N
 ·have d2 : decide (7 < N) = true := by simpa using b2
  have hP : P = ((0, []), 1) := by rw [← hPP]; unfold parseNv; rw [if_pos (by simp [badN, b2])]
  subst hP
  clear hPP h b1 b2 hnc hc hn
  go_enter Try.func29, Try.ntmps29
  go_wp2
  go_ret3
  exact ⟨none, 0, 0, rfl, SgsIn.none_, Nat.le_refl _, by simp [maxLen], Below.refl _ _⟩
 have d2 : decide (7 < N) = false := by simpa using b2
 have hbn : badN N = false := by simp [badN]; omega
 have hPf : P = finNv (sx 8 (nval 8 (some xs))) (rdMany (rdSg N) (cval 7 (nnext 8 (some xs))) (cnext 7 (nnext 8 (some xs)))) N := by rw [← hPP]; unfold parseNv; rw [if_neg (by simp [hbn])]
 have hxl : stL (some xs) ≤ 1000000 := by simp only [stL]; rw [h.len]; exact hn
 have HR1 : Hid (Rs (fun b => b < w.heap.size) (w.alloc (.cells #[.slice A n c, .int .i64 0] 88)) w.heap.size tQ (some xs)) := Lib.hid (rs_built (Q := (fun b => b < w.heap.size)) (h.lt.weak fun _ h => h.2) hnc hc (by omega))
 have HX1 : Hid (Below w.heap.size w (w.alloc (.cells #[.slice A n c, .int .i64 0] 88))) := Lib.hid (below1_ w _)
 have hbr : ∀ (W : World), (Instr.build 88 #[(0, .slice A n c)]).run Try.prog W = .ok (.agg #[.slice A n c, .int .i64 0]) W := fun W => by kernel_rfl
 have HK1 : Hid (∀ W : World, Rs (fun b => b < w.heap.size) W w.heap.size tQ (some xs) → Calls Try.prog 55 #[.pointer (some ⟨w.heap.size, 0, none⟩), .int .i64 8] W fun e w' => e = .returned (.int .u64 (nval 8 (some xs))) ∧ Rs (fun b => b < w.heap.size) w' w.heap.size tQ (nnext 8 (some xs)) ∧ W.grownBy w' (some w.heap.size)) := Lib.hid (fun W h9 => rnumber_rs h9 8 rfl)
 have hc1 := fun (W : World) => conv_i64 70 2 Try.underlying70 Try.underlying2 (nval 8 (some xs)) (by have := nval_lt 8 (some xs); omega) W
 have hl1 : stL (nnext 8 (some xs)) ≤ 1000000 := Nat.le_trans (nnext_stL _ _) hxl
 generalize sx 8 (nval 8 (some xs)) = view at hPf hc1
 generalize nval 8 (some xs) = k1 at HK1 hc1
 generalize nnext 8 (some xs) = s1 at hPf HK1 hl1
 have HCn : Hid (∀ W : World, Rs (fun b => b < w.heap.size) W w.heap.size tQ s1 → Calls Try.prog 56 #[.pointer (some ⟨w.heap.size, 0, none⟩), .int .i64 7] W fun e w' => e = .returned (.int .i64 (cval 7 s1)) ∧ Rs (fun b => b < w.heap.size) w' w.heap.size tQ (cnext 7 s1) ∧ W.grownBy w' (some w.heap.size)) := Lib.hid (fun W h9 => rcount_rs h9 7)
 have hck := cval_le_ 7 s1
 have hcl := Nat.le_trans (cnext_stL 7 s1) hl1
 generalize cval 7 s1 = k7 at HCn hPf hck
 generalize cnext 7 s1 = s7 at HCn hPf hcl
 have hlt7 := rdSgs_lt (n := N) k7 s7 hcl
 obtain ⟨L, hL⟩ : ∃ L, rdMany (rdSg N) k7 s7 = L := ⟨_, rfl⟩
 rw [hL] at hPf hlt7
 have HPf := Lib.hid hPf
 have HLt := Lib.hid hlt7
 have HLL := Lib.hid hL
 have HCK := Lib.hid hck
 have HCL := Lib.hid hcl
 clear hPP h b1 b2 hnc hc hn hbn hPf hxl hl1 hL hck hcl hlt7
 go_enter Try.func29, Try.ntmps29
 go_upto_block 0 with (first
  | go_big_skip
  | (go_at_call 55; (with_reducible refine (HK1.out _ HR1.out).mono ?_); rintro e w2 ⟨rfl, hr2, hg2⟩; have HR2 := Lib.hid hr2; have HX2 : Hid (Below w.heap.size w w2) := Lib.hid (HX1.out.grown hg2 HX1.out.size (fun k hk => by have := Option.some.inj hk; omega)); have HS2 : Hid (w.heap.size + 1 ≤ w2.heap.size) := Lib.hid (by have := hg2.size; simpa using this); clear hr2 hg2)
  | (go_at_call 56; (with_reducible refine (HCn.out _ HR2.out).mono ?_); rintro e w3 ⟨rfl, hr3, hg3⟩; have HR3 := Lib.hid hr3; have HX3 : Hid (Below w.heap.size w w3) := Lib.hid (HX2.out.grown hg3 HX2.out.size (fun k hk => by have := Option.some.inj hk; omega)); have HS3 : Hid (w.heap.size + 1 ≤ w3.heap.size) := Lib.hid (Nat.le_trans HS2.out hg3.size); clear hr3 hg3))
 clear hc1
 go_cut [9, 10, 11, 12, 13, 14] from 29 to 60 (fun lv bv _ _ _ _ wx => ∃ (pre : List (Sg × Bool)) (A2 : Option Addr) (n2 c2 : Nat) (s : Option (List UInt8)), lv = .slice A2 n2 c2 ∧ bv = .bool (pre.all (·.2)) ∧ L = (pre, s) ∧ Rs (fun b => b < w.heap.size) wx w.heap.size tQ s ∧ OSg wx (w.heap.size + 1) (.slice A2 n2 c2) (pre.map (·.1)) ∧ Below w.heap.size w wx)
 case first =>
  go_wp2_with fail
  go_loopw [9, 10, 11] (fun vv bv kv wr => ∃ (r : Nat) (pre : List (Sg × Bool)) (A2 : Option Addr) (n2 c2 : Nat) (s : Option (List UInt8)), r + pre.length ≤ 7 ∧ kv = .int .i64 (r : Int) ∧ bv = .bool (pre.all (·.2)) ∧ vv = .slice A2 n2 c2 ∧ (pre ++ (rdMany (rdSg N) r s).1, (rdMany (rdSg N) r s).2) = L ∧ stL s ≤ 1000000 ∧ Rs (fun b => b < w.heap.size) wr w.heap.size tQ s ∧ OSg wr (w.heap.size + 1) (.slice A2 n2 c2) (pre.map (·.1)) ∧ Below w.heap.size w wr ∧ w.heap.size + 1 ≤ wr.heap.size) (fun _ _ kv _ => (intOf kv).toNat)
  case atStart => exact ⟨k7, [], none, 0, 0, s7, by have := HCK.out; simpa using this, rfl, rfl, rfl, by simpa using HLL.out, HCL.out, HR3.out, OSg.nil _ _, HX3.out, HS3.out⟩
  case round =>
   obtain ⟨r, pre, A2, n2, c2, s, hk, rfl, rfl, rfl, hL2, hsl, hr, ho, hx, hsz⟩ := hrel
   have HRj := Lib.hid hr
   have HOj := Lib.hid ho
   have HXj := Lib.hid hx
   have HSj := Lib.hid hsz
   have HKb := Lib.hid hk
   obtain ⟨er, hcell, her⟩ := hr.err
   obtain ⟨b0, hb0⟩ : ∃ b, pre.all (·.2) = b := ⟨_, rfl⟩
   rw [hb0]
   have HB0 := Lib.hid hb0
   clear hr ho hx hsz hk hb0
   cases r with
   | zero =>
    rw [rdMany_zero, List.append_nil] at hL2
    have HL2 := Lib.hid hL2
    clear hL2 her hcell hsl
    go_wp2
    go_meet
    case rel => exact ⟨pre, A2, n2, c2, s, rfl, by rw [HB0.out], HL2.out.symm, HRj.out, HOj.out, HXj.out⟩
   | succ r =>
    have hkd : decide ((0 : Int) < (r : Int) + 1) = true := decide_eq_true (by omega)
    have hwr : IntKind.i64.wrap ((r : Int) + 1 - 1) = (r : Int) := by rw [IntWalk.i64_in _ (by have := HKb.out; omega)]; omega
    have hwr2 : (r : Int) + 1 - 1 = (r : Int) := by omega
    have hr64 : r ≤ 64 := by have := HKb.out; omega
    cases s with
    | none =>
     rw [rdMany_none, List.append_nil] at hL2
     have HL2 := Lib.hid hL2
     have hne : (er == 0) = false := by simpa using her
     clear hL2 her hsl
     go_wp2
     go_meet
     case rel => exact ⟨pre, A2, n2, c2, none, rfl, by rw [HB0.out], HL2.out.symm, HRj.out, HOj.out, HXj.out⟩
    | some x =>
     have he0 : er = 0 := her.2 (by simp)
     subst he0
     have hLn : (pre ++ [((⟨((nval 1 (some x) : Nat) : Int), (parseCh (rval 1048576 (nnext 1 (some x))) N).1⟩ : Sg), decide ((parseCh (rval 1048576 (nnext 1 (some x))) N).2 = 0))] ++ (rdMany (rdSg N) r (rnext 1048576 (nnext 1 (some x)))).1, (rdMany (rdSg N) r (rnext 1048576 (nnext 1 (some x)))).2) = L := (rdMany_step (rdSg N) r x pre).symm.trans hL2
     have h1l : stL (nnext 1 (some x)) ≤ 1000000 := Nat.le_trans (nnext_stL _ _) hsl
     have h2l : stL (rnext 1048576 (nnext 1 (some x))) ≤ 1000000 := Nat.le_trans (rnext_stL _ _) h1l
     have hrl : (rval 1048576 (nnext 1 (some x))).length ≤ 1000000 := Nat.le_trans (rval_stL _ _) h1l
     have HN1 : Hid (∀ W : World, Rs (fun b => b < w.heap.size) W w.heap.size tQ (some x) → Calls Try.prog 55 #[.pointer (some ⟨w.heap.size, 0, none⟩), .int .i64 1] W fun e w' => e = .returned (.int .u64 (nval 1 (some x))) ∧ Rs (fun b => b < w.heap.size) w' w.heap.size tQ (nnext 1 (some x)) ∧ W.grownBy w' (some w.heap.size)) := Lib.hid (fun W h9 => rnumber_rs h9 1 rfl)
     have hcv := fun (W : World) => conv_small 70 3 Try.underlying70 Try.underlying3 (nval 1 (some x)) (by have := nval_lt 1 (some x); omega) W
     have HRw : Hid (∀ W : World, Rs (fun b => b < w.heap.size) W w.heap.size tQ (nnext 1 (some x)) → Calls Try.prog 74 #[.pointer (some ⟨w.heap.size, 0, none⟩), .int .i64 1048576] W fun e w' => ∃ B m c, e = .returned (.slice B m c) ∧ (m ≤ c ∧ c ≤ maxLen) ∧ By w' (fun b => W.heap.size ≤ b) B m (rval 1048576 (nnext 1 (some x))) ∧ Rs (fun b => b < w.heap.size) w' w.heap.size tQ (rnext 1048576 (nnext 1 (some x))) ∧ W.grownBy w' (some w.heap.size)) := Lib.hid (fun W h9 => by
      have h8 := rrow_rsF h9 1048576 (by omega)
      rw [show ((1048576 : Nat) : Int) = 1048576 from rfl] at h8
      exact h8)
     have HPa : Hid (∀ (B : Option Addr) (m d : Nat) (W : World), By W (fun _ => True) B m (rval 1048576 (nnext 1 (some x))) → m ≤ d → d ≤ maxLen → Calls Try.prog 16 #[.slice B m d, .int .i64 N] W (ChOutO W (parseCh (rval 1048576 (nnext 1 (some x))) N).1 (parseCh (rval 1048576 (nnext 1 (some x))) N).2)) := Lib.hid (fun B m d W h9 h8 h7 => rparse18_own _ N B m d W h9 h8 h7 (by rw [← h9.len]; exact hrl))
     clear hL2 her hsl h1l hrl
     generalize parseCh (rval 1048576 (nnext 1 (some x))) N = D at hLn HPa
     obtain ⟨C5, e5⟩ := D
     simp only at hLn HPa
     generalize hfr : ((nval 1 (some x) : Nat) : Int) = fr at hLn
     generalize nval 1 (some x) = k0 at HN1 hcv hfr
     subst hfr
     generalize (rval 1048576 (nnext 1 (some x))) = row at HRw HPa
     generalize (rnext 1048576 (nnext 1 (some x))) = s2 at hLn HRw h2l
     generalize (nnext 1 (some x)) = s1 at HN1 HRw
     obtain ⟨fr, hfr⟩ : ∃ f : Int, f = (k0 : Int) := ⟨_, rfl⟩
     rw [← hfr] at hLn
     have hcv2 : ∀ W : World, (convert 70 3 (.int .u64 (k0 : Int))).run Try.prog W = .ok (.int .i64 fr) W := fun W => by rw [hfr]; exact hcv W
     have HSl := Lib.hid h2l
     clear hfr hcv h2l
     by_cases he5 : e5 = 0
     ·have hd5 : decide (e5 = 0) = true := by simpa using he5
      have he6 : (e5 == 0) = true := by simpa using he5
      rw [hd5] at hLn
      have HLn := Lib.hid hLn
      clear hLn hd5 he5
      cases b0 with
      | false =>
       go_wp2_with (first
        | go_big_skip
        | (go_at_call 55; (with_reducible refine (HN1.out _ HRj.out).mono ?_); rintro e v1 ⟨rfl, hr1, hg1⟩; have HRa := Lib.hid hr1; have J1 := Lib.hid hg1; clear hr1 hg1)
        | (go_at_call 74; (with_reducible refine (HRw.out _ HRa.out).mono ?_); rintro e v2 ⟨Br, mr, cr, rfl, ⟨hcr, hmr⟩, hy2, hr2, hg2⟩; have HRb := Lib.hid hr2; have J2 := Lib.hid (only_trans J1.out hg2); have HY2 := Lib.hid (hy2.weak (Q' := fun _ => True) fun _ _ => trivial); have HC2 := Lib.hid (And.intro hcr hmr); clear hr2 hg2 hy2 hcr hmr)
        | (go_at_call 16; (with_reducible refine (HPa.out _ _ _ _ HY2.out HC2.out.1 HC2.out.2).mono ?_); rintro e v3 ⟨P5, Q5, R5, rfl, ho3, hb3⟩; have HRc := Lib.hid (HRb.out.below hb3); have J3 := Lib.hid (only_trans J2.out (only_below hb3)); have HO3 := Lib.hid (ho3.weak (show w.heap.size + 1 ≤ v2.heap.size by have := HSj.out; have := J2.out.size; omega)); clear ho3 hb3)
        | (refine wpList_store_blk rfl 25 (.tmp 13) (.tmp 48) rfl v3.heap.size (Ch.cells C5 P5 Q5 R5) rfl rfl 25 [.int .i64 0, .int .i64 0, .slice none 0 0, .slice none 0 0, .slice none 0 0] (Blk.fresh rfl rfl) (by kernel_rfl) rfl (one5h _ _ _ _) ?_; intro v4 hb4 hg4; have HB4 := Lib.hid hb4; have hlow4 := below_new hg4; have HRd := Lib.hid (HRc.out.below hlow4); have J4 := Lib.hid (only_trans J3.out (only_below hlow4)); have HO4 := Lib.hid (HO3.out.through hlow4); obtain ⟨ts, ho4, ha4⟩ := HOj.out.off J4.out (by omega); have HS4 := Lib.hid ho4; have HA4 := Lib.hid ha4; have HZ4 : Hid (w.heap.size + 1 ≤ v4.heap.size) := Lib.hid (Nat.le_trans HSj.out J4.out.size); clear hb4 hg4 hlow4 ho4 ha4)
        | (refine wpList_load_blk rfl 25 (.tmp 13) rfl v3.heap.size rfl 25 (Ch.cells C5 P5 Q5 R5) _ HB4.out Try.underlying25 rfl (by kernel_rfl) ?_)
        | (refine wpList_build_to rfl 106 _ rfl [(0, .int .i64 fr), (1, .agg (Ch.cells C5 P5 Q5 R5).toArray)] rfl (.agg (sgC ⟨fr, C5⟩ (P5, Q5, R5)).toArray) (Try.build_sg _ _ _ _ _ _) ?_)
        | (refine wpList_build_el rfl Try.el_sg (.tmp 58) rfl (sgC ⟨fr, C5⟩ (P5, Q5, R5)) rfl rfl ?_)
        | (at_builtin; refine wpList_append_el rfl Try.el_sg (.tmp 55) (.tmp 59) rfl (w.heap.size + 1) (.slice A2 n2 c2) (sgR (pre.map (·.1)) ts) rfl (HS4.out.alloc (.cells (sgC ⟨fr, C5⟩ (P5, Q5, R5)).toArray 106)) v4.heap.size (sgC ⟨fr, C5⟩ (P5, Q5, R5)) rfl (Blk.fresh rfl rfl) rfl (sgC_one _ _) (by rw [sgR_len HA4.out.len, List.length_map]; have := HKb.out; omega) (by have := HZ4.out; simp; omega) ?_; intro v7 w9 ho7 hg7; have HW := Lib.hid (fun b hb => (HS4.out.lt b hb).1); obtain ⟨A7, N7, c7, rfl⟩ : ∃ (A : Option Addr) (N c : Nat), v7 = .slice A N c := (by obtain ⟨A, c, h9, _⟩ := ho7.out; exact ⟨A, _, c, h9⟩); have HE9 := (HO4.out.through (below1_ v4 (.cells (sgC ⟨fr, C5⟩ (P5, Q5, R5)).toArray 106))).own (HS4.out.alloc (.cells (sgC ⟨fr, C5⟩ (P5, Q5, R5)).toArray 106)) hg7; have HA9 := Lib.hid (AllO.snoc (s := (⟨fr, C5⟩ : Sg)) (t := (P5, Q5, R5)) ((HA4.out.through (below1_ v4 (.cells (sgC ⟨fr, C5⟩ (P5, Q5, R5)).toArray 106))).own (HS4.out.alloc (.cells (sgC ⟨fr, C5⟩ (P5, Q5, R5)).toArray 106)) hg7) HE9); clear HE9; have HO9 : Hid (OSg w9 (w.heap.size + 1) (.slice A7 N7 c7) ((pre ++ [((⟨fr, C5⟩ : Sg), true)]).map (·.1))) := Lib.hid ⟨ts ++ [(P5, Q5, R5)], by rw [List.map_append, show [((⟨fr, C5⟩ : Sg), true)].map (·.1) = [(⟨fr, C5⟩ : Sg)] from rfl, sgR_snoc HA4.out.len]; exact ho7, by rw [List.map_append]; exact HA9.out⟩; have HR9 := Lib.hid ((HRd.out.alloc (.cells (sgC ⟨fr, C5⟩ (P5, Q5, R5)).toArray 106)).other hg7 (fun b hb => ⟨fun e => by have := HW.out b hb; omega, fun h9 => by have := HW.out b hb; omega⟩)); have HX4 : Hid (Below w.heap.size w (v4.alloc (.cells (sgC ⟨fr, C5⟩ (P5, Q5, R5)).toArray 106))) := Lib.hid ((HXj.out.grown J4.out HXj.out.size (fun k hk => by have := Option.some.inj hk; omega)).alloc (HXj.out.grown J4.out HXj.out.size (fun k hk => by have := Option.some.inj hk; omega)).size _); have HX9 : Hid (Below w.heap.size w w9) := Lib.hid (HX4.out.grown hg7 HX4.out.size (fun b hb => by have := HW.out b hb; omega)); have HS9 : Hid (w.heap.size + 1 ≤ w9.heap.size) := Lib.hid (Nat.le_trans HZ4.out (Nat.le_trans (below1_ v4 (.cells (sgC ⟨fr, C5⟩ (P5, Q5, R5)).toArray 106)).size hg7.size)); clear ho7 hg7))
       go_roundw
       case rel => exact ⟨r, pre ++ [((⟨fr, C5⟩ : Sg), true)], A7, N7, c7, s2, (by have := HKb.out; simp; omega), by go_num, congrArg Value.bool (by rw [List.all_append, HB0.out]; rfl), rfl, HLn.out, HSl.out, HR9.out, HO9.out, HX9.out, HS9.out⟩
       case measure => simp [intOf]
      | true =>
       go_wp2_with (first
        | go_big_skip
        | (go_at_call 55; (with_reducible refine (HN1.out _ HRj.out).mono ?_); rintro e v1 ⟨rfl, hr1, hg1⟩; have HRa := Lib.hid hr1; have J1 := Lib.hid hg1; clear hr1 hg1)
        | (go_at_call 74; (with_reducible refine (HRw.out _ HRa.out).mono ?_); rintro e v2 ⟨Br, mr, cr, rfl, ⟨hcr, hmr⟩, hy2, hr2, hg2⟩; have HRb := Lib.hid hr2; have J2 := Lib.hid (only_trans J1.out hg2); have HY2 := Lib.hid (hy2.weak (Q' := fun _ => True) fun _ _ => trivial); have HC2 := Lib.hid (And.intro hcr hmr); clear hr2 hg2 hy2 hcr hmr)
        | (go_at_call 16; (with_reducible refine (HPa.out _ _ _ _ HY2.out HC2.out.1 HC2.out.2).mono ?_); rintro e v3 ⟨P5, Q5, R5, rfl, ho3, hb3⟩; have HRc := Lib.hid (HRb.out.below hb3); have J3 := Lib.hid (only_trans J2.out (only_below hb3)); have HO3 := Lib.hid (ho3.weak (show w.heap.size + 1 ≤ v2.heap.size by have := HSj.out; have := J2.out.size; omega)); clear ho3 hb3)
        | (refine wpList_store_blk rfl 25 (.tmp 13) (.tmp 48) rfl v3.heap.size (Ch.cells C5 P5 Q5 R5) rfl rfl 25 [.int .i64 0, .int .i64 0, .slice none 0 0, .slice none 0 0, .slice none 0 0] (Blk.fresh rfl rfl) (by kernel_rfl) rfl (one5h _ _ _ _) ?_; intro v4 hb4 hg4; have HB4 := Lib.hid hb4; have hlow4 := below_new hg4; have HRd := Lib.hid (HRc.out.below hlow4); have J4 := Lib.hid (only_trans J3.out (only_below hlow4)); have HO4 := Lib.hid (HO3.out.through hlow4); obtain ⟨ts, ho4, ha4⟩ := HOj.out.off J4.out (by omega); have HS4 := Lib.hid ho4; have HA4 := Lib.hid ha4; have HZ4 : Hid (w.heap.size + 1 ≤ v4.heap.size) := Lib.hid (Nat.le_trans HSj.out J4.out.size); clear hb4 hg4 hlow4 ho4 ha4)
        | (refine wpList_load_blk rfl 25 (.tmp 13) rfl v3.heap.size rfl 25 (Ch.cells C5 P5 Q5 R5) _ HB4.out Try.underlying25 rfl (by kernel_rfl) ?_)
        | (refine wpList_build_to rfl 106 _ rfl [(0, .int .i64 fr), (1, .agg (Ch.cells C5 P5 Q5 R5).toArray)] rfl (.agg (sgC ⟨fr, C5⟩ (P5, Q5, R5)).toArray) (Try.build_sg _ _ _ _ _ _) ?_)
        | (refine wpList_build_el rfl Try.el_sg (.tmp 58) rfl (sgC ⟨fr, C5⟩ (P5, Q5, R5)) rfl rfl ?_)
        | (at_builtin; refine wpList_append_el rfl Try.el_sg (.tmp 55) (.tmp 59) rfl (w.heap.size + 1) (.slice A2 n2 c2) (sgR (pre.map (·.1)) ts) rfl (HS4.out.alloc (.cells (sgC ⟨fr, C5⟩ (P5, Q5, R5)).toArray 106)) v4.heap.size (sgC ⟨fr, C5⟩ (P5, Q5, R5)) rfl (Blk.fresh rfl rfl) rfl (sgC_one _ _) (by rw [sgR_len HA4.out.len, List.length_map]; have := HKb.out; omega) (by have := HZ4.out; simp; omega) ?_; intro v7 w9 ho7 hg7; have HW := Lib.hid (fun b hb => (HS4.out.lt b hb).1); obtain ⟨A7, N7, c7, rfl⟩ : ∃ (A : Option Addr) (N c : Nat), v7 = .slice A N c := (by obtain ⟨A, c, h9, _⟩ := ho7.out; exact ⟨A, _, c, h9⟩); have HE9 := (HO4.out.through (below1_ v4 (.cells (sgC ⟨fr, C5⟩ (P5, Q5, R5)).toArray 106))).own (HS4.out.alloc (.cells (sgC ⟨fr, C5⟩ (P5, Q5, R5)).toArray 106)) hg7; have HA9 := Lib.hid (AllO.snoc (s := (⟨fr, C5⟩ : Sg)) (t := (P5, Q5, R5)) ((HA4.out.through (below1_ v4 (.cells (sgC ⟨fr, C5⟩ (P5, Q5, R5)).toArray 106))).own (HS4.out.alloc (.cells (sgC ⟨fr, C5⟩ (P5, Q5, R5)).toArray 106)) hg7) HE9); clear HE9; have HO9 : Hid (OSg w9 (w.heap.size + 1) (.slice A7 N7 c7) ((pre ++ [((⟨fr, C5⟩ : Sg), true)]).map (·.1))) := Lib.hid ⟨ts ++ [(P5, Q5, R5)], by rw [List.map_append, show [((⟨fr, C5⟩ : Sg), true)].map (·.1) = [(⟨fr, C5⟩ : Sg)] from rfl, sgR_snoc HA4.out.len]; exact ho7, by rw [List.map_append]; exact HA9.out⟩; have HR9 := Lib.hid ((HRd.out.alloc (.cells (sgC ⟨fr, C5⟩ (P5, Q5, R5)).toArray 106)).other hg7 (fun b hb => ⟨fun e => by have := HW.out b hb; omega, fun h9 => by have := HW.out b hb; omega⟩)); have HX4 : Hid (Below w.heap.size w (v4.alloc (.cells (sgC ⟨fr, C5⟩ (P5, Q5, R5)).toArray 106))) := Lib.hid ((HXj.out.grown J4.out HXj.out.size (fun k hk => by have := Option.some.inj hk; omega)).alloc (HXj.out.grown J4.out HXj.out.size (fun k hk => by have := Option.some.inj hk; omega)).size _); have HX9 : Hid (Below w.heap.size w w9) := Lib.hid (HX4.out.grown hg7 HX4.out.size (fun b hb => by have := HW.out b hb; omega)); have HS9 : Hid (w.heap.size + 1 ≤ w9.heap.size) := Lib.hid (Nat.le_trans HZ4.out (Nat.le_trans (below1_ v4 (.cells (sgC ⟨fr, C5⟩ (P5, Q5, R5)).toArray 106)).size hg7.size)); clear ho7 hg7))
       go_roundw
       case rel => exact ⟨r, pre ++ [((⟨fr, C5⟩ : Sg), true)], A7, N7, c7, s2, (by have := HKb.out; simp; omega), by go_num, congrArg Value.bool (by rw [List.all_append, HB0.out]; rfl), rfl, HLn.out, HSl.out, HR9.out, HO9.out, HX9.out, HS9.out⟩
       case measure => simp [intOf]
     ·have hd5 : decide (e5 = 0) = false := by simpa using he5
      have he6 : (e5 == 0) = false := by simpa using he5
      rw [hd5] at hLn
      have HLn := Lib.hid hLn
      clear hLn hd5 he5
      cases b0 with
      | false =>
       go_wp2_with (first
        | go_big_skip
        | (go_at_call 55; (with_reducible refine (HN1.out _ HRj.out).mono ?_); rintro e v1 ⟨rfl, hr1, hg1⟩; have HRa := Lib.hid hr1; have J1 := Lib.hid hg1; clear hr1 hg1)
        | (go_at_call 74; (with_reducible refine (HRw.out _ HRa.out).mono ?_); rintro e v2 ⟨Br, mr, cr, rfl, ⟨hcr, hmr⟩, hy2, hr2, hg2⟩; have HRb := Lib.hid hr2; have J2 := Lib.hid (only_trans J1.out hg2); have HY2 := Lib.hid (hy2.weak (Q' := fun _ => True) fun _ _ => trivial); have HC2 := Lib.hid (And.intro hcr hmr); clear hr2 hg2 hy2 hcr hmr)
        | (go_at_call 16; (with_reducible refine (HPa.out _ _ _ _ HY2.out HC2.out.1 HC2.out.2).mono ?_); rintro e v3 ⟨P5, Q5, R5, rfl, ho3, hb3⟩; have HRc := Lib.hid (HRb.out.below hb3); have J3 := Lib.hid (only_trans J2.out (only_below hb3)); have HO3 := Lib.hid (ho3.weak (show w.heap.size + 1 ≤ v2.heap.size by have := HSj.out; have := J2.out.size; omega)); clear ho3 hb3)
        | (refine wpList_store_blk rfl 25 (.tmp 13) (.tmp 48) rfl v3.heap.size (Ch.cells C5 P5 Q5 R5) rfl rfl 25 [.int .i64 0, .int .i64 0, .slice none 0 0, .slice none 0 0, .slice none 0 0] (Blk.fresh rfl rfl) (by kernel_rfl) rfl (one5h _ _ _ _) ?_; intro v4 hb4 hg4; have HB4 := Lib.hid hb4; have hlow4 := below_new hg4; have HRd := Lib.hid (HRc.out.below hlow4); have J4 := Lib.hid (only_trans J3.out (only_below hlow4)); have HO4 := Lib.hid (HO3.out.through hlow4); obtain ⟨ts, ho4, ha4⟩ := HOj.out.off J4.out (by omega); have HS4 := Lib.hid ho4; have HA4 := Lib.hid ha4; have HZ4 : Hid (w.heap.size + 1 ≤ v4.heap.size) := Lib.hid (Nat.le_trans HSj.out J4.out.size); clear hb4 hg4 hlow4 ho4 ha4)
        | (refine wpList_load_blk rfl 25 (.tmp 13) rfl v3.heap.size rfl 25 (Ch.cells C5 P5 Q5 R5) _ HB4.out Try.underlying25 rfl (by kernel_rfl) ?_)
        | (refine wpList_build_to rfl 106 _ rfl [(0, .int .i64 fr), (1, .agg (Ch.cells C5 P5 Q5 R5).toArray)] rfl (.agg (sgC ⟨fr, C5⟩ (P5, Q5, R5)).toArray) (Try.build_sg _ _ _ _ _ _) ?_)
        | (refine wpList_build_el rfl Try.el_sg (.tmp 58) rfl (sgC ⟨fr, C5⟩ (P5, Q5, R5)) rfl rfl ?_)
        | (at_builtin; refine wpList_append_el rfl Try.el_sg (.tmp 55) (.tmp 59) rfl (w.heap.size + 1) (.slice A2 n2 c2) (sgR (pre.map (·.1)) ts) rfl (HS4.out.alloc (.cells (sgC ⟨fr, C5⟩ (P5, Q5, R5)).toArray 106)) v4.heap.size (sgC ⟨fr, C5⟩ (P5, Q5, R5)) rfl (Blk.fresh rfl rfl) rfl (sgC_one _ _) (by rw [sgR_len HA4.out.len, List.length_map]; have := HKb.out; omega) (by have := HZ4.out; simp; omega) ?_; intro v7 w9 ho7 hg7; have HW := Lib.hid (fun b hb => (HS4.out.lt b hb).1); obtain ⟨A7, N7, c7, rfl⟩ : ∃ (A : Option Addr) (N c : Nat), v7 = .slice A N c := (by obtain ⟨A, c, h9, _⟩ := ho7.out; exact ⟨A, _, c, h9⟩); have HE9 := (HO4.out.through (below1_ v4 (.cells (sgC ⟨fr, C5⟩ (P5, Q5, R5)).toArray 106))).own (HS4.out.alloc (.cells (sgC ⟨fr, C5⟩ (P5, Q5, R5)).toArray 106)) hg7; have HA9 := Lib.hid (AllO.snoc (s := (⟨fr, C5⟩ : Sg)) (t := (P5, Q5, R5)) ((HA4.out.through (below1_ v4 (.cells (sgC ⟨fr, C5⟩ (P5, Q5, R5)).toArray 106))).own (HS4.out.alloc (.cells (sgC ⟨fr, C5⟩ (P5, Q5, R5)).toArray 106)) hg7) HE9); clear HE9; have HO9 : Hid (OSg w9 (w.heap.size + 1) (.slice A7 N7 c7) ((pre ++ [((⟨fr, C5⟩ : Sg), false)]).map (·.1))) := Lib.hid ⟨ts ++ [(P5, Q5, R5)], by rw [List.map_append, show [((⟨fr, C5⟩ : Sg), false)].map (·.1) = [(⟨fr, C5⟩ : Sg)] from rfl, sgR_snoc HA4.out.len]; exact ho7, by rw [List.map_append]; exact HA9.out⟩; have HR9 := Lib.hid ((HRd.out.alloc (.cells (sgC ⟨fr, C5⟩ (P5, Q5, R5)).toArray 106)).other hg7 (fun b hb => ⟨fun e => by have := HW.out b hb; omega, fun h9 => by have := HW.out b hb; omega⟩)); have HX4 : Hid (Below w.heap.size w (v4.alloc (.cells (sgC ⟨fr, C5⟩ (P5, Q5, R5)).toArray 106))) := Lib.hid ((HXj.out.grown J4.out HXj.out.size (fun k hk => by have := Option.some.inj hk; omega)).alloc (HXj.out.grown J4.out HXj.out.size (fun k hk => by have := Option.some.inj hk; omega)).size _); have HX9 : Hid (Below w.heap.size w w9) := Lib.hid (HX4.out.grown hg7 HX4.out.size (fun b hb => by have := HW.out b hb; omega)); have HS9 : Hid (w.heap.size + 1 ≤ w9.heap.size) := Lib.hid (Nat.le_trans HZ4.out (Nat.le_trans (below1_ v4 (.cells (sgC ⟨fr, C5⟩ (P5, Q5, R5)).toArray 106)).size hg7.size)); clear ho7 hg7))
       go_roundw
       case rel => exact ⟨r, pre ++ [((⟨fr, C5⟩ : Sg), false)], A7, N7, c7, s2, (by have := HKb.out; simp; omega), by go_num, congrArg Value.bool (by rw [List.all_append, HB0.out]; rfl), rfl, HLn.out, HSl.out, HR9.out, HO9.out, HX9.out, HS9.out⟩
       case measure => simp [intOf]
      | true =>
       go_wp2_with (first
        | go_big_skip
        | (go_at_call 55; (with_reducible refine (HN1.out _ HRj.out).mono ?_); rintro e v1 ⟨rfl, hr1, hg1⟩; have HRa := Lib.hid hr1; have J1 := Lib.hid hg1; clear hr1 hg1)
        | (go_at_call 74; (with_reducible refine (HRw.out _ HRa.out).mono ?_); rintro e v2 ⟨Br, mr, cr, rfl, ⟨hcr, hmr⟩, hy2, hr2, hg2⟩; have HRb := Lib.hid hr2; have J2 := Lib.hid (only_trans J1.out hg2); have HY2 := Lib.hid (hy2.weak (Q' := fun _ => True) fun _ _ => trivial); have HC2 := Lib.hid (And.intro hcr hmr); clear hr2 hg2 hy2 hcr hmr)
        | (go_at_call 16; (with_reducible refine (HPa.out _ _ _ _ HY2.out HC2.out.1 HC2.out.2).mono ?_); rintro e v3 ⟨P5, Q5, R5, rfl, ho3, hb3⟩; have HRc := Lib.hid (HRb.out.below hb3); have J3 := Lib.hid (only_trans J2.out (only_below hb3)); have HO3 := Lib.hid (ho3.weak (show w.heap.size + 1 ≤ v2.heap.size by have := HSj.out; have := J2.out.size; omega)); clear ho3 hb3)
        | (refine wpList_store_blk rfl 25 (.tmp 13) (.tmp 48) rfl v3.heap.size (Ch.cells C5 P5 Q5 R5) rfl rfl 25 [.int .i64 0, .int .i64 0, .slice none 0 0, .slice none 0 0, .slice none 0 0] (Blk.fresh rfl rfl) (by kernel_rfl) rfl (one5h _ _ _ _) ?_; intro v4 hb4 hg4; have HB4 := Lib.hid hb4; have hlow4 := below_new hg4; have HRd := Lib.hid (HRc.out.below hlow4); have J4 := Lib.hid (only_trans J3.out (only_below hlow4)); have HO4 := Lib.hid (HO3.out.through hlow4); obtain ⟨ts, ho4, ha4⟩ := HOj.out.off J4.out (by omega); have HS4 := Lib.hid ho4; have HA4 := Lib.hid ha4; have HZ4 : Hid (w.heap.size + 1 ≤ v4.heap.size) := Lib.hid (Nat.le_trans HSj.out J4.out.size); clear hb4 hg4 hlow4 ho4 ha4)
        | (refine wpList_load_blk rfl 25 (.tmp 13) rfl v3.heap.size rfl 25 (Ch.cells C5 P5 Q5 R5) _ HB4.out Try.underlying25 rfl (by kernel_rfl) ?_)
        | (refine wpList_build_to rfl 106 _ rfl [(0, .int .i64 fr), (1, .agg (Ch.cells C5 P5 Q5 R5).toArray)] rfl (.agg (sgC ⟨fr, C5⟩ (P5, Q5, R5)).toArray) (Try.build_sg _ _ _ _ _ _) ?_)
        | (refine wpList_build_el rfl Try.el_sg (.tmp 58) rfl (sgC ⟨fr, C5⟩ (P5, Q5, R5)) rfl rfl ?_)
        | (at_builtin; refine wpList_append_el rfl Try.el_sg (.tmp 55) (.tmp 59) rfl (w.heap.size + 1) (.slice A2 n2 c2) (sgR (pre.map (·.1)) ts) rfl (HS4.out.alloc (.cells (sgC ⟨fr, C5⟩ (P5, Q5, R5)).toArray 106)) v4.heap.size (sgC ⟨fr, C5⟩ (P5, Q5, R5)) rfl (Blk.fresh rfl rfl) rfl (sgC_one _ _) (by rw [sgR_len HA4.out.len, List.length_map]; have := HKb.out; omega) (by have := HZ4.out; simp; omega) ?_; intro v7 w9 ho7 hg7; have HW := Lib.hid (fun b hb => (HS4.out.lt b hb).1); obtain ⟨A7, N7, c7, rfl⟩ : ∃ (A : Option Addr) (N c : Nat), v7 = .slice A N c := (by obtain ⟨A, c, h9, _⟩ := ho7.out; exact ⟨A, _, c, h9⟩); have HE9 := (HO4.out.through (below1_ v4 (.cells (sgC ⟨fr, C5⟩ (P5, Q5, R5)).toArray 106))).own (HS4.out.alloc (.cells (sgC ⟨fr, C5⟩ (P5, Q5, R5)).toArray 106)) hg7; have HA9 := Lib.hid (AllO.snoc (s := (⟨fr, C5⟩ : Sg)) (t := (P5, Q5, R5)) ((HA4.out.through (below1_ v4 (.cells (sgC ⟨fr, C5⟩ (P5, Q5, R5)).toArray 106))).own (HS4.out.alloc (.cells (sgC ⟨fr, C5⟩ (P5, Q5, R5)).toArray 106)) hg7) HE9); clear HE9; have HO9 : Hid (OSg w9 (w.heap.size + 1) (.slice A7 N7 c7) ((pre ++ [((⟨fr, C5⟩ : Sg), false)]).map (·.1))) := Lib.hid ⟨ts ++ [(P5, Q5, R5)], by rw [List.map_append, show [((⟨fr, C5⟩ : Sg), false)].map (·.1) = [(⟨fr, C5⟩ : Sg)] from rfl, sgR_snoc HA4.out.len]; exact ho7, by rw [List.map_append]; exact HA9.out⟩; have HR9 := Lib.hid ((HRd.out.alloc (.cells (sgC ⟨fr, C5⟩ (P5, Q5, R5)).toArray 106)).other hg7 (fun b hb => ⟨fun e => by have := HW.out b hb; omega, fun h9 => by have := HW.out b hb; omega⟩)); have HX4 : Hid (Below w.heap.size w (v4.alloc (.cells (sgC ⟨fr, C5⟩ (P5, Q5, R5)).toArray 106))) := Lib.hid ((HXj.out.grown J4.out HXj.out.size (fun k hk => by have := Option.some.inj hk; omega)).alloc (HXj.out.grown J4.out HXj.out.size (fun k hk => by have := Option.some.inj hk; omega)).size _); have HX9 : Hid (Below w.heap.size w w9) := Lib.hid (HX4.out.grown hg7 HX4.out.size (fun b hb => by have := HW.out b hb; omega)); have HS9 : Hid (w.heap.size + 1 ≤ w9.heap.size) := Lib.hid (Nat.le_trans HZ4.out (Nat.le_trans (below1_ v4 (.cells (sgC ⟨fr, C5⟩ (P5, Q5, R5)).toArray 106)).size hg7.size)); clear ho7 hg7))
       go_roundw
       case rel => exact ⟨r, pre ++ [((⟨fr, C5⟩ : Sg), false)], A7, N7, c7, s2, (by have := HKb.out; simp; omega), by go_num, congrArg Value.bool (by rw [List.all_append, HB0.out]; rfl), rfl, HLn.out, HSl.out, HR9.out, HO9.out, HX9.out, HS9.out⟩
       case measure => simp [intOf]
 case rest =>
  obtain ⟨pre, A2, n2, c2, s, rfl, rfl, hLe, hr, ho, hx⟩ := hcut
  have hPf := HPf.out
  have hlt := HLt.out
  rw [hLe] at hPf hlt
  simp only at hlt
  unfold finNv at hPf
  simp only at hPf
  obtain ⟨A3, c3, e3, hn3, hm3, hi3⟩ := ho.out
  injection e3 with x1 x2 x3
  obtain ⟨l, hlp⟩ : ∃ l, pre.map (·.1) = l := ⟨_, rfl⟩
  rw [hlp] at hPf hi3 hn3 x2
  have hll : ∀ q ∈ l, (∀ p ∈ q.ch.pp, ∀ y ∈ p.es, y.co.lt.length ≤ 1000000) ∧ ∀ p ∈ q.ch.pd, ∀ y ∈ p.es, y.co.lt.length ≤ 1000000 := fun q hq => by
   rw [← hlp] at hq
   obtain ⟨z, h2, rfl⟩ := List.mem_map.1 hq
   exact hlt z h2
  subst x1 x2 x3
  have HCk : Hid (Calls Try.prog 25 #[.int .i64 view, .slice A2 l.length c2, .int .i64 N] wc fun e w' => e = .returned (.int .i64 (chkNv view l N)) ∧ Below wc.heap.size wc w') := Lib.hid (rcheck19_any view l N A2 l.length c2 wc hi3 hn3 hm3 hll)
  obtain ⟨ck, hck⟩ : ∃ e, chkNv view l N = e := ⟨_, rfl⟩
  obtain ⟨b0, hb0⟩ : ∃ b, pre.all (·.2) = b := ⟨_, rfl⟩
  rw [hck] at HCk hPf
  rw [hb0] at hPf
  rw [hb0]
  have HRz := Lib.hid hr
  have HXz := Lib.hid hx
  have HIz := Lib.hid hi3
  have HQf := Lib.hid hPf
  have HM3 := Lib.hid (And.intro hn3 hm3)
  clear hr ho hx hLe hPf hlt hi3 hll hck hb0 hlp hn3 hm3
  by_cases hst : s = some []
  case neg =>
   have HST := Lib.hid hst
   have hpe : P = ((0, []), 2) := by rw [HQf.out, if_neg (fun h => hst h.1)]
   subst hpe
   clear hst
   go_wp2_with (first
    | go_big_skip
    | (go_at_call 59; (refine (rend_rs HRz.out).mono ?_); rintro e wE ⟨x6, rfl, hx6, rfl⟩; have hx0 : ¬ x6 = 0 := (fun h9 => HST.out (hx6.1 h9)); have hxb : (x6 == 0) = false := (by simpa using hx0); have hxd : (x6 != 0) = true := (by simpa using hx0); clear hx6 hx0))
   go_ret3
   exact ⟨none, 0, 0, rfl, SgsIn.none_, Nat.le_refl _, by simp [maxLen], HXz.out⟩
  have HST := Lib.hid hst
  clear hst
  cases b0 with
  | false =>
   have hpe : P = ((0, []), 2) := by rw [HQf.out, if_neg (fun h => by simp at h)]
   subst hpe
   go_wp2_with (first
    | go_big_skip
    | (go_at_call 59; (refine (rend_rs HRz.out).mono ?_); rintro e wE ⟨x6, rfl, hx6, rfl⟩; have hx0 : x6 = 0 := hx6.2 HST.out; subst hx0; clear hx6))
   go_ret3
   exact ⟨none, 0, 0, rfl, SgsIn.none_, Nat.le_refl _, by simp [maxLen], HXz.out⟩
  | true =>
  by_cases hk0 : ck = 0
  case neg =>
   have hpe : P = ((0, []), 2) := by rw [HQf.out, if_neg (fun h => hk0 h.2.2)]
   subst hpe
   have hkb : (ck == 0) = false := by simpa using hk0
   have hkd : (ck != 0) = true := by simpa using hk0
   clear hk0
   go_wp2_with (first
    | go_big_skip
    | (go_at_call 59; (refine (rend_rs HRz.out).mono ?_); rintro e wE ⟨x6, rfl, hx6, rfl⟩; have hx0 : x6 = 0 := hx6.2 HST.out; subst hx0; clear hx6)
    | (go_at_call 25; (with_reducible refine HCk.out.mono ?_); rintro e wk ⟨rfl, hbk⟩; have HXk := Lib.hid (below_step HXz.out hbk); have HIk := Lib.hid (HIz.out.through hbk); clear hbk))
   go_ret3
   exact ⟨none, 0, 0, rfl, SgsIn.none_, Nat.le_refl _, by simp [maxLen], HXk.out⟩
  have hpe : P = ((view, l), 0) := by rw [HQf.out, if_pos ⟨HST.out, rfl, hk0⟩]
  subst hpe
  subst hk0
  go_wp2_with (first
   | go_big_skip
   | (go_at_call 59; (refine (rend_rs HRz.out).mono ?_); rintro e wE ⟨x6, rfl, hx6, rfl⟩; have hx0 : x6 = 0 := hx6.2 HST.out; subst hx0; clear hx6)
   | (go_at_call 25; (with_reducible refine HCk.out.mono ?_); rintro e wk ⟨rfl, hbk⟩; have HXk := Lib.hid (below_step HXz.out hbk); have HIk := Lib.hid (HIz.out.through hbk); clear hbk))
  go_ret3
  exact ⟨A2, l.length, c2, rfl, HIk.out, HM3.out.1, HM3.out.2, HXk.out⟩

end Go.Proofs.Ytheecifgbkdecaa
