/-
  BaQ ChQ BaE ChB
-/
import Derived.Deep.CutRange
import Derived.Test.YtheecifgbkdecaaSN16
import Derived.Test.YtheecifgbkdecaaSN9
import Derived.Test.YtheecifgbkdecaaSN7
import Derived.Test.YtheecifgbkdecaaSN17
import Derived.BigGuard
import Derived.Test.YtheecifgbkdecaaSN12
import Derived.Deep.RegionHeld
import Derived.Test.YtheecifgbkdecaaSN11
import Derived.Test.YtheecifgbkdecaaSN8
import Derived.Test.YtheecifgbkdecaaSN14
import Derived.Test.YtheecifgbkdecaaSN5
import Derived.Test.YtheecifgbkdecaaSNT
namespace Go.Proofs.Ytheecifgbkdecaa
open Go.RowKit

theorem OEy.only {w w' : World} {B g : Nat} {v : Value} {es : List Ey} {t : TypeId} {cs : Array Value} {fz : Nat × Nat} (h : OEy w B v es) (hb : w.grownBy w' (some g)) (hg : w.heap[g]? = some (.cells cs t fz)) (hne : t ≠ 61) : OEy w' B v es := ⟨h.1.only hb hg hne, h.2⟩
end Go.Proofs.Ytheecifgbkdecaa

namespace Go.Proofs.Ytheecifgbkdecaa
open Go.RowKit

theorem pf_ne : (55 : TypeId) ≠ 61 := by decide
section
variable {w w' : World} {B : Nat} {v : Value} {es : List Ey}
theorem OEy.weak_ {B' : Nat} (h : OEy w B v es) (hb : B' ≤ B) : OEy w B' v es := ⟨h.1.weak hb, h.2⟩
theorem OEy.own {B' k : Nat} {vv : Value} {rows : List (List Value)} (h : OEy w B v es) (ho : Os w B' 55 k vv rows) (hg : w.grownBy w' vv.ownBlock) : OEy w' B v es := by
 rcases ho.1.2 with ⟨hv, _⟩ | ⟨g, cap, cur, hv, hb, hq, _⟩
 ·rw [hv] at hg
  exact h.through ((Below.refl _ w).grown hg (Nat.le_refl _) (fun k hk => by simp [Value.ownBlock] at hk))
 ·rw [hv] at hg
  exact h.only hg hq pf_ne
end
/-- proofs' batches, each in memory that the call has made from B on -/
def AllB (w : World) (B : Nat) : List Pf → List Pl → Prop
 | [], [] => True
 | p :: ps, s :: ss => OEy w B (.slice s.1 s.2.1 s.2.2) p.es ∧ AllB w B ps ss
 | [], _ :: _ => False
 | _ :: _, [] => False
section
variable {w w' : World} {B : Nat}
theorem AllB.all : ∀ {ps : List Pf} {ss : List Pl}, AllB w B ps ss → AllP w ps ss
 | [], [], _ => trivial
 | _ :: _, s :: _, h => by
  obtain ⟨A, n, c, e, h1, h2, h3, _⟩ := h.1.out
  injection e with e1 e2 e3
  obtain ⟨a, b, d⟩ := s
  simp only at e1 e2 e3
  subst e1 e2 e3
  exact ⟨⟨h3, h1, h2⟩, AllB.all h.2⟩
 | [], _ :: _, h => h.elim
 | _ :: _, [], h => h.elim
theorem AllB.mono : ∀ {ps : List Pf} {ss : List Pl}, AllB w B ps ss → (∀ (v : Value) es, OEy w B v es → OEy w' B v es) → AllB w' B ps ss
 | [], [], _, _ => trivial
 | _ :: _, _ :: _, h, hm => ⟨hm _ _ h.1, AllB.mono h.2 hm⟩
 | [], _ :: _, h, _ => h.elim
 | _ :: _, [], h, _ => h.elim
theorem AllB.len {ps : List Pf} {ss : List Pl} (h : AllB w B ps ss) : ps.length = ss.length := h.all.len
theorem AllB.through {ps : List Pf} {ss : List Pl} (h : AllB w B ps ss) (hb : Below w.heap.size w w') : AllB w' B ps ss := h.mono fun _ _ h => h.through hb
theorem AllB.own {ps : List Pf} {ss : List Pl} {B' k : Nat} {vv : Value} {rows : List (List Value)} (h : AllB w B ps ss) (ho : Os w B' 55 k vv rows) (hg : w.grownBy w' vv.ownBlock) : AllB w' B ps ss := h.mono fun _ _ h => h.own ho hg
theorem AllB.snoc : ∀ {ps : List Pf} {ss : List Pl} {p : Pf} {s : Pl}, AllB w B ps ss → OEy w B (.slice s.1 s.2.1 s.2.2) p.es → AllB w B (ps ++ [p]) (ss ++ [s])
 | [], [], _, _, _, h => ⟨h, trivial⟩
 | _ :: _, _ :: _, _, _, h, h' => ⟨h.1, AllB.snoc h.2 h'⟩
 | [], _ :: _, _, _, h, _ => h.elim
 | _ :: _, [], _, _, h, _ => h.elim
/-- a call's own row of proofs -/
def OPf (w : World) (B : Nat) (v : Value) (ps : List Pf) : Prop := ∃ ss, Os w B 55 3 v (pfR ps ss) ∧ AllB w B ps ss
theorem OPf.through {v : Value} {ps : List Pf} (h : OPf w B v ps) (hb : Below w.heap.size w w') : OPf w' B v ps := by
 obtain ⟨ss, h1, h2⟩ := h
 exact ⟨ss, h1.through hb, h2.through hb⟩
theorem OPf.off {v : Value} {ps : List Pf} {g : Nat} (h : OPf w B v ps) (hg : w.grownBy w' (some g)) (hl : g < B) : OPf w' B v ps := by
 obtain ⟨ss, h1, h2⟩ := h
 exact ⟨ss, h1.far hg hl, h2.mono fun _ _ h => h.far hg hl⟩
theorem OPf.nil (w : World) (B : Nat) : OPf w B (.slice none 0 0) [] := ⟨[], Os.nil _ _ _ _, trivial⟩
theorem OPf.out {v : Value} {ps : List Pf} (h : OPf w B v ps) : ∃ A c, v = .slice A ps.length c ∧ ps.length ≤ c ∧ c ≤ maxLen ∧ PfsIn w A ps.length ps := by
 obtain ⟨ss, h1, h2⟩ := h
 obtain ⟨A, c, e, hn, hm, hs⟩ := h1.out
 rw [pfR_len h2.len] at e hn hs
 exact ⟨A, c, e, hn, hm, ss, hs, h2.all⟩
end
theorem cnext_stL (m : Nat) (st : Option (List UInt8)) : stL (cnext m st) ≤ stL st := by
 unfold cnext
 split <;> first | exact nnext_stL _ _ | (simp [stL])

end Go.Proofs.Ytheecifgbkdecaa

namespace Go.Proofs.Ytheecifgbkdecaa
open Go.RowKit

set_option maxHeartbeats 8000000 in
set_option maxRecDepth 100000 in
theorem rbytesB_any (es : List Ey) (A : Option Addr) (k c : Nat) (w : World) (h : EysIn w A k es) (hk : k ≤ 1000000) (hl : ∀ y ∈ es, y.co.lt.length ≤ 1000000 ∧ y.co.tx.length ≤ 1000000) (hL : (encB es).length ≤ 100000000000) :
  Calls Try.prog 88 #[.slice A k c] w (Byt w (encB es)) := by
 have HI := Lib.hid h
 have HLn := Lib.hid h.len
 have HLt := Lib.hid hl
 obtain ⟨OUT, hO⟩ : ∃ OUT, encB es = OUT := ⟨_, rfl⟩
 rw [hO] at hL ⊢
 have HLL := Lib.hid hL
 have HOUT : Hid (beB k 2 ++ encAll encEy es = OUT) := Lib.hid (by rw [← hO, ← h.len]; rfl)
 have hwu : ∀ W : World, (convert 3 70 (.int .i64 (k : Int))).run Try.prog W = .ok (.int .u64 (k : Int)) W := fun W => by
  have h9 := conv_u64 3 70 Try.underlying3 Try.underlying70 (k : Int) W
  rw [u64N_nat (by omega)] at h9
  exact h9
 have HPut : Hid (∀ (W : World), Calls Try.prog 41 #[.slice none 0 0, .int .u64 (k : Int), .int .i64 2] W (Byt W (beB k 2))) := Lib.hid (fun W => rput_by (Q := fun _ => True) (A := none) (n := 0) (c := 0) (xs := []) 2 rfl k (by omega) By.none_ (by simp))
 clear h hl hO hL
 go_enter Try.func88, Try.ntmps88
 go_wp2_with (first
  | (go_at_call 41; (with_reducible refine (HPut.out _).mono ?_); rintro e w4 ⟨A4, n4, d4, rfl, hy4, hn4, hm4, hb4⟩; have HY4 := Lib.hid hy4; have HN4 := Lib.hid (And.intro hn4 hm4); have HX4 := Lib.hid hb4; clear hy4 hn4 hm4 hb4))
 go_loopw [3, 12] (fun bv iv wr => ∃ (i : Nat) (ys : List UInt8) (D : Option Addr) (dn dc : Nat), i ≤ k ∧ iv = .int .i64 (i : Int) ∧ Value.slice D dn dc = bv ∧ ys ++ encAll encEy (es.drop i) = OUT ∧ By wr (fun _ => True) D dn ys ∧ dn ≤ dc ∧ dc ≤ maxLen ∧ Below w.heap.size w wr) (fun _ iv _ => k - (intOf iv).toNat)
 case atStart => exact ⟨0, _, A4, n4, d4, Nat.zero_le _, rfl, rfl, HOUT.out, HY4.out, HN4.out.1, HN4.out.2, HX4.out⟩
 case round =>
  obtain ⟨i, ys, D, dn, dc, hi', rfl, rfl, hpq, hby, hdn, hdc, hx⟩ := hrel
  have HX := Lib.hid hx
  have HPQ := Lib.hid hpq
  have HY0 := Lib.hid hby
  clear hx hpq hby
  by_cases hlt : i < k
  ·obtain ⟨g, o, y, rfl, _, hmem, hd, hrx⟩ := (HI.out.through HX.out).at hlt
   have HRx := Lib.hid hrx
   have hix := Try.ix_ey wr g o k c i hlt
   have HB : Hid (Blk (wr.alloc (.cells #[.int .i64 y.co.cl, .int .i64 y.co.sp, .int .i64 y.co.op, .string (ba y.co.lt), .int .i64 y.co.a, .int .i64 y.co.b, .string (ba y.co.tx), .int .u32 (y.ms : Int)] 61)) wr.heap.size 61 [.int .i64 y.co.cl, .int .i64 y.co.sp, .int .i64 y.co.op, .string (ba y.co.lt), .int .i64 y.co.a, .int .i64 y.co.b, .string (ba y.co.tx), .int .u32 (y.ms : Int)]) := Lib.hid (Blk.fresh rfl rfl)
   have HC : Hid ((wr.alloc (.cells #[.int .i64 y.co.cl, .int .i64 y.co.sp, .int .i64 y.co.op, .string (ba y.co.lt), .int .i64 y.co.a, .int .i64 y.co.b, .string (ba y.co.tx), .int .u32 (y.ms : Int)] 61)).rangeAt wr.heap.size 0 [.int .i64 y.co.cl, .int .i64 y.co.sp, .int .i64 y.co.op, .string (ba y.co.lt), .int .i64 y.co.a, .int .i64 y.co.b, .string (ba y.co.tx)]) := Lib.hid (Blk.front (post := [.int .u32 (y.ms : Int)]) HB.out)
   have HXa : Hid (Below w.heap.size w (wr.alloc (.cells #[.int .i64 y.co.cl, .int .i64 y.co.sp, .int .i64 y.co.op, .string (ba y.co.lt), .int .i64 y.co.a, .int .i64 y.co.b, .string (ba y.co.tx), .int .u32 (y.ms : Int)] 61))) := Lib.hid (HX.out.alloc HX.out.size _)
   have HY1 := Lib.hid (HY0.out.alloc (.cells #[.int .i64 y.co.cl, .int .i64 y.co.sp, .int .i64 y.co.op, .string (ba y.co.lt), .int .i64 y.co.a, .int .i64 y.co.b, .string (ba y.co.tx), .int .u32 (y.ms : Int)] 61))
   have HCb : Hid (∀ W, Calls Try.prog 108 #[.agg #[.int .i64 y.co.cl, .int .i64 y.co.sp, .int .i64 y.co.op, .string (ba y.co.lt), .int .i64 y.co.a, .int .i64 y.co.b, .string (ba y.co.tx)]] W (Byt W (encCr y.co))) := Lib.hid (fun W => rcoreB_any y.co W (HLt.out y hmem).1 (HLt.out y hmem).2)
   have hcv := fun W : World => conv_3264 y.ms (HI.out.2 y hmem) W
   have HMs : Hid (y.ms < 18446744073709551616) := Lib.hid (by have := HI.out.2 y hmem; omega)
   have HPQ2 : Hid ((ys ++ encEy y) ++ encAll encEy (es.drop (i + 1)) = OUT) := Lib.hid (by rw [← HPQ.out, hd]; simp [encAll])
   have HCL : Hid ((encCr y.co).length ≤ 1099511627776) := Lib.hid (by rw [encCr_len]; have := HLt.out y hmem; omega)
   have hyl : ys.length + (encEy y).length ≤ 100000000000 := by have h9 := congrArg List.length HPQ2.out; simp only [List.length_append] at h9; have := HLL.out; omega
   have HYL : Hid (ys.length ≤ 1099511627776) := Lib.hid (by omega)
   have HRL : Hid ((ys ++ rowB (encCr y.co)).length ≤ 1099511627776) := Lib.hid (by rw [List.length_append]; have e : (encEy y).length = (rowB (encCr y.co)).length + 1 := (by unfold encEy; rw [List.length_append, beB_length]); omega)
   clear hrx hd hmem hyl
   go_wp2_with (first
    | (refine wpList_load_mid rfl 61 (.tmp 14) rfl g (o + i * 8) rfl [.int .i64 y.co.cl, .int .i64 y.co.sp, .int .i64 y.co.op, .string (ba y.co.lt), .int .i64 y.co.a, .int .i64 y.co.b, .string (ba y.co.tx), .int .u32 (y.ms : Int)] _ HRx.out Try.underlying61 rfl (by kernel_rfl) ?_))
   try dsimp only [Act.put]
   generalize hw1 : wr.alloc (.cells #[.int .i64 y.co.cl, .int .i64 y.co.sp, .int .i64 y.co.op, .string (ba y.co.lt), .int .i64 y.co.a, .int .i64 y.co.b, .string (ba y.co.tx), .int .u32 (y.ms : Int)] 61) = w1 at *
   clear hw1
   generalize hg7 : wr.heap.size = g7 at *
   clear hg7
   refine wp_region_held_drew (S := fun W => Below w1.heap.size w1 W) (by kernel_rfl) (Below.refl _ _).drew (fun hHeld => ?_)
   change wpAnyH _ _ _ _ _ _ #[false, false, false, false, false, false, false, false, false, false] _ _
   refine tkq (i := 0) (d := 16) (v := (.slice D dn dc)) rfl rfl (Or.inl ⟨by kernel_rfl, fun w hSw => ?_⟩) (by assumption) ?_
   ·(try dsimp only at hSw); go_simp <;> (try rfl)
   simp only [Act.put, sq1, sq2, sq3]
   refine tkq (i := 1) (d := 17) (v := (.pointer (some ⟨g7, 0, none⟩))) rfl rfl (Or.inl ⟨by kernel_rfl, fun w hSw => ?_⟩) (by assumption) ?_
   ·(try dsimp only at hSw); go_simp <;> (try rfl)
   simp only [Act.put, sq1, sq2, sq3]
   refine tkq (i := 2) (d := 18) (v := (.agg #[.int .i64 y.co.cl, .int .i64 y.co.sp, .int .i64 y.co.op, .string (ba y.co.lt), .int .i64 y.co.a, .int .i64 y.co.b, .string (ba y.co.tx)])) rfl rfl (yieldsIf_load_mid (by kernel_rfl) 58 (.tmp 17) rfl g7 0 (by simp [Act.eval]) [.int .i64 y.co.cl, .int .i64 y.co.sp, .int .i64 y.co.op, .string (ba y.co.lt), .int .i64 y.co.a, .int .i64 y.co.b, .string (ba y.co.tx)] _ (fun W hW => rangeAt.through HC.out hW) Try.underlying58 rfl (by kernel_rfl)) (by assumption) ?_
   simp only [Act.put, sq1, sq2, sq3]
   refine tkq (i := 5) (d := 21) (v := (.pointer (some ⟨g7, 7, none⟩))) rfl rfl (Or.inl ⟨by kernel_rfl, fun w hSw => ?_⟩) (by assumption) ?_
   ·(try dsimp only at hSw); go_simp <;> (try rfl)
   simp only [Act.put, sq1, sq2, sq3]
   refine tkq (i := 6) (d := 22) (v := (.int .u32 (y.ms : Int))) rfl rfl (yields_load_at (by kernel_rfl) 59 (.tmp 21) rfl (.pointer (some ⟨g7, 7, none⟩)) (by simp [Act.eval]) (.int .u32 (y.ms : Int)) (fun W hW => load_one' (by kernel_rfl) ((HB.out.through hW).cellAt (i := 7) rfl))) (by assumption) ?_
   simp only [Act.put, sq1, sq2, sq3]
   refine tkq (i := 7) (d := 23) (v := (.int .u64 (y.ms : Int))) rfl rfl (yields_conv (by kernel_rfl) 59 70 (.tmp 22) rfl (.int .u32 (y.ms : Int)) (by simp [Act.eval]) (.int .u64 (y.ms : Int)) (fun W _ => hcv W)) (by assumption) ?_
   simp only [Act.put, sq1, sq2, sq3]
   refine wpAnyH_ready (rs := [3]) (by kernel_rfl) (by simp) ?_
   refine AllReadyH.cons rfl (fun K hK => ?_) AllReadyH.nil
   go_simp
   refine (HCb.out _).mono ?_
   rintro e w2 ⟨A2, n2, d2, rfl, hy2, _, _, hb2⟩; have HY2 := Lib.hid hy2; have HK2 := Lib.hid (below_step hHeld hb2); clear hy2 hb2
   go_wp2_with fail
   refine hK.out _ _ HK2.out (fun hHeld1 => ?_)
   clear hHeld hK K
   have hHeld := hHeld1
   clear hHeld1
   refine wpAnyH_ready (rs := [4]) (by kernel_rfl) (by simp) ?_
   refine AllReadyH.cons rfl (fun K hK => ?_) AllReadyH.nil
   go_simp
   refine (rrow_by (HY1.out.through HK2.out) HY2.out HYL.out HCL.out).mono ?_
   rintro e w3 ⟨A3, n3, d3, rfl, hy3, hn3, hm3, hb3⟩; have HY3 := Lib.hid hy3; have HK3 := Lib.hid (below_step HK2.out hb3); clear hy3 hn3 hm3 hb3
   go_wp2_with fail
   refine hK.out _ _ HK3.out (fun hHeld1 => ?_)
   clear hHeld hK K
   have hHeld := hHeld1
   clear hHeld1
   refine wpAnyH_ready (rs := [8]) (by kernel_rfl) (by simp) ?_
   refine AllReadyH.cons rfl (fun K hK => ?_) AllReadyH.nil
   go_simp
   refine (rput_by 1 rfl y.ms HMs.out HY3.out HRL.out).mono ?_
   rintro e w5 ⟨A5, n5, d5, rfl, hy5, hn5, hm5, hb5⟩; have HY5 := Lib.hid hy5; have HN5 := Lib.hid (And.intro hn5 hm5); have HK5 := Lib.hid (below_step HK3.out hb5); clear hy5 hn5 hm5 hb5
   go_wp2_with fail
   refine hK.out _ _ HK5.out (fun hHeld1 => ?_)
   clear hHeld hK K
   have hHeld := hHeld1
   clear hHeld1
   refine tkq (i := 9) (d := 3) (v := (.slice A5 n5 d5)) rfl rfl (Or.inl ⟨by kernel_rfl, fun w hSw => ?_⟩) (by assumption) ?_
   ·(try dsimp only at hSw); go_simp <;> (try rfl)
   simp only [Act.put, sq1, sq2, sq3]
   refine wpAnyH_done (by kernel_rfl) ?_ _
   go_wp2
   go_roundw
   case rel => exact ⟨i + 1, ys ++ encEy y, A5, n5, d5, by omega, by go_num, rfl, HPQ2.out, by (have h9 := HY5.out; rw [List.append_assoc] at h9; exact h9), HN5.out.1, HN5.out.2, below_step HXa.out HK5.out⟩
   case measure => simp [intOf]; omega
  ·have e9 : es.drop i = [] := List.drop_of_length_le (by have := HLn.out; omega)
   have HPQ3 : Hid (ys = OUT) := Lib.hid (by rw [← HPQ.out, e9]; simp [encAll])
   clear e9
   go_wp2
   go_ret
   rw [← HPQ3.out]
   exact ⟨D, dn, dc, rfl, HY0.out, hdn, hdc, HX.out⟩

end Go.Proofs.Ytheecifgbkdecaa

namespace Go.Proofs.Ytheecifgbkdecaa
open Go.RowKit

theorem encPf_len (p : Pf) : (encPf p).length = 20 + (encB p.es).length := by
 unfold encPf rowB
 simp only [List.length_append, beB_length]
 omega
set_option maxHeartbeats 16000000 in
set_option maxRecDepth 100000 in
theorem rproofs_any {Q : Nat → Prop} (xs : List UInt8) (ps : List Pf) (A : Option Addr) (n c0 : Nat) (D : Option Addr) (k d : Nat) (w : World) (h : By w Q A n xs) (hp : PfsIn w D k ps) (hk : k ≤ 100000) (hl : ∀ p ∈ ps, p.Low) (hL : (xs ++ encPfs ps).length ≤ 1000000000) :
  Calls Try.prog 43 #[.slice A n c0, .slice D k d] w (Byt w (xs ++ encPfs ps)) := by
 have HP := Lib.hid hp
 have HLn := Lib.hid hp.len
 have HLo := Lib.hid hl
 have HY0 : Hid (By w (fun _ => True) A n xs) := Lib.hid (h.weak fun _ _ => trivial)
 obtain ⟨OUT, hO⟩ : ∃ O, xs ++ encPfs ps = O := ⟨_, rfl⟩
 rw [hO] at hL ⊢
 have HLL := Lib.hid hL
 have HO0 : Hid ((xs ++ beB k 2) ++ encAll encPf ps = OUT) := Lib.hid (by rw [← hO]; unfold encPfs; rw [hp.len, List.append_assoc])
 have hxl : xs.length ≤ 1000000000 := by have h9 := congrArg List.length hO; simp only [List.length_append] at h9; omega
 have hwu : ∀ W : World, (convert 3 70 (.int .i64 (k : Int))).run Try.prog W = .ok (.int .u64 (k : Int)) W := fun W => by
  have h9 := conv_u64 3 70 Try.underlying3 Try.underlying70 (k : Int) W
  rw [show u64N (k : Int) = k by unfold u64N; omega] at h9
  exact h9
 have HP0 : Hid (∀ W : World, By W (fun _ => True) A n xs → Calls Try.prog 41 #[.slice A n c0, .int .u64 (k : Int), .int .i64 2] W (Byt W (xs ++ beB k 2))) := Lib.hid (fun W hY => rput_by 2 rfl k (by omega) hY (by omega))
 have HPu : Hid (∀ (v : Int) (W : World) (B : Option Addr) (k d : Nat) (ys : List UInt8), By W (fun _ => True) B k ys → ys.length ≤ 1000000000 → Calls Try.prog 41 #[.slice B k d, .int .u64 ((u64N v : Nat) : Int), .int .i64 8] W (Byt W (ys ++ beB (u64N v) 8))) := Lib.hid (fun v W B k d ys hY hl => rput_by 8 rfl (u64N v) (by unfold u64N; omega) hY (by omega))
 clear h hp hl hO hL hxl
 go_enter Try.func43, Try.ntmps43
 go_wp2_with (first
  | (go_at_call 41; (with_reducible refine (HP0.out _ HY0.out).mono ?_); rintro e w1 ⟨A1, n1, c1, rfl, hy1, hn1, hm1, hb1⟩; have HY1 := Lib.hid hy1; have HC1 := Lib.hid (And.intro hn1 hm1); have HX1 := Lib.hid hb1; clear hy1 hb1 hn1 hm1))
 go_loopw [0, 14] (fun bv iv wr => ∃ (i : Nat) (Av : Option Addr) (nv cv : Nat) (ys : List UInt8), i ≤ k ∧ iv = .int .i64 (i : Int) ∧ bv = .slice Av nv cv ∧ ys ++ encAll encPf (ps.drop i) = OUT ∧ By wr (fun _ => True) Av nv ys ∧ (nv ≤ cv ∧ cv ≤ maxLen) ∧ Below w.heap.size w wr) (fun _ iv _ => k - (intOf iv).toNat)
 case atStart => exact ⟨0, A1, n1, c1, _, Nat.zero_le _, rfl, rfl, HO0.out, HY1.out, HC1.out, HX1.out⟩
 case round =>
  obtain ⟨i, Av, nv, cv, ys, hi, rfl, rfl, ho, hy, hc, hx⟩ := hrel
  have HOv := Lib.hid ho
  have HYv0 := Lib.hid hy
  have HCv := Lib.hid hc
  have HXv := Lib.hid hx
  clear ho hy hc hx
  by_cases hlt : i < k
  ·obtain ⟨g, o, p, B, m, c, rfl, _, hmem, hd, hrx, he, hmc, hcm⟩ := (HP.out.through HXv.out).at hlt
   have HRx := Lib.hid hrx
   have HEx := Lib.hid he
   have HMC := Lib.hid (And.intro hmc hcm)
   have hix := Try.ix_pf wr g o k d i hlt
   have HBx : Hid (Blk (wr.alloc (.cells #[.int .i64 p.sq, .int .i64 p.vw, .slice B m c] 55)) wr.heap.size 55 [.int .i64 p.sq, .int .i64 p.vw, .slice B m c]) := Lib.hid (Blk.fresh rfl rfl)
   have HYv : Hid (By (wr.alloc (.cells #[.int .i64 p.sq, .int .i64 p.vw, .slice B m c] 55)) (fun _ => True) Av nv ys) := Lib.hid (HYv0.out.through (below1_ wr _))
   have hlow := HLo.out p hmem
   have HOz : Hid ((ys ++ beB (u64N p.sq) 8 ++ beB (u64N p.vw) 8 ++ rowB (encB p.es)) ++ encAll encPf (ps.drop (i + 1)) = OUT) := Lib.hid (by rw [← HOv.out, hd]; simp only [encAll, encPf, List.append_assoc])
   have hzl : ys.length + 16 + 4 + (encB p.es).length ≤ 1000000000 := by
    have h9 := congrArg List.length HOz.out
    simp only [List.length_append, beB_length, rowB] at h9
    have := HLL.out
    omega
   have HZ1 : Hid (ys.length ≤ 1000000000) := Lib.hid (by omega)
   have HZ2 : Hid ((ys ++ beB (u64N p.sq) 8).length ≤ 1000000000) := Lib.hid (by rw [List.length_append, beB_length]; omega)
   have HBy : Hid (∀ (E : Option Addr) (m c : Nat) (W : World), EysIn W E m p.es → m ≤ c → Calls Try.prog 88 #[.slice E m c] W (Byt W (encB p.es))) := Lib.hid (fun E m c W h9 _ => rbytesB_any p.es E m c W h9 (by rw [← h9.len]; exact Nat.le_trans hlow.1 (by omega)) (fun y hy => ⟨Nat.le_trans (hlow.2 y hy).1 (by omega), Nat.le_trans (hlow.2 y hy).2 (by omega)⟩) (by omega))
   have HRw : Hid (∀ (W : World) (C : Option Addr) (m d : Nat) (C' : Option Addr) (m' d' : Nat), By W (fun _ => True) C m (ys ++ beB (u64N p.sq) 8 ++ beB (u64N p.vw) 8) → By W (fun _ => True) C' m' (encB p.es) → Calls Try.prog 71 #[.slice C m d, .slice C' m' d'] W (Byt W (ys ++ beB (u64N p.sq) 8 ++ beB (u64N p.vw) 8 ++ rowB (encB p.es)))) := Lib.hid (fun W C m d C' m' d' h1 h2 => rrow_by h1 h2 (by simp only [List.length_append, beB_length]; omega) (by omega))
   clear hrx he hmc hcm hd hmem hlow hzl
   go_wp2_with (first
    | (refine wpList_load_mid rfl 55 (.tmp 16) rfl g (o + i * 3) rfl [.int .i64 p.sq, .int .i64 p.vw, .slice B m c] _ HRx.out Try.underlying55 rfl (by kernel_rfl) ?_))
   try dsimp only [Act.put]
   refine wp_region_held_drew (S := fun W => Below (wr.alloc (.cells #[.int .i64 p.sq, .int .i64 p.vw, .slice B m c] 55)).heap.size (wr.alloc (.cells #[.int .i64 p.sq, .int .i64 p.vw, .slice B m c] 55)) W) (by kernel_rfl) (Below.refl _ _).drew (fun hHeld => ?_)
   change wpAnyH _ _ _ _ _ _ #[false, false, false, false, false, false, false, false, false, false] _ _
   refine tkq (i := 0) (d := 18) (v := (.slice Av nv cv)) rfl rfl (Or.inl ⟨by kernel_rfl, fun w hSw => ?_⟩) (by assumption) ?_
   ·(try dsimp only at hSw); go_simp <;> (try rfl)
   simp only [Act.put, sq1, sq2, sq3]
   refine tkq (i := 1) (d := 19) (v := (.pointer (some ⟨wr.heap.size, 0, none⟩))) rfl rfl (Or.inl ⟨by kernel_rfl, fun w hSw => ?_⟩) (by assumption) ?_
   ·(try dsimp only at hSw); go_simp <;> (try rfl)
   simp only [Act.put, sq1, sq2, sq3]
   refine tkq (i := 2) (d := 20) (v := (.int .i64 p.sq)) rfl rfl (yields_load_at (by kernel_rfl) 2 (.tmp 19) rfl (.pointer (some ⟨wr.heap.size, 0, none⟩)) (by simp [Act.eval]) (.int .i64 p.sq) (fun W hW => load_one' (Try.agg_i64 W) ((HBx.out.through hW).cellAt (i := 0) rfl))) (by assumption) ?_
   simp only [Act.put, sq1, sq2, sq3]
   refine tkq (i := 3) (d := 21) (v := (.int .u64 ((u64N p.sq : Nat) : Int))) rfl rfl (yields_conv (by kernel_rfl) 2 70 (.tmp 20) rfl (.int .i64 p.sq) (by simp [Act.eval]) (.int .u64 ((u64N p.sq : Nat) : Int)) (fun W _ => conv_u64 2 70 Try.underlying2 Try.underlying70 p.sq W)) (by assumption) ?_
   simp only [Act.put, sq1, sq2, sq3]
   refine tkq (i := 5) (d := 23) (v := (.pointer (some ⟨wr.heap.size, 1, none⟩))) rfl rfl (Or.inl ⟨by kernel_rfl, fun w hSw => ?_⟩) (by assumption) ?_
   ·(try dsimp only at hSw); go_simp <;> (try rfl)
   simp only [Act.put, sq1, sq2, sq3]
   refine tkq (i := 6) (d := 24) (v := (.int .i64 p.vw)) rfl rfl (yields_load_at (by kernel_rfl) 2 (.tmp 23) rfl (.pointer (some ⟨wr.heap.size, 1, none⟩)) (by simp [Act.eval]) (.int .i64 p.vw) (fun W hW => load_one' (Try.agg_i64 W) ((HBx.out.through hW).cellAt (i := 1) rfl))) (by assumption) ?_
   simp only [Act.put, sq1, sq2, sq3]
   refine tkq (i := 7) (d := 25) (v := (.int .u64 ((u64N p.vw : Nat) : Int))) rfl rfl (yields_conv (by kernel_rfl) 2 70 (.tmp 24) rfl (.int .i64 p.vw) (by simp [Act.eval]) (.int .u64 ((u64N p.vw : Nat) : Int)) (fun W _ => conv_u64 2 70 Try.underlying2 Try.underlying70 p.vw W)) (by assumption) ?_
   simp only [Act.put, sq1, sq2, sq3]
   refine wpAnyH_ready (rs := [4]) (by kernel_rfl) (by simp) ?_
   refine AllReadyH.cons rfl (fun K hK => ?_) AllReadyH.nil
   go_simp
   refine (HPu.out p.sq _ _ _ _ ys (HYv.out.through hHeld) HZ1.out).mono ?_
   rintro e wp ⟨Ap, np, dp, rfl, hyp, _, _, hbp⟩; have HYp := Lib.hid hyp; have HKp := Lib.hid (below_step hHeld hbp); clear hyp hbp
   go_wp2_with fail
   refine hK.out _ _ HKp.out (fun hHeld1 => ?_)
   clear hHeld hK K
   have hHeld := hHeld1
   clear hHeld1
   refine wpAnyH_ready (rs := [8]) (by kernel_rfl) (by simp) ?_
   refine AllReadyH.cons rfl (fun K hK => ?_) AllReadyH.nil
   go_simp
   refine (HPu.out p.vw _ _ _ _ (ys ++ beB (u64N p.sq) 8) HYp.out HZ2.out).mono ?_
   rintro e wq ⟨Aq, nq, dq, rfl, hyq, _, _, hbq⟩; have HYq := Lib.hid hyq; have HKq := Lib.hid (below_step hHeld hbq); clear hyq hbq
   go_wp2_with fail
   refine hK.out _ _ HKq.out (fun hHeld1 => ?_)
   clear hHeld hK K
   have hHeld := hHeld1
   clear hHeld1
   refine tkq (i := 9) (d := 0) (v := (.slice Aq nq dq)) rfl rfl (Or.inl ⟨by kernel_rfl, fun w hSw => ?_⟩) (by assumption) ?_
   ·(try dsimp only at hSw); go_simp <;> (try rfl)
   simp only [Act.put, sq1, sq2, sq3]
   refine wpAnyH_done (by kernel_rfl) ?_ _
   have HXq : Hid (Below w.heap.size w wq) := Lib.hid (below_step (below_step HXv.out (below1_ wr _)) hHeld)
   have HBq := Lib.hid (HBx.out.through hHeld)
   have HEq := Lib.hid ((HEx.out.through (below1_ wr _)).through hHeld)
   have k2 := HBq.out.cellAt (i := 2) rfl
   clear hHeld
   go_wp2_with (first
    | (go_at_call 88; (with_reducible refine (HBy.out _ _ _ _ HEq.out HMC.out.1).mono ?_); rintro e wb ⟨Ab, nb, db, rfl, hyb, _, _, hbb⟩; have HYb := Lib.hid hyb; have HYq2 := Lib.hid (HYq.out.through hbb); have HXb := Lib.hid (below_step HXq.out hbb); clear hyb hbb)
    | (go_at_call 71; (with_reducible refine (HRw.out _ _ _ _ _ _ _ HYq2.out HYb.out).mono ?_); rintro e wz ⟨Az, nz, dz, rfl, hyz, hnz, hmz, hbz⟩; have HYz := Lib.hid hyz; have HCz := Lib.hid (And.intro hnz hmz); have HXz := Lib.hid (below_step HXb.out hbz); clear hyz hbz hnz hmz))
   go_roundw
   case rel => exact ⟨i + 1, Az, nz, dz, _, by omega, by go_num, rfl, HOz.out, HYz.out, ⟨HCz.out.1, HCz.out.2⟩, HXz.out⟩
   case measure => simp [intOf]; omega
  ·have e9 : ps.drop i = [] := List.drop_of_length_le (by have := HLn.out; omega)
   have HE : Hid (ys = OUT) := Lib.hid (by rw [← HOv.out, e9]; simp [encAll])
   clear e9
   go_wp2
   go_ret
   exact ⟨Av, nv, cv, rfl, by rw [← HE.out]; exact HYv0.out, HCv.out.1, HCv.out.2, HXv.out⟩

end Go.Proofs.Ytheecifgbkdecaa
