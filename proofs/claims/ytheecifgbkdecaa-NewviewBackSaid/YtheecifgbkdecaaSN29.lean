/-
  NvB NlL0 CwP
-/
import Derived.Test.YtheecifgbkdecaaSN25
import Derived.Test.YtheecifgbkdecaaSN19
import Derived.Test.YtheecifgbkdecaaSN27
import Derived.Test.YtheecifgbkdecaaSN28
import Derived.Test.YtheecifgbkdecaaSN26
import Derived.Test.YtheecifgbkdecaaSN24
import Derived.Test.YtheecifgbkdecaaSN11
import Derived.Test.YtheecifgbkdecaaSNT
namespace Go.Proofs.Ytheecifgbkdecaa
open Go.RowKit

set_option maxHeartbeats 16000000 in
set_option maxRecDepth 100000 in
theorem rbytes19_any (view : Int) (l : List Sg) (D : Option Addr) (k d : Nat) (w : World) (hp : SgsIn w D k l) (hk : k ≤ 60000) (hf : ∀ s ∈ l, fewCh s.ch = true) (hL : (encNv view l).length ≤ 1000000000) :
  Calls Try.prog 26 #[.int .i64 view, .slice D k d] w (Byt w (encNv view l)) := by
 have HP := Lib.hid hp
 have HLn := Lib.hid hp.len
 have HFw := Lib.hid hf
 obtain ⟨OUT, hO⟩ : ∃ O, encNv view l = O := ⟨_, rfl⟩
 rw [hO] at hL ⊢
 have HLL := Lib.hid hL
 have HO0 : Hid ((beB (u64N view) 8 ++ beB k 2) ++ encAll encSg l = OUT) := Lib.hid (by rw [← hO]; unfold encNv; rw [hp.len, List.append_assoc])
 have hwu : ∀ W : World, (convert 3 70 (.int .i64 (k : Int))).run Try.prog W = .ok (.int .u64 (k : Int)) W := fun W => by
  have h9 := conv_u64 3 70 Try.underlying3 Try.underlying70 (k : Int) W
  rw [show u64N (k : Int) = k by unfold u64N; omega] at h9
  exact h9
 have hcv := fun (W : World) => conv_u64 2 70 Try.underlying2 Try.underlying70 view W
 have HP1 : Hid (∀ (W : World) (B : Option Addr) (k d : Nat), By W (fun _ => True) B k [] → Calls Try.prog 41 #[.slice B k d, .int .u64 ((u64N view : Nat) : Int), .int .i64 8] W (Byt W (beB (u64N view) 8))) := Lib.hid (fun W B k d hY => by have h9 := rput_by 8 rfl (u64N view) (by unfold u64N; omega) (c := d) hY (by simp); rw [List.nil_append] at h9; exact h9)
 have HP2 : Hid (∀ (W : World) (B : Option Addr) (m d : Nat), By W (fun _ => True) B m (beB (u64N view) 8) → Calls Try.prog 41 #[.slice B m d, .int .u64 (k : Int), .int .i64 2] W (Byt W (beB (u64N view) 8 ++ beB k 2))) := Lib.hid (fun W B m d hY => rput_by 2 rfl k (by omega) hY (by rw [beB_length]; omega))
 clear hp hO hL hf
 go_enter Try.func26, Try.ntmps26
 go_wp2_with (first
  | (go_at_call 41; (with_reducible refine (HP1.out _ none 0 0 By.none_).mono ?_); rintro e w1 ⟨A1, n1, c1, rfl, hy1, _, _, hb1⟩; have HY1 := Lib.hid hy1; have HX1 := Lib.hid hb1; clear hy1 hb1)
  | (go_at_call 41; (with_reducible refine (HP2.out _ _ _ _ HY1.out).mono ?_); rintro e w2 ⟨A2, n2, c2, rfl, hy2, hn2, hm2, hb2⟩; have HY2 := Lib.hid hy2; have HC2 := Lib.hid (And.intro hn2 hm2); have HX2 := Lib.hid (below_step HX1.out hb2); clear hy2 hn2 hm2 hb2))
 clear hwu hcv
 go_loopw [5, 17] (fun bv iv wr => ∃ (i : Nat) (Av : Option Addr) (nv cv : Nat) (ys : List UInt8), i ≤ k ∧ iv = .int .i64 (i : Int) ∧ bv = .slice Av nv cv ∧ ys ++ encAll encSg (l.drop i) = OUT ∧ By wr (fun _ => True) Av nv ys ∧ (nv ≤ cv ∧ cv ≤ maxLen) ∧ Below w.heap.size w wr) (fun _ iv _ => k - (intOf iv).toNat)
 case atStart => exact ⟨0, A2, n2, c2, _, Nat.zero_le _, rfl, rfl, HO0.out, HY2.out, HC2.out, HX2.out⟩
 case round =>
  obtain ⟨i, Av, nv, cv, ys, hi, rfl, rfl, ho, hy, hc, hx⟩ := hrel
  have HOv := Lib.hid ho
  have HYv0 := Lib.hid hy
  have HCv := Lib.hid hc
  have HXv := Lib.hid hx
  clear ho hy hc hx
  by_cases hlt : i < k
  ·obtain ⟨g, o, s, P, Q, R, rfl, _, hmem, hd, hrx, hci⟩ := (HP.out.through HXv.out).at hlt
   have HRx := Lib.hid hrx
   have hix := Try.ix_sg wr g o k d i hlt
   have HBx : Hid (Blk (wr.alloc (.cells #[.int .i64 s.fr, .int .i64 s.ch.vw, .int .i64 s.ch.lw, .slice P.1 P.2.1 P.2.2, .slice Q.1 Q.2.1 Q.2.2, .slice R.1 R.2.1 R.2.2] 106)) wr.heap.size 106 [.int .i64 s.fr, .int .i64 s.ch.vw, .int .i64 s.ch.lw, .slice P.1 P.2.1 P.2.2, .slice Q.1 Q.2.1 Q.2.2, .slice R.1 R.2.1 R.2.2]) := Lib.hid (Blk.fresh rfl rfl)
   have HRc : Hid ((wr.alloc (.cells #[.int .i64 s.fr, .int .i64 s.ch.vw, .int .i64 s.ch.lw, .slice P.1 P.2.1 P.2.2, .slice Q.1 Q.2.1 Q.2.2, .slice R.1 R.2.1 R.2.2] 106)).rangeAt wr.heap.size 1 (Ch.cells s.ch P Q R)) := Lib.hid (Blk.range (pre := [.int .i64 s.fr]) (post := []) (by simpa [Ch.cells] using HBx.out))
   have HIx : Hid (ChIn (wr.alloc (.cells #[.int .i64 s.fr, .int .i64 s.ch.vw, .int .i64 s.ch.lw, .slice P.1 P.2.1 P.2.2, .slice Q.1 Q.2.1 Q.2.2, .slice R.1 R.2.1 R.2.2] 106)) P Q R s.ch) := Lib.hid (hci.through (below1_ wr _))
   have HYv : Hid (By (wr.alloc (.cells #[.int .i64 s.fr, .int .i64 s.ch.vw, .int .i64 s.ch.lw, .slice P.1 P.2.1 P.2.2, .slice Q.1 Q.2.1 Q.2.2, .slice R.1 R.2.1 R.2.2] 106)) (fun _ => True) Av nv ys) := Lib.hid (HYv0.out.through (below1_ wr _))
   have hfw := HFw.out s hmem
   have HOz : Hid ((ys ++ beB (u64N s.fr) 1 ++ rowB (encCh s.ch)) ++ encAll encSg (l.drop (i + 1)) = OUT) := Lib.hid (by rw [← HOv.out, hd]; simp only [encAll, encSg, List.append_assoc])
   have hzl : ys.length + 1 + 4 + (encCh s.ch).length ≤ 1000000000 := by
    have h9 := congrArg List.length HOz.out
    simp only [List.length_append, beB_length, rowB] at h9
    have := HLL.out
    omega
   have HPu : Hid (∀ (W : World) (B : Option Addr) (k d : Nat), By W (fun _ => True) B k ys → Calls Try.prog 41 #[.slice B k d, .int .u64 ((u64N s.fr : Nat) : Int), .int .i64 1] W (Byt W (ys ++ beB (u64N s.fr) 1))) := Lib.hid (fun W B k d hY => rput_by 1 rfl (u64N s.fr) (by unfold u64N; omega) hY (by omega))
   have HBt : Hid (∀ W : World, ChIn W P Q R s.ch → Calls Try.prog 13 #[.agg (Ch.cells s.ch P Q R).toArray] W (Byt W (encCh s.ch))) := Lib.hid (fun W h9 => by
    obtain ⟨f1, f2, f3⟩ := fewCh_low hfw
    exact rbytes18_any s.ch P Q R W h9 (by rw [← h9.1.1.len]; omega) (by rw [← h9.2.1.1.len]; omega) (by rw [← h9.2.2.1.len]; omega) (fun p hp => Low.of_few (f1.2 p hp)) (fun p hp => Low.of_few (f2.2 p hp)) (by omega))
   have HRw : Hid (∀ (W : World) (C : Option Addr) (m d : Nat) (C' : Option Addr) (m' d' : Nat), By W (fun _ => True) C m (ys ++ beB (u64N s.fr) 1) → By W (fun _ => True) C' m' (encCh s.ch) → Calls Try.prog 71 #[.slice C m d, .slice C' m' d'] W (Byt W (ys ++ beB (u64N s.fr) 1 ++ rowB (encCh s.ch)))) := Lib.hid (fun W C m d C' m' d' h1 h2 => rrow_by h1 h2 (by simp only [List.length_append, beB_length]; omega) (by omega))
   clear hrx hci hd hmem hfw hzl
   go_wp2_with (first
    | (refine wpList_load_mid rfl 106 (.tmp 19) rfl g (o + i * 6) rfl [.int .i64 s.fr, .int .i64 s.ch.vw, .int .i64 s.ch.lw, .slice P.1 P.2.1 P.2.2, .slice Q.1 Q.2.1 Q.2.2, .slice R.1 R.2.1 R.2.2] _ HRx.out Try.underlying106 rfl (by kernel_rfl) ?_))
   try dsimp only [Act.put]
   refine wp_region_held_drew (S := fun W => Below (wr.alloc (.cells #[.int .i64 s.fr, .int .i64 s.ch.vw, .int .i64 s.ch.lw, .slice P.1 P.2.1 P.2.2, .slice Q.1 Q.2.1 Q.2.2, .slice R.1 R.2.1 R.2.2] 106)).heap.size (wr.alloc (.cells #[.int .i64 s.fr, .int .i64 s.ch.vw, .int .i64 s.ch.lw, .slice P.1 P.2.1 P.2.2, .slice Q.1 Q.2.1 Q.2.2, .slice R.1 R.2.1 R.2.2] 106)) W) (by kernel_rfl) (Below.refl _ _).drew (fun hHeld => ?_)
   change wpAnyH _ _ _ _ _ _ #[false, false, false, false, false, false, false, false, false, false] _ _
   refine tkq (i := 0) (d := 21) (v := (.slice Av nv cv)) rfl rfl (Or.inl ⟨by kernel_rfl, fun w hSw => ?_⟩) (by assumption) ?_
   ·(try dsimp only at hSw); go_simp <;> (try rfl)
   simp only [Act.put, sq1, sq2, sq3]
   refine tkq (i := 1) (d := 22) (v := (.pointer (some ⟨wr.heap.size, 0, none⟩))) rfl rfl (Or.inl ⟨by kernel_rfl, fun w hSw => ?_⟩) (by assumption) ?_
   ·(try dsimp only at hSw); go_simp <;> (try rfl)
   simp only [Act.put, sq1, sq2, sq3]
   refine tkq (i := 2) (d := 23) (v := (.int .i64 s.fr)) rfl rfl (yields_load_at (by kernel_rfl) 3 (.tmp 22) rfl (.pointer (some ⟨wr.heap.size, 0, none⟩)) (by simp [Act.eval]) (.int .i64 s.fr) (fun W hW => load_one' (Try.agg_int W) ((HBx.out.through hW).cellAt (i := 0) rfl))) (by assumption) ?_
   simp only [Act.put, sq1, sq2, sq3]
   refine tkq (i := 3) (d := 24) (v := (.int .u64 ((u64N s.fr : Nat) : Int))) rfl rfl (yields_conv (by kernel_rfl) 3 70 (.tmp 23) rfl (.int .i64 s.fr) (by simp [Act.eval]) (.int .u64 ((u64N s.fr : Nat) : Int)) (fun W _ => conv_u64 3 70 Try.underlying3 Try.underlying70 s.fr W)) (by assumption) ?_
   simp only [Act.put, sq1, sq2, sq3]
   refine tkq (i := 5) (d := 26) (v := (.pointer (some ⟨wr.heap.size, 1, none⟩))) rfl rfl (Or.inl ⟨by kernel_rfl, fun w hSw => ?_⟩) (by assumption) ?_
   ·(try dsimp only at hSw); go_simp <;> (try rfl)
   simp only [Act.put, sq1, sq2, sq3]
   refine tkq (i := 6) (d := 27) (v := (.agg (Ch.cells s.ch P Q R).toArray)) rfl rfl (yieldsIf_load_mid (by kernel_rfl) 25 (.tmp 26) rfl wr.heap.size 1 (by simp [Act.eval]) (Ch.cells s.ch P Q R) _ (fun W hW => rangeAt.through HRc.out hW) Try.underlying25 rfl (by kernel_rfl)) (by assumption) ?_
   simp only [Act.put, sq1, sq2, sq3]
   refine wpAnyH_ready (rs := [4]) (by kernel_rfl) (by simp) ?_
   refine AllReadyH.cons rfl (fun K hK => ?_) AllReadyH.nil
   go_simp
   refine (HPu.out _ _ _ _ (HYv.out.through hHeld)).mono ?_
   rintro e wp ⟨Ap, np, dp, rfl, hyp, _, _, hbp⟩; have HYp := Lib.hid hyp; have HKp := Lib.hid (below_step hHeld hbp); clear hyp hbp
   go_wp2_with fail
   refine hK.out _ _ HKp.out (fun hHeld1 => ?_)
   clear hHeld hK K
   have hHeld := hHeld1
   clear hHeld1
   refine wpAnyH_ready (rs := [7]) (by kernel_rfl) (by simp) ?_
   refine AllReadyH.cons rfl (fun K hK => ?_) AllReadyH.nil
   go_simp
   refine (HBt.out _ (HIx.out.through hHeld)).mono ?_
   rintro e wq ⟨Aq, nq, dq, rfl, hyq, _, _, hbq⟩; have HYq := Lib.hid hyq; have HYp2 := Lib.hid (HYp.out.through hbq); have HKq := Lib.hid (below_step hHeld hbq); clear hyq hbq
   go_wp2_with fail
   refine hK.out _ _ HKq.out (fun hHeld1 => ?_)
   clear hHeld hK K
   have hHeld := hHeld1
   clear hHeld1
   refine wpAnyH_ready (rs := [8]) (by kernel_rfl) (by simp) ?_
   refine AllReadyH.cons rfl (fun K hK => ?_) AllReadyH.nil
   go_simp
   refine (HRw.out _ _ _ _ _ _ _ HYp2.out HYq.out).mono ?_
   rintro e wz ⟨Az, nz, dz, rfl, hyz, hnz, hmz, hbz⟩; have HYz := Lib.hid hyz; have HCz := Lib.hid (And.intro hnz hmz); have HKz := Lib.hid (below_step hHeld hbz); clear hyz hnz hmz hbz
   go_wp2_with fail
   refine hK.out _ _ HKz.out (fun hHeld1 => ?_)
   clear hHeld hK K
   have hHeld := hHeld1
   clear hHeld1
   refine tkq (i := 9) (d := 5) (v := (.slice Az nz dz)) rfl rfl (Or.inl ⟨by kernel_rfl, fun w hSw => ?_⟩) (by assumption) ?_
   ·(try dsimp only at hSw); go_simp <;> (try rfl)
   simp only [Act.put, sq1, sq2, sq3]
   refine wpAnyH_done (by kernel_rfl) ?_ _
   have HXz : Hid (Below w.heap.size w wz) := Lib.hid (below_step (below_step HXv.out (below1_ wr _)) hHeld)
   clear hHeld
   go_wp2
   go_roundw
   case rel => exact ⟨i + 1, Az, nz, dz, _, by omega, by go_num, rfl, HOz.out, HYz.out, ⟨HCz.out.1, HCz.out.2⟩, HXz.out⟩
   case measure => simp [intOf]; omega
  ·have e9 : l.drop i = [] := List.drop_of_length_le (by have := HLn.out; omega)
   have HE : Hid (ys = OUT) := Lib.hid (by rw [← HOv.out, e9]; simp [encAll])
   clear e9
   go_wp2
   go_ret
   exact ⟨Av, nv, cv, rfl, by rw [← HE.out]; exact HYv0.out, HCv.out.1, HCv.out.2, HXv.out⟩

end Go.Proofs.Ytheecifgbkdecaa

namespace Go.Proofs.Ytheecifgbkdecaa
open Go.RowKit

def fewNv (l : List Sg) : Bool := l.all (fun s => fewCh s.ch) && decide (l.length ≤ 10)
theorem fewNv_low {l : List Sg} (h : fewNv l = true) : (∀ s ∈ l, fewCh s.ch = true) ∧ l.length ≤ 10 := by
 unfold fewNv at h
 simp only [Bool.and_eq_true, decide_eq_true_eq, List.all_eq_true] at h
 exact h
theorem AllS.mem {w : World} {l : List Sg} {ts : List (Pl × Pl × Pl)} (h : AllS w l ts) : ∀ s ∈ l, ∃ t : Pl × Pl × Pl, ChIn w t.1 t.2.1 t.2.2 s.ch := fun s hs => by
 obtain ⟨i, hi⟩ := List.getElem?_of_mem hs
 obtain ⟨t, _, h9⟩ := h.at hi
 exact ⟨t, h9⟩
theorem SgsIn.dg {w : World} {A : Option Addr} {k : Nat} {l : List Sg} (h : SgsIn w A k l) : ∀ s ∈ l, ∀ p ∈ s.ch.po, p.dg.length = 32 := fun s hs => by
 obtain ⟨ts, _, h8⟩ := h
 obtain ⟨t, h9⟩ := h8.mem s hs
 exact h9.1.1.2
theorem encNv_len {view : Int} {l : List Sg} (hf : fewNv l = true) (hd : ∀ s ∈ l, ∀ p ∈ s.ch.po, p.dg.length = 32) : (encNv view l).length ≤ 9000000 := by
 obtain ⟨h1, h2⟩ := fewNv_low hf
 have : ∀ l : List Sg, (∀ s ∈ l, (encCh s.ch).length ≤ 800000) → (encAll encSg l).length ≤ l.length * 800010 := fun l => by
  induction l with
  | nil => intro _; simp [encAll]
  | cons s l ih =>
   intro h
   have h3 := ih (fun z hz => h z (List.mem_cons_of_mem _ hz))
   have h4 := h s (List.mem_cons_self ..)
   simp only [encAll, List.length_append, List.length_cons, encSg, rowB, beB_length]
   rw [Nat.add_mul, Nat.one_mul]
   omega
 have h9 := this l (fun s hs => encCh_len (h1 s hs) (hd s hs))
 have h8 : l.length * 800010 ≤ 10 * 800010 := Nat.mul_le_mul h2 (Nat.le_refl _)
 unfold encNv
 simp only [List.length_append, beB_length]
 omega
/-- a proof that may be is told by its bytes -/
theorem parse19_back {view : Int} {l : List Sg} {N : Int} (hv : In64 view) (hf : fewNv l = true) (hi : ∀ s ∈ l, s.ch.InR) (hd : ∀ s ∈ l, ∀ p ∈ s.ch.po, p.dg.length = 32) (h : chkNv view l N = 0) : parseNv (encNv view l) N = ((view, l), 0) := by
 obtain ⟨h1, _, h3⟩ := chkNv_0 h
 obtain ⟨f1, _⟩ := fewNv_low hf
 refine parseNv_enc hv h (fun s hs => ⟨?_, ?_⟩)
 ·refine parse18_back (f1 s hs) (hi s hs) (hd s hs) ?_
  unfold chkCh
  rw [if_neg (by simp [h1]), if_pos (okNv_all h3 s hs).2.2]
 ·have := encCh_len (f1 s hs) (hd s hs); omega

def FixedN : Prop := ∀ w : World, Calls Try.prog 21 #[] w fun e w' => e = .returned (.bool true) ∧ Below w.heap.size w w'
def BytesNW : Prop := ∀ (view : Int) (l : List Sg) (A : Option Addr) (k c : Nat) (w : World), SgsIn w A k l → fewNv l = true → Calls Try.prog 23 #[.int .i64 view, .slice A k c] w (Byt w (encNv view l))
def CheckNW : Prop := ∀ (view : Int) (l : List Sg) (N : Int) (A : Option Addr) (k c : Nat) (w : World), SgsIn w A k l → k ≤ c → c ≤ maxLen → fewNv l = true → Calls Try.prog 24 #[.int .i64 view, .slice A k c, .int .i64 N] w fun e w' => e = .returned (.int .i64 (chkNv view l N)) ∧ Below w.heap.size w w'
def FaultsNW : Prop := ∀ (n : Int) (w : World), n ≤ 300 → Calls Try.prog 30 #[.int .i64 n] w fun e w' => e = .returned (.int .i64 (fltN n)) ∧ Below w.heap.size w w'
def QuorumNW : Prop := ∀ (n : Int) (w : World), n ≤ 300 → Calls Try.prog 32 #[.int .i64 n] w fun e w' => e = .returned (.int .i64 (2 * fltN n + 1)) ∧ Below w.heap.size w w'

end Go.Proofs.Ytheecifgbkdecaa

namespace Go.Proofs.Ytheecifgbkdecaa
open Go.RowKit

/-- a proof, its batch read by the batch's own Parse; whether that was OK -/
def pgPf (M : Nat) (n : Int) (st : Option (List UInt8)) : (Pf × Bool) × Option (List UInt8) :=
  ((⟨sx 8 (nval 8 st), sx 8 (nval 8 (nnext 8 st)), (parseG (rval M (nnext 8 (nnext 8 st))) n).1⟩, decide ((parseG (rval M (nnext 8 (nnext 8 st))) n).2 = 0)), rnext M (nnext 8 (nnext 8 st)))
def pgPfs (M most : Nat) (n : Int) (st : Option (List UInt8)) : List (Pf × Bool) × Option (List UInt8) := rdAll (pgPf M n) (cval most st) (cnext most st)
def pgPos (st : Option (List UInt8)) : List Po × Option (List UInt8) := rdAll rdPo (cval 4 st) (cnext 4 st)
def pgCh (M : Nat) (n : Int) (st : Option (List UInt8)) : Ch × Bool × Option (List UInt8) :=
  (⟨sx 8 (nval 8 st), sx 8 (nval 8 (nnext 8 st)), (pgPos (nnext 8 (nnext 8 st))).1, (pgPfs M 8 n (pgPos (nnext 8 (nnext 8 st))).2).1.map (·.1), (pgPfs M 64 n (pgPfs M 8 n (pgPos (nnext 8 (nnext 8 st))).2).2).1.map (·.1)⟩,
   (pgPfs M 8 n (pgPos (nnext 8 (nnext 8 st))).2).1.all (·.2) && (pgPfs M 64 n (pgPfs M 8 n (pgPos (nnext 8 (nnext 8 st))).2).2).1.all (·.2),
   (pgPfs M 64 n (pgPfs M 8 n (pgPos (nnext 8 (nnext 8 st))).2).2).2)
def pgParse (xs : List UInt8) (n : Int) : Ch × Int := if badN n = true then (Ch.no, 1) else finCh (pgCh xs.length n (some xs)) n

theorem nnext_of_none (k : Nat) : nnext k none = none := rfl
theorem rnext_of_none (m : Nat) : rnext m none = none := by unfold rnext; split <;> rfl
theorem cnext_of_none (m : Nat) : cnext m none = none := by unfold cnext; split <;> rfl
theorem pgPf_none (M : Nat) (n : Int) : (pgPf M n none).2 = none := by unfold pgPf; simp only [nnext_of_none, rnext_of_none]
theorem rdPo_none : (rdPo none).2 = none := by unfold rdPo; simp only [nnext_of_none]
theorem rdAll_none {α : Type} {rd : Option (List UInt8) → α × Option (List UInt8)} (h : (rd none).2 = none) : ∀ k, (rdAll rd k none).2 = none
  | 0 => rfl
  | k + 1 => by simp only [rdAll]; rw [h]; exact rdAll_none h k
theorem rdAll_many {α : Type} {rd : Option (List UInt8) → α × Option (List UInt8)} (h : (rd none).2 = none) : ∀ (k : Nat) (st : Option (List UInt8)), (rdAll rd k st).2 = (rdMany rd k st).2 ∧ ((rdMany rd k st).2 ≠ none → rdAll rd k st = rdMany rd k st)
  | 0, st => ⟨rfl, fun _ => rfl⟩
  | k + 1, none => by rw [rdMany_none]; exact ⟨rdAll_none h _, fun h9 => absurd rfl h9⟩
  | k + 1, some xs => by
    rw [rdMany_some]
    simp only [rdAll]
    obtain ⟨h1, h2⟩ := rdAll_many h k (rd (some xs)).2
    exact ⟨h1, fun h9 => by rw [h2 h9]⟩
theorem ppB_chk {vw lw n : Int} : ∀ {q : Option Int} {l : List Pf}, ppB vw lw n q l = true → ∀ p ∈ l, chkB p.es n = 0
  | _, [], _, p, hp => by cases hp
  | q, x :: l, h, p, hp => by
    unfold ppB at h
    simp only [Bool.and_eq_true] at h
    rcases List.mem_cons.1 hp with rfl | hp
    · have h9 := h.1.1
      unfold prfB at h9
      simp only [Bool.and_eq_true, decide_eq_true_eq] at h9
      exact h9.2
    · exact ppB_chk h.2 p hp
theorem pdB_chk {vw lw n : Int} : ∀ {q : Option (Int × Int)} {l : List Pf}, pdB vw lw n q l = true → ∀ p ∈ l, chkB p.es n = 0
  | _, [], _, p, hp => by cases hp
  | q, x :: l, h, p, hp => by
    unfold pdB at h
    simp only [Bool.and_eq_true] at h
    rcases List.mem_cons.1 hp with rfl | hp
    · have h9 := h.1.1
      unfold prfB at h9
      simp only [Bool.and_eq_true, decide_eq_true_eq] at h9
      exact h9.2
    · exact pdB_chk h.2 p hp
/-- a batch by its own Parse, and by the document's reading -/
theorem parseG_row {row : List UInt8} (n : Int) (h : row.length ≤ 1048576) : ((parseG row n).2 = 0 ↔ (rdRow row).2 = true ∧ chkB (rdRow row).1 n = 0) ∧ ((parseG row n).2 = 0 → (parseG row n).1 = (rdRow row).1) := by
  rw [parseG_eq n h]
  unfold parseB finB rdRow
  generalize docR 1048576 (nval 2 (some row)) true [] (nnext 2 (some row)) = R
  obtain ⟨o, b, s⟩ := R
  simp only
  by_cases hh : s = some [] ∧ b = true
  · obtain ⟨rfl, rfl⟩ := hh
    rw [if_pos ⟨rfl, rfl⟩]
    by_cases h2 : chkB o n = 0
    · rw [if_pos h2]; simp [h2]
    · rw [if_neg h2]; simp [h2]
  · rw [if_neg hh]
    refine ⟨⟨fun h9 => absurd h9 (by decide), fun h9 => ?_⟩, fun h9 => absurd h9 (by decide)⟩
    simp only [Bool.and_eq_true, decide_eq_true_eq] at h9
    exact absurd ⟨h9.1.2, h9.1.1⟩ hh
theorem pgPf_rd {M : Nat} {st : Option (List UInt8)} (n : Int) (hm : stL st ≤ M) (h : stL st ≤ 1048576) : (pgPf M n st).2 = (rdPf st).2 ∧ ((pgPf M n st).1.2 = true → (pgPf M n st).1 = (rdPf st).1) ∧ ((rdPf st).1.2 = true → chkB (rdPf st).1.1.es n = 0 → (pgPf M n st).1.2 = true) := by
  have l1 : stL (nnext 8 (nnext 8 st)) ≤ stL st := Nat.le_trans (nnext_stL _ _) (nnext_stL _ _)
  obtain ⟨a1, a2⟩ := row_free (m := M) (m' := 1048576) (st := nnext 8 (nnext 8 st)) (by omega) (by omega)
  have l2 : (rval 1048576 (nnext 8 (nnext 8 st))).length ≤ 1048576 := Nat.le_trans (rval_stL _ _) (by omega)
  obtain ⟨b1, b2⟩ := parseG_row n l2
  unfold pgPf rdPf
  rw [a1, a2]
  generalize rval 1048576 (nnext 8 (nnext 8 st)) = row at *
  refine ⟨rfl, fun h9 => ?_, fun h9 h8 => ?_⟩
  · simp only [decide_eq_true_eq] at h9 ⊢
    rw [b2 h9, (b1.1 h9).1]
    simp [h9]
  · simp only [decide_eq_true_eq] at h9 h8 ⊢
    exact b1.2 ⟨h9, h8⟩
theorem rdPf_stLp (st : Option (List UInt8)) : stL (rdPf st).2 ≤ stL st := Nat.le_trans (rnext_stL _ _) (Nat.le_trans (nnext_stL _ _) (nnext_stL _ _))
theorem pgMany_rd {M : Nat} (n : Int) : ∀ (k : Nat) (st : Option (List UInt8)), stL st ≤ M → stL st ≤ 1048576 → (rdMany (pgPf M n) k st).2 = (rdMany rdPf k st).2 ∧ ((rdMany (pgPf M n) k st).1.all (·.2) = true → (rdMany (pgPf M n) k st).1 = (rdMany rdPf k st).1) ∧ ((rdMany rdPf k st).1.all (·.2) = true → (∀ q ∈ (rdMany rdPf k st).1, chkB q.1.es n = 0) → (rdMany (pgPf M n) k st).1.all (·.2) = true)
  | 0, st, _, _ => ⟨rfl, fun _ => rfl, fun _ _ => rfl⟩
  | k + 1, none, _, _ => by rw [rdMany_none, rdMany_none]; exact ⟨rfl, fun _ => rfl, fun _ _ => rfl⟩
  | k + 1, some xs, hm, h => by
    rw [rdMany_some, rdMany_some]
    obtain ⟨a1, a2, a3⟩ := pgPf_rd (M := M) (st := some xs) n hm h
    have hs := rdPf_stLp (some xs)
    obtain ⟨b1, b2, b3⟩ := pgMany_rd (M := M) n k (rdPf (some xs)).2 (by omega) (by omega)
    rw [a1]
    refine ⟨b1, fun h9 => ?_, fun h9 h8 => ?_⟩
    · simp only [List.all_cons, Bool.and_eq_true] at h9
      simp only
      rw [a2 h9.1, b2 h9.2]
    · simp only [List.all_cons, Bool.and_eq_true] at h9 ⊢
      exact ⟨a3 h9.1 (h8 _ (List.mem_cons_self ..)), b3 h9.2 (fun q hq => h8 q (List.mem_cons_of_mem _ hq))⟩
theorem rdMany_stLp {α : Type} {rd : Option (List UInt8) → α × Option (List UInt8)} (h : ∀ st, stL (rd st).2 ≤ stL st) : ∀ (k : Nat) (st : Option (List UInt8)), stL (rdMany rd k st).2 ≤ stL st
  | 0, _ => Nat.le_refl _
  | k + 1, none => by rw [rdMany_none]; exact Nat.le_refl _
  | k + 1, some xs => by rw [rdMany_some]; exact Nat.le_trans (rdMany_stLp h k _) (h _)
theorem rdAll_stLp {α : Type} {rd : Option (List UInt8) → α × Option (List UInt8)} (h : ∀ st, stL (rd st).2 ≤ stL st) : ∀ (k : Nat) (st : Option (List UInt8)), stL (rdAll rd k st).2 ≤ stL st
  | 0, _ => Nat.le_refl _
  | k + 1, st => by simp only [rdAll]; exact Nat.le_trans (rdAll_stLp h k _) (h st)
theorem rdMany_to_none {α : Type} (rd : Option (List UInt8) → α × Option (List UInt8)) (k : Nat) : (rdMany rd k none).2 = none := by rw [rdMany_none]
theorem cnext_stL_ (m : Nat) (st : Option (List UInt8)) : stL (cnext m st) ≤ stL st := by
  unfold cnext
  split
  · exact nnext_stL _ _
  · cases st <;> simp [stL]
theorem rdPfs_to_none (m : Nat) : (rdPfs m none).2 = none := by unfold rdPfs; rw [cnext_of_none]; exact rdMany_to_none _ _
theorem rdPos_to_none : (rdPos none).2 = none := by unfold rdPos; rw [cnext_of_none]; exact rdMany_to_none _ _
theorem pgPos_rd (st : Option (List UInt8)) : (pgPos st).2 = (rdPos st).2 ∧ ((rdPos st).2 ≠ none → pgPos st = rdPos st) := rdAll_many rdPo_none _ _
theorem rdPo_stLp (st : Option (List UInt8)) : stL (rdPo st).2 ≤ stL st := Nat.le_trans (nnext_stL _ _) (nnext_stL _ _)
theorem pgPfs_rd {M m : Nat} (n : Int) (st : Option (List UInt8)) (hm : stL st ≤ M) (h : stL st ≤ 1048576) : (pgPfs M m n st).2 = (rdPfs m st).2 ∧ ((rdPfs m st).2 ≠ none → ((pgPfs M m n st).1.all (·.2) = true → (pgPfs M m n st).1 = (rdPfs m st).1) ∧ ((rdPfs m st).1.all (·.2) = true → (∀ q ∈ (rdPfs m st).1, chkB q.1.es n = 0) → (pgPfs M m n st).1.all (·.2) = true)) := by
  have hc := cnext_stL_ m st
  obtain ⟨a1, a2⟩ := rdAll_many (rd := pgPf M n) (pgPf_none M n) (cval m st) (cnext m st)
  obtain ⟨b1, b2, b3⟩ := pgMany_rd (M := M) n (cval m st) (cnext m st) (by omega) (by omega)
  unfold pgPfs rdPfs
  refine ⟨a1.trans b1, fun h9 => ?_⟩
  rw [a2 (by rw [b1]; exact h9)]
  exact ⟨b2, b3⟩
/-- the program's way to read a change tells what the document's tells -/
theorem pgParse_eq {xs : List UInt8} (n : Int) (h : xs.length ≤ 1048576) : pgParse xs n = parseCh xs n := by
  unfold pgParse parseCh
  by_cases hb : badN n = true
  · rw [if_pos hb, if_pos hb]
  rw [if_neg hb, if_neg hb]
  have l0 : stL (nnext 8 (nnext 8 (some xs))) ≤ xs.length := Nat.le_trans (nnext_stL _ _) (Nat.le_trans (nnext_stL _ _) (Nat.le_refl _))
  unfold pgCh rdCh
  generalize sx 8 (nval 8 (some xs)) = v1
  generalize sx 8 (nval 8 (nnext 8 (some xs))) = v2
  generalize nnext 8 (nnext 8 (some xs)) = s0 at *
  obtain ⟨p1, p2⟩ := pgPos_rd s0
  have l1 : stL (rdPos s0).2 ≤ stL s0 := Nat.le_trans (rdMany_stLp rdPo_stLp _ _) (cnext_stL_ _ _)
  rw [p1]
  obtain ⟨q1, q2⟩ := pgPfs_rd (M := xs.length) (m := 8) n (rdPos s0).2 (by omega) (by omega)
  have l2 : stL (rdPfs 8 (rdPos s0).2).2 ≤ stL (rdPos s0).2 := Nat.le_trans (rdMany_stLp rdPf_stLp _ _) (cnext_stL_ _ _)
  rw [q1]
  obtain ⟨r1, r2⟩ := pgPfs_rd (M := xs.length) (m := 64) n (rdPfs 8 (rdPos s0).2).2 (by omega) (by omega)
  unfold finCh
  simp only
  rw [r1]
  by_cases hl : (rdPfs 64 (rdPfs 8 (rdPos s0).2).2).2 = some []
  · have n3 : (rdPfs 64 (rdPfs 8 (rdPos s0).2).2).2 ≠ none := by rw [hl]; exact fun h => nomatch h
    have n2 : (rdPfs 8 (rdPos s0).2).2 ≠ none := fun h9 => by rw [h9] at n3; exact n3 (rdPfs_to_none _)
    have n1 : (rdPos s0).2 ≠ none := fun h9 => by rw [h9] at n2; exact n2 (rdPfs_to_none _)
    rw [p2 n1]
    obtain ⟨q2, q3⟩ := q2 n2
    obtain ⟨r2, r3⟩ := r2 n3
    generalize (rdPos s0).1 = ps at *
    generalize (pgPfs xs.length 8 n (rdPos s0).2).1 = A at *
    generalize (rdPfs 8 (rdPos s0).2).1 = A' at *
    generalize (pgPfs xs.length 64 n (rdPfs 8 (rdPos s0).2).2).1 = B at *
    generalize (rdPfs 64 (rdPfs 8 (rdPos s0).2).2).1 = B' at *
    by_cases hf : (A.all (·.2) && B.all (·.2)) = true
    · simp only [Bool.and_eq_true] at hf
      rw [q2 hf.1, r2 hf.2]
    · rw [if_neg (fun h9 => hf h9.2.1)]
      rw [if_neg]
      rintro ⟨_, h8, h7⟩
      simp only [Bool.and_eq_true] at h8
      unfold rightB at h7
      simp only [Bool.and_eq_true] at h7
      refine hf ?_
      rw [Bool.and_eq_true]
      exact ⟨q3 h8.1 (fun q hq => ppB_chk h7.1.2 q.1 (List.mem_map.2 ⟨q, hq, rfl⟩)), r3 h8.2 (fun q hq => pdB_chk h7.2 q.1 (List.mem_map.2 ⟨q, hq, rfl⟩))⟩
  · rw [if_neg (fun h9 => hl h9.1), if_neg (fun h9 => hl h9.1)]

end Go.Proofs.Ytheecifgbkdecaa
