/-
  The law WireBack, walked over contracts of the program's own calls.
-/
import Derived.Test.YtkklgfcmgefedaaWiL
namespace Go.Proofs.Ytkklgfcmgefedaa
open Go.RowKit

def CheckW : Prop := ∀ (a : Ms) (B : Option Addr) (nb cb : Nat) (A : Option Addr) (nt ct : Nat) (w : World), MsIn w B nb A nt ct a → nb ≤ 2000000 → nt ≤ 1000 → Calls Try.prog 9 #[.agg #[.int .i64 a.kd, .int .i64 a.fr, .slice B nb cb, .slice A nt ct]] w fun e w' => e = .returned (.int .i64 (chkM a)) ∧ Below w.heap.size w w'
def BytesW : Prop := ∀ (a : Ms) (B : Option Addr) (nb cb : Nat) (A : Option Addr) (nt ct : Nat) (w : World), MsIn w B nb A nt ct a → nb ≤ 2000000 → nt ≤ 1000 → Calls Try.prog 8 #[.agg #[.int .i64 a.kd, .int .i64 a.fr, .slice B nb cb, .slice A nt ct]] w (Byt w (encM a))
def SameW : Prop := ∀ (a b : Ms) (B : Option Addr) (nb cb : Nat) (A : Option Addr) (nt ct : Nat) (B' : Option Addr) (nb' cb' : Nat) (A' : Option Addr) (nt' ct' : Nat) (w : World), MsIn w B nb A nt ct a → MsIn w B' nb' A' nt' ct' b → Calls Try.prog 12 #[.agg #[.int .i64 a.kd, .int .i64 a.fr, .slice B nb cb, .slice A nt ct], .agg #[.int .i64 b.kd, .int .i64 b.fr, .slice B' nb' cb', .slice A' nt' ct']] w fun e w' => e = .returned (.bool (a.eqb b)) ∧ Below w.heap.size w w'
theorem step_convw {P : Program} {ops : Array Oper} {o : Oper} {a : Act} {w : World} {K : Act → World → Prop} {Q : Exit → Act → World → Prop} {E : Prop} (hw : Region.wanted o (yielded ops a.tmps) = true) (src dst : TypeId) (x : Operand) (ho : o.op = .convert src dst x)
    (p v : Value) (hx : a.eval x = p) (hrun : (convert src dst p).run P w = .ok v w) (h : K (a.put o.dst v) w) : if Region.wanted o (yielded ops a.tmps) = true then Oper.wp P o a w K Q else E := by
  rw [if_pos hw]
  unfold Oper.wp execOp
  simp only [ho, hx, Sem.run_bind, hrun, Result.andThen_ok]
  exact h
theorem MsIn.enc_len {w : World} {B A : Option Addr} {nb nt ct : Nat} {a : Ms} (h : MsIn w B nb A nt ct a) : (encM a).length = 8 + nb + 32 * nt := by
  rw [encM_len a h.2.2.1, h.1.len, h.2.len]

set_option maxHeartbeats 16000000 in
set_option maxRecDepth 100000 in
theorem wireback_of (hfx : FixedW) (hck : CheckW) (hby : BytesW) (hsm : SameW) (hpa : ParseW) (a b : Ms) (B : Option Addr) (nb cb : Nat) (A : Option Addr) (nt ct : Nat) (B' : Option Addr) (nb' cb' : Nat) (A' : Option Addr) (nt' ct' : Nat) (w : World) (h : MsIn w B nb A nt ct a) (h' : MsIn w B' nb' A' nt' ct' b) :
    Calls Try.prog 3 #[.agg #[.int .i64 a.kd, .int .i64 a.fr, .slice B nb cb, .slice A nt ct], .agg #[.int .i64 b.kd, .int .i64 b.fr, .slice B' nb' cb', .slice A' nt' ct']] w fun e w' => e = .returned (.bool true) ∧ Below w.heap.size w w' := by
  have HFx : Hid (∀ w : World, Calls Try.prog 7 #[] w fun e w' => e = .returned (.bool true) ∧ Below w.heap.size w w') := Lib.hid hfx
  have HA := Lib.hid h
  have HB := Lib.hid h'
  have K10 : Hid (Blk ((w.alloc (.cells #[.int .i64 a.kd, .int .i64 a.fr, .slice B nb cb, .slice A nt ct] 25)).alloc (.cells #[.int .i64 b.kd, .int .i64 b.fr, .slice B' nb' cb', .slice A' nt' ct'] 25)) w.heap.size 25 [.int .i64 a.kd, .int .i64 a.fr, .slice B nb cb, .slice A nt ct]) := Lib.hid ((Blk.fresh rfl rfl).alloc _)
  have K20 : Hid (Blk ((w.alloc (.cells #[.int .i64 a.kd, .int .i64 a.fr, .slice B nb cb, .slice A nt ct] 25)).alloc (.cells #[.int .i64 b.kd, .int .i64 b.fr, .slice B' nb' cb', .slice A' nt' ct'] 25)) (w.heap.size + 1) 25 [.int .i64 b.kd, .int .i64 b.fr, .slice B' nb' cb', .slice A' nt' ct']) := Lib.hid (Blk.fresh (by simp) rfl)
  have HX0 : Hid (Below w.heap.size w ((w.alloc (.cells #[.int .i64 a.kd, .int .i64 a.fr, .slice B nb cb, .slice A nt ct] 25)).alloc (.cells #[.int .i64 b.kd, .int .i64 b.fr, .slice B' nb' cb', .slice A' nt' ct'] 25))) := Lib.hid (below2_ w _ _)
  clear h h'
  by_cases s1 : 500 < nb
  · have d1 : decide ((500 : Int) < (nb : Int)) = true := by simp; omega
    skip
    clear s1 hck hby hsm hpa hfx
    go_enter Try.func3, Try.ntmps3
    go_wp2_with (first
      | go_skip
      | (go_at_call 7; (with_reducible refine (HFx.out _).mono ?_); rintro e w1 ⟨rfl, hb1⟩; have HX1 := Lib.hid (below_step HX0.out hb1); have K1 := Lib.hid (K10.out.through hb1); have K2 := Lib.hid (K20.out.through hb1); have k12 := K1.out.cellAt (i := 2) rfl; have k13 := K1.out.cellAt (i := 3) rfl; have k22 := K2.out.cellAt (i := 2) rfl; have k23 := K2.out.cellAt (i := 3) rfl; clear hb1))
    go_ret
    exact ⟨rfl, HX1.out⟩
  have d1 : decide ((500 : Int) < (nb : Int)) = false := by simp; omega
  by_cases s2 : 20 < nt
  · have d2 : decide ((20 : Int) < (nt : Int)) = true := by simp; omega
    skip
    clear s1 s2 hck hby hsm hpa hfx
    go_enter Try.func3, Try.ntmps3
    go_wp2_with (first
      | go_skip
      | (go_at_call 7; (with_reducible refine (HFx.out _).mono ?_); rintro e w1 ⟨rfl, hb1⟩; have HX1 := Lib.hid (below_step HX0.out hb1); have K1 := Lib.hid (K10.out.through hb1); have K2 := Lib.hid (K20.out.through hb1); have k12 := K1.out.cellAt (i := 2) rfl; have k13 := K1.out.cellAt (i := 3) rfl; have k22 := K2.out.cellAt (i := 2) rfl; have k23 := K2.out.cellAt (i := 3) rfl; clear hb1))
    go_ret
    exact ⟨rfl, HX1.out⟩
  have d2 : decide ((20 : Int) < (nt : Int)) = false := by simp; omega
  by_cases s3 : 500 < nb'
  · have d3 : decide ((500 : Int) < (nb' : Int)) = true := by simp; omega
    skip
    clear s1 s2 s3 hck hby hsm hpa hfx
    go_enter Try.func3, Try.ntmps3
    go_wp2_with (first
      | go_skip
      | (go_at_call 7; (with_reducible refine (HFx.out _).mono ?_); rintro e w1 ⟨rfl, hb1⟩; have HX1 := Lib.hid (below_step HX0.out hb1); have K1 := Lib.hid (K10.out.through hb1); have K2 := Lib.hid (K20.out.through hb1); have k12 := K1.out.cellAt (i := 2) rfl; have k13 := K1.out.cellAt (i := 3) rfl; have k22 := K2.out.cellAt (i := 2) rfl; have k23 := K2.out.cellAt (i := 3) rfl; clear hb1))
    go_ret
    exact ⟨rfl, HX1.out⟩
  have d3 : decide ((500 : Int) < (nb' : Int)) = false := by simp; omega
  by_cases s4 : 20 < nt'
  · have d4 : decide ((20 : Int) < (nt' : Int)) = true := by simp; omega
    skip
    clear s1 s2 s3 s4 hck hby hsm hpa hfx
    go_enter Try.func3, Try.ntmps3
    go_wp2_with (first
      | go_skip
      | (go_at_call 7; (with_reducible refine (HFx.out _).mono ?_); rintro e w1 ⟨rfl, hb1⟩; have HX1 := Lib.hid (below_step HX0.out hb1); have K1 := Lib.hid (K10.out.through hb1); have K2 := Lib.hid (K20.out.through hb1); have k12 := K1.out.cellAt (i := 2) rfl; have k13 := K1.out.cellAt (i := 3) rfl; have k22 := K2.out.cellAt (i := 2) rfl; have k23 := K2.out.cellAt (i := 3) rfl; clear hb1))
    go_ret
    exact ⟨rfl, HX1.out⟩
  have d4 : decide ((20 : Int) < (nt' : Int)) = false := by simp; omega
  obtain ⟨er, hE⟩ : ∃ er, chkM a = er := ⟨_, rfl⟩
  obtain ⟨P, pe, hP⟩ : ∃ P pe, parseM (encM a) = (P, pe) := ⟨_, _, rfl⟩
  obtain ⟨bb, hbb⟩ : ∃ bb, a.eqb b = bb := ⟨_, rfl⟩
  have hl := HA.out.enc_len
  have HPq : Hid (er = 0 → P = a ∧ pe = 0) := Lib.hid (fun h9 => by
    have h8 := parseM_back (hE.trans h9) HA.out.2.2.1
    rw [hP] at h8
    exact Prod.mk.inj h8)
  have HBw : Hid (∀ W : World, MsIn W B nb A nt ct a → Calls Try.prog 8 #[.agg #[.int .i64 a.kd, .int .i64 a.fr, .slice B nb cb, .slice A nt ct]] W (Byt W (encM a))) := Lib.hid (fun W h9 => hby a B nb cb A nt ct W h9 (by omega) (by omega))
  have HCw0 : Hid (∀ W : World, MsIn W B nb A nt ct a → Calls Try.prog 9 #[.agg #[.int .i64 a.kd, .int .i64 a.fr, .slice B nb cb, .slice A nt ct]] W fun e w' => e = .returned (.int .i64 er) ∧ Below W.heap.size W w') := Lib.hid (fun W h9 => hE ▸ hck a B nb cb A nt ct W h9 (by omega) (by omega))
  have HCr0 : Hid (∀ W : World, MsIn W B nb A nt ct a → Calls Try.prog 10 #[.agg #[.int .i64 a.kd, .int .i64 a.fr, .slice B nb cb, .slice A nt ct]] W fun e w' => e = .returned (.int .i64 er) ∧ Below W.heap.size W w') := Lib.hid (fun W h9 => hE ▸ rmcheck_any a B nb cb A nt ct W h9 (by omega) (by omega))
  have HBr0 : Hid (∀ W : World, MsIn W B nb A nt ct a → Calls Try.prog 11 #[.agg #[.int .i64 a.kd, .int .i64 a.fr, .slice B nb cb, .slice A nt ct]] W (Byt W (encM a))) := Lib.hid (fun W h9 => rmbytes_any a B nb cb A nt ct W h9 (by omega) (by omega))
  have HSw0 : Hid (∀ W : World, MsIn W B nb A nt ct a → MsIn W B' nb' A' nt' ct' b → Calls Try.prog 12 #[.agg #[.int .i64 a.kd, .int .i64 a.fr, .slice B nb cb, .slice A nt ct], .agg #[.int .i64 b.kd, .int .i64 b.fr, .slice B' nb' cb', .slice A' nt' ct']] W fun e w' => e = .returned (.bool bb) ∧ Below W.heap.size W w') := Lib.hid (fun W h8 h9 => hbb ▸ hsm a b B nb cb A nt ct B' nb' cb' A' nt' ct' W h8 h9)
  have HSr0 : Hid (∀ W : World, MsIn W B nb A nt ct a → MsIn W B' nb' A' nt' ct' b → Calls Try.prog 13 #[.agg #[.int .i64 a.kd, .int .i64 a.fr, .slice B nb cb, .slice A nt ct], .agg #[.int .i64 b.kd, .int .i64 b.fr, .slice B' nb' cb', .slice A' nt' ct']] W fun e w' => e = .returned (.bool bb) ∧ Below W.heap.size W w') := Lib.hid (fun W h8 h9 => hbb ▸ rmsame_any a b B nb cb A nt ct B' nb' cb' A' nt' ct' W h8 h9)
  have HSs : Hid (∀ (B2 : Option Addr) (n2 c2 : Nat) (A2 : Option Addr) (t2 d2 : Nat) (W : World), MsIn W B2 n2 A2 t2 d2 a → MsIn W B nb A nt ct a → Calls Try.prog 13 #[.agg #[.int .i64 a.kd, .int .i64 a.fr, .slice B2 n2 c2, .slice A2 t2 d2], .agg #[.int .i64 a.kd, .int .i64 a.fr, .slice B nb cb, .slice A nt ct]] W fun e w' => e = .returned (.bool true) ∧ Below W.heap.size W w') := Lib.hid (fun B2 n2 c2 A2 t2 d2 W h8 h9 => by
    have h7 := rmsame_any a a B2 n2 c2 A2 t2 d2 B nb cb A nt ct W h8 h9
    rw [Ms.eqb_self] at h7
    exact h7)
  have HPw0 : Hid (∀ (A : Option Addr) (n c : Nat) (W : World), By W (fun _ => True) A n (encM a) → n ≤ c → c ≤ maxLen → Calls Try.prog 14 #[.slice A n c] W (MsOut W P pe)) := Lib.hid (fun A n c W h1 h2 h3 => by
    have h9 := hpa (encM a) A n c W h1 h2 h3
    rw [hP] at h9
    exact h9)
  clear hE hP hbb hl hck hby hsm hpa hfx s1 s2 s3 s4
  go_enter Try.func3, Try.ntmps3
  go_wp2_with (first
    | (go_at_call 7; (with_reducible refine (HFx.out _).mono ?_); rintro e w1 ⟨rfl, hb1⟩; have HX1 := Lib.hid (below_step HX0.out hb1); have K1 := Lib.hid (K10.out.through hb1); have K2 := Lib.hid (K20.out.through hb1); have k12 := K1.out.cellAt (i := 2) rfl; have k13 := K1.out.cellAt (i := 3) rfl; have k22 := K2.out.cellAt (i := 2) rfl; have k23 := K2.out.cellAt (i := 3) rfl; clear hb1)
    | (refine wpList_load_blk rfl 25 (.tmp 2) rfl w.heap.size rfl 25 [.int .i64 a.kd, .int .i64 a.fr, .slice B nb cb, .slice A nt ct] _ K1.out Try.underlying25 rfl (by kernel_rfl) ?_)
    | (go_at_call 8; (with_reducible refine (HBw.out _ (HA.out.through HX1.out)).mono ?_); rintro e w2 ⟨T2, m2, d2, rfl, hy2, hn2, hc2, hb2⟩; have HY2 := Lib.hid hy2; have HN2 := Lib.hid (And.intro hn2 hc2); have HX2 := Lib.hid (below_step HX1.out hb2); have KA := Lib.hid (K1.out.through hb2); have KB := Lib.hid (K2.out.through hb2); have HA2 := Lib.hid (HA.out.through HX2.out); have HB2 := Lib.hid (HB.out.through HX2.out); clear k12 k13 k22 k23 hy2 hn2 hc2 hb2))
  have HCw : Hid (∀ W : World, Below w2.heap.size w2 W → Calls Try.prog 9 #[.agg #[.int .i64 a.kd, .int .i64 a.fr, .slice B nb cb, .slice A nt ct]] W fun e w' => e = .returned (.int .i64 er) ∧ Below W.heap.size W w') := Lib.hid (fun W hW => HCw0.out W (HA2.out.through hW))
  have HCr : Hid (∀ W : World, Below w2.heap.size w2 W → Calls Try.prog 10 #[.agg #[.int .i64 a.kd, .int .i64 a.fr, .slice B nb cb, .slice A nt ct]] W fun e w' => e = .returned (.int .i64 er) ∧ Below W.heap.size W w') := Lib.hid (fun W hW => HCr0.out W (HA2.out.through hW))
  have HBr : Hid (∀ W : World, Below w2.heap.size w2 W → Calls Try.prog 11 #[.agg #[.int .i64 a.kd, .int .i64 a.fr, .slice B nb cb, .slice A nt ct]] W (Byt W (encM a))) := Lib.hid (fun W hW => HBr0.out W (HA2.out.through hW))
  have HSw : Hid (∀ W : World, Below w2.heap.size w2 W → Calls Try.prog 12 #[.agg #[.int .i64 a.kd, .int .i64 a.fr, .slice B nb cb, .slice A nt ct], .agg #[.int .i64 b.kd, .int .i64 b.fr, .slice B' nb' cb', .slice A' nt' ct']] W fun e w' => e = .returned (.bool bb) ∧ Below W.heap.size W w') := Lib.hid (fun W hW => HSw0.out W (HA2.out.through hW) (HB2.out.through hW))
  have HSr : Hid (∀ W : World, Below w2.heap.size w2 W → Calls Try.prog 13 #[.agg #[.int .i64 a.kd, .int .i64 a.fr, .slice B nb cb, .slice A nt ct], .agg #[.int .i64 b.kd, .int .i64 b.fr, .slice B' nb' cb', .slice A' nt' ct']] W fun e w' => e = .returned (.bool bb) ∧ Below W.heap.size W w') := Lib.hid (fun W hW => HSr0.out W (HA2.out.through hW) (HB2.out.through hW))
  try dsimp only [Act.put]
  refine wp_region_held_drew (S := fun W => Below w2.heap.size w2 W) (by kernel_rfl) (Below.refl _ _).drew (fun hHeld => ?_)
  change wpAnyH _ _ _ _ _ _ #[false, false, false, false, false, false, false, false, false, false, false, false, false, false, false, false, false, false, false, false, false, false] _ _
  refine wpAnyH_take (i := 0) (v := (.agg #[.int .i64 a.kd, .int .i64 a.fr, .slice B nb cb, .slice A nt ct])) rfl (by kernel_rfl) (by kernel_rfl) (by kernel_rfl) (fun _ _ _ h => h) (yieldsIf_load_mid (by kernel_rfl) 25 (.tmp 2) rfl w.heap.size 0 (by simp [Act.eval]) [.int .i64 a.kd, .int .i64 a.fr, .slice B nb cb, .slice A nt ct] _ (fun W hW => rangeAt.through (Blk.front (post := []) KA.out) hW) Try.underlying25 rfl (by kernel_rfl)) (by assumption) ?_
  change wpAnyH _ _ _ _ _ _ _ (Act.put _ (some (34 : Nat)) (.agg #[.int .i64 a.kd, .int .i64 a.fr, .slice B nb cb, .slice A nt ct])) _
  simp only [Act.put, List.setIfInBounds_toArray, List.set_cons_zero, List.set_cons_succ]
  refine wpAnyH_take (i := 2) (v := (.agg #[.int .i64 a.kd, .int .i64 a.fr, .slice B nb cb, .slice A nt ct])) rfl (by kernel_rfl) (by kernel_rfl) (by kernel_rfl) (fun _ _ _ h => h) (yieldsIf_load_mid (by kernel_rfl) 25 (.tmp 2) rfl w.heap.size 0 (by simp [Act.eval]) [.int .i64 a.kd, .int .i64 a.fr, .slice B nb cb, .slice A nt ct] _ (fun W hW => rangeAt.through (Blk.front (post := []) KA.out) hW) Try.underlying25 rfl (by kernel_rfl)) (by assumption) ?_
  change wpAnyH _ _ _ _ _ _ _ (Act.put _ (some (36 : Nat)) (.agg #[.int .i64 a.kd, .int .i64 a.fr, .slice B nb cb, .slice A nt ct])) _
  simp only [Act.put, List.setIfInBounds_toArray, List.set_cons_zero, List.set_cons_succ]
  refine wpAnyH_ready (rs := [1]) (by kernel_rfl) (by simp) ?_
  refine AllReadyH.cons rfl (fun K hK => ?_) AllReadyH.nil
  go_simp
  refine (HCw.out _ hHeld).mono ?_
  rintro e wp ⟨rfl, hbp⟩; have HKp := Lib.hid (below_step hHeld hbp); clear hbp
  go_wp2_with fail
  refine hK.out _ _ HKp.out (fun hHeld1 => ?_)
  clear hHeld hK K
  have hHeld := hHeld1
  clear hHeld1
  refine wpAnyH_ready (rs := [3]) (by kernel_rfl) (by simp) ?_
  refine AllReadyH.cons rfl (fun K hK => ?_) AllReadyH.nil
  go_simp
  refine (HCr.out _ hHeld).mono ?_
  rintro e wq ⟨rfl, hbq⟩; have HKq := Lib.hid (below_step hHeld hbq); clear hbq
  go_wp2_with fail
  refine hK.out _ _ HKq.out (fun hHeld1 => ?_)
  clear hHeld hK K
  have hHeld := hHeld1
  clear hHeld1
  refine wpAnyH_take (i := 4) (v := (.bool false)) rfl (by kernel_rfl) (by kernel_rfl) (by kernel_rfl) (fun _ _ _ h => h) (Or.inl ⟨by kernel_rfl, fun w hSw => ?_⟩) (by assumption) ?_
  · (try dsimp only at hSw); go_simp <;> (try rfl)
  change wpAnyH _ _ _ _ _ _ _ (Act.put _ (some (38 : Nat)) (.bool false)) _
  simp only [Act.put, List.setIfInBounds_toArray, List.set_cons_zero, List.set_cons_succ]
  refine wpAnyH_take (i := 5) (v := (.bool false)) rfl (by kernel_rfl) (by kernel_rfl) (by kernel_rfl) (fun _ _ _ h => h) (Or.inl ⟨by kernel_rfl, fun w hSw => ?_⟩) (by assumption) ?_
  · (try dsimp only at hSw); go_simp <;> (try rfl)
  change wpAnyH _ _ _ _ _ _ _ (Act.put _ (some (39 : Nat)) (.bool false)) _
  simp only [Act.put, List.setIfInBounds_toArray, List.set_cons_zero, List.set_cons_succ]
  refine wpAnyH_take (i := 6) (v := (.slice T2 m2 d2)) rfl (by kernel_rfl) (by kernel_rfl) (by kernel_rfl) (fun _ _ _ h => h) (Or.inl ⟨by kernel_rfl, fun w hSw => ?_⟩) (by assumption) ?_
  · (try dsimp only at hSw); go_simp <;> (try rfl)
  change wpAnyH _ _ _ _ _ _ _ (Act.put _ (some (40 : Nat)) (.slice T2 m2 d2)) _
  simp only [Act.put, List.setIfInBounds_toArray, List.set_cons_zero, List.set_cons_succ]
  refine wpAnyH_take (i := 7) (v := (.string (ba (encM a)))) rfl (by kernel_rfl) (by kernel_rfl) (by kernel_rfl) (fun _ _ _ h => h) (yields_conv (by kernel_rfl) 22 9 (.tmp 40) rfl (.slice T2 m2 d2) (by simp [Act.eval]) (.string (ba (encM a))) (fun W hW => run_string_by W 22 9 5 Try.underlying22 Try.underlying5 Try.underlying9 _ _ _ _ _ (HY2.out.through hW))) (by assumption) ?_
  change wpAnyH _ _ _ _ _ _ _ (Act.put _ (some (41 : Nat)) (.string (ba (encM a)))) _
  simp only [Act.put, List.setIfInBounds_toArray, List.set_cons_zero, List.set_cons_succ]
  refine wpAnyH_take (i := 8) (v := (.agg #[.int .i64 a.kd, .int .i64 a.fr, .slice B nb cb, .slice A nt ct])) rfl (by kernel_rfl) (by kernel_rfl) (by kernel_rfl) (fun _ _ _ h => h) (yieldsIf_load_mid (by kernel_rfl) 25 (.tmp 2) rfl w.heap.size 0 (by simp [Act.eval]) [.int .i64 a.kd, .int .i64 a.fr, .slice B nb cb, .slice A nt ct] _ (fun W hW => rangeAt.through (Blk.front (post := []) KA.out) hW) Try.underlying25 rfl (by kernel_rfl)) (by assumption) ?_
  change wpAnyH _ _ _ _ _ _ _ (Act.put _ (some (42 : Nat)) (.agg #[.int .i64 a.kd, .int .i64 a.fr, .slice B nb cb, .slice A nt ct])) _
  simp only [Act.put, List.setIfInBounds_toArray, List.set_cons_zero, List.set_cons_succ]
  refine wpAnyH_ready (rs := [9]) (by kernel_rfl) (by simp) ?_
  refine AllReadyH.cons rfl (fun K hK => ?_) AllReadyH.nil
  go_simp
  refine (HBr.out _ hHeld).mono ?_
  rintro e w9 ⟨T9, m9, d9, rfl, hy9, _, _, hb9⟩; have HY9 := Lib.hid hy9; have HK9 := Lib.hid (below_step hHeld hb9); clear hy9 hb9
  go_wp2_with fail
  refine hK.out _ _ HK9.out (fun hHeld1 => ?_)
  clear hHeld hK K
  have hHeld := hHeld1
  clear hHeld1
  refine wpAnyH_ready (rs := [10]) (by kernel_rfl) (by simp) ?_
  refine AllReadyH.cons (o := ⟨some 44, .convert 22 9 (.tmp 43), _, _, _, some (5, false)⟩) rfl (fun K hK => ?_) AllReadyH.nil
  refine step_convw (by kernel_rfl) 22 9 (.tmp 43) rfl (.slice T9 m9 d9) (.string (ba (encM a))) (by simp [Act.eval]) (run_string_by _ 22 9 5 Try.underlying22 Try.underlying5 Try.underlying9 _ _ _ _ _ HY9.out) ?_
  refine hK.out _ _ hHeld (fun hHeld1 => ?_)
  clear hHeld hK K
  have hHeld := hHeld1
  clear hHeld1
  change wpAnyH _ _ _ _ _ _ _ (Act.put _ (some (44 : Nat)) (.string (ba (encM a)))) _
  simp only [Act.put, List.setIfInBounds_toArray, List.set_cons_zero, List.set_cons_succ]
  refine wpAnyH_take (i := 11) (v := (.bool false)) rfl (by kernel_rfl) (by kernel_rfl) (by kernel_rfl) (fun _ _ _ h => h) (Or.inl ⟨by kernel_rfl, fun w hSw => ?_⟩) (by assumption) ?_
  · (try dsimp only at hSw); go_simp <;> (try rfl)
  change wpAnyH _ _ _ _ _ _ _ (Act.put _ (some (45 : Nat)) (.bool false)) _
  simp only [Act.put, List.setIfInBounds_toArray, List.set_cons_zero, List.set_cons_succ]
  refine wpAnyH_take (i := 12) (v := (.bool false)) rfl (by kernel_rfl) (by kernel_rfl) (by kernel_rfl) (fun _ _ _ h => h) (Or.inl ⟨by kernel_rfl, fun w hSw => ?_⟩) (by assumption) ?_
  · (try dsimp only at hSw); go_simp <;> (try rfl)
  change wpAnyH _ _ _ _ _ _ _ (Act.put _ (some (46 : Nat)) (.bool false)) _
  simp only [Act.put, List.setIfInBounds_toArray, List.set_cons_zero, List.set_cons_succ]
  refine wpAnyH_take (i := 13) (v := (.bool false)) rfl (by kernel_rfl) (by kernel_rfl) (by kernel_rfl) (fun _ _ _ h => h) (Or.inl ⟨by kernel_rfl, fun w hSw => ?_⟩) (by assumption) ?_
  · (try dsimp only at hSw); go_simp <;> (try rfl)
  change wpAnyH _ _ _ _ _ _ _ (Act.put _ (some (47 : Nat)) (.bool false)) _
  simp only [Act.put, List.setIfInBounds_toArray, List.set_cons_zero, List.set_cons_succ]
  refine wpAnyH_take (i := 14) (v := (.agg #[.int .i64 a.kd, .int .i64 a.fr, .slice B nb cb, .slice A nt ct])) rfl (by kernel_rfl) (by kernel_rfl) (by kernel_rfl) (fun _ _ _ h => h) (yieldsIf_load_mid (by kernel_rfl) 25 (.tmp 2) rfl w.heap.size 0 (by simp [Act.eval]) [.int .i64 a.kd, .int .i64 a.fr, .slice B nb cb, .slice A nt ct] _ (fun W hW => rangeAt.through (Blk.front (post := []) KA.out) hW) Try.underlying25 rfl (by kernel_rfl)) (by assumption) ?_
  change wpAnyH _ _ _ _ _ _ _ (Act.put _ (some (48 : Nat)) (.agg #[.int .i64 a.kd, .int .i64 a.fr, .slice B nb cb, .slice A nt ct])) _
  simp only [Act.put, List.setIfInBounds_toArray, List.set_cons_zero, List.set_cons_succ]
  refine wpAnyH_take (i := 15) (v := (.agg #[.int .i64 b.kd, .int .i64 b.fr, .slice B' nb' cb', .slice A' nt' ct'])) rfl (by kernel_rfl) (by kernel_rfl) (by kernel_rfl) (fun _ _ _ h => h) (yieldsIf_load_mid (by kernel_rfl) 25 (.tmp 3) rfl (w.heap.size + 1) 0 (by simp [Act.eval]) [.int .i64 b.kd, .int .i64 b.fr, .slice B' nb' cb', .slice A' nt' ct'] _ (fun W hW => rangeAt.through (Blk.front (post := []) KB.out) hW) Try.underlying25 rfl (by kernel_rfl)) (by assumption) ?_
  change wpAnyH _ _ _ _ _ _ _ (Act.put _ (some (49 : Nat)) (.agg #[.int .i64 b.kd, .int .i64 b.fr, .slice B' nb' cb', .slice A' nt' ct'])) _
  simp only [Act.put, List.setIfInBounds_toArray, List.set_cons_zero, List.set_cons_succ]
  refine wpAnyH_take (i := 17) (v := (.agg #[.int .i64 a.kd, .int .i64 a.fr, .slice B nb cb, .slice A nt ct])) rfl (by kernel_rfl) (by kernel_rfl) (by kernel_rfl) (fun _ _ _ h => h) (yieldsIf_load_mid (by kernel_rfl) 25 (.tmp 2) rfl w.heap.size 0 (by simp [Act.eval]) [.int .i64 a.kd, .int .i64 a.fr, .slice B nb cb, .slice A nt ct] _ (fun W hW => rangeAt.through (Blk.front (post := []) KA.out) hW) Try.underlying25 rfl (by kernel_rfl)) (by assumption) ?_
  change wpAnyH _ _ _ _ _ _ _ (Act.put _ (some (51 : Nat)) (.agg #[.int .i64 a.kd, .int .i64 a.fr, .slice B nb cb, .slice A nt ct])) _
  simp only [Act.put, List.setIfInBounds_toArray, List.set_cons_zero, List.set_cons_succ]
  refine wpAnyH_take (i := 18) (v := (.agg #[.int .i64 b.kd, .int .i64 b.fr, .slice B' nb' cb', .slice A' nt' ct'])) rfl (by kernel_rfl) (by kernel_rfl) (by kernel_rfl) (fun _ _ _ h => h) (yieldsIf_load_mid (by kernel_rfl) 25 (.tmp 3) rfl (w.heap.size + 1) 0 (by simp [Act.eval]) [.int .i64 b.kd, .int .i64 b.fr, .slice B' nb' cb', .slice A' nt' ct'] _ (fun W hW => rangeAt.through (Blk.front (post := []) KB.out) hW) Try.underlying25 rfl (by kernel_rfl)) (by assumption) ?_
  change wpAnyH _ _ _ _ _ _ _ (Act.put _ (some (52 : Nat)) (.agg #[.int .i64 b.kd, .int .i64 b.fr, .slice B' nb' cb', .slice A' nt' ct'])) _
  simp only [Act.put, List.setIfInBounds_toArray, List.set_cons_zero, List.set_cons_succ]
  refine wpAnyH_ready (rs := [16]) (by kernel_rfl) (by simp) ?_
  refine AllReadyH.cons rfl (fun K hK => ?_) AllReadyH.nil
  go_simp
  refine (HSw.out _ hHeld).mono ?_
  rintro e wr ⟨rfl, hbr⟩; have HKr := Lib.hid (below_step hHeld hbr); clear hbr
  go_wp2_with fail
  refine hK.out _ _ HKr.out (fun hHeld1 => ?_)
  clear hHeld hK K
  have hHeld := hHeld1
  clear hHeld1
  refine wpAnyH_ready (rs := [19]) (by kernel_rfl) (by simp) ?_
  refine AllReadyH.cons rfl (fun K hK => ?_) AllReadyH.nil
  go_simp
  refine (HSr.out _ hHeld).mono ?_
  rintro e ws ⟨rfl, hbs⟩; have HKs := Lib.hid (below_step hHeld hbs); clear hbs
  go_wp2_with fail
  refine hK.out _ _ HKs.out (fun hHeld1 => ?_)
  clear hHeld hK K
  have hHeld := hHeld1
  clear hHeld1
  refine wpAnyH_take (i := 20) (v := (.bool false)) rfl (by kernel_rfl) (by kernel_rfl) (by kernel_rfl) (fun _ _ _ h => h) (Or.inl ⟨by kernel_rfl, fun w hSw => ?_⟩) (by assumption) ?_
  · (try dsimp only at hSw); go_simp <;> (try rfl)
  change wpAnyH _ _ _ _ _ _ _ (Act.put _ (some (54 : Nat)) (.bool false)) _
  simp only [Act.put, List.setIfInBounds_toArray, List.set_cons_zero, List.set_cons_succ]
  refine wpAnyH_take (i := 21) (v := (.bool false)) rfl (by kernel_rfl) (by kernel_rfl) (by kernel_rfl) (fun _ _ _ h => h) (Or.inl ⟨by kernel_rfl, fun w hSw => ?_⟩) (by assumption) ?_
  · (try dsimp only at hSw); go_simp <;> (try rfl)
  change wpAnyH _ _ _ _ _ _ _ (Act.put _ (some (55 : Nat)) (.bool false)) _
  simp only [Act.put, List.setIfInBounds_toArray, List.set_cons_zero, List.set_cons_succ]
  refine wpAnyH_done (by kernel_rfl) ?_ _
  have HXz := Lib.hid (below_step HX2.out hHeld)
  have HYz := Lib.hid (HY2.out.through hHeld)
  have KAz := Lib.hid (KA.out.through hHeld)
  have HAz := Lib.hid (HA2.out.through hHeld)
  clear hHeld
  cases her : decide (er = 0) with
  | false =>
    have he9 : ¬ er = 0 := of_decide_eq_false her
    have b1 : (er == 0) = false := by simpa using he9
    have b2 : (er != 0) = true := by simpa using he9
    have HPw : Hid (∀ (A : Option Addr) (n c : Nat) (W : World), By W (fun _ => True) A n (encM a) → n ≤ c → c ≤ maxLen → Calls Try.prog 14 #[.slice A n c] W (MsOut W P pe)) := Lib.hid HPw0.out
    clear her he9
    go_wp2_with (first
      | (go_at_call 14; (with_reducible refine (HPw.out _ _ _ _ HYz.out HN2.out.1 HN2.out.2).mono ?_); rintro e wt ⟨B5, n5, c5, A5, t5, d5, rfl, hm5, hb5⟩; have HM5 := Lib.hid (hm5.through (below1_ wt (.cells #[.int .i64 P.kd, .int .i64 P.fr, .slice B5 n5 c5, .slice A5 t5 d5] 25))); have K5 : Hid (Blk (wt.alloc (.cells #[.int .i64 P.kd, .int .i64 P.fr, .slice B5 n5 c5, .slice A5 t5 d5] 25)) wt.heap.size 25 [.int .i64 P.kd, .int .i64 P.fr, .slice B5 n5 c5, .slice A5 t5 d5]) := Lib.hid (Blk.fresh rfl rfl); have HX5 : Hid (Below w.heap.size w (wt.alloc (.cells #[.int .i64 P.kd, .int .i64 P.fr, .slice B5 n5 c5, .slice A5 t5 d5] 25))) := Lib.hid ((below_step HXz.out hb5).alloc (below_step HXz.out hb5).size (.cells #[.int .i64 P.kd, .int .i64 P.fr, .slice B5 n5 c5, .slice A5 t5 d5] 25)); have KA5 := Lib.hid ((KAz.out.through hb5).alloc (.cells #[.int .i64 P.kd, .int .i64 P.fr, .slice B5 n5 c5, .slice A5 t5 d5] 25)); have HA5 := Lib.hid ((HAz.out.through hb5).through (below1_ wt (.cells #[.int .i64 P.kd, .int .i64 P.fr, .slice B5 n5 c5, .slice A5 t5 d5] 25))); clear hm5 hb5)
      | (refine wpList_load_blk rfl 25 (.tmp 2) rfl w.heap.size rfl 25 [.int .i64 a.kd, .int .i64 a.fr, .slice B nb cb, .slice A nt ct] _ KA5.out Try.underlying25 rfl (by kernel_rfl) ?_)
      | (go_at_call 10; (with_reducible refine (HCr0.out _ HA5.out).mono ?_); rintro e w6 ⟨rfl, hb6⟩; have HX6 := Lib.hid (below_step HX5.out hb6); have K56 := Lib.hid (K5.out.through hb6); have KA6 := Lib.hid (KA5.out.through hb6); have HM6 := Lib.hid (HM5.out.through hb6); have HA6 := Lib.hid (HA5.out.through hb6); clear hb6))
    go_ret
    exact ⟨rfl, HX6.out⟩
  | true =>
    have he9 : er = 0 := of_decide_eq_true her
    have b1 : (er == 0) = true := by simpa using he9
    have b2 : (er != 0) = false := by simpa using he9
    have HPw : Hid (∀ (A : Option Addr) (n c : Nat) (W : World), By W (fun _ => True) A n (encM a) → n ≤ c → c ≤ maxLen → Calls Try.prog 14 #[.slice A n c] W (MsOut W a 0)) := Lib.hid (by have h7 := HPw0.out; rw [(HPq.out he9).1, (HPq.out he9).2] at h7; exact h7)
    clear her he9
    go_wp2_with (first
      | (go_at_call 14; (with_reducible refine (HPw.out _ _ _ _ HYz.out HN2.out.1 HN2.out.2).mono ?_); rintro e wt ⟨B5, n5, c5, A5, t5, d5, rfl, hm5, hb5⟩; have HM5 := Lib.hid (hm5.through (below1_ wt (.cells #[.int .i64 a.kd, .int .i64 a.fr, .slice B5 n5 c5, .slice A5 t5 d5] 25))); have K5 : Hid (Blk (wt.alloc (.cells #[.int .i64 a.kd, .int .i64 a.fr, .slice B5 n5 c5, .slice A5 t5 d5] 25)) wt.heap.size 25 [.int .i64 a.kd, .int .i64 a.fr, .slice B5 n5 c5, .slice A5 t5 d5]) := Lib.hid (Blk.fresh rfl rfl); have HX5 : Hid (Below w.heap.size w (wt.alloc (.cells #[.int .i64 a.kd, .int .i64 a.fr, .slice B5 n5 c5, .slice A5 t5 d5] 25))) := Lib.hid ((below_step HXz.out hb5).alloc (below_step HXz.out hb5).size (.cells #[.int .i64 a.kd, .int .i64 a.fr, .slice B5 n5 c5, .slice A5 t5 d5] 25)); have KA5 := Lib.hid ((KAz.out.through hb5).alloc (.cells #[.int .i64 a.kd, .int .i64 a.fr, .slice B5 n5 c5, .slice A5 t5 d5] 25)); have HA5 := Lib.hid ((HAz.out.through hb5).through (below1_ wt (.cells #[.int .i64 a.kd, .int .i64 a.fr, .slice B5 n5 c5, .slice A5 t5 d5] 25))); clear hm5 hb5)
      | (refine wpList_load_blk rfl 25 (.tmp 2) rfl w.heap.size rfl 25 [.int .i64 a.kd, .int .i64 a.fr, .slice B nb cb, .slice A nt ct] _ KA5.out Try.underlying25 rfl (by kernel_rfl) ?_)
      | (go_at_call 10; (with_reducible refine (HCr0.out _ HA5.out).mono ?_); rintro e w6 ⟨rfl, hb6⟩; have HX6 := Lib.hid (below_step HX5.out hb6); have K56 := Lib.hid (K5.out.through hb6); have KA6 := Lib.hid (KA5.out.through hb6); have HM6 := Lib.hid (HM5.out.through hb6); have HA6 := Lib.hid (HA5.out.through hb6); clear hb6)
      | (refine wpList_load_blk_g 25 (.tmp 6) rfl (by kernel_rfl) wt.heap.size rfl 25 [.int .i64 a.kd, .int .i64 a.fr, .slice B5 n5 c5, .slice A5 t5 d5] _ K56.out Try.underlying25 rfl (by kernel_rfl) ?_)
      | (refine wpList_load_blk_g 25 (.tmp 2) rfl (by kernel_rfl) w.heap.size rfl 25 [.int .i64 a.kd, .int .i64 a.fr, .slice B nb cb, .slice A nt ct] _ KA6.out Try.underlying25 rfl (by kernel_rfl) ?_)
      | (go_at_call 13; (with_reducible refine (HSs.out _ _ _ _ _ _ _ HM6.out HA6.out).mono ?_); rintro e w8 ⟨rfl, hb8⟩; have HX8 := Lib.hid (below_step HX6.out hb8); clear hb8))
    go_ret
    exact ⟨rfl, HX8.out⟩

end Go.Proofs.Ytkklgfcmgefedaa
