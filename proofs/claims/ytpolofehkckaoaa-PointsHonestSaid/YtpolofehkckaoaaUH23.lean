/-
  Joined: PtJ.
-/
import Derived.Test.YtpolofehkckaoaaUH22
namespace Go.Proofs.Ytpolofehkckaoaa
open Go.RowKit

def whoLh (n : Nat) (u : UInt8) : Int := 1 + (u.toNat : Int).tmod ((n : Int) - 1)
def LSL (n : Nat) (ls : List UInt8) : List Nat := ls.map fun u => (whoLh n u).toNat
theorem fxJ_vote {P : World → Nat → Ptp → (Nat → Prop) → Prop} {w0 w : World} {B : Nat} {r : Ptp} {Z : Nat → Prop} (C : PtsP P) (h : Fx P w0 w B r Z) {m : Nat} (hl : Lens m r) (hm : m ≤ 100000) (who : Int) (x : Po) (hx : x.dg.length = 32) : Calls Try.prog 13 #[.pointer (some ⟨B, 0, none⟩), .int .i64 who, .agg (Po.cells x).toArray] w fun e w' => ∃ b, e = .returned (.bool b) ∧ Fx P w0 w' B (voteR r who x).1 Z ∧ Ft (fun q => w0.heap.size ≤ q ∧ ¬ Z q) w w' :=
 (h.vote C ⟨fun l hm2 => Nat.le_trans (hl l hm2) hm⟩ who x hx).mono fun e w' h => ⟨_, h⟩
theorem Try.ix_by23 (W : World) (g o n c j : Nat) (hj : j < n) : (Instr.indexAt 34 (.slice (some ⟨g, o, none⟩) n c) (.int .i64 (j : Int))).run Try.prog W = .ok (.pointer (some ⟨g, o + j, none⟩)) W := by
 have := Try.el_u1.index (by kernel_rfl) W g o n c j hj
 rwa [Nat.mul_one] at this
theorem conv_J (u : UInt8) (w : World) : (convert 5 3 (u8 u)).run Try.prog w = .ok (.int .i64 (u.toNat : Int)) w := by
 have e : IntKind.i64.wrap (u.toNat : Int) = (u.toNat : Int) := IntWalk.i64_in _ (by have := u.toNat_lt; omega)
 simp [convert, run_underlying Try.underlying5, run_underlying Try.underlying3, Conv.intToInt, e, u8]
theorem fxJ_supp {P : World → Nat → Ptp → (Nat → Prop) → Prop} {w0 w : World} {B : Nat} {r : Ptp} {Z : Nat → Prop} (C : PtsP P) (h : Fx P w0 w B r Z) {m : Nat} (hl : Lens m r) (hm : m ≤ 100000) (x : Po) (hx : x.dg.length = 32) : Calls Try.prog 14 #[.pointer (some ⟨B, 0, none⟩), .agg (Po.cells x).toArray] w fun e w' => ∃ s : Int, s = (supO x r.of : Int) ∧ e = .returned (.int .i64 s) ∧ Fx P w0 w' B r Z :=
 (h.supp C ⟨fun l hm2 => Nat.le_trans (hl l hm2) hm⟩ x hx).mono fun e w' h => ⟨_, rfl, h.1, h.2.1⟩
theorem Votd.weak {LS : List Nat} {r : Ptp} (h : Votd [] r) : Votd LS r := ⟨h.ris, fun i l hi hl => nomatch (h.only i l hi hl)⟩
theorem paZ_len : (Pa.cells ⟨0, 0, poZ, [], none, 0, 0⟩).length = 36 := Pa.len (by decide)
/-- the walk's state between two votes -/
structure HJ (P : World → Nat → Ptp → (Nat → Prop) → Prop) (w0 : World) (n kk : Nat) (LS : List Nat) (w : World) (B : Nat) (r : Ptp) (Z : Nat → Prop) (m : Nat) : Prop where
 fx : Fx P w0 w B r Z
 v : Votd LS r
 l : Lens m r
 n_ : r.n = n
set_option maxHeartbeats 16000000 in
set_option maxRecDepth 100000 in
theorem honest23_law {P : World → Nat → Ptp → (Nat → Prop) → Prop} (C : PtsP P) (f : Int) (hf0 : 0 ≤ f) (hf1 : f ≤ 255) (A : Option Addr) (k c : Nat) (l : List Pa) (A2 : Option Addr) (k2 c2 : Nat) (ls : List UInt8) (x : Po) (w : World) (hp : PasIn w A k l) (hb : By w (fun _ => True) A2 k2 ls) (hx : x.dg.length = 32) :
  Calls Try.prog 4 #[.int .u8 f, .slice A k c, .slice A2 k2 c2, .agg (Po.cells x).toArray] w fun e w' => e = .returned (.bool true) ∧ Below w.heap.size w w' := by
 have hbx := fun W => Try.box_po x hx W
 have HXd := Lib.hid hx
 have HXl : Hid ((Po.cells x).length = 33) := Lib.hid (Po.cells_len x hx)
 have X1 : Hid (Below w.heap.size w (w.alloc (.cells (Po.cells x).toArray tPo))) := Lib.hid (below1_ w _)
 have HBX : Hid (Blk (w.alloc (.cells (Po.cells x).toArray tPo)) w.heap.size tPo (Po.cells x)) := Lib.hid (Blk.fresh rfl rfl)
 have HP := Lib.hid hp
 have HB := Lib.hid hb
 have hr : f.tmod 2 = 0 ∨ f.tmod 2 = 1 := by
  rw [Int.tmod_eq_emod_of_nonneg hf0]
  omega
 clear hp hb hx hf0 hf1
 rcases hr with hr | hr
 ·skip
  by_cases hbig : 80 < k
  ·have hb80 : (80 : Int) < (k : Int) := by omega
   go_enter Try.func4, Try.ntmps4
   go_wp2_with (first
     | (go_at_call 6; (with_reducible refine (fixed23_of C _).mono ?_); rintro e w1 ⟨rfl, hb9⟩; have HX1 := Lib.hid hb9; clear hb9))
   go_ret
   exact ⟨rfl, below_step X1.out HX1.out⟩
  have hb80 : ¬ (80 : Int) < (k : Int) := by omega
  by_cases hbig2 : 1 < k2
  ·have hb2 : (1 : Int) < (k2 : Int) := by omega
   go_enter Try.func4, Try.ntmps4
   go_wp2_with (first
     | (go_at_call 6; (with_reducible refine (fixed23_of C _).mono ?_); rintro e w1 ⟨rfl, hb9⟩; have HX1 := Lib.hid hb9; clear hb9))
   go_ret
   exact ⟨rfl, below_step X1.out HX1.out⟩
  have hb2 : ¬ (1 : Int) < (k2 : Int) := by omega
  go_enter Try.func4, Try.ntmps4
  go_wp2_with (first
    | (go_at_call 6; (with_reducible refine (fixed23_of C _).mono ?_); rintro e w1 ⟨rfl, hb9⟩; have HX1 := Lib.hid hb9; clear hb9)
    | (go_at_call 7; (with_reducible refine (show Calls _ _ #[.int .i64 4, .int .i64 0] _ _ from fxH_new C 4 (by decide) (by decide) HX1.out).mono ?_); rintro e w2 ⟨B, rfl, hx9⟩; have Hw2 := Lib.hid hx9; clear hx9))
  go_loopw [43] (fun sv wr => ∃ (i : Nat) (r : Ptp), i ≤ k ∧ sv = .int .i64 (i : Int) ∧ HJ P (w.alloc (.cells (Po.cells x).toArray tPo)) 4 1 (LSL 4 ls) wr B r (fun _ => False) (2 * i)) (fun sv _ => (100 - (intOf sv)).toNat)
  case atStart => exact ⟨0, _, Nat.zero_le _, rfl, ⟨Hw2.out, (votd_new 4 0 []).weak, fun l hl => (by rw [List.eq_of_mem_replicate hl]; exact Nat.zero_le _), rfl⟩⟩
  case round =>
   obtain ⟨i, r, hi, rfl, hJ⟩ := hrel
   have HJn := Lib.hid hJ
   clear hJ
   obtain ⟨wo, hwo⟩ : ∃ wo, wo = wr := ⟨_, rfl⟩
   subst hwo
   have HW := Lib.hid (below_step X1.out HJn.out.fx.since)
   by_cases hlt : i < k
   ·have hlt2 : (i : Int) < (k : Int) := by omega
    obtain ⟨g0, o0, a, hA, hai, hok, hra⟩ := HP.out.at HW.out hlt
    subst hA
    have HOk := Lib.hid hok
    have HRa := Lib.hid hra
    have HAl : Hid ((Pa.cells a).length = 36) := Lib.hid (Pa.len hok.dg)
    have HApl : Hid ((Po.cells a.x).length = 33) := Lib.hid (Po.cells_len _ hok.dg)
    have hixa := fun W => Try.ix_pa W g0 o0 k c i hlt
    have hza := fun W => Try.zero_pa W
    clear hai hok hra
    go_wp2_with (first
      | (refine wpList_load_mid rfl tAct (.tmp 45) rfl g0 (o0 + i * 36) rfl (Pa.cells a) _ HRa.out Try.underlying45 rfl (by rw [HAl.out]; kernel_rfl) ?_)
      | (refine wpList_store_blk rfl tAct (.tmp 13) (.tmp 46) rfl wo.heap.size (Pa.cells a) rfl rfl tAct (Pa.cells ⟨0, 0, poZ, [], none, 0, 0⟩) (Blk.fresh rfl rfl) (by rw [HAl.out]; kernel_rfl) (paZ_len.trans HAl.out.symm) (Pa.one a) ?_; simp only [Act.put]; intro w3 hbv hgv; have HA3 := Lib.hid hbv; have HF3 := Lib.hid (fx_sto C HJn.out.fx hgv hbv.lt); clear hbv hgv))
    go_loopw [49] (fun s49 w4 => ∃ (j : Nat) (r2 : Ptp), j ≤ k2 ∧ s49 = .int .i64 (j : Int) ∧ HJ P (w.alloc (.cells (Po.cells x).toArray tPo)) 4 1 (LSL 4 ls) w4 B r2 (fun q => False ∨ q = wo.heap.size) (2 * i + j) ∧ Blk w4 wo.heap.size tAct (Pa.cells a)) (fun s49 _ => (100 - (intOf s49)).toNat)
    case atStart => exact ⟨0, r, Nat.zero_le _, rfl, ⟨HF3.out, HJn.out.v, HJn.out.l, HJn.out.n_⟩, HA3.out⟩
    case round =>
     obtain ⟨j, r2, hj, rfl, hJ, hA4⟩ := hrel
     have HJ2 := Lib.hid hJ
     have HA4 := Lib.hid hA4
     clear hJ hA4
     by_cases hlt3 : j < k2
     ·have hlt4 : (j : Int) < (k2 : Int) := by omega
      have hjl : j < ls.length := by rw [HB.out.1]; exact hlt3
      obtain ⟨u, hu⟩ : ∃ u, ls[j] = u := ⟨_, rfl⟩
      have HU := Lib.hid hu
      obtain ⟨g2, o2, e2, _, hc2⟩ := (HB.out.through (below_step X1.out HJ2.out.fx.since)).2 (by omega)
      subst e2
      have kc := hc2 j u (by rw [List.getElem?_eq_getElem hjl, hu])
      have hixb := fun W => Try.ix_by23 W g2 o2 k2 c2 j hlt3
      have k1 := HA4.out.cellAt (i := 1) rfl
      have hcu := fun W => conv_J u W
      have hu0 : (0 : Int) ≤ (u.toNat : Int) ∧ (u.toNat : Int) ≤ 255 := ⟨by omega, by have := u.toNat_lt; omega⟩
      obtain ⟨m3, hm3⟩ : ∃ m3, (u.toNat : Int).tmod 3 = m3 := ⟨_, rfl⟩
      have hm30 : 0 ≤ m3 ∧ m3 < 3 := by
       rw [Int.tmod_eq_emod_of_nonneg hu0.1] at hm3
       omega
      have HMm : Hid ((1 + m3).toNat ∈ LSL 4 ls) := Lib.hid (List.mem_map.2 ⟨u, by rw [← hu]; exact List.getElem_mem hjl, by unfold whoLh; rw [show (((4 : Nat) : Int) - 1) = 3 from rfl, hm3]⟩)
      have hw1 : IntKind.i64.wrap (u.toNat : Int) = (u.toNat : Int) := IntWalk.i64_in _ (by omega)
      have hw2 : wrap64 (u.toNat : Int) = (u.toNat : Int) := IntWalk.wrap64_in _ (by omega)
      have hw3 : IntKind.i64.wrap m3 = m3 := IntWalk.i64_in _ (by omega)
      have hw4 : wrap64 m3 = m3 := IntWalk.wrap64_in _ (by omega)
      have hw5 : IntKind.i64.wrap (1 + m3) = 1 + m3 := IntWalk.i64_in _ (by omega)
      have hw6 : wrap64 (1 + m3) = 1 + m3 := IntWalk.wrap64_in _ (by omega)
      clear hc2 hu
      by_cases heq : 1 + m3 = a.who
      ·have hbe : (1 + m3 == a.who) = true := by simpa using heq
       clear heq
       go_wp2_with (first
         | (refine wpList_load_mid rfl tPo (.tmp 65) rfl wo.heap.size 2 rfl (Po.cells a.x) _ (pa_point HA4.out) Try.underlying31 rfl (by rw [HApl.out]; kernel_rfl) ?_)
         | (go_at_call 13; (with_reducible refine (fxJ_vote C HJ2.out.fx HJ2.out.l (by omega) (1 + m3) a.x HOk.out.dg).mono ?_); rintro e w5 ⟨b5, rfl, hx9, hf9⟩; have Hw5 := Lib.hid hx9; have HA5 := Lib.hid (hf9.blk HA4.out (fun h => h.2 (.inr rfl))); clear hx9 hf9))
       go_roundw
       case rel => exact ⟨j + 1, _, by omega, by first | go_num | (push_cast; rfl), ⟨Hw5.out, HJ2.out.v.vote a.x HMm.out, by rw [← Nat.add_assoc]; exact HJ2.out.l.vote _ a.x, vote_n.1.trans HJ2.out.n_⟩, HA5.out⟩
       case measure => simp [intOf]; omega
      ·have hbe : (1 + m3 == a.who) = false := by simpa using heq
       clear heq
       go_wp2_with fail
       go_roundw
       case rel => exact ⟨j + 1, r2, by omega, by first | go_num | (push_cast; rfl), ⟨HJ2.out.fx, HJ2.out.v, fun l hl => Nat.le_succ_of_le (HJ2.out.l l hl), HJ2.out.n_⟩, HA4.out⟩
       case measure => simp [intOf]; omega
     ·have hlt4 : ¬ (j : Int) < (k2 : Int) := by omega
      go_wp2_with fail
      go_roundw
      case rel => exact ⟨i + 1, r2, by omega, by first | go_num | (push_cast; rfl), ⟨HJ2.out.fx.less (fun _ h => h.elim), HJ2.out.v, fun l hl => Nat.le_trans (HJ2.out.l l hl) (by omega), HJ2.out.n_⟩⟩
      case measure => simp [intOf]; omega
   ·have hlt2 : ¬ (i : Int) < (k : Int) := by omega
    have HLk : Hid ((LSL 4 ls).length ≤ 1) := Lib.hid (by unfold LSL; rw [List.length_map, HB.out.1]; omega)
    have hi80 : i ≤ 80 := by omega
    have hzp := fun W => Try.zero_po W
    have HBo := Lib.hid (HBX.out.through HJn.out.fx.since)
    go_wp2_with (first
      | (go_at_call 11; (with_reducible refine (fxH_weak C HJn.out.fx HJn.out.l (by omega) HJn.out.v HLk.out (by rw [HJn.out.n_]) (-1)).mono ?_); rintro e w5 ⟨rfl, hx9, hb9⟩; have Hw5 := Lib.hid hx9; have Bo5 := Lib.hid (HBo.out.through hb9); clear hx9 hb9)
      | (refine wpList_store_blk rfl tPo (.tmp 17) (.tmp 73) rfl w5.heap.size (Po.cells poZ) rfl rfl tPo (Po.cells poZ) (Blk.fresh rfl rfl) (by rw [poZ_len]; kernel_rfl) rfl (Po.one _) ?_; simp only [Act.put]; intro w6 hbv hgv; have Hw6 := Lib.hid ((fx_sto C Hw5.out hgv hbv.lt).less (Y := fun _ => False) (fun _ h => h.elim)); have Bo6 := Lib.hid (Bo5.out.through (below_new hgv)); clear hbv hgv)
      | (go_at_call 10; (with_reducible refine (fxH_stab C Hw6.out HJn.out.l (by omega) HJn.out.v HLk.out (by rw [HJn.out.n_]) (-1)).mono ?_); rintro e w7 ⟨rfl, hx9, hb9⟩; have Hw7 := Lib.hid hx9; have Bo7 := Lib.hid (Bo6.out.through hb9); clear hx9 hb9)
      | (refine wpList_store_blk rfl tPo (.tmp 19) (.tmp 78) rfl w7.heap.size (Po.cells poZ) rfl rfl tPo (Po.cells poZ) (Blk.fresh rfl rfl) (by rw [poZ_len]; kernel_rfl) rfl (Po.one _) ?_; simp only [Act.put]; intro w8 hbv hgv; have Hw8 := Lib.hid ((fx_sto C Hw7.out hgv hbv.lt).less (Y := fun _ => False) (fun _ h => h.elim)); have Bo8 := Lib.hid (Bo7.out.through (below_new hgv)); clear hbv hgv)
      | (refine wpList_load_blk rfl tPo (.tmp 7) rfl w.heap.size rfl tPo (Po.cells x) _ Bo8.out Try.underlying31 rfl (by rw [HXl.out]; kernel_rfl) ?_)
      | (go_at_call 13; (with_reducible refine (fxJ_vote C Hw8.out HJn.out.l (by omega) 1 x HXd.out).mono ?_); rintro e w9 ⟨b9, rfl, hx9, hf9⟩; have Hw9 := Lib.hid hx9; have Bo9 := Lib.hid (hf9.blk Bo8.out (fun h => absurd h.1 (by show ¬ (w.heap.push _).size ≤ w.heap.size; simp))); clear hx9 hf9)
      | (refine wpList_load_blk_g tPo (.tmp 7) rfl (by kernel_rfl) w.heap.size rfl tPo (Po.cells x) _ Bo9.out Try.underlying31 rfl (by rw [HXl.out]; kernel_rfl) ?_)
      | (go_at_call 14; (with_reducible refine (fxJ_supp C Hw9.out (HJn.out.l.vote 1 x) (by omega) x HXd.out).mono ?_); rintro e w10 ⟨s10, hs10, rfl, hx9⟩; have HS10 := Lib.hid hs10; have Hw10 := Lib.hid hx9; clear hx9 hs10))
    go_ret
    have hle : s10 ≤ 2 := by
     have h9 := ((HJn.out.v.more 1).vote (who := 1) x (by simp)).sup x
     have h8 := HLk.out
     rw [List.length_cons] at h9
     rw [HS10.out]
     omega
    exact ⟨by rw [decide_eq_true hle]; rfl, below_step X1.out Hw10.out.since⟩
 ·skip
  by_cases hbig : 80 < k
  ·have hb80 : (80 : Int) < (k : Int) := by omega
   go_enter Try.func4, Try.ntmps4
   go_wp2_with (first
     | (go_at_call 6; (with_reducible refine (fixed23_of C _).mono ?_); rintro e w1 ⟨rfl, hb9⟩; have HX1 := Lib.hid hb9; clear hb9))
   go_ret
   exact ⟨rfl, below_step X1.out HX1.out⟩
  have hb80 : ¬ (80 : Int) < (k : Int) := by omega
  by_cases hbig2 : 2 < k2
  ·have hb2 : (2 : Int) < (k2 : Int) := by omega
   go_enter Try.func4, Try.ntmps4
   go_wp2_with (first
     | (go_at_call 6; (with_reducible refine (fixed23_of C _).mono ?_); rintro e w1 ⟨rfl, hb9⟩; have HX1 := Lib.hid hb9; clear hb9))
   go_ret
   exact ⟨rfl, below_step X1.out HX1.out⟩
  have hb2 : ¬ (2 : Int) < (k2 : Int) := by omega
  go_enter Try.func4, Try.ntmps4
  go_wp2_with (first
    | (go_at_call 6; (with_reducible refine (fixed23_of C _).mono ?_); rintro e w1 ⟨rfl, hb9⟩; have HX1 := Lib.hid hb9; clear hb9)
    | (go_at_call 7; (with_reducible refine (show Calls _ _ #[.int .i64 7, .int .i64 0] _ _ from fxH_new C 7 (by decide) (by decide) HX1.out).mono ?_); rintro e w2 ⟨B, rfl, hx9⟩; have Hw2 := Lib.hid hx9; clear hx9))
  go_loopw [43] (fun sv wr => ∃ (i : Nat) (r : Ptp), i ≤ k ∧ sv = .int .i64 (i : Int) ∧ HJ P (w.alloc (.cells (Po.cells x).toArray tPo)) 7 2 (LSL 7 ls) wr B r (fun _ => False) (2 * i)) (fun sv _ => (100 - (intOf sv)).toNat)
  case atStart => exact ⟨0, _, Nat.zero_le _, rfl, ⟨Hw2.out, (votd_new 7 0 []).weak, fun l hl => (by rw [List.eq_of_mem_replicate hl]; exact Nat.zero_le _), rfl⟩⟩
  case round =>
   obtain ⟨i, r, hi, rfl, hJ⟩ := hrel
   have HJn := Lib.hid hJ
   clear hJ
   obtain ⟨wo, hwo⟩ : ∃ wo, wo = wr := ⟨_, rfl⟩
   subst hwo
   have HW := Lib.hid (below_step X1.out HJn.out.fx.since)
   by_cases hlt : i < k
   ·have hlt2 : (i : Int) < (k : Int) := by omega
    obtain ⟨g0, o0, a, hA, hai, hok, hra⟩ := HP.out.at HW.out hlt
    subst hA
    have HOk := Lib.hid hok
    have HRa := Lib.hid hra
    have HAl : Hid ((Pa.cells a).length = 36) := Lib.hid (Pa.len hok.dg)
    have HApl : Hid ((Po.cells a.x).length = 33) := Lib.hid (Po.cells_len _ hok.dg)
    have hixa := fun W => Try.ix_pa W g0 o0 k c i hlt
    have hza := fun W => Try.zero_pa W
    clear hai hok hra
    go_wp2_with (first
      | (refine wpList_load_mid rfl tAct (.tmp 45) rfl g0 (o0 + i * 36) rfl (Pa.cells a) _ HRa.out Try.underlying45 rfl (by rw [HAl.out]; kernel_rfl) ?_)
      | (refine wpList_store_blk rfl tAct (.tmp 13) (.tmp 46) rfl wo.heap.size (Pa.cells a) rfl rfl tAct (Pa.cells ⟨0, 0, poZ, [], none, 0, 0⟩) (Blk.fresh rfl rfl) (by rw [HAl.out]; kernel_rfl) (paZ_len.trans HAl.out.symm) (Pa.one a) ?_; simp only [Act.put]; intro w3 hbv hgv; have HA3 := Lib.hid hbv; have HF3 := Lib.hid (fx_sto C HJn.out.fx hgv hbv.lt); clear hbv hgv))
    go_loopw [49] (fun s49 w4 => ∃ (j : Nat) (r2 : Ptp), j ≤ k2 ∧ s49 = .int .i64 (j : Int) ∧ HJ P (w.alloc (.cells (Po.cells x).toArray tPo)) 7 2 (LSL 7 ls) w4 B r2 (fun q => False ∨ q = wo.heap.size) (2 * i + j) ∧ Blk w4 wo.heap.size tAct (Pa.cells a)) (fun s49 _ => (100 - (intOf s49)).toNat)
    case atStart => exact ⟨0, r, Nat.zero_le _, rfl, ⟨HF3.out, HJn.out.v, HJn.out.l, HJn.out.n_⟩, HA3.out⟩
    case round =>
     obtain ⟨j, r2, hj, rfl, hJ, hA4⟩ := hrel
     have HJ2 := Lib.hid hJ
     have HA4 := Lib.hid hA4
     clear hJ hA4
     by_cases hlt3 : j < k2
     ·have hlt4 : (j : Int) < (k2 : Int) := by omega
      have hjl : j < ls.length := by rw [HB.out.1]; exact hlt3
      obtain ⟨u, hu⟩ : ∃ u, ls[j] = u := ⟨_, rfl⟩
      have HU := Lib.hid hu
      obtain ⟨g2, o2, e2, _, hc2⟩ := (HB.out.through (below_step X1.out HJ2.out.fx.since)).2 (by omega)
      subst e2
      have kc := hc2 j u (by rw [List.getElem?_eq_getElem hjl, hu])
      have hixb := fun W => Try.ix_by23 W g2 o2 k2 c2 j hlt3
      have k1 := HA4.out.cellAt (i := 1) rfl
      have hcu := fun W => conv_J u W
      have hu0 : (0 : Int) ≤ (u.toNat : Int) ∧ (u.toNat : Int) ≤ 255 := ⟨by omega, by have := u.toNat_lt; omega⟩
      obtain ⟨m3, hm3⟩ : ∃ m3, (u.toNat : Int).tmod 6 = m3 := ⟨_, rfl⟩
      have hm30 : 0 ≤ m3 ∧ m3 < 6 := by
       rw [Int.tmod_eq_emod_of_nonneg hu0.1] at hm3
       omega
      have HMm : Hid ((1 + m3).toNat ∈ LSL 7 ls) := Lib.hid (List.mem_map.2 ⟨u, by rw [← hu]; exact List.getElem_mem hjl, by unfold whoLh; rw [show (((7 : Nat) : Int) - 1) = 6 from rfl, hm3]⟩)
      have hw1 : IntKind.i64.wrap (u.toNat : Int) = (u.toNat : Int) := IntWalk.i64_in _ (by omega)
      have hw2 : wrap64 (u.toNat : Int) = (u.toNat : Int) := IntWalk.wrap64_in _ (by omega)
      have hw3 : IntKind.i64.wrap m3 = m3 := IntWalk.i64_in _ (by omega)
      have hw4 : wrap64 m3 = m3 := IntWalk.wrap64_in _ (by omega)
      have hw5 : IntKind.i64.wrap (1 + m3) = 1 + m3 := IntWalk.i64_in _ (by omega)
      have hw6 : wrap64 (1 + m3) = 1 + m3 := IntWalk.wrap64_in _ (by omega)
      clear hc2 hu
      by_cases heq : 1 + m3 = a.who
      ·have hbe : (1 + m3 == a.who) = true := by simpa using heq
       clear heq
       go_wp2_with (first
         | (refine wpList_load_mid rfl tPo (.tmp 65) rfl wo.heap.size 2 rfl (Po.cells a.x) _ (pa_point HA4.out) Try.underlying31 rfl (by rw [HApl.out]; kernel_rfl) ?_)
         | (go_at_call 13; (with_reducible refine (fxJ_vote C HJ2.out.fx HJ2.out.l (by omega) (1 + m3) a.x HOk.out.dg).mono ?_); rintro e w5 ⟨b5, rfl, hx9, hf9⟩; have Hw5 := Lib.hid hx9; have HA5 := Lib.hid (hf9.blk HA4.out (fun h => h.2 (.inr rfl))); clear hx9 hf9))
       go_roundw
       case rel => exact ⟨j + 1, _, by omega, by first | go_num | (push_cast; rfl), ⟨Hw5.out, HJ2.out.v.vote a.x HMm.out, by rw [← Nat.add_assoc]; exact HJ2.out.l.vote _ a.x, vote_n.1.trans HJ2.out.n_⟩, HA5.out⟩
       case measure => simp [intOf]; omega
      ·have hbe : (1 + m3 == a.who) = false := by simpa using heq
       clear heq
       go_wp2_with fail
       go_roundw
       case rel => exact ⟨j + 1, r2, by omega, by first | go_num | (push_cast; rfl), ⟨HJ2.out.fx, HJ2.out.v, fun l hl => Nat.le_succ_of_le (HJ2.out.l l hl), HJ2.out.n_⟩, HA4.out⟩
       case measure => simp [intOf]; omega
     ·have hlt4 : ¬ (j : Int) < (k2 : Int) := by omega
      go_wp2_with fail
      go_roundw
      case rel => exact ⟨i + 1, r2, by omega, by first | go_num | (push_cast; rfl), ⟨HJ2.out.fx.less (fun _ h => h.elim), HJ2.out.v, fun l hl => Nat.le_trans (HJ2.out.l l hl) (by omega), HJ2.out.n_⟩⟩
      case measure => simp [intOf]; omega
   ·have hlt2 : ¬ (i : Int) < (k : Int) := by omega
    have HLk : Hid ((LSL 7 ls).length ≤ 2) := Lib.hid (by unfold LSL; rw [List.length_map, HB.out.1]; omega)
    have hi80 : i ≤ 80 := by omega
    have hzp := fun W => Try.zero_po W
    have HBo := Lib.hid (HBX.out.through HJn.out.fx.since)
    go_wp2_with (first
      | (go_at_call 11; (with_reducible refine (fxH_weak C HJn.out.fx HJn.out.l (by omega) HJn.out.v HLk.out (by rw [HJn.out.n_]) (-1)).mono ?_); rintro e w5 ⟨rfl, hx9, hb9⟩; have Hw5 := Lib.hid hx9; have Bo5 := Lib.hid (HBo.out.through hb9); clear hx9 hb9)
      | (refine wpList_store_blk rfl tPo (.tmp 17) (.tmp 73) rfl w5.heap.size (Po.cells poZ) rfl rfl tPo (Po.cells poZ) (Blk.fresh rfl rfl) (by rw [poZ_len]; kernel_rfl) rfl (Po.one _) ?_; simp only [Act.put]; intro w6 hbv hgv; have Hw6 := Lib.hid ((fx_sto C Hw5.out hgv hbv.lt).less (Y := fun _ => False) (fun _ h => h.elim)); have Bo6 := Lib.hid (Bo5.out.through (below_new hgv)); clear hbv hgv)
      | (go_at_call 10; (with_reducible refine (fxH_stab C Hw6.out HJn.out.l (by omega) HJn.out.v HLk.out (by rw [HJn.out.n_]) (-1)).mono ?_); rintro e w7 ⟨rfl, hx9, hb9⟩; have Hw7 := Lib.hid hx9; have Bo7 := Lib.hid (Bo6.out.through hb9); clear hx9 hb9)
      | (refine wpList_store_blk rfl tPo (.tmp 19) (.tmp 78) rfl w7.heap.size (Po.cells poZ) rfl rfl tPo (Po.cells poZ) (Blk.fresh rfl rfl) (by rw [poZ_len]; kernel_rfl) rfl (Po.one _) ?_; simp only [Act.put]; intro w8 hbv hgv; have Hw8 := Lib.hid ((fx_sto C Hw7.out hgv hbv.lt).less (Y := fun _ => False) (fun _ h => h.elim)); have Bo8 := Lib.hid (Bo7.out.through (below_new hgv)); clear hbv hgv)
      | (refine wpList_load_blk rfl tPo (.tmp 7) rfl w.heap.size rfl tPo (Po.cells x) _ Bo8.out Try.underlying31 rfl (by rw [HXl.out]; kernel_rfl) ?_)
      | (go_at_call 13; (with_reducible refine (fxJ_vote C Hw8.out HJn.out.l (by omega) 1 x HXd.out).mono ?_); rintro e w9 ⟨b9, rfl, hx9, hf9⟩; have Hw9 := Lib.hid hx9; have Bo9 := Lib.hid (hf9.blk Bo8.out (fun h => absurd h.1 (by show ¬ (w.heap.push _).size ≤ w.heap.size; simp))); clear hx9 hf9)
      | (refine wpList_load_blk_g tPo (.tmp 7) rfl (by kernel_rfl) w.heap.size rfl tPo (Po.cells x) _ Bo9.out Try.underlying31 rfl (by rw [HXl.out]; kernel_rfl) ?_)
      | (go_at_call 14; (with_reducible refine (fxJ_supp C Hw9.out (HJn.out.l.vote 1 x) (by omega) x HXd.out).mono ?_); rintro e w10 ⟨s10, hs10, rfl, hx9⟩; have HS10 := Lib.hid hs10; have Hw10 := Lib.hid hx9; clear hx9 hs10))
    go_ret
    have hle : s10 ≤ 3 := by
     have h9 := ((HJn.out.v.more 1).vote (who := 1) x (by simp)).sup x
     have h8 := HLk.out
     rw [List.length_cons] at h9
     rw [HS10.out]
     omega
    exact ⟨by rw [decide_eq_true hle]; rfl, below_step X1.out Hw10.out.since⟩

end Go.Proofs.Ytpolofehkckaoaa
