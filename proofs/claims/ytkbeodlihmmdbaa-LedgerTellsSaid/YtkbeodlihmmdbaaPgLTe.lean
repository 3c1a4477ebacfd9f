/-
  LedgerTells, walked.
-/
import Derived.Test.YtkbeodlihmmdbaaPgL1
import Derived.Test.YtkbeodlihmmdbaaPgF2
import Derived.Test.YtkbeodlihmmdbaaPgLTl
import Derived.Test.YtkbeodlihmmdbaaLgT
import Derived.Test.YtkbeodlihmmdbaaLgW
import Derived.Test.YtkbeodlihmmdbaaLgN
import Derived.Test.YtkbeodlihmmdbaaLgL
import Derived.Test.YtkbeodlihmmdbaaLgS
namespace Go.Proofs.Ytkbeodlihmmdbaa
open Go.RowKit

set_option maxHeartbeats 64000000 in
set_option maxRecDepth 100000 in
theorem ltells_any (l : Lg) (x : Lt) (o : Oc) (s : List UInt8) (y : Int) (A : Option Addr) (n c : Nat) (B : Option Addr) (m d : Nat) (w : World) (h : LgIn w A n B m l) (hnc : n ≤ c) (hcm : c ≤ maxLen) (hmd : m ≤ d) (_ : d ≤ maxLen) :
    Calls Try.prog 3 #[.agg #[.int .i64 l.sq, .int .i64 l.tt, .slice A n c, .slice B m d], .agg #[.string (ba x.nm), .int .i64 x.st, .int .i64 x.am, .int .i64 x.du, .string (ba x.po), .string (ba x.pa)], .agg #[.int .i64 o.cl, .int .i64 o.sp, .int .i64 o.rs], .string (ba s), .int .i64 y] w fun e w' => e = .returned (.bool true) ∧ Below w.heap.size w w' := by
  have hli := ba_list
  have hsz := ba_size
  have HI := Lib.hid h
  have HX0 : Hid (Below w.heap.size w (((w.alloc (.cells #[.int .i64 l.sq, .int .i64 l.tt, .slice A n c, .slice B m d] 25)).alloc (.cells #[.string (ba x.nm), .int .i64 x.st, .int .i64 x.am, .int .i64 x.du, .string (ba x.po), .string (ba x.pa)] 27)).alloc (.cells #[.int .i64 o.cl, .int .i64 o.sp, .int .i64 o.rs] 30))) := Lib.hid (below3 w _ _ _)
  have K10 : Hid (Blk (((w.alloc (.cells #[.int .i64 l.sq, .int .i64 l.tt, .slice A n c, .slice B m d] 25)).alloc (.cells #[.string (ba x.nm), .int .i64 x.st, .int .i64 x.am, .int .i64 x.du, .string (ba x.po), .string (ba x.pa)] 27)).alloc (.cells #[.int .i64 o.cl, .int .i64 o.sp, .int .i64 o.rs] 30)) (w.heap.size) 25 [.int .i64 l.sq, .int .i64 l.tt, .slice A n c, .slice B m d]) := Lib.hid (((Blk.fresh rfl rfl).alloc _).alloc _)
  have K20 : Hid (Blk (((w.alloc (.cells #[.int .i64 l.sq, .int .i64 l.tt, .slice A n c, .slice B m d] 25)).alloc (.cells #[.string (ba x.nm), .int .i64 x.st, .int .i64 x.am, .int .i64 x.du, .string (ba x.po), .string (ba x.pa)] 27)).alloc (.cells #[.int .i64 o.cl, .int .i64 o.sp, .int .i64 o.rs] 30)) (w.heap.size + 1) 27 [.string (ba x.nm), .int .i64 x.st, .int .i64 x.am, .int .i64 x.du, .string (ba x.po), .string (ba x.pa)]) := Lib.hid ((Blk.fresh (by simp) rfl).alloc _)
  have K30 : Hid (Blk (((w.alloc (.cells #[.int .i64 l.sq, .int .i64 l.tt, .slice A n c, .slice B m d] 25)).alloc (.cells #[.string (ba x.nm), .int .i64 x.st, .int .i64 x.am, .int .i64 x.du, .string (ba x.po), .string (ba x.pa)] 27)).alloc (.cells #[.int .i64 o.cl, .int .i64 o.sp, .int .i64 o.rs] 30)) (w.heap.size + 2) 30 [.int .i64 o.cl, .int .i64 o.sp, .int .i64 o.rs]) := Lib.hid (Blk.fresh (by simp) rfl)
  have hf : ∀ W, Below w.heap.size w W → Calls Try.prog 8 #[.agg #[.int .i64 l.sq, .int .i64 l.tt, .slice A n c, .slice B m d]] W fun e w' => e = .returned (.bool (fewL l)) ∧ Below W.heap.size W w' := fun W hW => few_any l A n c B m d W (h.through hW) (by omega)
  have hlen := h.len
  cases hfl : fewL l with
  | false =>
    rw [hfl] at hf
    have HF := Lib.hid hf
    clear h hf hfl hlen hnc hcm hmd
    go_enter Try.func3, Try.ntmps3
    go_wp2_with (first
      | (go_at_call 7; (with_reducible refine (fixed_any _).mono ?_); rintro e wa ⟨rfl, hba⟩; have HXa : Hid (Below w.heap.size w wa) := Lib.hid (below_step HX0.out hba); have K1a := Lib.hid (K10.out.through hba); have K2a := Lib.hid (K20.out.through hba); have K3a := Lib.hid (K30.out.through hba); clear hba)
      | (refine wpList_load_blk rfl 25 (.tmp 5) rfl (w.heap.size) rfl 25 [.int .i64 l.sq, .int .i64 l.tt, .slice A n c, .slice B m d] _ K1a.out Try.underlying25 rfl (by kernel_rfl) ?_)
      | (go_at_call 8; (with_reducible refine (HF.out _ HXa.out).mono ?_); rintro e wb ⟨rfl, hbb⟩; have HXb : Hid (Below w.heap.size w wb) := Lib.hid (below_step HXa.out hbb); have K1b := Lib.hid (K1a.out.through hbb); have K2b := Lib.hid (K2a.out.through hbb); have K3b := Lib.hid (K3a.out.through hbb); have c20 := K2b.out.cellAt (i := 0) rfl; clear hbb))
    go_ret
    exact ⟨rfl, HXb.out⟩
  | true =>
  rw [hfl] at hf
  have HF := Lib.hid hf
  have hll : l.ls.length ≤ 64 ∧ l.os.length ≤ 64 := by
    unfold fewL at hfl
    simp only [Bool.and_eq_true, decide_eq_true_eq] at hfl
    exact hfl.2
  by_cases h1 : x.nm.length ≤ 100
  case neg =>
    have d1 : decide ((100 : Int) < (x.nm.length : Int)) = true := by simp; omega
    clear h hf hfl hlen hll hnc hcm hmd h1
    go_enter Try.func3, Try.ntmps3
    go_wp2_with (first
      | (go_at_call 7; (with_reducible refine (fixed_any _).mono ?_); rintro e wa ⟨rfl, hba⟩; have HXa : Hid (Below w.heap.size w wa) := Lib.hid (below_step HX0.out hba); have K1a := Lib.hid (K10.out.through hba); have K2a := Lib.hid (K20.out.through hba); have K3a := Lib.hid (K30.out.through hba); clear hba)
      | (refine wpList_load_blk rfl 25 (.tmp 5) rfl (w.heap.size) rfl 25 [.int .i64 l.sq, .int .i64 l.tt, .slice A n c, .slice B m d] _ K1a.out Try.underlying25 rfl (by kernel_rfl) ?_)
      | (go_at_call 8; (with_reducible refine (HF.out _ HXa.out).mono ?_); rintro e wb ⟨rfl, hbb⟩; have HXb : Hid (Below w.heap.size w wb) := Lib.hid (below_step HXa.out hbb); have K1b := Lib.hid (K1a.out.through hbb); have K2b := Lib.hid (K2a.out.through hbb); have K3b := Lib.hid (K3a.out.through hbb); have c20 := K2b.out.cellAt (i := 0) rfl; clear hbb))
    go_ret
    exact ⟨rfl, HXb.out⟩
  case pos =>
  have d1 : decide ((100 : Int) < (x.nm.length : Int)) = false := by simp; omega
  by_cases h2 : s.length ≤ 100
  case neg =>
    have d2 : decide ((100 : Int) < (s.length : Int)) = true := by simp; omega
    clear h hf hfl hlen hll hnc hcm hmd h1 h2
    go_enter Try.func3, Try.ntmps3
    go_wp2_with (first
      | (go_at_call 7; (with_reducible refine (fixed_any _).mono ?_); rintro e wa ⟨rfl, hba⟩; have HXa : Hid (Below w.heap.size w wa) := Lib.hid (below_step HX0.out hba); have K1a := Lib.hid (K10.out.through hba); have K2a := Lib.hid (K20.out.through hba); have K3a := Lib.hid (K30.out.through hba); clear hba)
      | (refine wpList_load_blk rfl 25 (.tmp 5) rfl (w.heap.size) rfl 25 [.int .i64 l.sq, .int .i64 l.tt, .slice A n c, .slice B m d] _ K1a.out Try.underlying25 rfl (by kernel_rfl) ?_)
      | (go_at_call 8; (with_reducible refine (HF.out _ HXa.out).mono ?_); rintro e wb ⟨rfl, hbb⟩; have HXb : Hid (Below w.heap.size w wb) := Lib.hid (below_step HXa.out hbb); have K1b := Lib.hid (K1a.out.through hbb); have K2b := Lib.hid (K2a.out.through hbb); have K3b := Lib.hid (K3a.out.through hbb); have c20 := K2b.out.cellAt (i := 0) rfl; clear hbb))
    go_ret
    exact ⟨rfl, HXb.out⟩
  case pos =>
  have d2 : decide ((100 : Int) < (s.length : Int)) = false := by simp; omega
  have HNM : Hid (n ≤ 64 ∧ m ≤ 64) := Lib.hid (by omega)
  have hn := HNM.out
  have hwl := withL_lens l x
  have htl := toldL_lens l o
  obtain ⟨lw, ew, hw⟩ : ∃ lw ew, withL l x = (lw, ew) := ⟨_, _, rfl⟩
  obtain ⟨lt, ht⟩ : ∃ lt, toldL l o = lt := ⟨_, rfl⟩
  obtain ⟨xf, bf, hxf⟩ : ∃ xf bf, findR (findL s l.ls) = (xf, bf) := ⟨_, _, rfl⟩
  obtain ⟨xo, bo, hxo⟩ : ∃ xo bo, lastR (lastL y l.os) = (xo, bo) := ⟨_, _, rfl⟩
  obtain ⟨nb, hnb⟩ : ∃ nb, isNm s = nb := ⟨_, rfl⟩
  rw [hw] at hwl
  rw [ht] at htl
  have hsm : ∀ (q : Lg), q.ls.length ≤ 1000000 → q.os.length ≤ 1000000 → ∀ (W : World) (A1 : Option Addr) (n1 c1 : Nat) (B1 : Option Addr) (m1 d1 : Nat) (A2 : Option Addr) (n2 c2 : Nat) (B2 : Option Addr) (m2 d2 : Nat), LgIn W A1 n1 B1 m1 q → LgIn W A2 n2 B2 m2 q → Calls Try.prog 17 #[.agg #[.int .i64 q.sq, .int .i64 q.tt, .slice A1 n1 c1, .slice B1 m1 d1], .agg #[.int .i64 q.sq, .int .i64 q.tt, .slice A2 n2 c2, .slice B2 m2 d2]] W fun e w' => e = .returned (.bool true) ∧ Below W.heap.size W w' := fun q hq1 hq2 W A1 n1 c1 B1 m1 d1 A2 n2 c2 B2 m2 d2 hA hB => by
    have h9 := rsame_any q q A1 n1 c1 B1 m1 d1 A2 n2 c2 B2 m2 d2 W hA hB (by have := hA.len; omega) (by have := hA.len; omega) (by have := hB.len; omega) (by have := hB.len; omega)
    rw [Lg.same_self] at h9
    exact h9
  have hs1 := hsm lw (by simp only at hwl; omega) (by simp only at hwl; omega)
  have hs3 := hsm lt (by omega) (by omega)
  have hs5 := hsm l (by omega) (by omega)
  have hwi : ∀ W, Below w.heap.size w W → Calls Try.prog 9 #[.agg #[.int .i64 l.sq, .int .i64 l.tt, .slice A n c, .slice B m d], .agg #[.string (ba x.nm), .int .i64 x.st, .int .i64 x.am, .int .i64 x.du, .string (ba x.po), .string (ba x.pa)]] W (fun e w' => ∃ A n c B m d, e = .returned (.tuple #[.agg #[.int .i64 lw.sq, .int .i64 lw.tt, .slice A n c, .slice B m d], .int .i64 ew]) ∧ LgIn w' A n B m lw ∧ n ≤ c ∧ m ≤ d ∧ Below W.heap.size W w') := fun W hW => by
    have h9 := with_any l x A n c B m d W (h.through hW) (by omega) (by omega) hnc (by omega)
    rw [hw] at h9
    exact h9
  have hrw : ∀ W, Below w.heap.size w W → Calls Try.prog 10 #[.agg #[.int .i64 l.sq, .int .i64 l.tt, .slice A n c, .slice B m d], .agg #[.string (ba x.nm), .int .i64 x.st, .int .i64 x.am, .int .i64 x.du, .string (ba x.po), .string (ba x.pa)]] W (fun e w' => ∃ A n c B m d, e = .returned (.tuple #[.agg #[.int .i64 lw.sq, .int .i64 lw.tt, .slice A n c, .slice B m d], .int .i64 ew]) ∧ LgIn w' A n B m lw ∧ Below W.heap.size W w') := fun W hW => by
    have h9 := rwith_any l x A n c B m d W (h.through hW) (by omega) (by omega)
    rw [hw] at h9
    exact h9
  have hto : ∀ W, Below w.heap.size w W → Calls Try.prog 11 #[.agg #[.int .i64 l.sq, .int .i64 l.tt, .slice A n c, .slice B m d], .agg #[.int .i64 o.cl, .int .i64 o.sp, .int .i64 o.rs]] W (fun e w' => ∃ A n c B m d, e = .returned (.agg #[.int .i64 lt.sq, .int .i64 lt.tt, .slice A n c, .slice B m d]) ∧ LgIn w' A n B m lt ∧ n ≤ c ∧ m ≤ d ∧ Below W.heap.size W w') := fun W hW => by
    have h9 := told_any l o A n c B m d W (h.through hW) (by omega) (by omega) hmd
    rw [ht] at h9
    exact h9
  have hrt : ∀ W, Below w.heap.size w W → Calls Try.prog 12 #[.agg #[.int .i64 l.sq, .int .i64 l.tt, .slice A n c, .slice B m d], .agg #[.int .i64 o.cl, .int .i64 o.sp, .int .i64 o.rs]] W (fun e w' => ∃ A n c B m d, e = .returned (.agg #[.int .i64 lt.sq, .int .i64 lt.tt, .slice A n c, .slice B m d]) ∧ LgIn w' A n B m lt ∧ Below W.heap.size W w') := fun W hW => by
    have h9 := rtold_any l o A n c B m d W (h.through hW) (by omega)
    rw [ht] at h9
    exact h9
  have hfi : ∀ W, Below w.heap.size w W → Calls Try.prog 13 #[.agg #[.int .i64 l.sq, .int .i64 l.tt, .slice A n c, .slice B m d], .string (ba s)] W (fun e w' => e = .returned (.tuple #[.agg #[.string (ba xf.nm), .int .i64 xf.st, .int .i64 xf.am, .int .i64 xf.du, .string (ba xf.po), .string (ba xf.pa)], .bool bf]) ∧ Below W.heap.size W w') := fun W hW => by
    have h9 := find_any l s A n c B m d W (h.through hW) (by omega)
    rw [hxf] at h9
    exact h9
  have hrf : ∀ W, Below w.heap.size w W → Calls Try.prog 14 #[.agg #[.int .i64 l.sq, .int .i64 l.tt, .slice A n c, .slice B m d], .string (ba s)] W (fun e w' => e = .returned (.tuple #[.agg #[.string (ba xf.nm), .int .i64 xf.st, .int .i64 xf.am, .int .i64 xf.du, .string (ba xf.po), .string (ba xf.pa)], .bool bf]) ∧ Below W.heap.size W w') := fun W hW => by
    have h9 := rfind_any l s A n c B m d W (h.through hW) (by omega)
    rw [hxf] at h9
    exact h9
  have hla : ∀ W, Below w.heap.size w W → Calls Try.prog 15 #[.agg #[.int .i64 l.sq, .int .i64 l.tt, .slice A n c, .slice B m d], .int .i64 y] W (fun e w' => e = .returned (.tuple #[.agg #[.int .i64 xo.cl, .int .i64 xo.sp, .int .i64 xo.rs], .bool bo]) ∧ Below W.heap.size W w') := fun W hW => by
    have h9 := last_any l y A n c B m d W (h.through hW) (by omega)
    rw [hxo] at h9
    exact h9
  have hrl : ∀ W, Below w.heap.size w W → Calls Try.prog 16 #[.agg #[.int .i64 l.sq, .int .i64 l.tt, .slice A n c, .slice B m d], .int .i64 y] W (fun e w' => e = .returned (.tuple #[.agg #[.int .i64 xo.cl, .int .i64 xo.sp, .int .i64 xo.rs], .bool bo]) ∧ Below W.heap.size W w') := fun W hW => by
    have h9 := rlast_any l y A n c B m d W (h.through hW) (by omega)
    rw [hxo] at h9
    exact h9
  have hn1 := fun W : World => isname_any s W (by omega)
  have hn2 := fun W : World => risname_any s W (by omega)
  rw [hnb] at hn1 hn2
  have HS1 := Lib.hid hs1
  have HS3 := Lib.hid hs3
  have HS5 := Lib.hid hs5
  have HWi := Lib.hid hwi
  have HRw := Lib.hid hrw
  have HTo := Lib.hid hto
  have HRt := Lib.hid hrt
  have HFi := Lib.hid hfi
  have HRf := Lib.hid hrf
  have HLa := Lib.hid hla
  have HRl := Lib.hid hrl
  have HN1 := Lib.hid hn1
  have HN2 := Lib.hid hn2
  clear h hf hfl hlen hll hnc hcm hmd h1 h2 hn hwl htl hw ht hxf hxo hnb hsm hs1 hs3 hs5 hwi hrw hto hrt hfi hrf hla hrl hn1 hn2
  go_enter Try.func3, Try.ntmps3
  go_upto_region 5 with (first | (go_at_call 7; (with_reducible refine (fixed_any _).mono ?_); rintro e wa ⟨rfl, hba⟩; have HXa : Hid (Below w.heap.size w wa) := Lib.hid (below_step HX0.out hba); have K1a := Lib.hid (K10.out.through hba); have K2a := Lib.hid (K20.out.through hba); have K3a := Lib.hid (K30.out.through hba); clear hba) | (refine wpList_load_blk rfl 25 (.tmp 5) rfl (w.heap.size) rfl 25 [.int .i64 l.sq, .int .i64 l.tt, .slice A n c, .slice B m d] _ K1a.out Try.underlying25 rfl (by kernel_rfl) ?_) | (go_at_call 8; (with_reducible refine (HF.out _ HXa.out).mono ?_); rintro e wb ⟨rfl, hbb⟩; have HXb : Hid (Below w.heap.size w wb) := Lib.hid (below_step HXa.out hbb); have K1b := Lib.hid (K1a.out.through hbb); have K2b := Lib.hid (K2a.out.through hbb); have K3b := Lib.hid (K3a.out.through hbb); have c20 := K2b.out.cellAt (i := 0) rfl; clear hbb))
  go_cut [11] from 42 to 54 (fun v wx => ∃ (g : Nat) (A' : Option Addr) (n' c' : Nat) (B' : Option Addr) (m' d' : Nat), v = .pointer (some ⟨g, 0, none⟩) ∧ Blk wx g 25 [.int .i64 l.sq, .int .i64 l.tt, .slice A' n' c', .slice B' m' d'] ∧ LgIn wx A' n' B' m' l ∧ Below wb.heap.size wb wx)
  case first =>
    refine wp_region_held_drew (S := fun W => Below wb.heap.size wb W) (by kernel_rfl) (Below.refl _ _).drew (fun hHeld => ?_)
    change wpAnyH _ _ _ _ _ _ #[false, false, false, false, false, false, false, false, false, false, false, false, false, false, false] _ _
    refine wpAnyH_take (i := 0) (v := (.pointer (some ⟨w.heap.size, 0, none⟩))) rfl (by kernel_rfl) (by kernel_rfl) (by kernel_rfl) (fun _ _ _ h => h) (Or.inl ⟨by kernel_rfl, fun w hSw => ?_⟩) (by assumption) ?_
    · (try dsimp only at hSw); go_simp <;> (try rfl)
    change wpAnyH _ _ _ _ _ _ _ (Act.put _ (some (42 : Nat)) (.pointer (some ⟨w.heap.size, 0, none⟩))) _
    simp only [Act.put, List.setIfInBounds_toArray, List.set_cons_zero, List.set_cons_succ]
    refine wpAnyH_take (i := 1) (v := (.int .i64 l.sq)) rfl (by kernel_rfl) (by kernel_rfl) (by kernel_rfl) (fun _ _ _ h => h) (yields_load_at (by kernel_rfl) 2 (.tmp 42) rfl (.pointer (some ⟨w.heap.size, 0, none⟩)) rfl (.int .i64 l.sq) (fun W hW => load_one' (by kernel_rfl) ((K1b.out.through hW).cellAt (i := 0) rfl))) (by assumption) ?_
    change wpAnyH _ _ _ _ _ _ _ (Act.put _ (some (43 : Nat)) (.int .i64 l.sq)) _
    simp only [Act.put, List.setIfInBounds_toArray, List.set_cons_zero, List.set_cons_succ]
    refine wpAnyH_take (i := 2) (v := (.pointer (some ⟨w.heap.size, 1, none⟩))) rfl (by kernel_rfl) (by kernel_rfl) (by kernel_rfl) (fun _ _ _ h => h) (Or.inl ⟨by kernel_rfl, fun w hSw => ?_⟩) (by assumption) ?_
    · (try dsimp only at hSw); go_simp <;> (try rfl)
    change wpAnyH _ _ _ _ _ _ _ (Act.put _ (some (44 : Nat)) (.pointer (some ⟨w.heap.size, 1, none⟩))) _
    simp only [Act.put, List.setIfInBounds_toArray, List.set_cons_zero, List.set_cons_succ]
    refine wpAnyH_take (i := 3) (v := (.int .i64 l.tt)) rfl (by kernel_rfl) (by kernel_rfl) (by kernel_rfl) (fun _ _ _ h => h) (yields_load_at (by kernel_rfl) 2 (.tmp 44) rfl (.pointer (some ⟨w.heap.size, 1, none⟩)) rfl (.int .i64 l.tt) (fun W hW => load_one' (by kernel_rfl) ((K1b.out.through hW).cellAt (i := 1) rfl))) (by assumption) ?_
    change wpAnyH _ _ _ _ _ _ _ (Act.put _ (some (45 : Nat)) (.int .i64 l.tt)) _
    simp only [Act.put, List.setIfInBounds_toArray, List.set_cons_zero, List.set_cons_succ]
    refine wpAnyH_take (i := 5) (v := (.pointer (some ⟨w.heap.size, 2, none⟩))) rfl (by kernel_rfl) (by kernel_rfl) (by kernel_rfl) (fun _ _ _ h => h) (Or.inl ⟨by kernel_rfl, fun w hSw => ?_⟩) (by assumption) ?_
    · (try dsimp only at hSw); go_simp <;> (try rfl)
    change wpAnyH _ _ _ _ _ _ _ (Act.put _ (some (47 : Nat)) (.pointer (some ⟨w.heap.size, 2, none⟩))) _
    simp only [Act.put, List.setIfInBounds_toArray, List.set_cons_zero, List.set_cons_succ]
    refine wpAnyH_take (i := 6) (v := (.slice A n c)) rfl (by kernel_rfl) (by kernel_rfl) (by kernel_rfl) (fun _ _ _ h => h) (yields_load_at (by kernel_rfl) 22 (.tmp 47) rfl (.pointer (some ⟨w.heap.size, 2, none⟩)) rfl (.slice A n c) (fun W hW => load_one' (by kernel_rfl) ((K1b.out.through hW).cellAt (i := 2) rfl))) (by assumption) ?_
    change wpAnyH _ _ _ _ _ _ _ (Act.put _ (some (48 : Nat)) (.slice A n c)) _
    simp only [Act.put, List.setIfInBounds_toArray, List.set_cons_zero, List.set_cons_succ]
    refine wpAnyH_take (i := 9) (v := (.pointer (some ⟨w.heap.size, 3, none⟩))) rfl (by kernel_rfl) (by kernel_rfl) (by kernel_rfl) (fun _ _ _ h => h) (Or.inl ⟨by kernel_rfl, fun w hSw => ?_⟩) (by assumption) ?_
    · (try dsimp only at hSw); go_simp <;> (try rfl)
    change wpAnyH _ _ _ _ _ _ _ (Act.put _ (some (51 : Nat)) (.pointer (some ⟨w.heap.size, 3, none⟩))) _
    simp only [Act.put, List.setIfInBounds_toArray, List.set_cons_zero, List.set_cons_succ]
    refine wpAnyH_take (i := 10) (v := (.slice B m d)) rfl (by kernel_rfl) (by kernel_rfl) (by kernel_rfl) (fun _ _ _ h => h) (yields_load_at (by kernel_rfl) 23 (.tmp 51) rfl (.pointer (some ⟨w.heap.size, 3, none⟩)) rfl (.slice B m d) (fun W hW => load_one' (by kernel_rfl) ((K1b.out.through hW).cellAt (i := 3) rfl))) (by assumption) ?_
    change wpAnyH _ _ _ _ _ _ _ (Act.put _ (some (52 : Nat)) (.slice B m d)) _
    simp only [Act.put, List.setIfInBounds_toArray, List.set_cons_zero, List.set_cons_succ]
    refine wpAnyH_ready (rs := [4, 8, 13]) (by kernel_rfl) (by simp) ?_
    refine AllReadyH.cons (o := ⟨some 46, .buildSlice 22 0 #[], _, _, _, none⟩) rfl (fun K hK => ?_) (AllReadyH.cons (o := ⟨some 50, .buildSlice 23 0 #[], _, _, _, none⟩) rfl (fun K hK => ?_) (AllReadyH.cons (o := ⟨some 11, .alloc 25, _, _, _, none⟩) rfl (fun K hK => ?_) AllReadyH.nil))
    · as_aux_lemma =>
      refine step_build_empty (k := 6) rfl rfl (Try.build_e_lt _) ?_; intro g4 u4 ho4 hk4; have HK4 := Lib.hid hk4; have O4a4 := Lib.hid (ho4.weak hHeld.size); clear ho4 hk4
      refine hK.out _ _ (below_step hHeld HK4.out) (fun hHeld1 => ?_)
      clear hHeld hK K
      have hHeld := hHeld1
      clear hHeld1
      change wpAnyH _ _ _ _ _ _ _ (Act.put _ (some (46 : Nat)) (.slice (some ⟨g4, 0, none⟩) 0 0)) _
      simp only [Act.put, List.setIfInBounds_toArray, List.set_cons_zero, List.set_cons_succ]
      refine wpAnyH_ready (rs := [7, 8, 13]) (by kernel_rfl) (by simp) ?_
      refine AllReadyH.cons (o := ⟨some 49, .call { callee := .builtin .append, args := #[.tmp 46, .tmp 48], argTypes := #[22, 22] }, _, _, _, none⟩) rfl (fun K hK => ?_) (AllReadyH.cons (o := ⟨some 50, .buildSlice 23 0 #[], _, _, _, none⟩) rfl (fun K hK => ?_) (AllReadyH.cons (o := ⟨some 11, .alloc 25, _, _, _, none⟩) rfl (fun K hK => ?_) AllReadyH.nil))
      · as_aux_lemma =>
        refine step_append_sl rfl Try.el_lt (.tmp 46) (.tmp 48) rfl wb.heap.size (.slice (some ⟨g4, 0, none⟩) 0 0) [] rfl O4a4.out A n c (l.ls.map Lt.cells) rfl ((HI.out.1.through HXb.out).through hHeld) (Lt.cells_len _) (Lt.cells_one _) (by have := HNM.out; simp; omega) hHeld.size ?_; intro A7 n7 c7 u7 _ ho7 hg7; have HG7 := Lib.hid hg7; have hlt7 := O4a4.out.lt; have HLT7 := Lib.hid hlt7; have O7a7 : Hid (Os u7 wb.heap.size 27 6 (.slice A7 n7 c7) (l.ls.map Lt.cells)) := Lib.hid ho7; clear ho7 hg7 hlt7
        refine hK.out _ _ (hHeld.grown HG7.out hHeld.size (fun q hq => (HLT7.out q hq).1)) (fun hHeld1 => ?_)
        clear hHeld hK K
        have hHeld := hHeld1
        clear hHeld1
        change wpAnyH _ _ _ _ _ _ _ (Act.put _ (some (49 : Nat)) (.slice A7 n7 c7)) _
        simp only [Act.put, List.setIfInBounds_toArray, List.set_cons_zero, List.set_cons_succ]
        refine wpAnyH_ready (rs := [8, 13]) (by kernel_rfl) (by simp) ?_
        refine AllReadyH.cons (o := ⟨some 50, .buildSlice 23 0 #[], _, _, _, none⟩) rfl (fun K hK => ?_) (AllReadyH.cons (o := ⟨some 11, .alloc 25, _, _, _, none⟩) rfl (fun K hK => ?_) AllReadyH.nil)
        · as_aux_lemma =>
          refine step_build_empty (k := 3) rfl rfl (Try.build_e_oc _) ?_; intro g8 u8 ho8 hk8; have HK8 := Lib.hid hk8; have O8a8 := Lib.hid (ho8.weak hHeld.size); have O7a8 := Lib.hid (O7a7.out.through hk8); clear ho8 hk8
          refine hK.out _ _ (below_step hHeld HK8.out) (fun hHeld1 => ?_)
          clear hHeld hK K
          have hHeld := hHeld1
          clear hHeld1
          change wpAnyH _ _ _ _ _ _ _ (Act.put _ (some (50 : Nat)) (.slice (some ⟨g8, 0, none⟩) 0 0)) _
          simp only [Act.put, List.setIfInBounds_toArray, List.set_cons_zero, List.set_cons_succ]
          refine wpAnyH_ready (rs := [11, 13]) (by kernel_rfl) (by simp) ?_
          refine AllReadyH.cons (o := ⟨some 53, .call { callee := .builtin .append, args := #[.tmp 50, .tmp 52], argTypes := #[23, 23] }, _, _, _, none⟩) rfl (fun K hK => ?_) (AllReadyH.cons (o := ⟨some 11, .alloc 25, _, _, _, none⟩) rfl (fun K hK => ?_) AllReadyH.nil)
          · as_aux_lemma =>
            refine step_append_sl rfl Try.el_oc (.tmp 50) (.tmp 52) rfl wb.heap.size (.slice (some ⟨g8, 0, none⟩) 0 0) [] rfl O8a8.out B m d (l.os.map Oc.cells) rfl ((HI.out.2.through HXb.out).through hHeld) (Oc.cells_len _) (Oc.cells_one _) (by have := HNM.out; simp; omega) hHeld.size ?_; intro A11 n11 c11 u11 _ ho11 hg11; have HG11 := Lib.hid hg11; have hlt11 := O8a8.out.lt; have HLT11 := Lib.hid hlt11; have O7a11 := Lib.hid (O7a8.out.apart O8a8.out (by decide) hg11); have O11a11 : Hid (Os u11 wb.heap.size 30 3 (.slice A11 n11 c11) (l.os.map Oc.cells)) := Lib.hid ho11; clear ho11 hg11 hlt11
            refine hK.out _ _ (hHeld.grown HG11.out hHeld.size (fun q hq => (HLT11.out q hq).1)) (fun hHeld1 => ?_)
            clear hHeld hK K
            have hHeld := hHeld1
            clear hHeld1
            change wpAnyH _ _ _ _ _ _ _ (Act.put _ (some (53 : Nat)) (.slice A11 n11 c11)) _
            simp only [Act.put, List.setIfInBounds_toArray, List.set_cons_zero, List.set_cons_succ]
            obtain ⟨V, hV⟩ : ∃ V : Value, V = .agg #[.int .i64 l.sq, .int .i64 l.tt, .slice A7 n7 c7, .slice A11 n11 c11] := ⟨_, rfl⟩
            have HV := Lib.hid hV
            clear hV
            refine wpAnyH_take (i := 12) (v := V) rfl (by kernel_rfl) (by kernel_rfl) (by kernel_rfl) (fun _ _ _ h => h) (yields_build (by kernel_rfl) 25 _ rfl _ (by simp only [List.map_toArray, List.map_cons, List.map_nil, Act.eval]; rfl) V (fun w _ => by rw [HV.out]; exact Try.build_lg4 _ _ _ _ _ _ _ _ _)) (by assumption) ?_
            change wpAnyH _ _ _ _ _ _ _ (Act.put _ (some (54 : Nat)) V) _
            simp only [Act.put, List.setIfInBounds_toArray, List.set_cons_zero, List.set_cons_succ]
            refine wpAnyH_ready (rs := [13]) (by kernel_rfl) (by simp) ?_
            refine AllReadyH.cons (o := ⟨some 11, .alloc 25, _, _, _, none⟩) rfl (fun K hK => ?_) AllReadyH.nil
            refine step_alloc_lg (cs := [.int .i64 0, .int .i64 0, .slice none 0 0, .slice none 0 0]) rfl rfl (Try.alloc_lg _) ?_; intro g13 u13 hle13 hb13 hk13; have HK13 := Lib.hid hk13; have L13 := Lib.hid (Nat.le_trans hHeld.size hle13); have G13a13 := Lib.hid hb13; have O7a13 := Lib.hid (O7a11.out.through hk13); have O11a13 := Lib.hid (O11a11.out.through hk13); clear hle13 hb13 hk13
            refine hK.out _ _ (below_step hHeld HK13.out) (fun hHeld1 => ?_)
            clear hHeld hK K
            have hHeld := hHeld1
            clear hHeld1
            change wpAnyH _ _ _ _ _ _ _ (Act.put _ (some (11 : Nat)) (.pointer (some ⟨g13, 0, none⟩))) _
            simp only [Act.put, List.setIfInBounds_toArray, List.set_cons_zero, List.set_cons_succ]
            refine wpAnyH_ready (rs := [14]) (by kernel_rfl) (by simp) ?_
            refine AllReadyH.cons (o := ⟨none, .store 25 (.tmp 11) (.tmp 54), _, _, _, none⟩) rfl (fun K hK => ?_) AllReadyH.nil
            refine step_store_blk rfl 25 (.tmp 11) (.tmp 54) rfl g13 [.int .i64 l.sq, .int .i64 l.tt, .slice A7 n7 c7, .slice A11 n11 c11] rfl HV.out 25 [.int .i64 0, .int .i64 0, .slice none 0 0, .slice none 0 0] G13a13.out (by kernel_rfl) rfl (one4 _ _ _ _ _ _ _ _) ?_; intro u14 hb14 hg14; have G14 := Lib.hid hb14; have HG14 := Lib.hid hg14; have O7z := Lib.hid (O7a13.out.only hg14 G13a13.out (by decide)); have O11z := Lib.hid (O11a13.out.only hg14 G13a13.out (by decide)); clear hb14 hg14
            refine hK.out _ _ (hHeld.grown HG14.out hHeld.size (fun q hq => by have := Option.some.inj hq; have := L13.out; omega)) (fun hHeld1 => ?_)
            clear hHeld hK K
            have hHeld := hHeld1
            clear hHeld1
            change wpAnyH _ _ _ _ _ _ _ (Act.put _ none undef) _
            simp only [Act.put]
            refine wpAnyH_done (by kernel_rfl) ?_ _
            go_wp2
            go_meet
            case rel => exact ⟨g13, _, _, _, _, _, _, rfl, G14.out, ⟨O7z.out.sl rfl, O11z.out.sl rfl⟩, hHeld⟩
          · as_aux_lemma =>
            refine step_alloc_lg (cs := [.int .i64 0, .int .i64 0, .slice none 0 0, .slice none 0 0]) rfl rfl (Try.alloc_lg _) ?_; intro g13 u13 hle13 hb13 hk13; have HK13 := Lib.hid hk13; have L13 := Lib.hid (Nat.le_trans hHeld.size hle13); have G13a13 := Lib.hid hb13; have O7a13 := Lib.hid (O7a8.out.through hk13); have O8a13 := Lib.hid (O8a8.out.through hk13); clear hle13 hb13 hk13
            refine hK.out _ _ (below_step hHeld HK13.out) (fun hHeld1 => ?_)
            clear hHeld hK K
            have hHeld := hHeld1
            clear hHeld1
            change wpAnyH _ _ _ _ _ _ _ (Act.put _ (some (11 : Nat)) (.pointer (some ⟨g13, 0, none⟩))) _
            simp only [Act.put, List.setIfInBounds_toArray, List.set_cons_zero, List.set_cons_succ]
            refine wpAnyH_ready (rs := [11]) (by kernel_rfl) (by simp) ?_
            refine AllReadyH.cons (o := ⟨some 53, .call { callee := .builtin .append, args := #[.tmp 50, .tmp 52], argTypes := #[23, 23] }, _, _, _, none⟩) rfl (fun K hK => ?_) AllReadyH.nil
            refine step_append_sl rfl Try.el_oc (.tmp 50) (.tmp 52) rfl wb.heap.size (.slice (some ⟨g8, 0, none⟩) 0 0) [] rfl O8a13.out B m d (l.os.map Oc.cells) rfl ((HI.out.2.through HXb.out).through hHeld) (Oc.cells_len _) (Oc.cells_one _) (by have := HNM.out; simp; omega) hHeld.size ?_; intro A11 n11 c11 u11 _ ho11 hg11; have HG11 := Lib.hid hg11; have hlt11 := O8a13.out.lt; have HLT11 := Lib.hid hlt11; have O7a11 := Lib.hid (O7a13.out.apart O8a13.out (by decide) hg11); have G13a11 := Lib.hid (G13a13.out.apart O8a13.out (by decide) hg11); have O11a11 : Hid (Os u11 wb.heap.size 30 3 (.slice A11 n11 c11) (l.os.map Oc.cells)) := Lib.hid ho11; clear ho11 hg11 hlt11
            refine hK.out _ _ (hHeld.grown HG11.out hHeld.size (fun q hq => (HLT11.out q hq).1)) (fun hHeld1 => ?_)
            clear hHeld hK K
            have hHeld := hHeld1
            clear hHeld1
            change wpAnyH _ _ _ _ _ _ _ (Act.put _ (some (53 : Nat)) (.slice A11 n11 c11)) _
            simp only [Act.put, List.setIfInBounds_toArray, List.set_cons_zero, List.set_cons_succ]
            obtain ⟨V, hV⟩ : ∃ V : Value, V = .agg #[.int .i64 l.sq, .int .i64 l.tt, .slice A7 n7 c7, .slice A11 n11 c11] := ⟨_, rfl⟩
            have HV := Lib.hid hV
            clear hV
            refine wpAnyH_take (i := 12) (v := V) rfl (by kernel_rfl) (by kernel_rfl) (by kernel_rfl) (fun _ _ _ h => h) (yields_build (by kernel_rfl) 25 _ rfl _ (by simp only [List.map_toArray, List.map_cons, List.map_nil, Act.eval]; rfl) V (fun w _ => by rw [HV.out]; exact Try.build_lg4 _ _ _ _ _ _ _ _ _)) (by assumption) ?_
            change wpAnyH _ _ _ _ _ _ _ (Act.put _ (some (54 : Nat)) V) _
            simp only [Act.put, List.setIfInBounds_toArray, List.set_cons_zero, List.set_cons_succ]
            refine wpAnyH_ready (rs := [14]) (by kernel_rfl) (by simp) ?_
            refine AllReadyH.cons (o := ⟨none, .store 25 (.tmp 11) (.tmp 54), _, _, _, none⟩) rfl (fun K hK => ?_) AllReadyH.nil
            refine step_store_blk rfl 25 (.tmp 11) (.tmp 54) rfl g13 [.int .i64 l.sq, .int .i64 l.tt, .slice A7 n7 c7, .slice A11 n11 c11] rfl HV.out 25 [.int .i64 0, .int .i64 0, .slice none 0 0, .slice none 0 0] G13a11.out (by kernel_rfl) rfl (one4 _ _ _ _ _ _ _ _) ?_; intro u14 hb14 hg14; have G14 := Lib.hid hb14; have HG14 := Lib.hid hg14; have O7z := Lib.hid (O7a11.out.only hg14 G13a11.out (by decide)); have O11z := Lib.hid (O11a11.out.only hg14 G13a11.out (by decide)); clear hb14 hg14
            refine hK.out _ _ (hHeld.grown HG14.out hHeld.size (fun q hq => by have := Option.some.inj hq; have := L13.out; omega)) (fun hHeld1 => ?_)
            clear hHeld hK K
            have hHeld := hHeld1
            clear hHeld1
            change wpAnyH _ _ _ _ _ _ _ (Act.put _ none undef) _
            simp only [Act.put]
            refine wpAnyH_done (by kernel_rfl) ?_ _
            go_wp2
            go_meet
            case rel => exact ⟨g13, _, _, _, _, _, _, rfl, G14.out, ⟨O7z.out.sl rfl, O11z.out.sl rfl⟩, hHeld⟩
        · as_aux_lemma =>
          refine step_alloc_lg (cs := [.int .i64 0, .int .i64 0, .slice none 0 0, .slice none 0 0]) rfl rfl (Try.alloc_lg _) ?_; intro g13 u13 hle13 hb13 hk13; have HK13 := Lib.hid hk13; have L13 := Lib.hid (Nat.le_trans hHeld.size hle13); have G13a13 := Lib.hid hb13; have O7a13 := Lib.hid (O7a7.out.through hk13); clear hle13 hb13 hk13
          refine hK.out _ _ (below_step hHeld HK13.out) (fun hHeld1 => ?_)
          clear hHeld hK K
          have hHeld := hHeld1
          clear hHeld1
          change wpAnyH _ _ _ _ _ _ _ (Act.put _ (some (11 : Nat)) (.pointer (some ⟨g13, 0, none⟩))) _
          simp only [Act.put, List.setIfInBounds_toArray, List.set_cons_zero, List.set_cons_succ]
          refine wpAnyH_ready (rs := [8]) (by kernel_rfl) (by simp) ?_
          refine AllReadyH.cons (o := ⟨some 50, .buildSlice 23 0 #[], _, _, _, none⟩) rfl (fun K hK => ?_) AllReadyH.nil
          refine step_build_empty (k := 3) rfl rfl (Try.build_e_oc _) ?_; intro g8 u8 ho8 hk8; have HK8 := Lib.hid hk8; have O8a8 := Lib.hid (ho8.weak hHeld.size); have O7a8 := Lib.hid (O7a13.out.through hk8); have G13a8 := Lib.hid (G13a13.out.through hk8); clear ho8 hk8
          refine hK.out _ _ (below_step hHeld HK8.out) (fun hHeld1 => ?_)
          clear hHeld hK K
          have hHeld := hHeld1
          clear hHeld1
          change wpAnyH _ _ _ _ _ _ _ (Act.put _ (some (50 : Nat)) (.slice (some ⟨g8, 0, none⟩) 0 0)) _
          simp only [Act.put, List.setIfInBounds_toArray, List.set_cons_zero, List.set_cons_succ]
          refine wpAnyH_ready (rs := [11]) (by kernel_rfl) (by simp) ?_
          refine AllReadyH.cons (o := ⟨some 53, .call { callee := .builtin .append, args := #[.tmp 50, .tmp 52], argTypes := #[23, 23] }, _, _, _, none⟩) rfl (fun K hK => ?_) AllReadyH.nil
          refine step_append_sl rfl Try.el_oc (.tmp 50) (.tmp 52) rfl wb.heap.size (.slice (some ⟨g8, 0, none⟩) 0 0) [] rfl O8a8.out B m d (l.os.map Oc.cells) rfl ((HI.out.2.through HXb.out).through hHeld) (Oc.cells_len _) (Oc.cells_one _) (by have := HNM.out; simp; omega) hHeld.size ?_; intro A11 n11 c11 u11 _ ho11 hg11; have HG11 := Lib.hid hg11; have hlt11 := O8a8.out.lt; have HLT11 := Lib.hid hlt11; have O7a11 := Lib.hid (O7a8.out.apart O8a8.out (by decide) hg11); have G13a11 := Lib.hid (G13a8.out.apart O8a8.out (by decide) hg11); have O11a11 : Hid (Os u11 wb.heap.size 30 3 (.slice A11 n11 c11) (l.os.map Oc.cells)) := Lib.hid ho11; clear ho11 hg11 hlt11
          refine hK.out _ _ (hHeld.grown HG11.out hHeld.size (fun q hq => (HLT11.out q hq).1)) (fun hHeld1 => ?_)
          clear hHeld hK K
          have hHeld := hHeld1
          clear hHeld1
          change wpAnyH _ _ _ _ _ _ _ (Act.put _ (some (53 : Nat)) (.slice A11 n11 c11)) _
          simp only [Act.put, List.setIfInBounds_toArray, List.set_cons_zero, List.set_cons_succ]
          obtain ⟨V, hV⟩ : ∃ V : Value, V = .agg #[.int .i64 l.sq, .int .i64 l.tt, .slice A7 n7 c7, .slice A11 n11 c11] := ⟨_, rfl⟩
          have HV := Lib.hid hV
          clear hV
          refine wpAnyH_take (i := 12) (v := V) rfl (by kernel_rfl) (by kernel_rfl) (by kernel_rfl) (fun _ _ _ h => h) (yields_build (by kernel_rfl) 25 _ rfl _ (by simp only [List.map_toArray, List.map_cons, List.map_nil, Act.eval]; rfl) V (fun w _ => by rw [HV.out]; exact Try.build_lg4 _ _ _ _ _ _ _ _ _)) (by assumption) ?_
          change wpAnyH _ _ _ _ _ _ _ (Act.put _ (some (54 : Nat)) V) _
          simp only [Act.put, List.setIfInBounds_toArray, List.set_cons_zero, List.set_cons_succ]
          refine wpAnyH_ready (rs := [14]) (by kernel_rfl) (by simp) ?_
          refine AllReadyH.cons (o := ⟨none, .store 25 (.tmp 11) (.tmp 54), _, _, _, none⟩) rfl (fun K hK => ?_) AllReadyH.nil
          refine step_store_blk rfl 25 (.tmp 11) (.tmp 54) rfl g13 [.int .i64 l.sq, .int .i64 l.tt, .slice A7 n7 c7, .slice A11 n11 c11] rfl HV.out 25 [.int .i64 0, .int .i64 0, .slice none 0 0, .slice none 0 0] G13a11.out (by kernel_rfl) rfl (one4 _ _ _ _ _ _ _ _) ?_; intro u14 hb14 hg14; have G14 := Lib.hid hb14; have HG14 := Lib.hid hg14; have O7z := Lib.hid (O7a11.out.only hg14 G13a11.out (by decide)); have O11z := Lib.hid (O11a11.out.only hg14 G13a11.out (by decide)); clear hb14 hg14
          refine hK.out _ _ (hHeld.grown HG14.out hHeld.size (fun q hq => by have := Option.some.inj hq; have := L13.out; omega)) (fun hHeld1 => ?_)
          clear hHeld hK K
          have hHeld := hHeld1
          clear hHeld1
          change wpAnyH _ _ _ _ _ _ _ (Act.put _ none undef) _
          simp only [Act.put]
          refine wpAnyH_done (by kernel_rfl) ?_ _
          go_wp2
          go_meet
          case rel => exact ⟨g13, _, _, _, _, _, _, rfl, G14.out, ⟨O7z.out.sl rfl, O11z.out.sl rfl⟩, hHeld⟩
      · as_aux_lemma =>
        refine step_build_empty (k := 3) rfl rfl (Try.build_e_oc _) ?_; intro g8 u8 ho8 hk8; have HK8 := Lib.hid hk8; have O8a8 := Lib.hid (ho8.weak hHeld.size); have O4a8 := Lib.hid (O4a4.out.through hk8); clear ho8 hk8
        refine hK.out _ _ (below_step hHeld HK8.out) (fun hHeld1 => ?_)
        clear hHeld hK K
        have hHeld := hHeld1
        clear hHeld1
        change wpAnyH _ _ _ _ _ _ _ (Act.put _ (some (50 : Nat)) (.slice (some ⟨g8, 0, none⟩) 0 0)) _
        simp only [Act.put, List.setIfInBounds_toArray, List.set_cons_zero, List.set_cons_succ]
        refine wpAnyH_ready (rs := [7, 13]) (by kernel_rfl) (by simp) ?_
        refine AllReadyH.cons (o := ⟨some 49, .call { callee := .builtin .append, args := #[.tmp 46, .tmp 48], argTypes := #[22, 22] }, _, _, _, none⟩) rfl (fun K hK => ?_) (AllReadyH.cons (o := ⟨some 11, .alloc 25, _, _, _, none⟩) rfl (fun K hK => ?_) AllReadyH.nil)
        · as_aux_lemma =>
          refine step_append_sl rfl Try.el_lt (.tmp 46) (.tmp 48) rfl wb.heap.size (.slice (some ⟨g4, 0, none⟩) 0 0) [] rfl O4a8.out A n c (l.ls.map Lt.cells) rfl ((HI.out.1.through HXb.out).through hHeld) (Lt.cells_len _) (Lt.cells_one _) (by have := HNM.out; simp; omega) hHeld.size ?_; intro A7 n7 c7 u7 _ ho7 hg7; have HG7 := Lib.hid hg7; have hlt7 := O4a8.out.lt; have HLT7 := Lib.hid hlt7; have O8a7 := Lib.hid (O8a8.out.apart O4a8.out (by decide) hg7); have O7a7 : Hid (Os u7 wb.heap.size 27 6 (.slice A7 n7 c7) (l.ls.map Lt.cells)) := Lib.hid ho7; clear ho7 hg7 hlt7
          refine hK.out _ _ (hHeld.grown HG7.out hHeld.size (fun q hq => (HLT7.out q hq).1)) (fun hHeld1 => ?_)
          clear hHeld hK K
          have hHeld := hHeld1
          clear hHeld1
          change wpAnyH _ _ _ _ _ _ _ (Act.put _ (some (49 : Nat)) (.slice A7 n7 c7)) _
          simp only [Act.put, List.setIfInBounds_toArray, List.set_cons_zero, List.set_cons_succ]
          refine wpAnyH_ready (rs := [11, 13]) (by kernel_rfl) (by simp) ?_
          refine AllReadyH.cons (o := ⟨some 53, .call { callee := .builtin .append, args := #[.tmp 50, .tmp 52], argTypes := #[23, 23] }, _, _, _, none⟩) rfl (fun K hK => ?_) (AllReadyH.cons (o := ⟨some 11, .alloc 25, _, _, _, none⟩) rfl (fun K hK => ?_) AllReadyH.nil)
          · as_aux_lemma =>
            refine step_append_sl rfl Try.el_oc (.tmp 50) (.tmp 52) rfl wb.heap.size (.slice (some ⟨g8, 0, none⟩) 0 0) [] rfl O8a7.out B m d (l.os.map Oc.cells) rfl ((HI.out.2.through HXb.out).through hHeld) (Oc.cells_len _) (Oc.cells_one _) (by have := HNM.out; simp; omega) hHeld.size ?_; intro A11 n11 c11 u11 _ ho11 hg11; have HG11 := Lib.hid hg11; have hlt11 := O8a7.out.lt; have HLT11 := Lib.hid hlt11; have O7a11 := Lib.hid (O7a7.out.apart O8a7.out (by decide) hg11); have O11a11 : Hid (Os u11 wb.heap.size 30 3 (.slice A11 n11 c11) (l.os.map Oc.cells)) := Lib.hid ho11; clear ho11 hg11 hlt11
            refine hK.out _ _ (hHeld.grown HG11.out hHeld.size (fun q hq => (HLT11.out q hq).1)) (fun hHeld1 => ?_)
            clear hHeld hK K
            have hHeld := hHeld1
            clear hHeld1
            change wpAnyH _ _ _ _ _ _ _ (Act.put _ (some (53 : Nat)) (.slice A11 n11 c11)) _
            simp only [Act.put, List.setIfInBounds_toArray, List.set_cons_zero, List.set_cons_succ]
            obtain ⟨V, hV⟩ : ∃ V : Value, V = .agg #[.int .i64 l.sq, .int .i64 l.tt, .slice A7 n7 c7, .slice A11 n11 c11] := ⟨_, rfl⟩
            have HV := Lib.hid hV
            clear hV
            refine wpAnyH_take (i := 12) (v := V) rfl (by kernel_rfl) (by kernel_rfl) (by kernel_rfl) (fun _ _ _ h => h) (yields_build (by kernel_rfl) 25 _ rfl _ (by simp only [List.map_toArray, List.map_cons, List.map_nil, Act.eval]; rfl) V (fun w _ => by rw [HV.out]; exact Try.build_lg4 _ _ _ _ _ _ _ _ _)) (by assumption) ?_
            change wpAnyH _ _ _ _ _ _ _ (Act.put _ (some (54 : Nat)) V) _
            simp only [Act.put, List.setIfInBounds_toArray, List.set_cons_zero, List.set_cons_succ]
            refine wpAnyH_ready (rs := [13]) (by kernel_rfl) (by simp) ?_
            refine AllReadyH.cons (o := ⟨some 11, .alloc 25, _, _, _, none⟩) rfl (fun K hK => ?_) AllReadyH.nil
            refine step_alloc_lg (cs := [.int .i64 0, .int .i64 0, .slice none 0 0, .slice none 0 0]) rfl rfl (Try.alloc_lg _) ?_; intro g13 u13 hle13 hb13 hk13; have HK13 := Lib.hid hk13; have L13 := Lib.hid (Nat.le_trans hHeld.size hle13); have G13a13 := Lib.hid hb13; have O7a13 := Lib.hid (O7a11.out.through hk13); have O11a13 := Lib.hid (O11a11.out.through hk13); clear hle13 hb13 hk13
            refine hK.out _ _ (below_step hHeld HK13.out) (fun hHeld1 => ?_)
            clear hHeld hK K
            have hHeld := hHeld1
            clear hHeld1
            change wpAnyH _ _ _ _ _ _ _ (Act.put _ (some (11 : Nat)) (.pointer (some ⟨g13, 0, none⟩))) _
            simp only [Act.put, List.setIfInBounds_toArray, List.set_cons_zero, List.set_cons_succ]
            refine wpAnyH_ready (rs := [14]) (by kernel_rfl) (by simp) ?_
            refine AllReadyH.cons (o := ⟨none, .store 25 (.tmp 11) (.tmp 54), _, _, _, none⟩) rfl (fun K hK => ?_) AllReadyH.nil
            refine step_store_blk rfl 25 (.tmp 11) (.tmp 54) rfl g13 [.int .i64 l.sq, .int .i64 l.tt, .slice A7 n7 c7, .slice A11 n11 c11] rfl HV.out 25 [.int .i64 0, .int .i64 0, .slice none 0 0, .slice none 0 0] G13a13.out (by kernel_rfl) rfl (one4 _ _ _ _ _ _ _ _) ?_; intro u14 hb14 hg14; have G14 := Lib.hid hb14; have HG14 := Lib.hid hg14; have O7z := Lib.hid (O7a13.out.only hg14 G13a13.out (by decide)); have O11z := Lib.hid (O11a13.out.only hg14 G13a13.out (by decide)); clear hb14 hg14
            refine hK.out _ _ (hHeld.grown HG14.out hHeld.size (fun q hq => by have := Option.some.inj hq; have := L13.out; omega)) (fun hHeld1 => ?_)
            clear hHeld hK K
            have hHeld := hHeld1
            clear hHeld1
            change wpAnyH _ _ _ _ _ _ _ (Act.put _ none undef) _
            simp only [Act.put]
            refine wpAnyH_done (by kernel_rfl) ?_ _
            go_wp2
            go_meet
            case rel => exact ⟨g13, _, _, _, _, _, _, rfl, G14.out, ⟨O7z.out.sl rfl, O11z.out.sl rfl⟩, hHeld⟩
          · as_aux_lemma =>
            refine step_alloc_lg (cs := [.int .i64 0, .int .i64 0, .slice none 0 0, .slice none 0 0]) rfl rfl (Try.alloc_lg _) ?_; intro g13 u13 hle13 hb13 hk13; have HK13 := Lib.hid hk13; have L13 := Lib.hid (Nat.le_trans hHeld.size hle13); have G13a13 := Lib.hid hb13; have O8a13 := Lib.hid (O8a7.out.through hk13); have O7a13 := Lib.hid (O7a7.out.through hk13); clear hle13 hb13 hk13
            refine hK.out _ _ (below_step hHeld HK13.out) (fun hHeld1 => ?_)
            clear hHeld hK K
            have hHeld := hHeld1
            clear hHeld1
            change wpAnyH _ _ _ _ _ _ _ (Act.put _ (some (11 : Nat)) (.pointer (some ⟨g13, 0, none⟩))) _
            simp only [Act.put, List.setIfInBounds_toArray, List.set_cons_zero, List.set_cons_succ]
            refine wpAnyH_ready (rs := [11]) (by kernel_rfl) (by simp) ?_
            refine AllReadyH.cons (o := ⟨some 53, .call { callee := .builtin .append, args := #[.tmp 50, .tmp 52], argTypes := #[23, 23] }, _, _, _, none⟩) rfl (fun K hK => ?_) AllReadyH.nil
            refine step_append_sl rfl Try.el_oc (.tmp 50) (.tmp 52) rfl wb.heap.size (.slice (some ⟨g8, 0, none⟩) 0 0) [] rfl O8a13.out B m d (l.os.map Oc.cells) rfl ((HI.out.2.through HXb.out).through hHeld) (Oc.cells_len _) (Oc.cells_one _) (by have := HNM.out; simp; omega) hHeld.size ?_; intro A11 n11 c11 u11 _ ho11 hg11; have HG11 := Lib.hid hg11; have hlt11 := O8a13.out.lt; have HLT11 := Lib.hid hlt11; have O7a11 := Lib.hid (O7a13.out.apart O8a13.out (by decide) hg11); have G13a11 := Lib.hid (G13a13.out.apart O8a13.out (by decide) hg11); have O11a11 : Hid (Os u11 wb.heap.size 30 3 (.slice A11 n11 c11) (l.os.map Oc.cells)) := Lib.hid ho11; clear ho11 hg11 hlt11
            refine hK.out _ _ (hHeld.grown HG11.out hHeld.size (fun q hq => (HLT11.out q hq).1)) (fun hHeld1 => ?_)
            clear hHeld hK K
            have hHeld := hHeld1
            clear hHeld1
            change wpAnyH _ _ _ _ _ _ _ (Act.put _ (some (53 : Nat)) (.slice A11 n11 c11)) _
            simp only [Act.put, List.setIfInBounds_toArray, List.set_cons_zero, List.set_cons_succ]
            obtain ⟨V, hV⟩ : ∃ V : Value, V = .agg #[.int .i64 l.sq, .int .i64 l.tt, .slice A7 n7 c7, .slice A11 n11 c11] := ⟨_, rfl⟩
            have HV := Lib.hid hV
            clear hV
            refine wpAnyH_take (i := 12) (v := V) rfl (by kernel_rfl) (by kernel_rfl) (by kernel_rfl) (fun _ _ _ h => h) (yields_build (by kernel_rfl) 25 _ rfl _ (by simp only [List.map_toArray, List.map_cons, List.map_nil, Act.eval]; rfl) V (fun w _ => by rw [HV.out]; exact Try.build_lg4 _ _ _ _ _ _ _ _ _)) (by assumption) ?_
            change wpAnyH _ _ _ _ _ _ _ (Act.put _ (some (54 : Nat)) V) _
            simp only [Act.put, List.setIfInBounds_toArray, List.set_cons_zero, List.set_cons_succ]
            refine wpAnyH_ready (rs := [14]) (by kernel_rfl) (by simp) ?_
            refine AllReadyH.cons (o := ⟨none, .store 25 (.tmp 11) (.tmp 54), _, _, _, none⟩) rfl (fun K hK => ?_) AllReadyH.nil
            refine step_store_blk rfl 25 (.tmp 11) (.tmp 54) rfl g13 [.int .i64 l.sq, .int .i64 l.tt, .slice A7 n7 c7, .slice A11 n11 c11] rfl HV.out 25 [.int .i64 0, .int .i64 0, .slice none 0 0, .slice none 0 0] G13a11.out (by kernel_rfl) rfl (one4 _ _ _ _ _ _ _ _) ?_; intro u14 hb14 hg14; have G14 := Lib.hid hb14; have HG14 := Lib.hid hg14; have O7z := Lib.hid (O7a11.out.only hg14 G13a11.out (by decide)); have O11z := Lib.hid (O11a11.out.only hg14 G13a11.out (by decide)); clear hb14 hg14
            refine hK.out _ _ (hHeld.grown HG14.out hHeld.size (fun q hq => by have := Option.some.inj hq; have := L13.out; omega)) (fun hHeld1 => ?_)
            clear hHeld hK K
            have hHeld := hHeld1
            clear hHeld1
            change wpAnyH _ _ _ _ _ _ _ (Act.put _ none undef) _
            simp only [Act.put]
            refine wpAnyH_done (by kernel_rfl) ?_ _
            go_wp2
            go_meet
            case rel => exact ⟨g13, _, _, _, _, _, _, rfl, G14.out, ⟨O7z.out.sl rfl, O11z.out.sl rfl⟩, hHeld⟩
        · as_aux_lemma =>
          refine step_alloc_lg (cs := [.int .i64 0, .int .i64 0, .slice none 0 0, .slice none 0 0]) rfl rfl (Try.alloc_lg _) ?_; intro g13 u13 hle13 hb13 hk13; have HK13 := Lib.hid hk13; have L13 := Lib.hid (Nat.le_trans hHeld.size hle13); have G13a13 := Lib.hid hb13; have O4a13 := Lib.hid (O4a8.out.through hk13); have O8a13 := Lib.hid (O8a8.out.through hk13); clear hle13 hb13 hk13
          refine hK.out _ _ (below_step hHeld HK13.out) (fun hHeld1 => ?_)
          clear hHeld hK K
          have hHeld := hHeld1
          clear hHeld1
          change wpAnyH _ _ _ _ _ _ _ (Act.put _ (some (11 : Nat)) (.pointer (some ⟨g13, 0, none⟩))) _
          simp only [Act.put, List.setIfInBounds_toArray, List.set_cons_zero, List.set_cons_succ]
          refine wpAnyH_ready (rs := [7]) (by kernel_rfl) (by simp) ?_
          refine AllReadyH.cons (o := ⟨some 49, .call { callee := .builtin .append, args := #[.tmp 46, .tmp 48], argTypes := #[22, 22] }, _, _, _, none⟩) rfl (fun K hK => ?_) AllReadyH.nil
          refine step_append_sl rfl Try.el_lt (.tmp 46) (.tmp 48) rfl wb.heap.size (.slice (some ⟨g4, 0, none⟩) 0 0) [] rfl O4a13.out A n c (l.ls.map Lt.cells) rfl ((HI.out.1.through HXb.out).through hHeld) (Lt.cells_len _) (Lt.cells_one _) (by have := HNM.out; simp; omega) hHeld.size ?_; intro A7 n7 c7 u7 _ ho7 hg7; have HG7 := Lib.hid hg7; have hlt7 := O4a13.out.lt; have HLT7 := Lib.hid hlt7; have O8a7 := Lib.hid (O8a13.out.apart O4a13.out (by decide) hg7); have G13a7 := Lib.hid (G13a13.out.apart O4a13.out (by decide) hg7); have O7a7 : Hid (Os u7 wb.heap.size 27 6 (.slice A7 n7 c7) (l.ls.map Lt.cells)) := Lib.hid ho7; clear ho7 hg7 hlt7
          refine hK.out _ _ (hHeld.grown HG7.out hHeld.size (fun q hq => (HLT7.out q hq).1)) (fun hHeld1 => ?_)
          clear hHeld hK K
          have hHeld := hHeld1
          clear hHeld1
          change wpAnyH _ _ _ _ _ _ _ (Act.put _ (some (49 : Nat)) (.slice A7 n7 c7)) _
          simp only [Act.put, List.setIfInBounds_toArray, List.set_cons_zero, List.set_cons_succ]
          refine wpAnyH_ready (rs := [11]) (by kernel_rfl) (by simp) ?_
          refine AllReadyH.cons (o := ⟨some 53, .call { callee := .builtin .append, args := #[.tmp 50, .tmp 52], argTypes := #[23, 23] }, _, _, _, none⟩) rfl (fun K hK => ?_) AllReadyH.nil
          refine step_append_sl rfl Try.el_oc (.tmp 50) (.tmp 52) rfl wb.heap.size (.slice (some ⟨g8, 0, none⟩) 0 0) [] rfl O8a7.out B m d (l.os.map Oc.cells) rfl ((HI.out.2.through HXb.out).through hHeld) (Oc.cells_len _) (Oc.cells_one _) (by have := HNM.out; simp; omega) hHeld.size ?_; intro A11 n11 c11 u11 _ ho11 hg11; have HG11 := Lib.hid hg11; have hlt11 := O8a7.out.lt; have HLT11 := Lib.hid hlt11; have G13a11 := Lib.hid (G13a7.out.apart O8a7.out (by decide) hg11); have O7a11 := Lib.hid (O7a7.out.apart O8a7.out (by decide) hg11); have O11a11 : Hid (Os u11 wb.heap.size 30 3 (.slice A11 n11 c11) (l.os.map Oc.cells)) := Lib.hid ho11; clear ho11 hg11 hlt11
          refine hK.out _ _ (hHeld.grown HG11.out hHeld.size (fun q hq => (HLT11.out q hq).1)) (fun hHeld1 => ?_)
          clear hHeld hK K
          have hHeld := hHeld1
          clear hHeld1
          change wpAnyH _ _ _ _ _ _ _ (Act.put _ (some (53 : Nat)) (.slice A11 n11 c11)) _
          simp only [Act.put, List.setIfInBounds_toArray, List.set_cons_zero, List.set_cons_succ]
          obtain ⟨V, hV⟩ : ∃ V : Value, V = .agg #[.int .i64 l.sq, .int .i64 l.tt, .slice A7 n7 c7, .slice A11 n11 c11] := ⟨_, rfl⟩
          have HV := Lib.hid hV
          clear hV
          refine wpAnyH_take (i := 12) (v := V) rfl (by kernel_rfl) (by kernel_rfl) (by kernel_rfl) (fun _ _ _ h => h) (yields_build (by kernel_rfl) 25 _ rfl _ (by simp only [List.map_toArray, List.map_cons, List.map_nil, Act.eval]; rfl) V (fun w _ => by rw [HV.out]; exact Try.build_lg4 _ _ _ _ _ _ _ _ _)) (by assumption) ?_
          change wpAnyH _ _ _ _ _ _ _ (Act.put _ (some (54 : Nat)) V) _
          simp only [Act.put, List.setIfInBounds_toArray, List.set_cons_zero, List.set_cons_succ]
          refine wpAnyH_ready (rs := [14]) (by kernel_rfl) (by simp) ?_
          refine AllReadyH.cons (o := ⟨none, .store 25 (.tmp 11) (.tmp 54), _, _, _, none⟩) rfl (fun K hK => ?_) AllReadyH.nil
          refine step_store_blk rfl 25 (.tmp 11) (.tmp 54) rfl g13 [.int .i64 l.sq, .int .i64 l.tt, .slice A7 n7 c7, .slice A11 n11 c11] rfl HV.out 25 [.int .i64 0, .int .i64 0, .slice none 0 0, .slice none 0 0] G13a11.out (by kernel_rfl) rfl (one4 _ _ _ _ _ _ _ _) ?_; intro u14 hb14 hg14; have G14 := Lib.hid hb14; have HG14 := Lib.hid hg14; have O7z := Lib.hid (O7a11.out.only hg14 G13a11.out (by decide)); have O11z := Lib.hid (O11a11.out.only hg14 G13a11.out (by decide)); clear hb14 hg14
          refine hK.out _ _ (hHeld.grown HG14.out hHeld.size (fun q hq => by have := Option.some.inj hq; have := L13.out; omega)) (fun hHeld1 => ?_)
          clear hHeld hK K
          have hHeld := hHeld1
          clear hHeld1
          change wpAnyH _ _ _ _ _ _ _ (Act.put _ none undef) _
          simp only [Act.put]
          refine wpAnyH_done (by kernel_rfl) ?_ _
          go_wp2
          go_meet
          case rel => exact ⟨g13, _, _, _, _, _, _, rfl, G14.out, ⟨O7z.out.sl rfl, O11z.out.sl rfl⟩, hHeld⟩
      · as_aux_lemma =>
        refine step_alloc_lg (cs := [.int .i64 0, .int .i64 0, .slice none 0 0, .slice none 0 0]) rfl rfl (Try.alloc_lg _) ?_; intro g13 u13 hle13 hb13 hk13; have HK13 := Lib.hid hk13; have L13 := Lib.hid (Nat.le_trans hHeld.size hle13); have G13a13 := Lib.hid hb13; have O4a13 := Lib.hid (O4a4.out.through hk13); clear hle13 hb13 hk13
        refine hK.out _ _ (below_step hHeld HK13.out) (fun hHeld1 => ?_)
        clear hHeld hK K
        have hHeld := hHeld1
        clear hHeld1
        change wpAnyH _ _ _ _ _ _ _ (Act.put _ (some (11 : Nat)) (.pointer (some ⟨g13, 0, none⟩))) _
        simp only [Act.put, List.setIfInBounds_toArray, List.set_cons_zero, List.set_cons_succ]
        refine wpAnyH_ready (rs := [7, 8]) (by kernel_rfl) (by simp) ?_
        refine AllReadyH.cons (o := ⟨some 49, .call { callee := .builtin .append, args := #[.tmp 46, .tmp 48], argTypes := #[22, 22] }, _, _, _, none⟩) rfl (fun K hK => ?_) (AllReadyH.cons (o := ⟨some 50, .buildSlice 23 0 #[], _, _, _, none⟩) rfl (fun K hK => ?_) AllReadyH.nil)
        · as_aux_lemma =>
          refine step_append_sl rfl Try.el_lt (.tmp 46) (.tmp 48) rfl wb.heap.size (.slice (some ⟨g4, 0, none⟩) 0 0) [] rfl O4a13.out A n c (l.ls.map Lt.cells) rfl ((HI.out.1.through HXb.out).through hHeld) (Lt.cells_len _) (Lt.cells_one _) (by have := HNM.out; simp; omega) hHeld.size ?_; intro A7 n7 c7 u7 _ ho7 hg7; have HG7 := Lib.hid hg7; have hlt7 := O4a13.out.lt; have HLT7 := Lib.hid hlt7; have G13a7 := Lib.hid (G13a13.out.apart O4a13.out (by decide) hg7); have O7a7 : Hid (Os u7 wb.heap.size 27 6 (.slice A7 n7 c7) (l.ls.map Lt.cells)) := Lib.hid ho7; clear ho7 hg7 hlt7
          refine hK.out _ _ (hHeld.grown HG7.out hHeld.size (fun q hq => (HLT7.out q hq).1)) (fun hHeld1 => ?_)
          clear hHeld hK K
          have hHeld := hHeld1
          clear hHeld1
          change wpAnyH _ _ _ _ _ _ _ (Act.put _ (some (49 : Nat)) (.slice A7 n7 c7)) _
          simp only [Act.put, List.setIfInBounds_toArray, List.set_cons_zero, List.set_cons_succ]
          refine wpAnyH_ready (rs := [8]) (by kernel_rfl) (by simp) ?_
          refine AllReadyH.cons (o := ⟨some 50, .buildSlice 23 0 #[], _, _, _, none⟩) rfl (fun K hK => ?_) AllReadyH.nil
          refine step_build_empty (k := 3) rfl rfl (Try.build_e_oc _) ?_; intro g8 u8 ho8 hk8; have HK8 := Lib.hid hk8; have O8a8 := Lib.hid (ho8.weak hHeld.size); have G13a8 := Lib.hid (G13a7.out.through hk8); have O7a8 := Lib.hid (O7a7.out.through hk8); clear ho8 hk8
          refine hK.out _ _ (below_step hHeld HK8.out) (fun hHeld1 => ?_)
          clear hHeld hK K
          have hHeld := hHeld1
          clear hHeld1
          change wpAnyH _ _ _ _ _ _ _ (Act.put _ (some (50 : Nat)) (.slice (some ⟨g8, 0, none⟩) 0 0)) _
          simp only [Act.put, List.setIfInBounds_toArray, List.set_cons_zero, List.set_cons_succ]
          refine wpAnyH_ready (rs := [11]) (by kernel_rfl) (by simp) ?_
          refine AllReadyH.cons (o := ⟨some 53, .call { callee := .builtin .append, args := #[.tmp 50, .tmp 52], argTypes := #[23, 23] }, _, _, _, none⟩) rfl (fun K hK => ?_) AllReadyH.nil
          refine step_append_sl rfl Try.el_oc (.tmp 50) (.tmp 52) rfl wb.heap.size (.slice (some ⟨g8, 0, none⟩) 0 0) [] rfl O8a8.out B m d (l.os.map Oc.cells) rfl ((HI.out.2.through HXb.out).through hHeld) (Oc.cells_len _) (Oc.cells_one _) (by have := HNM.out; simp; omega) hHeld.size ?_; intro A11 n11 c11 u11 _ ho11 hg11; have HG11 := Lib.hid hg11; have hlt11 := O8a8.out.lt; have HLT11 := Lib.hid hlt11; have G13a11 := Lib.hid (G13a8.out.apart O8a8.out (by decide) hg11); have O7a11 := Lib.hid (O7a8.out.apart O8a8.out (by decide) hg11); have O11a11 : Hid (Os u11 wb.heap.size 30 3 (.slice A11 n11 c11) (l.os.map Oc.cells)) := Lib.hid ho11; clear ho11 hg11 hlt11
          refine hK.out _ _ (hHeld.grown HG11.out hHeld.size (fun q hq => (HLT11.out q hq).1)) (fun hHeld1 => ?_)
          clear hHeld hK K
          have hHeld := hHeld1
          clear hHeld1
          change wpAnyH _ _ _ _ _ _ _ (Act.put _ (some (53 : Nat)) (.slice A11 n11 c11)) _
          simp only [Act.put, List.setIfInBounds_toArray, List.set_cons_zero, List.set_cons_succ]
          obtain ⟨V, hV⟩ : ∃ V : Value, V = .agg #[.int .i64 l.sq, .int .i64 l.tt, .slice A7 n7 c7, .slice A11 n11 c11] := ⟨_, rfl⟩
          have HV := Lib.hid hV
          clear hV
          refine wpAnyH_take (i := 12) (v := V) rfl (by kernel_rfl) (by kernel_rfl) (by kernel_rfl) (fun _ _ _ h => h) (yields_build (by kernel_rfl) 25 _ rfl _ (by simp only [List.map_toArray, List.map_cons, List.map_nil, Act.eval]; rfl) V (fun w _ => by rw [HV.out]; exact Try.build_lg4 _ _ _ _ _ _ _ _ _)) (by assumption) ?_
          change wpAnyH _ _ _ _ _ _ _ (Act.put _ (some (54 : Nat)) V) _
          simp only [Act.put, List.setIfInBounds_toArray, List.set_cons_zero, List.set_cons_succ]
          refine wpAnyH_ready (rs := [14]) (by kernel_rfl) (by simp) ?_
          refine AllReadyH.cons (o := ⟨none, .store 25 (.tmp 11) (.tmp 54), _, _, _, none⟩) rfl (fun K hK => ?_) AllReadyH.nil
          refine step_store_blk rfl 25 (.tmp 11) (.tmp 54) rfl g13 [.int .i64 l.sq, .int .i64 l.tt, .slice A7 n7 c7, .slice A11 n11 c11] rfl HV.out 25 [.int .i64 0, .int .i64 0, .slice none 0 0, .slice none 0 0] G13a11.out (by kernel_rfl) rfl (one4 _ _ _ _ _ _ _ _) ?_; intro u14 hb14 hg14; have G14 := Lib.hid hb14; have HG14 := Lib.hid hg14; have O7z := Lib.hid (O7a11.out.only hg14 G13a11.out (by decide)); have O11z := Lib.hid (O11a11.out.only hg14 G13a11.out (by decide)); clear hb14 hg14
          refine hK.out _ _ (hHeld.grown HG14.out hHeld.size (fun q hq => by have := Option.some.inj hq; have := L13.out; omega)) (fun hHeld1 => ?_)
          clear hHeld hK K
          have hHeld := hHeld1
          clear hHeld1
          change wpAnyH _ _ _ _ _ _ _ (Act.put _ none undef) _
          simp only [Act.put]
          refine wpAnyH_done (by kernel_rfl) ?_ _
          go_wp2
          go_meet
          case rel => exact ⟨g13, _, _, _, _, _, _, rfl, G14.out, ⟨O7z.out.sl rfl, O11z.out.sl rfl⟩, hHeld⟩
        · as_aux_lemma =>
          refine step_build_empty (k := 3) rfl rfl (Try.build_e_oc _) ?_; intro g8 u8 ho8 hk8; have HK8 := Lib.hid hk8; have O8a8 := Lib.hid (ho8.weak hHeld.size); have O4a8 := Lib.hid (O4a13.out.through hk8); have G13a8 := Lib.hid (G13a13.out.through hk8); clear ho8 hk8
          refine hK.out _ _ (below_step hHeld HK8.out) (fun hHeld1 => ?_)
          clear hHeld hK K
          have hHeld := hHeld1
          clear hHeld1
          change wpAnyH _ _ _ _ _ _ _ (Act.put _ (some (50 : Nat)) (.slice (some ⟨g8, 0, none⟩) 0 0)) _
          simp only [Act.put, List.setIfInBounds_toArray, List.set_cons_zero, List.set_cons_succ]
          refine wpAnyH_ready (rs := [7]) (by kernel_rfl) (by simp) ?_
          refine AllReadyH.cons (o := ⟨some 49, .call { callee := .builtin .append, args := #[.tmp 46, .tmp 48], argTypes := #[22, 22] }, _, _, _, none⟩) rfl (fun K hK => ?_) AllReadyH.nil
          refine step_append_sl rfl Try.el_lt (.tmp 46) (.tmp 48) rfl wb.heap.size (.slice (some ⟨g4, 0, none⟩) 0 0) [] rfl O4a8.out A n c (l.ls.map Lt.cells) rfl ((HI.out.1.through HXb.out).through hHeld) (Lt.cells_len _) (Lt.cells_one _) (by have := HNM.out; simp; omega) hHeld.size ?_; intro A7 n7 c7 u7 _ ho7 hg7; have HG7 := Lib.hid hg7; have hlt7 := O4a8.out.lt; have HLT7 := Lib.hid hlt7; have G13a7 := Lib.hid (G13a8.out.apart O4a8.out (by decide) hg7); have O8a7 := Lib.hid (O8a8.out.apart O4a8.out (by decide) hg7); have O7a7 : Hid (Os u7 wb.heap.size 27 6 (.slice A7 n7 c7) (l.ls.map Lt.cells)) := Lib.hid ho7; clear ho7 hg7 hlt7
          refine hK.out _ _ (hHeld.grown HG7.out hHeld.size (fun q hq => (HLT7.out q hq).1)) (fun hHeld1 => ?_)
          clear hHeld hK K
          have hHeld := hHeld1
          clear hHeld1
          change wpAnyH _ _ _ _ _ _ _ (Act.put _ (some (49 : Nat)) (.slice A7 n7 c7)) _
          simp only [Act.put, List.setIfInBounds_toArray, List.set_cons_zero, List.set_cons_succ]
          refine wpAnyH_ready (rs := [11]) (by kernel_rfl) (by simp) ?_
          refine AllReadyH.cons (o := ⟨some 53, .call { callee := .builtin .append, args := #[.tmp 50, .tmp 52], argTypes := #[23, 23] }, _, _, _, none⟩) rfl (fun K hK => ?_) AllReadyH.nil
          refine step_append_sl rfl Try.el_oc (.tmp 50) (.tmp 52) rfl wb.heap.size (.slice (some ⟨g8, 0, none⟩) 0 0) [] rfl O8a7.out B m d (l.os.map Oc.cells) rfl ((HI.out.2.through HXb.out).through hHeld) (Oc.cells_len _) (Oc.cells_one _) (by have := HNM.out; simp; omega) hHeld.size ?_; intro A11 n11 c11 u11 _ ho11 hg11; have HG11 := Lib.hid hg11; have hlt11 := O8a7.out.lt; have HLT11 := Lib.hid hlt11; have G13a11 := Lib.hid (G13a7.out.apart O8a7.out (by decide) hg11); have O7a11 := Lib.hid (O7a7.out.apart O8a7.out (by decide) hg11); have O11a11 : Hid (Os u11 wb.heap.size 30 3 (.slice A11 n11 c11) (l.os.map Oc.cells)) := Lib.hid ho11; clear ho11 hg11 hlt11
          refine hK.out _ _ (hHeld.grown HG11.out hHeld.size (fun q hq => (HLT11.out q hq).1)) (fun hHeld1 => ?_)
          clear hHeld hK K
          have hHeld := hHeld1
          clear hHeld1
          change wpAnyH _ _ _ _ _ _ _ (Act.put _ (some (53 : Nat)) (.slice A11 n11 c11)) _
          simp only [Act.put, List.setIfInBounds_toArray, List.set_cons_zero, List.set_cons_succ]
          obtain ⟨V, hV⟩ : ∃ V : Value, V = .agg #[.int .i64 l.sq, .int .i64 l.tt, .slice A7 n7 c7, .slice A11 n11 c11] := ⟨_, rfl⟩
          have HV := Lib.hid hV
          clear hV
          refine wpAnyH_take (i := 12) (v := V) rfl (by kernel_rfl) (by kernel_rfl) (by kernel_rfl) (fun _ _ _ h => h) (yields_build (by kernel_rfl) 25 _ rfl _ (by simp only [List.map_toArray, List.map_cons, List.map_nil, Act.eval]; rfl) V (fun w _ => by rw [HV.out]; exact Try.build_lg4 _ _ _ _ _ _ _ _ _)) (by assumption) ?_
          change wpAnyH _ _ _ _ _ _ _ (Act.put _ (some (54 : Nat)) V) _
          simp only [Act.put, List.setIfInBounds_toArray, List.set_cons_zero, List.set_cons_succ]
          refine wpAnyH_ready (rs := [14]) (by kernel_rfl) (by simp) ?_
          refine AllReadyH.cons (o := ⟨none, .store 25 (.tmp 11) (.tmp 54), _, _, _, none⟩) rfl (fun K hK => ?_) AllReadyH.nil
          refine step_store_blk rfl 25 (.tmp 11) (.tmp 54) rfl g13 [.int .i64 l.sq, .int .i64 l.tt, .slice A7 n7 c7, .slice A11 n11 c11] rfl HV.out 25 [.int .i64 0, .int .i64 0, .slice none 0 0, .slice none 0 0] G13a11.out (by kernel_rfl) rfl (one4 _ _ _ _ _ _ _ _) ?_; intro u14 hb14 hg14; have G14 := Lib.hid hb14; have HG14 := Lib.hid hg14; have O7z := Lib.hid (O7a11.out.only hg14 G13a11.out (by decide)); have O11z := Lib.hid (O11a11.out.only hg14 G13a11.out (by decide)); clear hb14 hg14
          refine hK.out _ _ (hHeld.grown HG14.out hHeld.size (fun q hq => by have := Option.some.inj hq; have := L13.out; omega)) (fun hHeld1 => ?_)
          clear hHeld hK K
          have hHeld := hHeld1
          clear hHeld1
          change wpAnyH _ _ _ _ _ _ _ (Act.put _ none undef) _
          simp only [Act.put]
          refine wpAnyH_done (by kernel_rfl) ?_ _
          go_wp2
          go_meet
          case rel => exact ⟨g13, _, _, _, _, _, _, rfl, G14.out, ⟨O7z.out.sl rfl, O11z.out.sl rfl⟩, hHeld⟩
    · as_aux_lemma =>
      refine step_build_empty (k := 3) rfl rfl (Try.build_e_oc _) ?_; intro g8 u8 ho8 hk8; have HK8 := Lib.hid hk8; have O8a8 := Lib.hid (ho8.weak hHeld.size); clear ho8 hk8
      refine hK.out _ _ (below_step hHeld HK8.out) (fun hHeld1 => ?_)
      clear hHeld hK K
      have hHeld := hHeld1
      clear hHeld1
      change wpAnyH _ _ _ _ _ _ _ (Act.put _ (some (50 : Nat)) (.slice (some ⟨g8, 0, none⟩) 0 0)) _
      simp only [Act.put, List.setIfInBounds_toArray, List.set_cons_zero, List.set_cons_succ]
      refine wpAnyH_ready (rs := [4, 13]) (by kernel_rfl) (by simp) ?_
      refine AllReadyH.cons (o := ⟨some 46, .buildSlice 22 0 #[], _, _, _, none⟩) rfl (fun K hK => ?_) (AllReadyH.cons (o := ⟨some 11, .alloc 25, _, _, _, none⟩) rfl (fun K hK => ?_) AllReadyH.nil)
      · as_aux_lemma =>
        refine step_build_empty (k := 6) rfl rfl (Try.build_e_lt _) ?_; intro g4 u4 ho4 hk4; have HK4 := Lib.hid hk4; have O4a4 := Lib.hid (ho4.weak hHeld.size); have O8a4 := Lib.hid (O8a8.out.through hk4); clear ho4 hk4
        refine hK.out _ _ (below_step hHeld HK4.out) (fun hHeld1 => ?_)
        clear hHeld hK K
        have hHeld := hHeld1
        clear hHeld1
        change wpAnyH _ _ _ _ _ _ _ (Act.put _ (some (46 : Nat)) (.slice (some ⟨g4, 0, none⟩) 0 0)) _
        simp only [Act.put, List.setIfInBounds_toArray, List.set_cons_zero, List.set_cons_succ]
        refine wpAnyH_ready (rs := [7, 13]) (by kernel_rfl) (by simp) ?_
        refine AllReadyH.cons (o := ⟨some 49, .call { callee := .builtin .append, args := #[.tmp 46, .tmp 48], argTypes := #[22, 22] }, _, _, _, none⟩) rfl (fun K hK => ?_) (AllReadyH.cons (o := ⟨some 11, .alloc 25, _, _, _, none⟩) rfl (fun K hK => ?_) AllReadyH.nil)
        · as_aux_lemma =>
          refine step_append_sl rfl Try.el_lt (.tmp 46) (.tmp 48) rfl wb.heap.size (.slice (some ⟨g4, 0, none⟩) 0 0) [] rfl O4a4.out A n c (l.ls.map Lt.cells) rfl ((HI.out.1.through HXb.out).through hHeld) (Lt.cells_len _) (Lt.cells_one _) (by have := HNM.out; simp; omega) hHeld.size ?_; intro A7 n7 c7 u7 _ ho7 hg7; have HG7 := Lib.hid hg7; have hlt7 := O4a4.out.lt; have HLT7 := Lib.hid hlt7; have O8a7 := Lib.hid (O8a4.out.apart O4a4.out (by decide) hg7); have O7a7 : Hid (Os u7 wb.heap.size 27 6 (.slice A7 n7 c7) (l.ls.map Lt.cells)) := Lib.hid ho7; clear ho7 hg7 hlt7
          refine hK.out _ _ (hHeld.grown HG7.out hHeld.size (fun q hq => (HLT7.out q hq).1)) (fun hHeld1 => ?_)
          clear hHeld hK K
          have hHeld := hHeld1
          clear hHeld1
          change wpAnyH _ _ _ _ _ _ _ (Act.put _ (some (49 : Nat)) (.slice A7 n7 c7)) _
          simp only [Act.put, List.setIfInBounds_toArray, List.set_cons_zero, List.set_cons_succ]
          refine wpAnyH_ready (rs := [11, 13]) (by kernel_rfl) (by simp) ?_
          refine AllReadyH.cons (o := ⟨some 53, .call { callee := .builtin .append, args := #[.tmp 50, .tmp 52], argTypes := #[23, 23] }, _, _, _, none⟩) rfl (fun K hK => ?_) (AllReadyH.cons (o := ⟨some 11, .alloc 25, _, _, _, none⟩) rfl (fun K hK => ?_) AllReadyH.nil)
          · as_aux_lemma =>
            refine step_append_sl rfl Try.el_oc (.tmp 50) (.tmp 52) rfl wb.heap.size (.slice (some ⟨g8, 0, none⟩) 0 0) [] rfl O8a7.out B m d (l.os.map Oc.cells) rfl ((HI.out.2.through HXb.out).through hHeld) (Oc.cells_len _) (Oc.cells_one _) (by have := HNM.out; simp; omega) hHeld.size ?_; intro A11 n11 c11 u11 _ ho11 hg11; have HG11 := Lib.hid hg11; have hlt11 := O8a7.out.lt; have HLT11 := Lib.hid hlt11; have O7a11 := Lib.hid (O7a7.out.apart O8a7.out (by decide) hg11); have O11a11 : Hid (Os u11 wb.heap.size 30 3 (.slice A11 n11 c11) (l.os.map Oc.cells)) := Lib.hid ho11; clear ho11 hg11 hlt11
            refine hK.out _ _ (hHeld.grown HG11.out hHeld.size (fun q hq => (HLT11.out q hq).1)) (fun hHeld1 => ?_)
            clear hHeld hK K
            have hHeld := hHeld1
            clear hHeld1
            change wpAnyH _ _ _ _ _ _ _ (Act.put _ (some (53 : Nat)) (.slice A11 n11 c11)) _
            simp only [Act.put, List.setIfInBounds_toArray, List.set_cons_zero, List.set_cons_succ]
            obtain ⟨V, hV⟩ : ∃ V : Value, V = .agg #[.int .i64 l.sq, .int .i64 l.tt, .slice A7 n7 c7, .slice A11 n11 c11] := ⟨_, rfl⟩
            have HV := Lib.hid hV
            clear hV
            refine wpAnyH_take (i := 12) (v := V) rfl (by kernel_rfl) (by kernel_rfl) (by kernel_rfl) (fun _ _ _ h => h) (yields_build (by kernel_rfl) 25 _ rfl _ (by simp only [List.map_toArray, List.map_cons, List.map_nil, Act.eval]; rfl) V (fun w _ => by rw [HV.out]; exact Try.build_lg4 _ _ _ _ _ _ _ _ _)) (by assumption) ?_
            change wpAnyH _ _ _ _ _ _ _ (Act.put _ (some (54 : Nat)) V) _
            simp only [Act.put, List.setIfInBounds_toArray, List.set_cons_zero, List.set_cons_succ]
            refine wpAnyH_ready (rs := [13]) (by kernel_rfl) (by simp) ?_
            refine AllReadyH.cons (o := ⟨some 11, .alloc 25, _, _, _, none⟩) rfl (fun K hK => ?_) AllReadyH.nil
            refine step_alloc_lg (cs := [.int .i64 0, .int .i64 0, .slice none 0 0, .slice none 0 0]) rfl rfl (Try.alloc_lg _) ?_; intro g13 u13 hle13 hb13 hk13; have HK13 := Lib.hid hk13; have L13 := Lib.hid (Nat.le_trans hHeld.size hle13); have G13a13 := Lib.hid hb13; have O7a13 := Lib.hid (O7a11.out.through hk13); have O11a13 := Lib.hid (O11a11.out.through hk13); clear hle13 hb13 hk13
            refine hK.out _ _ (below_step hHeld HK13.out) (fun hHeld1 => ?_)
            clear hHeld hK K
            have hHeld := hHeld1
            clear hHeld1
            change wpAnyH _ _ _ _ _ _ _ (Act.put _ (some (11 : Nat)) (.pointer (some ⟨g13, 0, none⟩))) _
            simp only [Act.put, List.setIfInBounds_toArray, List.set_cons_zero, List.set_cons_succ]
            refine wpAnyH_ready (rs := [14]) (by kernel_rfl) (by simp) ?_
            refine AllReadyH.cons (o := ⟨none, .store 25 (.tmp 11) (.tmp 54), _, _, _, none⟩) rfl (fun K hK => ?_) AllReadyH.nil
            refine step_store_blk rfl 25 (.tmp 11) (.tmp 54) rfl g13 [.int .i64 l.sq, .int .i64 l.tt, .slice A7 n7 c7, .slice A11 n11 c11] rfl HV.out 25 [.int .i64 0, .int .i64 0, .slice none 0 0, .slice none 0 0] G13a13.out (by kernel_rfl) rfl (one4 _ _ _ _ _ _ _ _) ?_; intro u14 hb14 hg14; have G14 := Lib.hid hb14; have HG14 := Lib.hid hg14; have O7z := Lib.hid (O7a13.out.only hg14 G13a13.out (by decide)); have O11z := Lib.hid (O11a13.out.only hg14 G13a13.out (by decide)); clear hb14 hg14
            refine hK.out _ _ (hHeld.grown HG14.out hHeld.size (fun q hq => by have := Option.some.inj hq; have := L13.out; omega)) (fun hHeld1 => ?_)
            clear hHeld hK K
            have hHeld := hHeld1
            clear hHeld1
            change wpAnyH _ _ _ _ _ _ _ (Act.put _ none undef) _
            simp only [Act.put]
            refine wpAnyH_done (by kernel_rfl) ?_ _
            go_wp2
            go_meet
            case rel => exact ⟨g13, _, _, _, _, _, _, rfl, G14.out, ⟨O7z.out.sl rfl, O11z.out.sl rfl⟩, hHeld⟩
          · as_aux_lemma =>
            refine step_alloc_lg (cs := [.int .i64 0, .int .i64 0, .slice none 0 0, .slice none 0 0]) rfl rfl (Try.alloc_lg _) ?_; intro g13 u13 hle13 hb13 hk13; have HK13 := Lib.hid hk13; have L13 := Lib.hid (Nat.le_trans hHeld.size hle13); have G13a13 := Lib.hid hb13; have O8a13 := Lib.hid (O8a7.out.through hk13); have O7a13 := Lib.hid (O7a7.out.through hk13); clear hle13 hb13 hk13
            refine hK.out _ _ (below_step hHeld HK13.out) (fun hHeld1 => ?_)
            clear hHeld hK K
            have hHeld := hHeld1
            clear hHeld1
            change wpAnyH _ _ _ _ _ _ _ (Act.put _ (some (11 : Nat)) (.pointer (some ⟨g13, 0, none⟩))) _
            simp only [Act.put, List.setIfInBounds_toArray, List.set_cons_zero, List.set_cons_succ]
            refine wpAnyH_ready (rs := [11]) (by kernel_rfl) (by simp) ?_
            refine AllReadyH.cons (o := ⟨some 53, .call { callee := .builtin .append, args := #[.tmp 50, .tmp 52], argTypes := #[23, 23] }, _, _, _, none⟩) rfl (fun K hK => ?_) AllReadyH.nil
            refine step_append_sl rfl Try.el_oc (.tmp 50) (.tmp 52) rfl wb.heap.size (.slice (some ⟨g8, 0, none⟩) 0 0) [] rfl O8a13.out B m d (l.os.map Oc.cells) rfl ((HI.out.2.through HXb.out).through hHeld) (Oc.cells_len _) (Oc.cells_one _) (by have := HNM.out; simp; omega) hHeld.size ?_; intro A11 n11 c11 u11 _ ho11 hg11; have HG11 := Lib.hid hg11; have hlt11 := O8a13.out.lt; have HLT11 := Lib.hid hlt11; have O7a11 := Lib.hid (O7a13.out.apart O8a13.out (by decide) hg11); have G13a11 := Lib.hid (G13a13.out.apart O8a13.out (by decide) hg11); have O11a11 : Hid (Os u11 wb.heap.size 30 3 (.slice A11 n11 c11) (l.os.map Oc.cells)) := Lib.hid ho11; clear ho11 hg11 hlt11
            refine hK.out _ _ (hHeld.grown HG11.out hHeld.size (fun q hq => (HLT11.out q hq).1)) (fun hHeld1 => ?_)
            clear hHeld hK K
            have hHeld := hHeld1
            clear hHeld1
            change wpAnyH _ _ _ _ _ _ _ (Act.put _ (some (53 : Nat)) (.slice A11 n11 c11)) _
            simp only [Act.put, List.setIfInBounds_toArray, List.set_cons_zero, List.set_cons_succ]
            obtain ⟨V, hV⟩ : ∃ V : Value, V = .agg #[.int .i64 l.sq, .int .i64 l.tt, .slice A7 n7 c7, .slice A11 n11 c11] := ⟨_, rfl⟩
            have HV := Lib.hid hV
            clear hV
            refine wpAnyH_take (i := 12) (v := V) rfl (by kernel_rfl) (by kernel_rfl) (by kernel_rfl) (fun _ _ _ h => h) (yields_build (by kernel_rfl) 25 _ rfl _ (by simp only [List.map_toArray, List.map_cons, List.map_nil, Act.eval]; rfl) V (fun w _ => by rw [HV.out]; exact Try.build_lg4 _ _ _ _ _ _ _ _ _)) (by assumption) ?_
            change wpAnyH _ _ _ _ _ _ _ (Act.put _ (some (54 : Nat)) V) _
            simp only [Act.put, List.setIfInBounds_toArray, List.set_cons_zero, List.set_cons_succ]
            refine wpAnyH_ready (rs := [14]) (by kernel_rfl) (by simp) ?_
            refine AllReadyH.cons (o := ⟨none, .store 25 (.tmp 11) (.tmp 54), _, _, _, none⟩) rfl (fun K hK => ?_) AllReadyH.nil
            refine step_store_blk rfl 25 (.tmp 11) (.tmp 54) rfl g13 [.int .i64 l.sq, .int .i64 l.tt, .slice A7 n7 c7, .slice A11 n11 c11] rfl HV.out 25 [.int .i64 0, .int .i64 0, .slice none 0 0, .slice none 0 0] G13a11.out (by kernel_rfl) rfl (one4 _ _ _ _ _ _ _ _) ?_; intro u14 hb14 hg14; have G14 := Lib.hid hb14; have HG14 := Lib.hid hg14; have O7z := Lib.hid (O7a11.out.only hg14 G13a11.out (by decide)); have O11z := Lib.hid (O11a11.out.only hg14 G13a11.out (by decide)); clear hb14 hg14
            refine hK.out _ _ (hHeld.grown HG14.out hHeld.size (fun q hq => by have := Option.some.inj hq; have := L13.out; omega)) (fun hHeld1 => ?_)
            clear hHeld hK K
            have hHeld := hHeld1
            clear hHeld1
            change wpAnyH _ _ _ _ _ _ _ (Act.put _ none undef) _
            simp only [Act.put]
            refine wpAnyH_done (by kernel_rfl) ?_ _
            go_wp2
            go_meet
            case rel => exact ⟨g13, _, _, _, _, _, _, rfl, G14.out, ⟨O7z.out.sl rfl, O11z.out.sl rfl⟩, hHeld⟩
        · as_aux_lemma =>
          refine step_alloc_lg (cs := [.int .i64 0, .int .i64 0, .slice none 0 0, .slice none 0 0]) rfl rfl (Try.alloc_lg _) ?_; intro g13 u13 hle13 hb13 hk13; have HK13 := Lib.hid hk13; have L13 := Lib.hid (Nat.le_trans hHeld.size hle13); have G13a13 := Lib.hid hb13; have O8a13 := Lib.hid (O8a4.out.through hk13); have O4a13 := Lib.hid (O4a4.out.through hk13); clear hle13 hb13 hk13
          refine hK.out _ _ (below_step hHeld HK13.out) (fun hHeld1 => ?_)
          clear hHeld hK K
          have hHeld := hHeld1
          clear hHeld1
          change wpAnyH _ _ _ _ _ _ _ (Act.put _ (some (11 : Nat)) (.pointer (some ⟨g13, 0, none⟩))) _
          simp only [Act.put, List.setIfInBounds_toArray, List.set_cons_zero, List.set_cons_succ]
          refine wpAnyH_ready (rs := [7]) (by kernel_rfl) (by simp) ?_
          refine AllReadyH.cons (o := ⟨some 49, .call { callee := .builtin .append, args := #[.tmp 46, .tmp 48], argTypes := #[22, 22] }, _, _, _, none⟩) rfl (fun K hK => ?_) AllReadyH.nil
          refine step_append_sl rfl Try.el_lt (.tmp 46) (.tmp 48) rfl wb.heap.size (.slice (some ⟨g4, 0, none⟩) 0 0) [] rfl O4a13.out A n c (l.ls.map Lt.cells) rfl ((HI.out.1.through HXb.out).through hHeld) (Lt.cells_len _) (Lt.cells_one _) (by have := HNM.out; simp; omega) hHeld.size ?_; intro A7 n7 c7 u7 _ ho7 hg7; have HG7 := Lib.hid hg7; have hlt7 := O4a13.out.lt; have HLT7 := Lib.hid hlt7; have O8a7 := Lib.hid (O8a13.out.apart O4a13.out (by decide) hg7); have G13a7 := Lib.hid (G13a13.out.apart O4a13.out (by decide) hg7); have O7a7 : Hid (Os u7 wb.heap.size 27 6 (.slice A7 n7 c7) (l.ls.map Lt.cells)) := Lib.hid ho7; clear ho7 hg7 hlt7
          refine hK.out _ _ (hHeld.grown HG7.out hHeld.size (fun q hq => (HLT7.out q hq).1)) (fun hHeld1 => ?_)
          clear hHeld hK K
          have hHeld := hHeld1
          clear hHeld1
          change wpAnyH _ _ _ _ _ _ _ (Act.put _ (some (49 : Nat)) (.slice A7 n7 c7)) _
          simp only [Act.put, List.setIfInBounds_toArray, List.set_cons_zero, List.set_cons_succ]
          refine wpAnyH_ready (rs := [11]) (by kernel_rfl) (by simp) ?_
          refine AllReadyH.cons (o := ⟨some 53, .call { callee := .builtin .append, args := #[.tmp 50, .tmp 52], argTypes := #[23, 23] }, _, _, _, none⟩) rfl (fun K hK => ?_) AllReadyH.nil
          refine step_append_sl rfl Try.el_oc (.tmp 50) (.tmp 52) rfl wb.heap.size (.slice (some ⟨g8, 0, none⟩) 0 0) [] rfl O8a7.out B m d (l.os.map Oc.cells) rfl ((HI.out.2.through HXb.out).through hHeld) (Oc.cells_len _) (Oc.cells_one _) (by have := HNM.out; simp; omega) hHeld.size ?_; intro A11 n11 c11 u11 _ ho11 hg11; have HG11 := Lib.hid hg11; have hlt11 := O8a7.out.lt; have HLT11 := Lib.hid hlt11; have G13a11 := Lib.hid (G13a7.out.apart O8a7.out (by decide) hg11); have O7a11 := Lib.hid (O7a7.out.apart O8a7.out (by decide) hg11); have O11a11 : Hid (Os u11 wb.heap.size 30 3 (.slice A11 n11 c11) (l.os.map Oc.cells)) := Lib.hid ho11; clear ho11 hg11 hlt11
          refine hK.out _ _ (hHeld.grown HG11.out hHeld.size (fun q hq => (HLT11.out q hq).1)) (fun hHeld1 => ?_)
          clear hHeld hK K
          have hHeld := hHeld1
          clear hHeld1
          change wpAnyH _ _ _ _ _ _ _ (Act.put _ (some (53 : Nat)) (.slice A11 n11 c11)) _
          simp only [Act.put, List.setIfInBounds_toArray, List.set_cons_zero, List.set_cons_succ]
          obtain ⟨V, hV⟩ : ∃ V : Value, V = .agg #[.int .i64 l.sq, .int .i64 l.tt, .slice A7 n7 c7, .slice A11 n11 c11] := ⟨_, rfl⟩
          have HV := Lib.hid hV
          clear hV
          refine wpAnyH_take (i := 12) (v := V) rfl (by kernel_rfl) (by kernel_rfl) (by kernel_rfl) (fun _ _ _ h => h) (yields_build (by kernel_rfl) 25 _ rfl _ (by simp only [List.map_toArray, List.map_cons, List.map_nil, Act.eval]; rfl) V (fun w _ => by rw [HV.out]; exact Try.build_lg4 _ _ _ _ _ _ _ _ _)) (by assumption) ?_
          change wpAnyH _ _ _ _ _ _ _ (Act.put _ (some (54 : Nat)) V) _
          simp only [Act.put, List.setIfInBounds_toArray, List.set_cons_zero, List.set_cons_succ]
          refine wpAnyH_ready (rs := [14]) (by kernel_rfl) (by simp) ?_
          refine AllReadyH.cons (o := ⟨none, .store 25 (.tmp 11) (.tmp 54), _, _, _, none⟩) rfl (fun K hK => ?_) AllReadyH.nil
          refine step_store_blk rfl 25 (.tmp 11) (.tmp 54) rfl g13 [.int .i64 l.sq, .int .i64 l.tt, .slice A7 n7 c7, .slice A11 n11 c11] rfl HV.out 25 [.int .i64 0, .int .i64 0, .slice none 0 0, .slice none 0 0] G13a11.out (by kernel_rfl) rfl (one4 _ _ _ _ _ _ _ _) ?_; intro u14 hb14 hg14; have G14 := Lib.hid hb14; have HG14 := Lib.hid hg14; have O7z := Lib.hid (O7a11.out.only hg14 G13a11.out (by decide)); have O11z := Lib.hid (O11a11.out.only hg14 G13a11.out (by decide)); clear hb14 hg14
          refine hK.out _ _ (hHeld.grown HG14.out hHeld.size (fun q hq => by have := Option.some.inj hq; have := L13.out; omega)) (fun hHeld1 => ?_)
          clear hHeld hK K
          have hHeld := hHeld1
          clear hHeld1
          change wpAnyH _ _ _ _ _ _ _ (Act.put _ none undef) _
          simp only [Act.put]
          refine wpAnyH_done (by kernel_rfl) ?_ _
          go_wp2
          go_meet
          case rel => exact ⟨g13, _, _, _, _, _, _, rfl, G14.out, ⟨O7z.out.sl rfl, O11z.out.sl rfl⟩, hHeld⟩
      · as_aux_lemma =>
        refine step_alloc_lg (cs := [.int .i64 0, .int .i64 0, .slice none 0 0, .slice none 0 0]) rfl rfl (Try.alloc_lg _) ?_; intro g13 u13 hle13 hb13 hk13; have HK13 := Lib.hid hk13; have L13 := Lib.hid (Nat.le_trans hHeld.size hle13); have G13a13 := Lib.hid hb13; have O8a13 := Lib.hid (O8a8.out.through hk13); clear hle13 hb13 hk13
        refine hK.out _ _ (below_step hHeld HK13.out) (fun hHeld1 => ?_)
        clear hHeld hK K
        have hHeld := hHeld1
        clear hHeld1
        change wpAnyH _ _ _ _ _ _ _ (Act.put _ (some (11 : Nat)) (.pointer (some ⟨g13, 0, none⟩))) _
        simp only [Act.put, List.setIfInBounds_toArray, List.set_cons_zero, List.set_cons_succ]
        refine wpAnyH_ready (rs := [4]) (by kernel_rfl) (by simp) ?_
        refine AllReadyH.cons (o := ⟨some 46, .buildSlice 22 0 #[], _, _, _, none⟩) rfl (fun K hK => ?_) AllReadyH.nil
        refine step_build_empty (k := 6) rfl rfl (Try.build_e_lt _) ?_; intro g4 u4 ho4 hk4; have HK4 := Lib.hid hk4; have O4a4 := Lib.hid (ho4.weak hHeld.size); have O8a4 := Lib.hid (O8a13.out.through hk4); have G13a4 := Lib.hid (G13a13.out.through hk4); clear ho4 hk4
        refine hK.out _ _ (below_step hHeld HK4.out) (fun hHeld1 => ?_)
        clear hHeld hK K
        have hHeld := hHeld1
        clear hHeld1
        change wpAnyH _ _ _ _ _ _ _ (Act.put _ (some (46 : Nat)) (.slice (some ⟨g4, 0, none⟩) 0 0)) _
        simp only [Act.put, List.setIfInBounds_toArray, List.set_cons_zero, List.set_cons_succ]
        refine wpAnyH_ready (rs := [7]) (by kernel_rfl) (by simp) ?_
        refine AllReadyH.cons (o := ⟨some 49, .call { callee := .builtin .append, args := #[.tmp 46, .tmp 48], argTypes := #[22, 22] }, _, _, _, none⟩) rfl (fun K hK => ?_) AllReadyH.nil
        refine step_append_sl rfl Try.el_lt (.tmp 46) (.tmp 48) rfl wb.heap.size (.slice (some ⟨g4, 0, none⟩) 0 0) [] rfl O4a4.out A n c (l.ls.map Lt.cells) rfl ((HI.out.1.through HXb.out).through hHeld) (Lt.cells_len _) (Lt.cells_one _) (by have := HNM.out; simp; omega) hHeld.size ?_; intro A7 n7 c7 u7 _ ho7 hg7; have HG7 := Lib.hid hg7; have hlt7 := O4a4.out.lt; have HLT7 := Lib.hid hlt7; have O8a7 := Lib.hid (O8a4.out.apart O4a4.out (by decide) hg7); have G13a7 := Lib.hid (G13a4.out.apart O4a4.out (by decide) hg7); have O7a7 : Hid (Os u7 wb.heap.size 27 6 (.slice A7 n7 c7) (l.ls.map Lt.cells)) := Lib.hid ho7; clear ho7 hg7 hlt7
        refine hK.out _ _ (hHeld.grown HG7.out hHeld.size (fun q hq => (HLT7.out q hq).1)) (fun hHeld1 => ?_)
        clear hHeld hK K
        have hHeld := hHeld1
        clear hHeld1
        change wpAnyH _ _ _ _ _ _ _ (Act.put _ (some (49 : Nat)) (.slice A7 n7 c7)) _
        simp only [Act.put, List.setIfInBounds_toArray, List.set_cons_zero, List.set_cons_succ]
        refine wpAnyH_ready (rs := [11]) (by kernel_rfl) (by simp) ?_
        refine AllReadyH.cons (o := ⟨some 53, .call { callee := .builtin .append, args := #[.tmp 50, .tmp 52], argTypes := #[23, 23] }, _, _, _, none⟩) rfl (fun K hK => ?_) AllReadyH.nil
        refine step_append_sl rfl Try.el_oc (.tmp 50) (.tmp 52) rfl wb.heap.size (.slice (some ⟨g8, 0, none⟩) 0 0) [] rfl O8a7.out B m d (l.os.map Oc.cells) rfl ((HI.out.2.through HXb.out).through hHeld) (Oc.cells_len _) (Oc.cells_one _) (by have := HNM.out; simp; omega) hHeld.size ?_; intro A11 n11 c11 u11 _ ho11 hg11; have HG11 := Lib.hid hg11; have hlt11 := O8a7.out.lt; have HLT11 := Lib.hid hlt11; have G13a11 := Lib.hid (G13a7.out.apart O8a7.out (by decide) hg11); have O7a11 := Lib.hid (O7a7.out.apart O8a7.out (by decide) hg11); have O11a11 : Hid (Os u11 wb.heap.size 30 3 (.slice A11 n11 c11) (l.os.map Oc.cells)) := Lib.hid ho11; clear ho11 hg11 hlt11
        refine hK.out _ _ (hHeld.grown HG11.out hHeld.size (fun q hq => (HLT11.out q hq).1)) (fun hHeld1 => ?_)
        clear hHeld hK K
        have hHeld := hHeld1
        clear hHeld1
        change wpAnyH _ _ _ _ _ _ _ (Act.put _ (some (53 : Nat)) (.slice A11 n11 c11)) _
        simp only [Act.put, List.setIfInBounds_toArray, List.set_cons_zero, List.set_cons_succ]
        obtain ⟨V, hV⟩ : ∃ V : Value, V = .agg #[.int .i64 l.sq, .int .i64 l.tt, .slice A7 n7 c7, .slice A11 n11 c11] := ⟨_, rfl⟩
        have HV := Lib.hid hV
        clear hV
        refine wpAnyH_take (i := 12) (v := V) rfl (by kernel_rfl) (by kernel_rfl) (by kernel_rfl) (fun _ _ _ h => h) (yields_build (by kernel_rfl) 25 _ rfl _ (by simp only [List.map_toArray, List.map_cons, List.map_nil, Act.eval]; rfl) V (fun w _ => by rw [HV.out]; exact Try.build_lg4 _ _ _ _ _ _ _ _ _)) (by assumption) ?_
        change wpAnyH _ _ _ _ _ _ _ (Act.put _ (some (54 : Nat)) V) _
        simp only [Act.put, List.setIfInBounds_toArray, List.set_cons_zero, List.set_cons_succ]
        refine wpAnyH_ready (rs := [14]) (by kernel_rfl) (by simp) ?_
        refine AllReadyH.cons (o := ⟨none, .store 25 (.tmp 11) (.tmp 54), _, _, _, none⟩) rfl (fun K hK => ?_) AllReadyH.nil
        refine step_store_blk rfl 25 (.tmp 11) (.tmp 54) rfl g13 [.int .i64 l.sq, .int .i64 l.tt, .slice A7 n7 c7, .slice A11 n11 c11] rfl HV.out 25 [.int .i64 0, .int .i64 0, .slice none 0 0, .slice none 0 0] G13a11.out (by kernel_rfl) rfl (one4 _ _ _ _ _ _ _ _) ?_; intro u14 hb14 hg14; have G14 := Lib.hid hb14; have HG14 := Lib.hid hg14; have O7z := Lib.hid (O7a11.out.only hg14 G13a11.out (by decide)); have O11z := Lib.hid (O11a11.out.only hg14 G13a11.out (by decide)); clear hb14 hg14
        refine hK.out _ _ (hHeld.grown HG14.out hHeld.size (fun q hq => by have := Option.some.inj hq; have := L13.out; omega)) (fun hHeld1 => ?_)
        clear hHeld hK K
        have hHeld := hHeld1
        clear hHeld1
        change wpAnyH _ _ _ _ _ _ _ (Act.put _ none undef) _
        simp only [Act.put]
        refine wpAnyH_done (by kernel_rfl) ?_ _
        go_wp2
        go_meet
        case rel => exact ⟨g13, _, _, _, _, _, _, rfl, G14.out, ⟨O7z.out.sl rfl, O11z.out.sl rfl⟩, hHeld⟩
    · as_aux_lemma =>
      refine step_alloc_lg (cs := [.int .i64 0, .int .i64 0, .slice none 0 0, .slice none 0 0]) rfl rfl (Try.alloc_lg _) ?_; intro g13 u13 hle13 hb13 hk13; have HK13 := Lib.hid hk13; have L13 := Lib.hid (Nat.le_trans hHeld.size hle13); have G13a13 := Lib.hid hb13; clear hle13 hb13 hk13
      refine hK.out _ _ (below_step hHeld HK13.out) (fun hHeld1 => ?_)
      clear hHeld hK K
      have hHeld := hHeld1
      clear hHeld1
      change wpAnyH _ _ _ _ _ _ _ (Act.put _ (some (11 : Nat)) (.pointer (some ⟨g13, 0, none⟩))) _
      simp only [Act.put, List.setIfInBounds_toArray, List.set_cons_zero, List.set_cons_succ]
      refine wpAnyH_ready (rs := [4, 8]) (by kernel_rfl) (by simp) ?_
      refine AllReadyH.cons (o := ⟨some 46, .buildSlice 22 0 #[], _, _, _, none⟩) rfl (fun K hK => ?_) (AllReadyH.cons (o := ⟨some 50, .buildSlice 23 0 #[], _, _, _, none⟩) rfl (fun K hK => ?_) AllReadyH.nil)
      · as_aux_lemma =>
        refine step_build_empty (k := 6) rfl rfl (Try.build_e_lt _) ?_; intro g4 u4 ho4 hk4; have HK4 := Lib.hid hk4; have O4a4 := Lib.hid (ho4.weak hHeld.size); have G13a4 := Lib.hid (G13a13.out.through hk4); clear ho4 hk4
        refine hK.out _ _ (below_step hHeld HK4.out) (fun hHeld1 => ?_)
        clear hHeld hK K
        have hHeld := hHeld1
        clear hHeld1
        change wpAnyH _ _ _ _ _ _ _ (Act.put _ (some (46 : Nat)) (.slice (some ⟨g4, 0, none⟩) 0 0)) _
        simp only [Act.put, List.setIfInBounds_toArray, List.set_cons_zero, List.set_cons_succ]
        refine wpAnyH_ready (rs := [7, 8]) (by kernel_rfl) (by simp) ?_
        refine AllReadyH.cons (o := ⟨some 49, .call { callee := .builtin .append, args := #[.tmp 46, .tmp 48], argTypes := #[22, 22] }, _, _, _, none⟩) rfl (fun K hK => ?_) (AllReadyH.cons (o := ⟨some 50, .buildSlice 23 0 #[], _, _, _, none⟩) rfl (fun K hK => ?_) AllReadyH.nil)
        · as_aux_lemma =>
          refine step_append_sl rfl Try.el_lt (.tmp 46) (.tmp 48) rfl wb.heap.size (.slice (some ⟨g4, 0, none⟩) 0 0) [] rfl O4a4.out A n c (l.ls.map Lt.cells) rfl ((HI.out.1.through HXb.out).through hHeld) (Lt.cells_len _) (Lt.cells_one _) (by have := HNM.out; simp; omega) hHeld.size ?_; intro A7 n7 c7 u7 _ ho7 hg7; have HG7 := Lib.hid hg7; have hlt7 := O4a4.out.lt; have HLT7 := Lib.hid hlt7; have G13a7 := Lib.hid (G13a4.out.apart O4a4.out (by decide) hg7); have O7a7 : Hid (Os u7 wb.heap.size 27 6 (.slice A7 n7 c7) (l.ls.map Lt.cells)) := Lib.hid ho7; clear ho7 hg7 hlt7
          refine hK.out _ _ (hHeld.grown HG7.out hHeld.size (fun q hq => (HLT7.out q hq).1)) (fun hHeld1 => ?_)
          clear hHeld hK K
          have hHeld := hHeld1
          clear hHeld1
          change wpAnyH _ _ _ _ _ _ _ (Act.put _ (some (49 : Nat)) (.slice A7 n7 c7)) _
          simp only [Act.put, List.setIfInBounds_toArray, List.set_cons_zero, List.set_cons_succ]
          refine wpAnyH_ready (rs := [8]) (by kernel_rfl) (by simp) ?_
          refine AllReadyH.cons (o := ⟨some 50, .buildSlice 23 0 #[], _, _, _, none⟩) rfl (fun K hK => ?_) AllReadyH.nil
          refine step_build_empty (k := 3) rfl rfl (Try.build_e_oc _) ?_; intro g8 u8 ho8 hk8; have HK8 := Lib.hid hk8; have O8a8 := Lib.hid (ho8.weak hHeld.size); have G13a8 := Lib.hid (G13a7.out.through hk8); have O7a8 := Lib.hid (O7a7.out.through hk8); clear ho8 hk8
          refine hK.out _ _ (below_step hHeld HK8.out) (fun hHeld1 => ?_)
          clear hHeld hK K
          have hHeld := hHeld1
          clear hHeld1
          change wpAnyH _ _ _ _ _ _ _ (Act.put _ (some (50 : Nat)) (.slice (some ⟨g8, 0, none⟩) 0 0)) _
          simp only [Act.put, List.setIfInBounds_toArray, List.set_cons_zero, List.set_cons_succ]
          refine wpAnyH_ready (rs := [11]) (by kernel_rfl) (by simp) ?_
          refine AllReadyH.cons (o := ⟨some 53, .call { callee := .builtin .append, args := #[.tmp 50, .tmp 52], argTypes := #[23, 23] }, _, _, _, none⟩) rfl (fun K hK => ?_) AllReadyH.nil
          refine step_append_sl rfl Try.el_oc (.tmp 50) (.tmp 52) rfl wb.heap.size (.slice (some ⟨g8, 0, none⟩) 0 0) [] rfl O8a8.out B m d (l.os.map Oc.cells) rfl ((HI.out.2.through HXb.out).through hHeld) (Oc.cells_len _) (Oc.cells_one _) (by have := HNM.out; simp; omega) hHeld.size ?_; intro A11 n11 c11 u11 _ ho11 hg11; have HG11 := Lib.hid hg11; have hlt11 := O8a8.out.lt; have HLT11 := Lib.hid hlt11; have G13a11 := Lib.hid (G13a8.out.apart O8a8.out (by decide) hg11); have O7a11 := Lib.hid (O7a8.out.apart O8a8.out (by decide) hg11); have O11a11 : Hid (Os u11 wb.heap.size 30 3 (.slice A11 n11 c11) (l.os.map Oc.cells)) := Lib.hid ho11; clear ho11 hg11 hlt11
          refine hK.out _ _ (hHeld.grown HG11.out hHeld.size (fun q hq => (HLT11.out q hq).1)) (fun hHeld1 => ?_)
          clear hHeld hK K
          have hHeld := hHeld1
          clear hHeld1
          change wpAnyH _ _ _ _ _ _ _ (Act.put _ (some (53 : Nat)) (.slice A11 n11 c11)) _
          simp only [Act.put, List.setIfInBounds_toArray, List.set_cons_zero, List.set_cons_succ]
          obtain ⟨V, hV⟩ : ∃ V : Value, V = .agg #[.int .i64 l.sq, .int .i64 l.tt, .slice A7 n7 c7, .slice A11 n11 c11] := ⟨_, rfl⟩
          have HV := Lib.hid hV
          clear hV
          refine wpAnyH_take (i := 12) (v := V) rfl (by kernel_rfl) (by kernel_rfl) (by kernel_rfl) (fun _ _ _ h => h) (yields_build (by kernel_rfl) 25 _ rfl _ (by simp only [List.map_toArray, List.map_cons, List.map_nil, Act.eval]; rfl) V (fun w _ => by rw [HV.out]; exact Try.build_lg4 _ _ _ _ _ _ _ _ _)) (by assumption) ?_
          change wpAnyH _ _ _ _ _ _ _ (Act.put _ (some (54 : Nat)) V) _
          simp only [Act.put, List.setIfInBounds_toArray, List.set_cons_zero, List.set_cons_succ]
          refine wpAnyH_ready (rs := [14]) (by kernel_rfl) (by simp) ?_
          refine AllReadyH.cons (o := ⟨none, .store 25 (.tmp 11) (.tmp 54), _, _, _, none⟩) rfl (fun K hK => ?_) AllReadyH.nil
          refine step_store_blk rfl 25 (.tmp 11) (.tmp 54) rfl g13 [.int .i64 l.sq, .int .i64 l.tt, .slice A7 n7 c7, .slice A11 n11 c11] rfl HV.out 25 [.int .i64 0, .int .i64 0, .slice none 0 0, .slice none 0 0] G13a11.out (by kernel_rfl) rfl (one4 _ _ _ _ _ _ _ _) ?_; intro u14 hb14 hg14; have G14 := Lib.hid hb14; have HG14 := Lib.hid hg14; have O7z := Lib.hid (O7a11.out.only hg14 G13a11.out (by decide)); have O11z := Lib.hid (O11a11.out.only hg14 G13a11.out (by decide)); clear hb14 hg14
          refine hK.out _ _ (hHeld.grown HG14.out hHeld.size (fun q hq => by have := Option.some.inj hq; have := L13.out; omega)) (fun hHeld1 => ?_)
          clear hHeld hK K
          have hHeld := hHeld1
          clear hHeld1
          change wpAnyH _ _ _ _ _ _ _ (Act.put _ none undef) _
          simp only [Act.put]
          refine wpAnyH_done (by kernel_rfl) ?_ _
          go_wp2
          go_meet
          case rel => exact ⟨g13, _, _, _, _, _, _, rfl, G14.out, ⟨O7z.out.sl rfl, O11z.out.sl rfl⟩, hHeld⟩
        · as_aux_lemma =>
          refine step_build_empty (k := 3) rfl rfl (Try.build_e_oc _) ?_; intro g8 u8 ho8 hk8; have HK8 := Lib.hid hk8; have O8a8 := Lib.hid (ho8.weak hHeld.size); have G13a8 := Lib.hid (G13a4.out.through hk8); have O4a8 := Lib.hid (O4a4.out.through hk8); clear ho8 hk8
          refine hK.out _ _ (below_step hHeld HK8.out) (fun hHeld1 => ?_)
          clear hHeld hK K
          have hHeld := hHeld1
          clear hHeld1
          change wpAnyH _ _ _ _ _ _ _ (Act.put _ (some (50 : Nat)) (.slice (some ⟨g8, 0, none⟩) 0 0)) _
          simp only [Act.put, List.setIfInBounds_toArray, List.set_cons_zero, List.set_cons_succ]
          refine wpAnyH_ready (rs := [7]) (by kernel_rfl) (by simp) ?_
          refine AllReadyH.cons (o := ⟨some 49, .call { callee := .builtin .append, args := #[.tmp 46, .tmp 48], argTypes := #[22, 22] }, _, _, _, none⟩) rfl (fun K hK => ?_) AllReadyH.nil
          refine step_append_sl rfl Try.el_lt (.tmp 46) (.tmp 48) rfl wb.heap.size (.slice (some ⟨g4, 0, none⟩) 0 0) [] rfl O4a8.out A n c (l.ls.map Lt.cells) rfl ((HI.out.1.through HXb.out).through hHeld) (Lt.cells_len _) (Lt.cells_one _) (by have := HNM.out; simp; omega) hHeld.size ?_; intro A7 n7 c7 u7 _ ho7 hg7; have HG7 := Lib.hid hg7; have hlt7 := O4a8.out.lt; have HLT7 := Lib.hid hlt7; have G13a7 := Lib.hid (G13a8.out.apart O4a8.out (by decide) hg7); have O8a7 := Lib.hid (O8a8.out.apart O4a8.out (by decide) hg7); have O7a7 : Hid (Os u7 wb.heap.size 27 6 (.slice A7 n7 c7) (l.ls.map Lt.cells)) := Lib.hid ho7; clear ho7 hg7 hlt7
          refine hK.out _ _ (hHeld.grown HG7.out hHeld.size (fun q hq => (HLT7.out q hq).1)) (fun hHeld1 => ?_)
          clear hHeld hK K
          have hHeld := hHeld1
          clear hHeld1
          change wpAnyH _ _ _ _ _ _ _ (Act.put _ (some (49 : Nat)) (.slice A7 n7 c7)) _
          simp only [Act.put, List.setIfInBounds_toArray, List.set_cons_zero, List.set_cons_succ]
          refine wpAnyH_ready (rs := [11]) (by kernel_rfl) (by simp) ?_
          refine AllReadyH.cons (o := ⟨some 53, .call { callee := .builtin .append, args := #[.tmp 50, .tmp 52], argTypes := #[23, 23] }, _, _, _, none⟩) rfl (fun K hK => ?_) AllReadyH.nil
          refine step_append_sl rfl Try.el_oc (.tmp 50) (.tmp 52) rfl wb.heap.size (.slice (some ⟨g8, 0, none⟩) 0 0) [] rfl O8a7.out B m d (l.os.map Oc.cells) rfl ((HI.out.2.through HXb.out).through hHeld) (Oc.cells_len _) (Oc.cells_one _) (by have := HNM.out; simp; omega) hHeld.size ?_; intro A11 n11 c11 u11 _ ho11 hg11; have HG11 := Lib.hid hg11; have hlt11 := O8a7.out.lt; have HLT11 := Lib.hid hlt11; have G13a11 := Lib.hid (G13a7.out.apart O8a7.out (by decide) hg11); have O7a11 := Lib.hid (O7a7.out.apart O8a7.out (by decide) hg11); have O11a11 : Hid (Os u11 wb.heap.size 30 3 (.slice A11 n11 c11) (l.os.map Oc.cells)) := Lib.hid ho11; clear ho11 hg11 hlt11
          refine hK.out _ _ (hHeld.grown HG11.out hHeld.size (fun q hq => (HLT11.out q hq).1)) (fun hHeld1 => ?_)
          clear hHeld hK K
          have hHeld := hHeld1
          clear hHeld1
          change wpAnyH _ _ _ _ _ _ _ (Act.put _ (some (53 : Nat)) (.slice A11 n11 c11)) _
          simp only [Act.put, List.setIfInBounds_toArray, List.set_cons_zero, List.set_cons_succ]
          obtain ⟨V, hV⟩ : ∃ V : Value, V = .agg #[.int .i64 l.sq, .int .i64 l.tt, .slice A7 n7 c7, .slice A11 n11 c11] := ⟨_, rfl⟩
          have HV := Lib.hid hV
          clear hV
          refine wpAnyH_take (i := 12) (v := V) rfl (by kernel_rfl) (by kernel_rfl) (by kernel_rfl) (fun _ _ _ h => h) (yields_build (by kernel_rfl) 25 _ rfl _ (by simp only [List.map_toArray, List.map_cons, List.map_nil, Act.eval]; rfl) V (fun w _ => by rw [HV.out]; exact Try.build_lg4 _ _ _ _ _ _ _ _ _)) (by assumption) ?_
          change wpAnyH _ _ _ _ _ _ _ (Act.put _ (some (54 : Nat)) V) _
          simp only [Act.put, List.setIfInBounds_toArray, List.set_cons_zero, List.set_cons_succ]
          refine wpAnyH_ready (rs := [14]) (by kernel_rfl) (by simp) ?_
          refine AllReadyH.cons (o := ⟨none, .store 25 (.tmp 11) (.tmp 54), _, _, _, none⟩) rfl (fun K hK => ?_) AllReadyH.nil
          refine step_store_blk rfl 25 (.tmp 11) (.tmp 54) rfl g13 [.int .i64 l.sq, .int .i64 l.tt, .slice A7 n7 c7, .slice A11 n11 c11] rfl HV.out 25 [.int .i64 0, .int .i64 0, .slice none 0 0, .slice none 0 0] G13a11.out (by kernel_rfl) rfl (one4 _ _ _ _ _ _ _ _) ?_; intro u14 hb14 hg14; have G14 := Lib.hid hb14; have HG14 := Lib.hid hg14; have O7z := Lib.hid (O7a11.out.only hg14 G13a11.out (by decide)); have O11z := Lib.hid (O11a11.out.only hg14 G13a11.out (by decide)); clear hb14 hg14
          refine hK.out _ _ (hHeld.grown HG14.out hHeld.size (fun q hq => by have := Option.some.inj hq; have := L13.out; omega)) (fun hHeld1 => ?_)
          clear hHeld hK K
          have hHeld := hHeld1
          clear hHeld1
          change wpAnyH _ _ _ _ _ _ _ (Act.put _ none undef) _
          simp only [Act.put]
          refine wpAnyH_done (by kernel_rfl) ?_ _
          go_wp2
          go_meet
          case rel => exact ⟨g13, _, _, _, _, _, _, rfl, G14.out, ⟨O7z.out.sl rfl, O11z.out.sl rfl⟩, hHeld⟩
      · as_aux_lemma =>
        refine step_build_empty (k := 3) rfl rfl (Try.build_e_oc _) ?_; intro g8 u8 ho8 hk8; have HK8 := Lib.hid hk8; have O8a8 := Lib.hid (ho8.weak hHeld.size); have G13a8 := Lib.hid (G13a13.out.through hk8); clear ho8 hk8
        refine hK.out _ _ (below_step hHeld HK8.out) (fun hHeld1 => ?_)
        clear hHeld hK K
        have hHeld := hHeld1
        clear hHeld1
        change wpAnyH _ _ _ _ _ _ _ (Act.put _ (some (50 : Nat)) (.slice (some ⟨g8, 0, none⟩) 0 0)) _
        simp only [Act.put, List.setIfInBounds_toArray, List.set_cons_zero, List.set_cons_succ]
        refine wpAnyH_ready (rs := [4]) (by kernel_rfl) (by simp) ?_
        refine AllReadyH.cons (o := ⟨some 46, .buildSlice 22 0 #[], _, _, _, none⟩) rfl (fun K hK => ?_) AllReadyH.nil
        refine step_build_empty (k := 6) rfl rfl (Try.build_e_lt _) ?_; intro g4 u4 ho4 hk4; have HK4 := Lib.hid hk4; have O4a4 := Lib.hid (ho4.weak hHeld.size); have G13a4 := Lib.hid (G13a8.out.through hk4); have O8a4 := Lib.hid (O8a8.out.through hk4); clear ho4 hk4
        refine hK.out _ _ (below_step hHeld HK4.out) (fun hHeld1 => ?_)
        clear hHeld hK K
        have hHeld := hHeld1
        clear hHeld1
        change wpAnyH _ _ _ _ _ _ _ (Act.put _ (some (46 : Nat)) (.slice (some ⟨g4, 0, none⟩) 0 0)) _
        simp only [Act.put, List.setIfInBounds_toArray, List.set_cons_zero, List.set_cons_succ]
        refine wpAnyH_ready (rs := [7]) (by kernel_rfl) (by simp) ?_
        refine AllReadyH.cons (o := ⟨some 49, .call { callee := .builtin .append, args := #[.tmp 46, .tmp 48], argTypes := #[22, 22] }, _, _, _, none⟩) rfl (fun K hK => ?_) AllReadyH.nil
        refine step_append_sl rfl Try.el_lt (.tmp 46) (.tmp 48) rfl wb.heap.size (.slice (some ⟨g4, 0, none⟩) 0 0) [] rfl O4a4.out A n c (l.ls.map Lt.cells) rfl ((HI.out.1.through HXb.out).through hHeld) (Lt.cells_len _) (Lt.cells_one _) (by have := HNM.out; simp; omega) hHeld.size ?_; intro A7 n7 c7 u7 _ ho7 hg7; have HG7 := Lib.hid hg7; have hlt7 := O4a4.out.lt; have HLT7 := Lib.hid hlt7; have G13a7 := Lib.hid (G13a4.out.apart O4a4.out (by decide) hg7); have O8a7 := Lib.hid (O8a4.out.apart O4a4.out (by decide) hg7); have O7a7 : Hid (Os u7 wb.heap.size 27 6 (.slice A7 n7 c7) (l.ls.map Lt.cells)) := Lib.hid ho7; clear ho7 hg7 hlt7
        refine hK.out _ _ (hHeld.grown HG7.out hHeld.size (fun q hq => (HLT7.out q hq).1)) (fun hHeld1 => ?_)
        clear hHeld hK K
        have hHeld := hHeld1
        clear hHeld1
        change wpAnyH _ _ _ _ _ _ _ (Act.put _ (some (49 : Nat)) (.slice A7 n7 c7)) _
        simp only [Act.put, List.setIfInBounds_toArray, List.set_cons_zero, List.set_cons_succ]
        refine wpAnyH_ready (rs := [11]) (by kernel_rfl) (by simp) ?_
        refine AllReadyH.cons (o := ⟨some 53, .call { callee := .builtin .append, args := #[.tmp 50, .tmp 52], argTypes := #[23, 23] }, _, _, _, none⟩) rfl (fun K hK => ?_) AllReadyH.nil
        refine step_append_sl rfl Try.el_oc (.tmp 50) (.tmp 52) rfl wb.heap.size (.slice (some ⟨g8, 0, none⟩) 0 0) [] rfl O8a7.out B m d (l.os.map Oc.cells) rfl ((HI.out.2.through HXb.out).through hHeld) (Oc.cells_len _) (Oc.cells_one _) (by have := HNM.out; simp; omega) hHeld.size ?_; intro A11 n11 c11 u11 _ ho11 hg11; have HG11 := Lib.hid hg11; have hlt11 := O8a7.out.lt; have HLT11 := Lib.hid hlt11; have G13a11 := Lib.hid (G13a7.out.apart O8a7.out (by decide) hg11); have O7a11 := Lib.hid (O7a7.out.apart O8a7.out (by decide) hg11); have O11a11 : Hid (Os u11 wb.heap.size 30 3 (.slice A11 n11 c11) (l.os.map Oc.cells)) := Lib.hid ho11; clear ho11 hg11 hlt11
        refine hK.out _ _ (hHeld.grown HG11.out hHeld.size (fun q hq => (HLT11.out q hq).1)) (fun hHeld1 => ?_)
        clear hHeld hK K
        have hHeld := hHeld1
        clear hHeld1
        change wpAnyH _ _ _ _ _ _ _ (Act.put _ (some (53 : Nat)) (.slice A11 n11 c11)) _
        simp only [Act.put, List.setIfInBounds_toArray, List.set_cons_zero, List.set_cons_succ]
        obtain ⟨V, hV⟩ : ∃ V : Value, V = .agg #[.int .i64 l.sq, .int .i64 l.tt, .slice A7 n7 c7, .slice A11 n11 c11] := ⟨_, rfl⟩
        have HV := Lib.hid hV
        clear hV
        refine wpAnyH_take (i := 12) (v := V) rfl (by kernel_rfl) (by kernel_rfl) (by kernel_rfl) (fun _ _ _ h => h) (yields_build (by kernel_rfl) 25 _ rfl _ (by simp only [List.map_toArray, List.map_cons, List.map_nil, Act.eval]; rfl) V (fun w _ => by rw [HV.out]; exact Try.build_lg4 _ _ _ _ _ _ _ _ _)) (by assumption) ?_
        change wpAnyH _ _ _ _ _ _ _ (Act.put _ (some (54 : Nat)) V) _
        simp only [Act.put, List.setIfInBounds_toArray, List.set_cons_zero, List.set_cons_succ]
        refine wpAnyH_ready (rs := [14]) (by kernel_rfl) (by simp) ?_
        refine AllReadyH.cons (o := ⟨none, .store 25 (.tmp 11) (.tmp 54), _, _, _, none⟩) rfl (fun K hK => ?_) AllReadyH.nil
        refine step_store_blk rfl 25 (.tmp 11) (.tmp 54) rfl g13 [.int .i64 l.sq, .int .i64 l.tt, .slice A7 n7 c7, .slice A11 n11 c11] rfl HV.out 25 [.int .i64 0, .int .i64 0, .slice none 0 0, .slice none 0 0] G13a11.out (by kernel_rfl) rfl (one4 _ _ _ _ _ _ _ _) ?_; intro u14 hb14 hg14; have G14 := Lib.hid hb14; have HG14 := Lib.hid hg14; have O7z := Lib.hid (O7a11.out.only hg14 G13a11.out (by decide)); have O11z := Lib.hid (O11a11.out.only hg14 G13a11.out (by decide)); clear hb14 hg14
        refine hK.out _ _ (hHeld.grown HG14.out hHeld.size (fun q hq => by have := Option.some.inj hq; have := L13.out; omega)) (fun hHeld1 => ?_)
        clear hHeld hK K
        have hHeld := hHeld1
        clear hHeld1
        change wpAnyH _ _ _ _ _ _ _ (Act.put _ none undef) _
        simp only [Act.put]
        refine wpAnyH_done (by kernel_rfl) ?_ _
        go_wp2
        go_meet
        case rel => exact ⟨g13, _, _, _, _, _, _, rfl, G14.out, ⟨O7z.out.sl rfl, O11z.out.sl rfl⟩, hHeld⟩
  case rest =>
    obtain ⟨g0, A0, n0, c0, B0, m0, d0, rfl, hb0, hi0, hx0⟩ := hcut
    obtain ⟨wk, hwk⟩ : ∃ W, W = wc := ⟨_, rfl⟩
    subst hwk
    have HXk := Lib.hid (below_step HXb.out hx0)
    have K1k := Lib.hid (K1b.out.through hx0)
    have K2k := Lib.hid (K2b.out.through hx0)
    have K3k := Lib.hid (K3b.out.through hx0)
    have G0k := Lib.hid hb0
    have I0k := Lib.hid hi0
    clear hb0 hi0 hx0 c20 d1 d2
    go_upto_region 8 with (first | (refine wpList_load_blk rfl 25 (.tmp 5) rfl (w.heap.size) rfl 25 [.int .i64 l.sq, .int .i64 l.tt, .slice A n c, .slice B m d] _ K1k.out Try.underlying25 rfl (by kernel_rfl) ?_) | (refine wpList_load_blk rfl 27 (.tmp 6) rfl (w.heap.size + 1) rfl 27 [.string (ba x.nm), .int .i64 x.st, .int .i64 x.am, .int .i64 x.du, .string (ba x.po), .string (ba x.pa)] _ K2k.out Try.underlying27 rfl (by kernel_rfl) ?_) | (go_at_call 9; (with_reducible refine (HWi.out _ HXk.out).mono ?_); rintro e v1 ⟨A1, n1, c1, B1, m1, d1, rfl, hi1, _, _, hb1⟩; have HXd := Lib.hid ((below_step HXk.out hb1).alloc (below_step HXk.out hb1).size (.cells #[.int .i64 lw.sq, .int .i64 lw.tt, .slice A1 n1 c1, .slice B1 m1 d1] 25)); have K1d := Lib.hid ((K1k.out.through hb1).alloc (.cells #[.int .i64 lw.sq, .int .i64 lw.tt, .slice A1 n1 c1, .slice B1 m1 d1] 25)); have K2d := Lib.hid ((K2k.out.through hb1).alloc (.cells #[.int .i64 lw.sq, .int .i64 lw.tt, .slice A1 n1 c1, .slice B1 m1 d1] 25)); have K3d := Lib.hid ((K3k.out.through hb1).alloc (.cells #[.int .i64 lw.sq, .int .i64 lw.tt, .slice A1 n1 c1, .slice B1 m1 d1] 25)); have G0d := Lib.hid ((G0k.out.through hb1).alloc (.cells #[.int .i64 lw.sq, .int .i64 lw.tt, .slice A1 n1 c1, .slice B1 m1 d1] 25)); have I0d := Lib.hid ((I0k.out.through hb1).alloc (.cells #[.int .i64 lw.sq, .int .i64 lw.tt, .slice A1 n1 c1, .slice B1 m1 d1] 25)); have I1d := Lib.hid (hi1.alloc (.cells #[.int .i64 lw.sq, .int .i64 lw.tt, .slice A1 n1 c1, .slice B1 m1 d1] 25)); have G1d : Hid (Blk (v1.alloc (.cells #[.int .i64 lw.sq, .int .i64 lw.tt, .slice A1 n1 c1, .slice B1 m1 d1] 25)) v1.heap.size 25 [.int .i64 lw.sq, .int .i64 lw.tt, .slice A1 n1 c1, .slice B1 m1 d1]) := Lib.hid (Blk.fresh rfl rfl); clear hi1 hb1) | (refine wpList_load_blk rfl 25 (.tmp 5) rfl (w.heap.size) rfl 25 [.int .i64 l.sq, .int .i64 l.tt, .slice A n c, .slice B m d] _ K1d.out Try.underlying25 rfl (by kernel_rfl) ?_) | (refine wpList_load_blk rfl 27 (.tmp 6) rfl (w.heap.size + 1) rfl 27 [.string (ba x.nm), .int .i64 x.st, .int .i64 x.am, .int .i64 x.du, .string (ba x.po), .string (ba x.pa)] _ K2d.out Try.underlying27 rfl (by kernel_rfl) ?_) | (go_at_call 10; (with_reducible refine (HRw.out _ HXd.out).mono ?_); rintro e v2 ⟨A2, n2, c2, B2, m2, d2, rfl, hi2, hb2⟩; have HXf := Lib.hid ((below_step HXd.out hb2).alloc (below_step HXd.out hb2).size (.cells #[.int .i64 lw.sq, .int .i64 lw.tt, .slice A2 n2 c2, .slice B2 m2 d2] 25)); have K1f := Lib.hid ((K1d.out.through hb2).alloc (.cells #[.int .i64 lw.sq, .int .i64 lw.tt, .slice A2 n2 c2, .slice B2 m2 d2] 25)); have K2f := Lib.hid ((K2d.out.through hb2).alloc (.cells #[.int .i64 lw.sq, .int .i64 lw.tt, .slice A2 n2 c2, .slice B2 m2 d2] 25)); have K3f := Lib.hid ((K3d.out.through hb2).alloc (.cells #[.int .i64 lw.sq, .int .i64 lw.tt, .slice A2 n2 c2, .slice B2 m2 d2] 25)); have G0f := Lib.hid ((G0d.out.through hb2).alloc (.cells #[.int .i64 lw.sq, .int .i64 lw.tt, .slice A2 n2 c2, .slice B2 m2 d2] 25)); have I0f := Lib.hid ((I0d.out.through hb2).alloc (.cells #[.int .i64 lw.sq, .int .i64 lw.tt, .slice A2 n2 c2, .slice B2 m2 d2] 25)); have G1f := Lib.hid ((G1d.out.through hb2).alloc (.cells #[.int .i64 lw.sq, .int .i64 lw.tt, .slice A2 n2 c2, .slice B2 m2 d2] 25)); have I1f := Lib.hid ((I1d.out.through hb2).alloc (.cells #[.int .i64 lw.sq, .int .i64 lw.tt, .slice A2 n2 c2, .slice B2 m2 d2] 25)); have I2f := Lib.hid (hi2.alloc (.cells #[.int .i64 lw.sq, .int .i64 lw.tt, .slice A2 n2 c2, .slice B2 m2 d2] 25)); have G2f : Hid (Blk (v2.alloc (.cells #[.int .i64 lw.sq, .int .i64 lw.tt, .slice A2 n2 c2, .slice B2 m2 d2] 25)) v2.heap.size 25 [.int .i64 lw.sq, .int .i64 lw.tt, .slice A2 n2 c2, .slice B2 m2 d2]) := Lib.hid (Blk.fresh rfl rfl); clear hi2 hb2))
    generalize hwf : v2.alloc (.cells #[.int .i64 lw.sq, .int .i64 lw.tt, .slice A2 n2 c2, .slice B2 m2 d2] 25) = wf at *
    go_cut [16, 17] from 67 to 72 (fun v v' wx => ∃ (g g' : Nat) (A3 : Option Addr) (n3 c3 : Nat) (B3 : Option Addr) (m3 d3 : Nat) (A4 : Option Addr) (n4 c4 : Nat) (B4 : Option Addr) (m4 d4 : Nat), v = .pointer (some ⟨g, 0, none⟩) ∧ v' = .pointer (some ⟨g', 0, none⟩) ∧ Blk wx g 25 [.int .i64 lt.sq, .int .i64 lt.tt, .slice A3 n3 c3, .slice B3 m3 d3] ∧ Blk wx g' 25 [.int .i64 lt.sq, .int .i64 lt.tt, .slice A4 n4 c4, .slice B4 m4 d4] ∧ LgIn wx A3 n3 B3 m3 lt ∧ LgIn wx A4 n4 B4 m4 lt ∧ Below wf.heap.size wf wx)
    case first =>
      refine wp_region_held_drew (S := fun W => Below wf.heap.size wf W) (by kernel_rfl) (Below.refl _ _).drew (fun hHeld => ?_)
      change wpAnyH _ _ _ _ _ _ #[false, false, false, false, false, false, false, false, false, false] _ _
      refine wpAnyH_take (i := 0) (v := (.agg #[.int .i64 l.sq, .int .i64 l.tt, .slice A n c, .slice B m d])) rfl (by kernel_rfl) (by kernel_rfl) (by kernel_rfl) (fun _ _ _ h => h) (yields_load_at (by kernel_rfl) 25 (.tmp 5) rfl (.pointer (some ⟨w.heap.size, 0, none⟩)) rfl (.agg #[.int .i64 l.sq, .int .i64 l.tt, .slice A n c, .slice B m d]) (fun W hW => (K1f.out.through hW).loadAt 25 _ Try.underlying25 rfl (by kernel_rfl))) (by assumption) ?_
      change wpAnyH _ _ _ _ _ _ _ (Act.put _ (some (67 : Nat)) (.agg #[.int .i64 l.sq, .int .i64 l.tt, .slice A n c, .slice B m d])) _
      simp only [Act.put, List.setIfInBounds_toArray, List.set_cons_zero, List.set_cons_succ]
      refine wpAnyH_take (i := 1) (v := (.agg #[.int .i64 o.cl, .int .i64 o.sp, .int .i64 o.rs])) rfl (by kernel_rfl) (by kernel_rfl) (by kernel_rfl) (fun _ _ _ h => h) (yields_load_at (by kernel_rfl) 30 (.tmp 7) rfl (.pointer (some ⟨w.heap.size + 2, 0, none⟩)) rfl (.agg #[.int .i64 o.cl, .int .i64 o.sp, .int .i64 o.rs]) (fun W hW => (K3f.out.through hW).loadAt 30 _ Try.underlying30 rfl (by kernel_rfl))) (by assumption) ?_
      change wpAnyH _ _ _ _ _ _ _ (Act.put _ (some (68 : Nat)) (.agg #[.int .i64 o.cl, .int .i64 o.sp, .int .i64 o.rs])) _
      simp only [Act.put, List.setIfInBounds_toArray, List.set_cons_zero, List.set_cons_succ]
      refine wpAnyH_take (i := 3) (v := (.agg #[.int .i64 l.sq, .int .i64 l.tt, .slice A n c, .slice B m d])) rfl (by kernel_rfl) (by kernel_rfl) (by kernel_rfl) (fun _ _ _ h => h) (yields_load_at (by kernel_rfl) 25 (.tmp 5) rfl (.pointer (some ⟨w.heap.size, 0, none⟩)) rfl (.agg #[.int .i64 l.sq, .int .i64 l.tt, .slice A n c, .slice B m d]) (fun W hW => (K1f.out.through hW).loadAt 25 _ Try.underlying25 rfl (by kernel_rfl))) (by assumption) ?_
      change wpAnyH _ _ _ _ _ _ _ (Act.put _ (some (70 : Nat)) (.agg #[.int .i64 l.sq, .int .i64 l.tt, .slice A n c, .slice B m d])) _
      simp only [Act.put, List.setIfInBounds_toArray, List.set_cons_zero, List.set_cons_succ]
      refine wpAnyH_take (i := 4) (v := (.agg #[.int .i64 o.cl, .int .i64 o.sp, .int .i64 o.rs])) rfl (by kernel_rfl) (by kernel_rfl) (by kernel_rfl) (fun _ _ _ h => h) (yields_load_at (by kernel_rfl) 30 (.tmp 7) rfl (.pointer (some ⟨w.heap.size + 2, 0, none⟩)) rfl (.agg #[.int .i64 o.cl, .int .i64 o.sp, .int .i64 o.rs]) (fun W hW => (K3f.out.through hW).loadAt 30 _ Try.underlying30 rfl (by kernel_rfl))) (by assumption) ?_
      change wpAnyH _ _ _ _ _ _ _ (Act.put _ (some (71 : Nat)) (.agg #[.int .i64 o.cl, .int .i64 o.sp, .int .i64 o.rs])) _
      simp only [Act.put, List.setIfInBounds_toArray, List.set_cons_zero, List.set_cons_succ]
      refine wpAnyH_ready (rs := [2, 6, 7]) (by kernel_rfl) (by simp) ?_
      refine AllReadyH.cons rfl (fun K hK => ?_) (AllReadyH.cons (o := ⟨some 16, .alloc 25, _, _, _, none⟩) rfl (fun K hK => ?_) (AllReadyH.cons (o := ⟨some 17, .alloc 25, _, _, _, none⟩) rfl (fun K hK => ?_) AllReadyH.nil))
      · as_aux_lemma =>
        go_simp
        refine ((HTo.out _ (below_step HXf.out hHeld))).mono ?_
        rintro e u2 ⟨A3, n3, c3, B3, m3, d3, rfl, hi3, _, _, hk2⟩; have HK2 := Lib.hid hk2; have I3b2 := Lib.hid hi3; clear hi3 hk2
        go_wp2_with fail
        refine hK.out _ _ (below_step hHeld HK2.out) (fun hHeld1 => ?_)
        clear hHeld hK K
        have hHeld := hHeld1
        clear hHeld1
        refine wpAnyH_ready (rs := [5, 6, 7]) (by kernel_rfl) (by simp) ?_
        refine AllReadyH.cons rfl (fun K hK => ?_) (AllReadyH.cons (o := ⟨some 16, .alloc 25, _, _, _, none⟩) rfl (fun K hK => ?_) (AllReadyH.cons (o := ⟨some 17, .alloc 25, _, _, _, none⟩) rfl (fun K hK => ?_) AllReadyH.nil))
        · as_aux_lemma =>
          go_simp
          refine ((HRt.out _ (below_step HXf.out hHeld))).mono ?_
          rintro e u5 ⟨A4, n4, c4, B4, m4, d4, rfl, hi4, hk5⟩; have HK5 := Lib.hid hk5; have I3b5 := Lib.hid (I3b2.out.through hk5); have I4b5 := Lib.hid hi4; clear hi4 hk5
          go_wp2_with fail
          refine hK.out _ _ (below_step hHeld HK5.out) (fun hHeld1 => ?_)
          clear hHeld hK K
          have hHeld := hHeld1
          clear hHeld1
          refine wpAnyH_ready (rs := [6, 7]) (by kernel_rfl) (by simp) ?_
          refine AllReadyH.cons (o := ⟨some 16, .alloc 25, _, _, _, none⟩) rfl (fun K hK => ?_) (AllReadyH.cons (o := ⟨some 17, .alloc 25, _, _, _, none⟩) rfl (fun K hK => ?_) AllReadyH.nil)
          · as_aux_lemma =>
            refine step_alloc_lg (cs := [.int .i64 0, .int .i64 0, .slice none 0 0, .slice none 0 0]) rfl rfl (Try.alloc_lg _) ?_; intro g6 u6 hle6 hb6 hk6; have HK6 := Lib.hid hk6; have L6 := Lib.hid (Nat.le_trans hHeld.size hle6); have G6b6 := Lib.hid hb6; have I3b6 := Lib.hid (I3b5.out.through hk6); have I4b6 := Lib.hid (I4b5.out.through hk6); clear hle6 hb6 hk6
            refine hK.out _ _ (below_step hHeld HK6.out) (fun hHeld1 => ?_)
            clear hHeld hK K
            have hHeld := hHeld1
            clear hHeld1
            change wpAnyH _ _ _ _ _ _ _ (Act.put _ (some (16 : Nat)) (.pointer (some ⟨g6, 0, none⟩))) _
            simp only [Act.put, List.setIfInBounds_toArray, List.set_cons_zero, List.set_cons_succ]
            refine wpAnyH_ready (rs := [7]) (by kernel_rfl) (by simp) ?_
            refine AllReadyH.cons (o := ⟨some 17, .alloc 25, _, _, _, none⟩) rfl (fun K hK => ?_) AllReadyH.nil
            refine step_alloc_lg (cs := [.int .i64 0, .int .i64 0, .slice none 0 0, .slice none 0 0]) rfl rfl (Try.alloc_lg _) ?_; intro g7 u7 hle7 hb7 hk7; have HK7 := Lib.hid hk7; have L7 := Lib.hid (Nat.le_trans hHeld.size hle7); have G7b7 := Lib.hid hb7; have DD : Hid (g6 ≠ g7) := Lib.hid (by have := G6b6.out.lt; omega); have I3b7 := Lib.hid (I3b6.out.through hk7); have I4b7 := Lib.hid (I4b6.out.through hk7); have G6b7 := Lib.hid (G6b6.out.through hk7); clear hle7 hb7 hk7
            refine hK.out _ _ (below_step hHeld HK7.out) (fun hHeld1 => ?_)
            clear hHeld hK K
            have hHeld := hHeld1
            clear hHeld1
            change wpAnyH _ _ _ _ _ _ _ (Act.put _ (some (17 : Nat)) (.pointer (some ⟨g7, 0, none⟩))) _
            simp only [Act.put, List.setIfInBounds_toArray, List.set_cons_zero, List.set_cons_succ]
            refine wpAnyH_ready (rs := [8]) (by kernel_rfl) (by simp) ?_
            refine AllReadyH.cons (o := ⟨none, .store 25 (.tmp 16) (.tmp 69), _, _, _, none⟩) rfl (fun K hK => ?_) AllReadyH.nil
            refine step_store_blk rfl 25 (.tmp 16) (.tmp 69) rfl g6 [.int .i64 lt.sq, .int .i64 lt.tt, .slice A3 n3 c3, .slice B3 m3 d3] rfl rfl 25 [.int .i64 0, .int .i64 0, .slice none 0 0, .slice none 0 0] G6b7.out (by kernel_rfl) rfl (one4 _ _ _ _ _ _ _ _) ?_; intro u8 hb8 hg8; have HG8 := Lib.hid hg8; have G6b8 := Lib.hid hb8; have G7b8 := Lib.hid (G7b7.out.grown hg8 (fun e9 => DD.out (Option.some.inj e9).symm)); have I3b8 := Lib.hid (I3b7.out.stored2 G6b7.out hg8); have I4b8 := Lib.hid (I4b7.out.stored2 G6b7.out hg8); clear hb8 hg8
            refine hK.out _ _ (hHeld.grown HG8.out hHeld.size (fun q hq => by have := Option.some.inj hq; have := L6.out; omega)) (fun hHeld1 => ?_)
            clear hHeld hK K
            have hHeld := hHeld1
            clear hHeld1
            change wpAnyH _ _ _ _ _ _ _ (Act.put _ none undef) _
            simp only [Act.put]
            refine wpAnyH_ready (rs := [9]) (by kernel_rfl) (by simp) ?_
            refine AllReadyH.cons (o := ⟨none, .store 25 (.tmp 17) (.tmp 72), _, _, _, none⟩) rfl (fun K hK => ?_) AllReadyH.nil
            refine step_store_blk rfl 25 (.tmp 17) (.tmp 72) rfl g7 [.int .i64 lt.sq, .int .i64 lt.tt, .slice A4 n4 c4, .slice B4 m4 d4] rfl rfl 25 [.int .i64 0, .int .i64 0, .slice none 0 0, .slice none 0 0] G7b8.out (by kernel_rfl) rfl (one4 _ _ _ _ _ _ _ _) ?_; intro u9 hb9 hg9; have HG9 := Lib.hid hg9; have G7b9 := Lib.hid hb9; have G6b9 := Lib.hid (G6b8.out.grown hg9 (fun e9 => DD.out (Option.some.inj e9))); have I3b9 := Lib.hid (I3b8.out.stored2 G7b8.out hg9); have I4b9 := Lib.hid (I4b8.out.stored2 G7b8.out hg9); clear hb9 hg9
            refine hK.out _ _ (hHeld.grown HG9.out hHeld.size (fun q hq => by have := Option.some.inj hq; have := L7.out; omega)) (fun hHeld1 => ?_)
            clear hHeld hK K
            have hHeld := hHeld1
            clear hHeld1
            change wpAnyH _ _ _ _ _ _ _ (Act.put _ none undef) _
            simp only [Act.put]
            refine wpAnyH_done (by kernel_rfl) ?_ _
            go_wp2
            go_meet
            case rel => exact ⟨g6, g7, _, _, _, _, _, _, _, _, _, _, _, _, rfl, rfl, G6b9.out, G7b9.out, I3b9.out, I4b9.out, hHeld⟩
          · as_aux_lemma =>
            refine step_alloc_lg (cs := [.int .i64 0, .int .i64 0, .slice none 0 0, .slice none 0 0]) rfl rfl (Try.alloc_lg _) ?_; intro g7 u7 hle7 hb7 hk7; have HK7 := Lib.hid hk7; have L7 := Lib.hid (Nat.le_trans hHeld.size hle7); have G7b7 := Lib.hid hb7; have I3b7 := Lib.hid (I3b5.out.through hk7); have I4b7 := Lib.hid (I4b5.out.through hk7); clear hle7 hb7 hk7
            refine hK.out _ _ (below_step hHeld HK7.out) (fun hHeld1 => ?_)
            clear hHeld hK K
            have hHeld := hHeld1
            clear hHeld1
            change wpAnyH _ _ _ _ _ _ _ (Act.put _ (some (17 : Nat)) (.pointer (some ⟨g7, 0, none⟩))) _
            simp only [Act.put, List.setIfInBounds_toArray, List.set_cons_zero, List.set_cons_succ]
            refine wpAnyH_ready (rs := [6]) (by kernel_rfl) (by simp) ?_
            refine AllReadyH.cons (o := ⟨some 16, .alloc 25, _, _, _, none⟩) rfl (fun K hK => ?_) AllReadyH.nil
            refine step_alloc_lg (cs := [.int .i64 0, .int .i64 0, .slice none 0 0, .slice none 0 0]) rfl rfl (Try.alloc_lg _) ?_; intro g6 u6 hle6 hb6 hk6; have HK6 := Lib.hid hk6; have L6 := Lib.hid (Nat.le_trans hHeld.size hle6); have G6b6 := Lib.hid hb6; have DD : Hid (g6 ≠ g7) := Lib.hid (by have := G7b7.out.lt; omega); have I3b6 := Lib.hid (I3b7.out.through hk6); have I4b6 := Lib.hid (I4b7.out.through hk6); have G7b6 := Lib.hid (G7b7.out.through hk6); clear hle6 hb6 hk6
            refine hK.out _ _ (below_step hHeld HK6.out) (fun hHeld1 => ?_)
            clear hHeld hK K
            have hHeld := hHeld1
            clear hHeld1
            change wpAnyH _ _ _ _ _ _ _ (Act.put _ (some (16 : Nat)) (.pointer (some ⟨g6, 0, none⟩))) _
            simp only [Act.put, List.setIfInBounds_toArray, List.set_cons_zero, List.set_cons_succ]
            refine wpAnyH_ready (rs := [8]) (by kernel_rfl) (by simp) ?_
            refine AllReadyH.cons (o := ⟨none, .store 25 (.tmp 16) (.tmp 69), _, _, _, none⟩) rfl (fun K hK => ?_) AllReadyH.nil
            refine step_store_blk rfl 25 (.tmp 16) (.tmp 69) rfl g6 [.int .i64 lt.sq, .int .i64 lt.tt, .slice A3 n3 c3, .slice B3 m3 d3] rfl rfl 25 [.int .i64 0, .int .i64 0, .slice none 0 0, .slice none 0 0] G6b6.out (by kernel_rfl) rfl (one4 _ _ _ _ _ _ _ _) ?_; intro u8 hb8 hg8; have HG8 := Lib.hid hg8; have G6b8 := Lib.hid hb8; have G7b8 := Lib.hid (G7b6.out.grown hg8 (fun e9 => DD.out (Option.some.inj e9).symm)); have I3b8 := Lib.hid (I3b6.out.stored2 G6b6.out hg8); have I4b8 := Lib.hid (I4b6.out.stored2 G6b6.out hg8); clear hb8 hg8
            refine hK.out _ _ (hHeld.grown HG8.out hHeld.size (fun q hq => by have := Option.some.inj hq; have := L6.out; omega)) (fun hHeld1 => ?_)
            clear hHeld hK K
            have hHeld := hHeld1
            clear hHeld1
            change wpAnyH _ _ _ _ _ _ _ (Act.put _ none undef) _
            simp only [Act.put]
            refine wpAnyH_ready (rs := [9]) (by kernel_rfl) (by simp) ?_
            refine AllReadyH.cons (o := ⟨none, .store 25 (.tmp 17) (.tmp 72), _, _, _, none⟩) rfl (fun K hK => ?_) AllReadyH.nil
            refine step_store_blk rfl 25 (.tmp 17) (.tmp 72) rfl g7 [.int .i64 lt.sq, .int .i64 lt.tt, .slice A4 n4 c4, .slice B4 m4 d4] rfl rfl 25 [.int .i64 0, .int .i64 0, .slice none 0 0, .slice none 0 0] G7b8.out (by kernel_rfl) rfl (one4 _ _ _ _ _ _ _ _) ?_; intro u9 hb9 hg9; have HG9 := Lib.hid hg9; have G7b9 := Lib.hid hb9; have G6b9 := Lib.hid (G6b8.out.grown hg9 (fun e9 => DD.out (Option.some.inj e9))); have I3b9 := Lib.hid (I3b8.out.stored2 G7b8.out hg9); have I4b9 := Lib.hid (I4b8.out.stored2 G7b8.out hg9); clear hb9 hg9
            refine hK.out _ _ (hHeld.grown HG9.out hHeld.size (fun q hq => by have := Option.some.inj hq; have := L7.out; omega)) (fun hHeld1 => ?_)
            clear hHeld hK K
            have hHeld := hHeld1
            clear hHeld1
            change wpAnyH _ _ _ _ _ _ _ (Act.put _ none undef) _
            simp only [Act.put]
            refine wpAnyH_done (by kernel_rfl) ?_ _
            go_wp2
            go_meet
            case rel => exact ⟨g6, g7, _, _, _, _, _, _, _, _, _, _, _, _, rfl, rfl, G6b9.out, G7b9.out, I3b9.out, I4b9.out, hHeld⟩
        · as_aux_lemma =>
          refine step_alloc_lg (cs := [.int .i64 0, .int .i64 0, .slice none 0 0, .slice none 0 0]) rfl rfl (Try.alloc_lg _) ?_; intro g6 u6 hle6 hb6 hk6; have HK6 := Lib.hid hk6; have L6 := Lib.hid (Nat.le_trans hHeld.size hle6); have G6b6 := Lib.hid hb6; have I3b6 := Lib.hid (I3b2.out.through hk6); clear hle6 hb6 hk6
          refine hK.out _ _ (below_step hHeld HK6.out) (fun hHeld1 => ?_)
          clear hHeld hK K
          have hHeld := hHeld1
          clear hHeld1
          change wpAnyH _ _ _ _ _ _ _ (Act.put _ (some (16 : Nat)) (.pointer (some ⟨g6, 0, none⟩))) _
          simp only [Act.put, List.setIfInBounds_toArray, List.set_cons_zero, List.set_cons_succ]
          refine wpAnyH_ready (rs := [5, 7]) (by kernel_rfl) (by simp) ?_
          refine AllReadyH.cons rfl (fun K hK => ?_) (AllReadyH.cons (o := ⟨some 17, .alloc 25, _, _, _, none⟩) rfl (fun K hK => ?_) AllReadyH.nil)
          · as_aux_lemma =>
            go_simp
            refine ((HRt.out _ (below_step HXf.out hHeld))).mono ?_
            rintro e u5 ⟨A4, n4, c4, B4, m4, d4, rfl, hi4, hk5⟩; have HK5 := Lib.hid hk5; have I3b5 := Lib.hid (I3b6.out.through hk5); have G6b5 := Lib.hid (G6b6.out.through hk5); have I4b5 := Lib.hid hi4; clear hi4 hk5
            go_wp2_with fail
            refine hK.out _ _ (below_step hHeld HK5.out) (fun hHeld1 => ?_)
            clear hHeld hK K
            have hHeld := hHeld1
            clear hHeld1
            refine wpAnyH_ready (rs := [7]) (by kernel_rfl) (by simp) ?_
            refine AllReadyH.cons (o := ⟨some 17, .alloc 25, _, _, _, none⟩) rfl (fun K hK => ?_) AllReadyH.nil
            refine step_alloc_lg (cs := [.int .i64 0, .int .i64 0, .slice none 0 0, .slice none 0 0]) rfl rfl (Try.alloc_lg _) ?_; intro g7 u7 hle7 hb7 hk7; have HK7 := Lib.hid hk7; have L7 := Lib.hid (Nat.le_trans hHeld.size hle7); have G7b7 := Lib.hid hb7; have DD : Hid (g6 ≠ g7) := Lib.hid (by have := G6b5.out.lt; omega); have I3b7 := Lib.hid (I3b5.out.through hk7); have G6b7 := Lib.hid (G6b5.out.through hk7); have I4b7 := Lib.hid (I4b5.out.through hk7); clear hle7 hb7 hk7
            refine hK.out _ _ (below_step hHeld HK7.out) (fun hHeld1 => ?_)
            clear hHeld hK K
            have hHeld := hHeld1
            clear hHeld1
            change wpAnyH _ _ _ _ _ _ _ (Act.put _ (some (17 : Nat)) (.pointer (some ⟨g7, 0, none⟩))) _
            simp only [Act.put, List.setIfInBounds_toArray, List.set_cons_zero, List.set_cons_succ]
            refine wpAnyH_ready (rs := [8]) (by kernel_rfl) (by simp) ?_
            refine AllReadyH.cons (o := ⟨none, .store 25 (.tmp 16) (.tmp 69), _, _, _, none⟩) rfl (fun K hK => ?_) AllReadyH.nil
            refine step_store_blk rfl 25 (.tmp 16) (.tmp 69) rfl g6 [.int .i64 lt.sq, .int .i64 lt.tt, .slice A3 n3 c3, .slice B3 m3 d3] rfl rfl 25 [.int .i64 0, .int .i64 0, .slice none 0 0, .slice none 0 0] G6b7.out (by kernel_rfl) rfl (one4 _ _ _ _ _ _ _ _) ?_; intro u8 hb8 hg8; have HG8 := Lib.hid hg8; have G6b8 := Lib.hid hb8; have G7b8 := Lib.hid (G7b7.out.grown hg8 (fun e9 => DD.out (Option.some.inj e9).symm)); have I3b8 := Lib.hid (I3b7.out.stored2 G6b7.out hg8); have I4b8 := Lib.hid (I4b7.out.stored2 G6b7.out hg8); clear hb8 hg8
            refine hK.out _ _ (hHeld.grown HG8.out hHeld.size (fun q hq => by have := Option.some.inj hq; have := L6.out; omega)) (fun hHeld1 => ?_)
            clear hHeld hK K
            have hHeld := hHeld1
            clear hHeld1
            change wpAnyH _ _ _ _ _ _ _ (Act.put _ none undef) _
            simp only [Act.put]
            refine wpAnyH_ready (rs := [9]) (by kernel_rfl) (by simp) ?_
            refine AllReadyH.cons (o := ⟨none, .store 25 (.tmp 17) (.tmp 72), _, _, _, none⟩) rfl (fun K hK => ?_) AllReadyH.nil
            refine step_store_blk rfl 25 (.tmp 17) (.tmp 72) rfl g7 [.int .i64 lt.sq, .int .i64 lt.tt, .slice A4 n4 c4, .slice B4 m4 d4] rfl rfl 25 [.int .i64 0, .int .i64 0, .slice none 0 0, .slice none 0 0] G7b8.out (by kernel_rfl) rfl (one4 _ _ _ _ _ _ _ _) ?_; intro u9 hb9 hg9; have HG9 := Lib.hid hg9; have G7b9 := Lib.hid hb9; have G6b9 := Lib.hid (G6b8.out.grown hg9 (fun e9 => DD.out (Option.some.inj e9))); have I3b9 := Lib.hid (I3b8.out.stored2 G7b8.out hg9); have I4b9 := Lib.hid (I4b8.out.stored2 G7b8.out hg9); clear hb9 hg9
            refine hK.out _ _ (hHeld.grown HG9.out hHeld.size (fun q hq => by have := Option.some.inj hq; have := L7.out; omega)) (fun hHeld1 => ?_)
            clear hHeld hK K
            have hHeld := hHeld1
            clear hHeld1
            change wpAnyH _ _ _ _ _ _ _ (Act.put _ none undef) _
            simp only [Act.put]
            refine wpAnyH_done (by kernel_rfl) ?_ _
            go_wp2
            go_meet
            case rel => exact ⟨g6, g7, _, _, _, _, _, _, _, _, _, _, _, _, rfl, rfl, G6b9.out, G7b9.out, I3b9.out, I4b9.out, hHeld⟩
          · as_aux_lemma =>
            refine step_alloc_lg (cs := [.int .i64 0, .int .i64 0, .slice none 0 0, .slice none 0 0]) rfl rfl (Try.alloc_lg _) ?_; intro g7 u7 hle7 hb7 hk7; have HK7 := Lib.hid hk7; have L7 := Lib.hid (Nat.le_trans hHeld.size hle7); have G7b7 := Lib.hid hb7; have DD : Hid (g6 ≠ g7) := Lib.hid (by have := G6b6.out.lt; omega); have I3b7 := Lib.hid (I3b6.out.through hk7); have G6b7 := Lib.hid (G6b6.out.through hk7); clear hle7 hb7 hk7
            refine hK.out _ _ (below_step hHeld HK7.out) (fun hHeld1 => ?_)
            clear hHeld hK K
            have hHeld := hHeld1
            clear hHeld1
            change wpAnyH _ _ _ _ _ _ _ (Act.put _ (some (17 : Nat)) (.pointer (some ⟨g7, 0, none⟩))) _
            simp only [Act.put, List.setIfInBounds_toArray, List.set_cons_zero, List.set_cons_succ]
            refine wpAnyH_ready (rs := [5]) (by kernel_rfl) (by simp) ?_
            refine AllReadyH.cons rfl (fun K hK => ?_) AllReadyH.nil
            go_simp
            refine ((HRt.out _ (below_step HXf.out hHeld))).mono ?_
            rintro e u5 ⟨A4, n4, c4, B4, m4, d4, rfl, hi4, hk5⟩; have HK5 := Lib.hid hk5; have I3b5 := Lib.hid (I3b7.out.through hk5); have G6b5 := Lib.hid (G6b7.out.through hk5); have G7b5 := Lib.hid (G7b7.out.through hk5); have I4b5 := Lib.hid hi4; clear hi4 hk5
            go_wp2_with fail
            refine hK.out _ _ (below_step hHeld HK5.out) (fun hHeld1 => ?_)
            clear hHeld hK K
            have hHeld := hHeld1
            clear hHeld1
            refine wpAnyH_ready (rs := [8]) (by kernel_rfl) (by simp) ?_
            refine AllReadyH.cons (o := ⟨none, .store 25 (.tmp 16) (.tmp 69), _, _, _, none⟩) rfl (fun K hK => ?_) AllReadyH.nil
            refine step_store_blk rfl 25 (.tmp 16) (.tmp 69) rfl g6 [.int .i64 lt.sq, .int .i64 lt.tt, .slice A3 n3 c3, .slice B3 m3 d3] rfl rfl 25 [.int .i64 0, .int .i64 0, .slice none 0 0, .slice none 0 0] G6b5.out (by kernel_rfl) rfl (one4 _ _ _ _ _ _ _ _) ?_; intro u8 hb8 hg8; have HG8 := Lib.hid hg8; have G6b8 := Lib.hid hb8; have G7b8 := Lib.hid (G7b5.out.grown hg8 (fun e9 => DD.out (Option.some.inj e9).symm)); have I3b8 := Lib.hid (I3b5.out.stored2 G6b5.out hg8); have I4b8 := Lib.hid (I4b5.out.stored2 G6b5.out hg8); clear hb8 hg8
            refine hK.out _ _ (hHeld.grown HG8.out hHeld.size (fun q hq => by have := Option.some.inj hq; have := L6.out; omega)) (fun hHeld1 => ?_)
            clear hHeld hK K
            have hHeld := hHeld1
            clear hHeld1
            change wpAnyH _ _ _ _ _ _ _ (Act.put _ none undef) _
            simp only [Act.put]
            refine wpAnyH_ready (rs := [9]) (by kernel_rfl) (by simp) ?_
            refine AllReadyH.cons (o := ⟨none, .store 25 (.tmp 17) (.tmp 72), _, _, _, none⟩) rfl (fun K hK => ?_) AllReadyH.nil
            refine step_store_blk rfl 25 (.tmp 17) (.tmp 72) rfl g7 [.int .i64 lt.sq, .int .i64 lt.tt, .slice A4 n4 c4, .slice B4 m4 d4] rfl rfl 25 [.int .i64 0, .int .i64 0, .slice none 0 0, .slice none 0 0] G7b8.out (by kernel_rfl) rfl (one4 _ _ _ _ _ _ _ _) ?_; intro u9 hb9 hg9; have HG9 := Lib.hid hg9; have G7b9 := Lib.hid hb9; have G6b9 := Lib.hid (G6b8.out.grown hg9 (fun e9 => DD.out (Option.some.inj e9))); have I3b9 := Lib.hid (I3b8.out.stored2 G7b8.out hg9); have I4b9 := Lib.hid (I4b8.out.stored2 G7b8.out hg9); clear hb9 hg9
            refine hK.out _ _ (hHeld.grown HG9.out hHeld.size (fun q hq => by have := Option.some.inj hq; have := L7.out; omega)) (fun hHeld1 => ?_)
            clear hHeld hK K
            have hHeld := hHeld1
            clear hHeld1
            change wpAnyH _ _ _ _ _ _ _ (Act.put _ none undef) _
            simp only [Act.put]
            refine wpAnyH_done (by kernel_rfl) ?_ _
            go_wp2
            go_meet
            case rel => exact ⟨g6, g7, _, _, _, _, _, _, _, _, _, _, _, _, rfl, rfl, G6b9.out, G7b9.out, I3b9.out, I4b9.out, hHeld⟩
        · as_aux_lemma =>
          refine step_alloc_lg (cs := [.int .i64 0, .int .i64 0, .slice none 0 0, .slice none 0 0]) rfl rfl (Try.alloc_lg _) ?_; intro g7 u7 hle7 hb7 hk7; have HK7 := Lib.hid hk7; have L7 := Lib.hid (Nat.le_trans hHeld.size hle7); have G7b7 := Lib.hid hb7; have I3b7 := Lib.hid (I3b2.out.through hk7); clear hle7 hb7 hk7
          refine hK.out _ _ (below_step hHeld HK7.out) (fun hHeld1 => ?_)
          clear hHeld hK K
          have hHeld := hHeld1
          clear hHeld1
          change wpAnyH _ _ _ _ _ _ _ (Act.put _ (some (17 : Nat)) (.pointer (some ⟨g7, 0, none⟩))) _
          simp only [Act.put, List.setIfInBounds_toArray, List.set_cons_zero, List.set_cons_succ]
          refine wpAnyH_ready (rs := [5, 6]) (by kernel_rfl) (by simp) ?_
          refine AllReadyH.cons rfl (fun K hK => ?_) (AllReadyH.cons (o := ⟨some 16, .alloc 25, _, _, _, none⟩) rfl (fun K hK => ?_) AllReadyH.nil)
          · as_aux_lemma =>
            go_simp
            refine ((HRt.out _ (below_step HXf.out hHeld))).mono ?_
            rintro e u5 ⟨A4, n4, c4, B4, m4, d4, rfl, hi4, hk5⟩; have HK5 := Lib.hid hk5; have I3b5 := Lib.hid (I3b7.out.through hk5); have G7b5 := Lib.hid (G7b7.out.through hk5); have I4b5 := Lib.hid hi4; clear hi4 hk5
            go_wp2_with fail
            refine hK.out _ _ (below_step hHeld HK5.out) (fun hHeld1 => ?_)
            clear hHeld hK K
            have hHeld := hHeld1
            clear hHeld1
            refine wpAnyH_ready (rs := [6]) (by kernel_rfl) (by simp) ?_
            refine AllReadyH.cons (o := ⟨some 16, .alloc 25, _, _, _, none⟩) rfl (fun K hK => ?_) AllReadyH.nil
            refine step_alloc_lg (cs := [.int .i64 0, .int .i64 0, .slice none 0 0, .slice none 0 0]) rfl rfl (Try.alloc_lg _) ?_; intro g6 u6 hle6 hb6 hk6; have HK6 := Lib.hid hk6; have L6 := Lib.hid (Nat.le_trans hHeld.size hle6); have G6b6 := Lib.hid hb6; have DD : Hid (g6 ≠ g7) := Lib.hid (by have := G7b5.out.lt; omega); have I3b6 := Lib.hid (I3b5.out.through hk6); have G7b6 := Lib.hid (G7b5.out.through hk6); have I4b6 := Lib.hid (I4b5.out.through hk6); clear hle6 hb6 hk6
            refine hK.out _ _ (below_step hHeld HK6.out) (fun hHeld1 => ?_)
            clear hHeld hK K
            have hHeld := hHeld1
            clear hHeld1
            change wpAnyH _ _ _ _ _ _ _ (Act.put _ (some (16 : Nat)) (.pointer (some ⟨g6, 0, none⟩))) _
            simp only [Act.put, List.setIfInBounds_toArray, List.set_cons_zero, List.set_cons_succ]
            refine wpAnyH_ready (rs := [8]) (by kernel_rfl) (by simp) ?_
            refine AllReadyH.cons (o := ⟨none, .store 25 (.tmp 16) (.tmp 69), _, _, _, none⟩) rfl (fun K hK => ?_) AllReadyH.nil
            refine step_store_blk rfl 25 (.tmp 16) (.tmp 69) rfl g6 [.int .i64 lt.sq, .int .i64 lt.tt, .slice A3 n3 c3, .slice B3 m3 d3] rfl rfl 25 [.int .i64 0, .int .i64 0, .slice none 0 0, .slice none 0 0] G6b6.out (by kernel_rfl) rfl (one4 _ _ _ _ _ _ _ _) ?_; intro u8 hb8 hg8; have HG8 := Lib.hid hg8; have G6b8 := Lib.hid hb8; have G7b8 := Lib.hid (G7b6.out.grown hg8 (fun e9 => DD.out (Option.some.inj e9).symm)); have I3b8 := Lib.hid (I3b6.out.stored2 G6b6.out hg8); have I4b8 := Lib.hid (I4b6.out.stored2 G6b6.out hg8); clear hb8 hg8
            refine hK.out _ _ (hHeld.grown HG8.out hHeld.size (fun q hq => by have := Option.some.inj hq; have := L6.out; omega)) (fun hHeld1 => ?_)
            clear hHeld hK K
            have hHeld := hHeld1
            clear hHeld1
            change wpAnyH _ _ _ _ _ _ _ (Act.put _ none undef) _
            simp only [Act.put]
            refine wpAnyH_ready (rs := [9]) (by kernel_rfl) (by simp) ?_
            refine AllReadyH.cons (o := ⟨none, .store 25 (.tmp 17) (.tmp 72), _, _, _, none⟩) rfl (fun K hK => ?_) AllReadyH.nil
            refine step_store_blk rfl 25 (.tmp 17) (.tmp 72) rfl g7 [.int .i64 lt.sq, .int .i64 lt.tt, .slice A4 n4 c4, .slice B4 m4 d4] rfl rfl 25 [.int .i64 0, .int .i64 0, .slice none 0 0, .slice none 0 0] G7b8.out (by kernel_rfl) rfl (one4 _ _ _ _ _ _ _ _) ?_; intro u9 hb9 hg9; have HG9 := Lib.hid hg9; have G7b9 := Lib.hid hb9; have G6b9 := Lib.hid (G6b8.out.grown hg9 (fun e9 => DD.out (Option.some.inj e9))); have I3b9 := Lib.hid (I3b8.out.stored2 G7b8.out hg9); have I4b9 := Lib.hid (I4b8.out.stored2 G7b8.out hg9); clear hb9 hg9
            refine hK.out _ _ (hHeld.grown HG9.out hHeld.size (fun q hq => by have := Option.some.inj hq; have := L7.out; omega)) (fun hHeld1 => ?_)
            clear hHeld hK K
            have hHeld := hHeld1
            clear hHeld1
            change wpAnyH _ _ _ _ _ _ _ (Act.put _ none undef) _
            simp only [Act.put]
            refine wpAnyH_done (by kernel_rfl) ?_ _
            go_wp2
            go_meet
            case rel => exact ⟨g6, g7, _, _, _, _, _, _, _, _, _, _, _, _, rfl, rfl, G6b9.out, G7b9.out, I3b9.out, I4b9.out, hHeld⟩
          · as_aux_lemma =>
            refine step_alloc_lg (cs := [.int .i64 0, .int .i64 0, .slice none 0 0, .slice none 0 0]) rfl rfl (Try.alloc_lg _) ?_; intro g6 u6 hle6 hb6 hk6; have HK6 := Lib.hid hk6; have L6 := Lib.hid (Nat.le_trans hHeld.size hle6); have G6b6 := Lib.hid hb6; have DD : Hid (g6 ≠ g7) := Lib.hid (by have := G7b7.out.lt; omega); have I3b6 := Lib.hid (I3b7.out.through hk6); have G7b6 := Lib.hid (G7b7.out.through hk6); clear hle6 hb6 hk6
            refine hK.out _ _ (below_step hHeld HK6.out) (fun hHeld1 => ?_)
            clear hHeld hK K
            have hHeld := hHeld1
            clear hHeld1
            change wpAnyH _ _ _ _ _ _ _ (Act.put _ (some (16 : Nat)) (.pointer (some ⟨g6, 0, none⟩))) _
            simp only [Act.put, List.setIfInBounds_toArray, List.set_cons_zero, List.set_cons_succ]
            refine wpAnyH_ready (rs := [5]) (by kernel_rfl) (by simp) ?_
            refine AllReadyH.cons rfl (fun K hK => ?_) AllReadyH.nil
            go_simp
            refine ((HRt.out _ (below_step HXf.out hHeld))).mono ?_
            rintro e u5 ⟨A4, n4, c4, B4, m4, d4, rfl, hi4, hk5⟩; have HK5 := Lib.hid hk5; have I3b5 := Lib.hid (I3b6.out.through hk5); have G7b5 := Lib.hid (G7b6.out.through hk5); have G6b5 := Lib.hid (G6b6.out.through hk5); have I4b5 := Lib.hid hi4; clear hi4 hk5
            go_wp2_with fail
            refine hK.out _ _ (below_step hHeld HK5.out) (fun hHeld1 => ?_)
            clear hHeld hK K
            have hHeld := hHeld1
            clear hHeld1
            refine wpAnyH_ready (rs := [8]) (by kernel_rfl) (by simp) ?_
            refine AllReadyH.cons (o := ⟨none, .store 25 (.tmp 16) (.tmp 69), _, _, _, none⟩) rfl (fun K hK => ?_) AllReadyH.nil
            refine step_store_blk rfl 25 (.tmp 16) (.tmp 69) rfl g6 [.int .i64 lt.sq, .int .i64 lt.tt, .slice A3 n3 c3, .slice B3 m3 d3] rfl rfl 25 [.int .i64 0, .int .i64 0, .slice none 0 0, .slice none 0 0] G6b5.out (by kernel_rfl) rfl (one4 _ _ _ _ _ _ _ _) ?_; intro u8 hb8 hg8; have HG8 := Lib.hid hg8; have G6b8 := Lib.hid hb8; have G7b8 := Lib.hid (G7b5.out.grown hg8 (fun e9 => DD.out (Option.some.inj e9).symm)); have I3b8 := Lib.hid (I3b5.out.stored2 G6b5.out hg8); have I4b8 := Lib.hid (I4b5.out.stored2 G6b5.out hg8); clear hb8 hg8
            refine hK.out _ _ (hHeld.grown HG8.out hHeld.size (fun q hq => by have := Option.some.inj hq; have := L6.out; omega)) (fun hHeld1 => ?_)
            clear hHeld hK K
            have hHeld := hHeld1
            clear hHeld1
            change wpAnyH _ _ _ _ _ _ _ (Act.put _ none undef) _
            simp only [Act.put]
            refine wpAnyH_ready (rs := [9]) (by kernel_rfl) (by simp) ?_
            refine AllReadyH.cons (o := ⟨none, .store 25 (.tmp 17) (.tmp 72), _, _, _, none⟩) rfl (fun K hK => ?_) AllReadyH.nil
            refine step_store_blk rfl 25 (.tmp 17) (.tmp 72) rfl g7 [.int .i64 lt.sq, .int .i64 lt.tt, .slice A4 n4 c4, .slice B4 m4 d4] rfl rfl 25 [.int .i64 0, .int .i64 0, .slice none 0 0, .slice none 0 0] G7b8.out (by kernel_rfl) rfl (one4 _ _ _ _ _ _ _ _) ?_; intro u9 hb9 hg9; have HG9 := Lib.hid hg9; have G7b9 := Lib.hid hb9; have G6b9 := Lib.hid (G6b8.out.grown hg9 (fun e9 => DD.out (Option.some.inj e9))); have I3b9 := Lib.hid (I3b8.out.stored2 G7b8.out hg9); have I4b9 := Lib.hid (I4b8.out.stored2 G7b8.out hg9); clear hb9 hg9
            refine hK.out _ _ (hHeld.grown HG9.out hHeld.size (fun q hq => by have := Option.some.inj hq; have := L7.out; omega)) (fun hHeld1 => ?_)
            clear hHeld hK K
            have hHeld := hHeld1
            clear hHeld1
            change wpAnyH _ _ _ _ _ _ _ (Act.put _ none undef) _
            simp only [Act.put]
            refine wpAnyH_done (by kernel_rfl) ?_ _
            go_wp2
            go_meet
            case rel => exact ⟨g6, g7, _, _, _, _, _, _, _, _, _, _, _, _, rfl, rfl, G6b9.out, G7b9.out, I3b9.out, I4b9.out, hHeld⟩
      · as_aux_lemma =>
        refine step_alloc_lg (cs := [.int .i64 0, .int .i64 0, .slice none 0 0, .slice none 0 0]) rfl rfl (Try.alloc_lg _) ?_; intro g6 u6 hle6 hb6 hk6; have HK6 := Lib.hid hk6; have L6 := Lib.hid (Nat.le_trans hHeld.size hle6); have G6b6 := Lib.hid hb6; clear hle6 hb6 hk6
        refine hK.out _ _ (below_step hHeld HK6.out) (fun hHeld1 => ?_)
        clear hHeld hK K
        have hHeld := hHeld1
        clear hHeld1
        change wpAnyH _ _ _ _ _ _ _ (Act.put _ (some (16 : Nat)) (.pointer (some ⟨g6, 0, none⟩))) _
        simp only [Act.put, List.setIfInBounds_toArray, List.set_cons_zero, List.set_cons_succ]
        refine wpAnyH_ready (rs := [2, 7]) (by kernel_rfl) (by simp) ?_
        refine AllReadyH.cons rfl (fun K hK => ?_) (AllReadyH.cons (o := ⟨some 17, .alloc 25, _, _, _, none⟩) rfl (fun K hK => ?_) AllReadyH.nil)
        · as_aux_lemma =>
          go_simp
          refine ((HTo.out _ (below_step HXf.out hHeld))).mono ?_
          rintro e u2 ⟨A3, n3, c3, B3, m3, d3, rfl, hi3, _, _, hk2⟩; have HK2 := Lib.hid hk2; have G6b2 := Lib.hid (G6b6.out.through hk2); have I3b2 := Lib.hid hi3; clear hi3 hk2
          go_wp2_with fail
          refine hK.out _ _ (below_step hHeld HK2.out) (fun hHeld1 => ?_)
          clear hHeld hK K
          have hHeld := hHeld1
          clear hHeld1
          refine wpAnyH_ready (rs := [5, 7]) (by kernel_rfl) (by simp) ?_
          refine AllReadyH.cons rfl (fun K hK => ?_) (AllReadyH.cons (o := ⟨some 17, .alloc 25, _, _, _, none⟩) rfl (fun K hK => ?_) AllReadyH.nil)
          · as_aux_lemma =>
            go_simp
            refine ((HRt.out _ (below_step HXf.out hHeld))).mono ?_
            rintro e u5 ⟨A4, n4, c4, B4, m4, d4, rfl, hi4, hk5⟩; have HK5 := Lib.hid hk5; have G6b5 := Lib.hid (G6b2.out.through hk5); have I3b5 := Lib.hid (I3b2.out.through hk5); have I4b5 := Lib.hid hi4; clear hi4 hk5
            go_wp2_with fail
            refine hK.out _ _ (below_step hHeld HK5.out) (fun hHeld1 => ?_)
            clear hHeld hK K
            have hHeld := hHeld1
            clear hHeld1
            refine wpAnyH_ready (rs := [7]) (by kernel_rfl) (by simp) ?_
            refine AllReadyH.cons (o := ⟨some 17, .alloc 25, _, _, _, none⟩) rfl (fun K hK => ?_) AllReadyH.nil
            refine step_alloc_lg (cs := [.int .i64 0, .int .i64 0, .slice none 0 0, .slice none 0 0]) rfl rfl (Try.alloc_lg _) ?_; intro g7 u7 hle7 hb7 hk7; have HK7 := Lib.hid hk7; have L7 := Lib.hid (Nat.le_trans hHeld.size hle7); have G7b7 := Lib.hid hb7; have DD : Hid (g6 ≠ g7) := Lib.hid (by have := G6b5.out.lt; omega); have G6b7 := Lib.hid (G6b5.out.through hk7); have I3b7 := Lib.hid (I3b5.out.through hk7); have I4b7 := Lib.hid (I4b5.out.through hk7); clear hle7 hb7 hk7
            refine hK.out _ _ (below_step hHeld HK7.out) (fun hHeld1 => ?_)
            clear hHeld hK K
            have hHeld := hHeld1
            clear hHeld1
            change wpAnyH _ _ _ _ _ _ _ (Act.put _ (some (17 : Nat)) (.pointer (some ⟨g7, 0, none⟩))) _
            simp only [Act.put, List.setIfInBounds_toArray, List.set_cons_zero, List.set_cons_succ]
            refine wpAnyH_ready (rs := [8]) (by kernel_rfl) (by simp) ?_
            refine AllReadyH.cons (o := ⟨none, .store 25 (.tmp 16) (.tmp 69), _, _, _, none⟩) rfl (fun K hK => ?_) AllReadyH.nil
            refine step_store_blk rfl 25 (.tmp 16) (.tmp 69) rfl g6 [.int .i64 lt.sq, .int .i64 lt.tt, .slice A3 n3 c3, .slice B3 m3 d3] rfl rfl 25 [.int .i64 0, .int .i64 0, .slice none 0 0, .slice none 0 0] G6b7.out (by kernel_rfl) rfl (one4 _ _ _ _ _ _ _ _) ?_; intro u8 hb8 hg8; have HG8 := Lib.hid hg8; have G6b8 := Lib.hid hb8; have G7b8 := Lib.hid (G7b7.out.grown hg8 (fun e9 => DD.out (Option.some.inj e9).symm)); have I3b8 := Lib.hid (I3b7.out.stored2 G6b7.out hg8); have I4b8 := Lib.hid (I4b7.out.stored2 G6b7.out hg8); clear hb8 hg8
            refine hK.out _ _ (hHeld.grown HG8.out hHeld.size (fun q hq => by have := Option.some.inj hq; have := L6.out; omega)) (fun hHeld1 => ?_)
            clear hHeld hK K
            have hHeld := hHeld1
            clear hHeld1
            change wpAnyH _ _ _ _ _ _ _ (Act.put _ none undef) _
            simp only [Act.put]
            refine wpAnyH_ready (rs := [9]) (by kernel_rfl) (by simp) ?_
            refine AllReadyH.cons (o := ⟨none, .store 25 (.tmp 17) (.tmp 72), _, _, _, none⟩) rfl (fun K hK => ?_) AllReadyH.nil
            refine step_store_blk rfl 25 (.tmp 17) (.tmp 72) rfl g7 [.int .i64 lt.sq, .int .i64 lt.tt, .slice A4 n4 c4, .slice B4 m4 d4] rfl rfl 25 [.int .i64 0, .int .i64 0, .slice none 0 0, .slice none 0 0] G7b8.out (by kernel_rfl) rfl (one4 _ _ _ _ _ _ _ _) ?_; intro u9 hb9 hg9; have HG9 := Lib.hid hg9; have G7b9 := Lib.hid hb9; have G6b9 := Lib.hid (G6b8.out.grown hg9 (fun e9 => DD.out (Option.some.inj e9))); have I3b9 := Lib.hid (I3b8.out.stored2 G7b8.out hg9); have I4b9 := Lib.hid (I4b8.out.stored2 G7b8.out hg9); clear hb9 hg9
            refine hK.out _ _ (hHeld.grown HG9.out hHeld.size (fun q hq => by have := Option.some.inj hq; have := L7.out; omega)) (fun hHeld1 => ?_)
            clear hHeld hK K
            have hHeld := hHeld1
            clear hHeld1
            change wpAnyH _ _ _ _ _ _ _ (Act.put _ none undef) _
            simp only [Act.put]
            refine wpAnyH_done (by kernel_rfl) ?_ _
            go_wp2
            go_meet
            case rel => exact ⟨g6, g7, _, _, _, _, _, _, _, _, _, _, _, _, rfl, rfl, G6b9.out, G7b9.out, I3b9.out, I4b9.out, hHeld⟩
          · as_aux_lemma =>
            refine step_alloc_lg (cs := [.int .i64 0, .int .i64 0, .slice none 0 0, .slice none 0 0]) rfl rfl (Try.alloc_lg _) ?_; intro g7 u7 hle7 hb7 hk7; have HK7 := Lib.hid hk7; have L7 := Lib.hid (Nat.le_trans hHeld.size hle7); have G7b7 := Lib.hid hb7; have DD : Hid (g6 ≠ g7) := Lib.hid (by have := G6b2.out.lt; omega); have G6b7 := Lib.hid (G6b2.out.through hk7); have I3b7 := Lib.hid (I3b2.out.through hk7); clear hle7 hb7 hk7
            refine hK.out _ _ (below_step hHeld HK7.out) (fun hHeld1 => ?_)
            clear hHeld hK K
            have hHeld := hHeld1
            clear hHeld1
            change wpAnyH _ _ _ _ _ _ _ (Act.put _ (some (17 : Nat)) (.pointer (some ⟨g7, 0, none⟩))) _
            simp only [Act.put, List.setIfInBounds_toArray, List.set_cons_zero, List.set_cons_succ]
            refine wpAnyH_ready (rs := [5]) (by kernel_rfl) (by simp) ?_
            refine AllReadyH.cons rfl (fun K hK => ?_) AllReadyH.nil
            go_simp
            refine ((HRt.out _ (below_step HXf.out hHeld))).mono ?_
            rintro e u5 ⟨A4, n4, c4, B4, m4, d4, rfl, hi4, hk5⟩; have HK5 := Lib.hid hk5; have G6b5 := Lib.hid (G6b7.out.through hk5); have I3b5 := Lib.hid (I3b7.out.through hk5); have G7b5 := Lib.hid (G7b7.out.through hk5); have I4b5 := Lib.hid hi4; clear hi4 hk5
            go_wp2_with fail
            refine hK.out _ _ (below_step hHeld HK5.out) (fun hHeld1 => ?_)
            clear hHeld hK K
            have hHeld := hHeld1
            clear hHeld1
            refine wpAnyH_ready (rs := [8]) (by kernel_rfl) (by simp) ?_
            refine AllReadyH.cons (o := ⟨none, .store 25 (.tmp 16) (.tmp 69), _, _, _, none⟩) rfl (fun K hK => ?_) AllReadyH.nil
            refine step_store_blk rfl 25 (.tmp 16) (.tmp 69) rfl g6 [.int .i64 lt.sq, .int .i64 lt.tt, .slice A3 n3 c3, .slice B3 m3 d3] rfl rfl 25 [.int .i64 0, .int .i64 0, .slice none 0 0, .slice none 0 0] G6b5.out (by kernel_rfl) rfl (one4 _ _ _ _ _ _ _ _) ?_; intro u8 hb8 hg8; have HG8 := Lib.hid hg8; have G6b8 := Lib.hid hb8; have G7b8 := Lib.hid (G7b5.out.grown hg8 (fun e9 => DD.out (Option.some.inj e9).symm)); have I3b8 := Lib.hid (I3b5.out.stored2 G6b5.out hg8); have I4b8 := Lib.hid (I4b5.out.stored2 G6b5.out hg8); clear hb8 hg8
            refine hK.out _ _ (hHeld.grown HG8.out hHeld.size (fun q hq => by have := Option.some.inj hq; have := L6.out; omega)) (fun hHeld1 => ?_)
            clear hHeld hK K
            have hHeld := hHeld1
            clear hHeld1
            change wpAnyH _ _ _ _ _ _ _ (Act.put _ none undef) _
            simp only [Act.put]
            refine wpAnyH_ready (rs := [9]) (by kernel_rfl) (by simp) ?_
            refine AllReadyH.cons (o := ⟨none, .store 25 (.tmp 17) (.tmp 72), _, _, _, none⟩) rfl (fun K hK => ?_) AllReadyH.nil
            refine step_store_blk rfl 25 (.tmp 17) (.tmp 72) rfl g7 [.int .i64 lt.sq, .int .i64 lt.tt, .slice A4 n4 c4, .slice B4 m4 d4] rfl rfl 25 [.int .i64 0, .int .i64 0, .slice none 0 0, .slice none 0 0] G7b8.out (by kernel_rfl) rfl (one4 _ _ _ _ _ _ _ _) ?_; intro u9 hb9 hg9; have HG9 := Lib.hid hg9; have G7b9 := Lib.hid hb9; have G6b9 := Lib.hid (G6b8.out.grown hg9 (fun e9 => DD.out (Option.some.inj e9))); have I3b9 := Lib.hid (I3b8.out.stored2 G7b8.out hg9); have I4b9 := Lib.hid (I4b8.out.stored2 G7b8.out hg9); clear hb9 hg9
            refine hK.out _ _ (hHeld.grown HG9.out hHeld.size (fun q hq => by have := Option.some.inj hq; have := L7.out; omega)) (fun hHeld1 => ?_)
            clear hHeld hK K
            have hHeld := hHeld1
            clear hHeld1
            change wpAnyH _ _ _ _ _ _ _ (Act.put _ none undef) _
            simp only [Act.put]
            refine wpAnyH_done (by kernel_rfl) ?_ _
            go_wp2
            go_meet
            case rel => exact ⟨g6, g7, _, _, _, _, _, _, _, _, _, _, _, _, rfl, rfl, G6b9.out, G7b9.out, I3b9.out, I4b9.out, hHeld⟩
        · as_aux_lemma =>
          refine step_alloc_lg (cs := [.int .i64 0, .int .i64 0, .slice none 0 0, .slice none 0 0]) rfl rfl (Try.alloc_lg _) ?_; intro g7 u7 hle7 hb7 hk7; have HK7 := Lib.hid hk7; have L7 := Lib.hid (Nat.le_trans hHeld.size hle7); have G7b7 := Lib.hid hb7; have DD : Hid (g6 ≠ g7) := Lib.hid (by have := G6b6.out.lt; omega); have G6b7 := Lib.hid (G6b6.out.through hk7); clear hle7 hb7 hk7
          refine hK.out _ _ (below_step hHeld HK7.out) (fun hHeld1 => ?_)
          clear hHeld hK K
          have hHeld := hHeld1
          clear hHeld1
          change wpAnyH _ _ _ _ _ _ _ (Act.put _ (some (17 : Nat)) (.pointer (some ⟨g7, 0, none⟩))) _
          simp only [Act.put, List.setIfInBounds_toArray, List.set_cons_zero, List.set_cons_succ]
          refine wpAnyH_ready (rs := [2]) (by kernel_rfl) (by simp) ?_
          refine AllReadyH.cons rfl (fun K hK => ?_) AllReadyH.nil
          go_simp
          refine ((HTo.out _ (below_step HXf.out hHeld))).mono ?_
          rintro e u2 ⟨A3, n3, c3, B3, m3, d3, rfl, hi3, _, _, hk2⟩; have HK2 := Lib.hid hk2; have G6b2 := Lib.hid (G6b7.out.through hk2); have G7b2 := Lib.hid (G7b7.out.through hk2); have I3b2 := Lib.hid hi3; clear hi3 hk2
          go_wp2_with fail
          refine hK.out _ _ (below_step hHeld HK2.out) (fun hHeld1 => ?_)
          clear hHeld hK K
          have hHeld := hHeld1
          clear hHeld1
          refine wpAnyH_ready (rs := [5]) (by kernel_rfl) (by simp) ?_
          refine AllReadyH.cons rfl (fun K hK => ?_) AllReadyH.nil
          go_simp
          refine ((HRt.out _ (below_step HXf.out hHeld))).mono ?_
          rintro e u5 ⟨A4, n4, c4, B4, m4, d4, rfl, hi4, hk5⟩; have HK5 := Lib.hid hk5; have G6b5 := Lib.hid (G6b2.out.through hk5); have G7b5 := Lib.hid (G7b2.out.through hk5); have I3b5 := Lib.hid (I3b2.out.through hk5); have I4b5 := Lib.hid hi4; clear hi4 hk5
          go_wp2_with fail
          refine hK.out _ _ (below_step hHeld HK5.out) (fun hHeld1 => ?_)
          clear hHeld hK K
          have hHeld := hHeld1
          clear hHeld1
          refine wpAnyH_ready (rs := [8]) (by kernel_rfl) (by simp) ?_
          refine AllReadyH.cons (o := ⟨none, .store 25 (.tmp 16) (.tmp 69), _, _, _, none⟩) rfl (fun K hK => ?_) AllReadyH.nil
          refine step_store_blk rfl 25 (.tmp 16) (.tmp 69) rfl g6 [.int .i64 lt.sq, .int .i64 lt.tt, .slice A3 n3 c3, .slice B3 m3 d3] rfl rfl 25 [.int .i64 0, .int .i64 0, .slice none 0 0, .slice none 0 0] G6b5.out (by kernel_rfl) rfl (one4 _ _ _ _ _ _ _ _) ?_; intro u8 hb8 hg8; have HG8 := Lib.hid hg8; have G6b8 := Lib.hid hb8; have G7b8 := Lib.hid (G7b5.out.grown hg8 (fun e9 => DD.out (Option.some.inj e9).symm)); have I3b8 := Lib.hid (I3b5.out.stored2 G6b5.out hg8); have I4b8 := Lib.hid (I4b5.out.stored2 G6b5.out hg8); clear hb8 hg8
          refine hK.out _ _ (hHeld.grown HG8.out hHeld.size (fun q hq => by have := Option.some.inj hq; have := L6.out; omega)) (fun hHeld1 => ?_)
          clear hHeld hK K
          have hHeld := hHeld1
          clear hHeld1
          change wpAnyH _ _ _ _ _ _ _ (Act.put _ none undef) _
          simp only [Act.put]
          refine wpAnyH_ready (rs := [9]) (by kernel_rfl) (by simp) ?_
          refine AllReadyH.cons (o := ⟨none, .store 25 (.tmp 17) (.tmp 72), _, _, _, none⟩) rfl (fun K hK => ?_) AllReadyH.nil
          refine step_store_blk rfl 25 (.tmp 17) (.tmp 72) rfl g7 [.int .i64 lt.sq, .int .i64 lt.tt, .slice A4 n4 c4, .slice B4 m4 d4] rfl rfl 25 [.int .i64 0, .int .i64 0, .slice none 0 0, .slice none 0 0] G7b8.out (by kernel_rfl) rfl (one4 _ _ _ _ _ _ _ _) ?_; intro u9 hb9 hg9; have HG9 := Lib.hid hg9; have G7b9 := Lib.hid hb9; have G6b9 := Lib.hid (G6b8.out.grown hg9 (fun e9 => DD.out (Option.some.inj e9))); have I3b9 := Lib.hid (I3b8.out.stored2 G7b8.out hg9); have I4b9 := Lib.hid (I4b8.out.stored2 G7b8.out hg9); clear hb9 hg9
          refine hK.out _ _ (hHeld.grown HG9.out hHeld.size (fun q hq => by have := Option.some.inj hq; have := L7.out; omega)) (fun hHeld1 => ?_)
          clear hHeld hK K
          have hHeld := hHeld1
          clear hHeld1
          change wpAnyH _ _ _ _ _ _ _ (Act.put _ none undef) _
          simp only [Act.put]
          refine wpAnyH_done (by kernel_rfl) ?_ _
          go_wp2
          go_meet
          case rel => exact ⟨g6, g7, _, _, _, _, _, _, _, _, _, _, _, _, rfl, rfl, G6b9.out, G7b9.out, I3b9.out, I4b9.out, hHeld⟩
      · as_aux_lemma =>
        refine step_alloc_lg (cs := [.int .i64 0, .int .i64 0, .slice none 0 0, .slice none 0 0]) rfl rfl (Try.alloc_lg _) ?_; intro g7 u7 hle7 hb7 hk7; have HK7 := Lib.hid hk7; have L7 := Lib.hid (Nat.le_trans hHeld.size hle7); have G7b7 := Lib.hid hb7; clear hle7 hb7 hk7
        refine hK.out _ _ (below_step hHeld HK7.out) (fun hHeld1 => ?_)
        clear hHeld hK K
        have hHeld := hHeld1
        clear hHeld1
        change wpAnyH _ _ _ _ _ _ _ (Act.put _ (some (17 : Nat)) (.pointer (some ⟨g7, 0, none⟩))) _
        simp only [Act.put, List.setIfInBounds_toArray, List.set_cons_zero, List.set_cons_succ]
        refine wpAnyH_ready (rs := [2, 6]) (by kernel_rfl) (by simp) ?_
        refine AllReadyH.cons rfl (fun K hK => ?_) (AllReadyH.cons (o := ⟨some 16, .alloc 25, _, _, _, none⟩) rfl (fun K hK => ?_) AllReadyH.nil)
        · as_aux_lemma =>
          go_simp
          refine ((HTo.out _ (below_step HXf.out hHeld))).mono ?_
          rintro e u2 ⟨A3, n3, c3, B3, m3, d3, rfl, hi3, _, _, hk2⟩; have HK2 := Lib.hid hk2; have G7b2 := Lib.hid (G7b7.out.through hk2); have I3b2 := Lib.hid hi3; clear hi3 hk2
          go_wp2_with fail
          refine hK.out _ _ (below_step hHeld HK2.out) (fun hHeld1 => ?_)
          clear hHeld hK K
          have hHeld := hHeld1
          clear hHeld1
          refine wpAnyH_ready (rs := [5, 6]) (by kernel_rfl) (by simp) ?_
          refine AllReadyH.cons rfl (fun K hK => ?_) (AllReadyH.cons (o := ⟨some 16, .alloc 25, _, _, _, none⟩) rfl (fun K hK => ?_) AllReadyH.nil)
          · as_aux_lemma =>
            go_simp
            refine ((HRt.out _ (below_step HXf.out hHeld))).mono ?_
            rintro e u5 ⟨A4, n4, c4, B4, m4, d4, rfl, hi4, hk5⟩; have HK5 := Lib.hid hk5; have G7b5 := Lib.hid (G7b2.out.through hk5); have I3b5 := Lib.hid (I3b2.out.through hk5); have I4b5 := Lib.hid hi4; clear hi4 hk5
            go_wp2_with fail
            refine hK.out _ _ (below_step hHeld HK5.out) (fun hHeld1 => ?_)
            clear hHeld hK K
            have hHeld := hHeld1
            clear hHeld1
            refine wpAnyH_ready (rs := [6]) (by kernel_rfl) (by simp) ?_
            refine AllReadyH.cons (o := ⟨some 16, .alloc 25, _, _, _, none⟩) rfl (fun K hK => ?_) AllReadyH.nil
            refine step_alloc_lg (cs := [.int .i64 0, .int .i64 0, .slice none 0 0, .slice none 0 0]) rfl rfl (Try.alloc_lg _) ?_; intro g6 u6 hle6 hb6 hk6; have HK6 := Lib.hid hk6; have L6 := Lib.hid (Nat.le_trans hHeld.size hle6); have G6b6 := Lib.hid hb6; have DD : Hid (g6 ≠ g7) := Lib.hid (by have := G7b5.out.lt; omega); have G7b6 := Lib.hid (G7b5.out.through hk6); have I3b6 := Lib.hid (I3b5.out.through hk6); have I4b6 := Lib.hid (I4b5.out.through hk6); clear hle6 hb6 hk6
            refine hK.out _ _ (below_step hHeld HK6.out) (fun hHeld1 => ?_)
            clear hHeld hK K
            have hHeld := hHeld1
            clear hHeld1
            change wpAnyH _ _ _ _ _ _ _ (Act.put _ (some (16 : Nat)) (.pointer (some ⟨g6, 0, none⟩))) _
            simp only [Act.put, List.setIfInBounds_toArray, List.set_cons_zero, List.set_cons_succ]
            refine wpAnyH_ready (rs := [8]) (by kernel_rfl) (by simp) ?_
            refine AllReadyH.cons (o := ⟨none, .store 25 (.tmp 16) (.tmp 69), _, _, _, none⟩) rfl (fun K hK => ?_) AllReadyH.nil
            refine step_store_blk rfl 25 (.tmp 16) (.tmp 69) rfl g6 [.int .i64 lt.sq, .int .i64 lt.tt, .slice A3 n3 c3, .slice B3 m3 d3] rfl rfl 25 [.int .i64 0, .int .i64 0, .slice none 0 0, .slice none 0 0] G6b6.out (by kernel_rfl) rfl (one4 _ _ _ _ _ _ _ _) ?_; intro u8 hb8 hg8; have HG8 := Lib.hid hg8; have G6b8 := Lib.hid hb8; have G7b8 := Lib.hid (G7b6.out.grown hg8 (fun e9 => DD.out (Option.some.inj e9).symm)); have I3b8 := Lib.hid (I3b6.out.stored2 G6b6.out hg8); have I4b8 := Lib.hid (I4b6.out.stored2 G6b6.out hg8); clear hb8 hg8
            refine hK.out _ _ (hHeld.grown HG8.out hHeld.size (fun q hq => by have := Option.some.inj hq; have := L6.out; omega)) (fun hHeld1 => ?_)
            clear hHeld hK K
            have hHeld := hHeld1
            clear hHeld1
            change wpAnyH _ _ _ _ _ _ _ (Act.put _ none undef) _
            simp only [Act.put]
            refine wpAnyH_ready (rs := [9]) (by kernel_rfl) (by simp) ?_
            refine AllReadyH.cons (o := ⟨none, .store 25 (.tmp 17) (.tmp 72), _, _, _, none⟩) rfl (fun K hK => ?_) AllReadyH.nil
            refine step_store_blk rfl 25 (.tmp 17) (.tmp 72) rfl g7 [.int .i64 lt.sq, .int .i64 lt.tt, .slice A4 n4 c4, .slice B4 m4 d4] rfl rfl 25 [.int .i64 0, .int .i64 0, .slice none 0 0, .slice none 0 0] G7b8.out (by kernel_rfl) rfl (one4 _ _ _ _ _ _ _ _) ?_; intro u9 hb9 hg9; have HG9 := Lib.hid hg9; have G7b9 := Lib.hid hb9; have G6b9 := Lib.hid (G6b8.out.grown hg9 (fun e9 => DD.out (Option.some.inj e9))); have I3b9 := Lib.hid (I3b8.out.stored2 G7b8.out hg9); have I4b9 := Lib.hid (I4b8.out.stored2 G7b8.out hg9); clear hb9 hg9
            refine hK.out _ _ (hHeld.grown HG9.out hHeld.size (fun q hq => by have := Option.some.inj hq; have := L7.out; omega)) (fun hHeld1 => ?_)
            clear hHeld hK K
            have hHeld := hHeld1
            clear hHeld1
            change wpAnyH _ _ _ _ _ _ _ (Act.put _ none undef) _
            simp only [Act.put]
            refine wpAnyH_done (by kernel_rfl) ?_ _
            go_wp2
            go_meet
            case rel => exact ⟨g6, g7, _, _, _, _, _, _, _, _, _, _, _, _, rfl, rfl, G6b9.out, G7b9.out, I3b9.out, I4b9.out, hHeld⟩
          · as_aux_lemma =>
            refine step_alloc_lg (cs := [.int .i64 0, .int .i64 0, .slice none 0 0, .slice none 0 0]) rfl rfl (Try.alloc_lg _) ?_; intro g6 u6 hle6 hb6 hk6; have HK6 := Lib.hid hk6; have L6 := Lib.hid (Nat.le_trans hHeld.size hle6); have G6b6 := Lib.hid hb6; have DD : Hid (g6 ≠ g7) := Lib.hid (by have := G7b2.out.lt; omega); have G7b6 := Lib.hid (G7b2.out.through hk6); have I3b6 := Lib.hid (I3b2.out.through hk6); clear hle6 hb6 hk6
            refine hK.out _ _ (below_step hHeld HK6.out) (fun hHeld1 => ?_)
            clear hHeld hK K
            have hHeld := hHeld1
            clear hHeld1
            change wpAnyH _ _ _ _ _ _ _ (Act.put _ (some (16 : Nat)) (.pointer (some ⟨g6, 0, none⟩))) _
            simp only [Act.put, List.setIfInBounds_toArray, List.set_cons_zero, List.set_cons_succ]
            refine wpAnyH_ready (rs := [5]) (by kernel_rfl) (by simp) ?_
            refine AllReadyH.cons rfl (fun K hK => ?_) AllReadyH.nil
            go_simp
            refine ((HRt.out _ (below_step HXf.out hHeld))).mono ?_
            rintro e u5 ⟨A4, n4, c4, B4, m4, d4, rfl, hi4, hk5⟩; have HK5 := Lib.hid hk5; have G7b5 := Lib.hid (G7b6.out.through hk5); have I3b5 := Lib.hid (I3b6.out.through hk5); have G6b5 := Lib.hid (G6b6.out.through hk5); have I4b5 := Lib.hid hi4; clear hi4 hk5
            go_wp2_with fail
            refine hK.out _ _ (below_step hHeld HK5.out) (fun hHeld1 => ?_)
            clear hHeld hK K
            have hHeld := hHeld1
            clear hHeld1
            refine wpAnyH_ready (rs := [8]) (by kernel_rfl) (by simp) ?_
            refine AllReadyH.cons (o := ⟨none, .store 25 (.tmp 16) (.tmp 69), _, _, _, none⟩) rfl (fun K hK => ?_) AllReadyH.nil
            refine step_store_blk rfl 25 (.tmp 16) (.tmp 69) rfl g6 [.int .i64 lt.sq, .int .i64 lt.tt, .slice A3 n3 c3, .slice B3 m3 d3] rfl rfl 25 [.int .i64 0, .int .i64 0, .slice none 0 0, .slice none 0 0] G6b5.out (by kernel_rfl) rfl (one4 _ _ _ _ _ _ _ _) ?_; intro u8 hb8 hg8; have HG8 := Lib.hid hg8; have G6b8 := Lib.hid hb8; have G7b8 := Lib.hid (G7b5.out.grown hg8 (fun e9 => DD.out (Option.some.inj e9).symm)); have I3b8 := Lib.hid (I3b5.out.stored2 G6b5.out hg8); have I4b8 := Lib.hid (I4b5.out.stored2 G6b5.out hg8); clear hb8 hg8
            refine hK.out _ _ (hHeld.grown HG8.out hHeld.size (fun q hq => by have := Option.some.inj hq; have := L6.out; omega)) (fun hHeld1 => ?_)
            clear hHeld hK K
            have hHeld := hHeld1
            clear hHeld1
            change wpAnyH _ _ _ _ _ _ _ (Act.put _ none undef) _
            simp only [Act.put]
            refine wpAnyH_ready (rs := [9]) (by kernel_rfl) (by simp) ?_
            refine AllReadyH.cons (o := ⟨none, .store 25 (.tmp 17) (.tmp 72), _, _, _, none⟩) rfl (fun K hK => ?_) AllReadyH.nil
            refine step_store_blk rfl 25 (.tmp 17) (.tmp 72) rfl g7 [.int .i64 lt.sq, .int .i64 lt.tt, .slice A4 n4 c4, .slice B4 m4 d4] rfl rfl 25 [.int .i64 0, .int .i64 0, .slice none 0 0, .slice none 0 0] G7b8.out (by kernel_rfl) rfl (one4 _ _ _ _ _ _ _ _) ?_; intro u9 hb9 hg9; have HG9 := Lib.hid hg9; have G7b9 := Lib.hid hb9; have G6b9 := Lib.hid (G6b8.out.grown hg9 (fun e9 => DD.out (Option.some.inj e9))); have I3b9 := Lib.hid (I3b8.out.stored2 G7b8.out hg9); have I4b9 := Lib.hid (I4b8.out.stored2 G7b8.out hg9); clear hb9 hg9
            refine hK.out _ _ (hHeld.grown HG9.out hHeld.size (fun q hq => by have := Option.some.inj hq; have := L7.out; omega)) (fun hHeld1 => ?_)
            clear hHeld hK K
            have hHeld := hHeld1
            clear hHeld1
            change wpAnyH _ _ _ _ _ _ _ (Act.put _ none undef) _
            simp only [Act.put]
            refine wpAnyH_done (by kernel_rfl) ?_ _
            go_wp2
            go_meet
            case rel => exact ⟨g6, g7, _, _, _, _, _, _, _, _, _, _, _, _, rfl, rfl, G6b9.out, G7b9.out, I3b9.out, I4b9.out, hHeld⟩
        · as_aux_lemma =>
          refine step_alloc_lg (cs := [.int .i64 0, .int .i64 0, .slice none 0 0, .slice none 0 0]) rfl rfl (Try.alloc_lg _) ?_; intro g6 u6 hle6 hb6 hk6; have HK6 := Lib.hid hk6; have L6 := Lib.hid (Nat.le_trans hHeld.size hle6); have G6b6 := Lib.hid hb6; have DD : Hid (g6 ≠ g7) := Lib.hid (by have := G7b7.out.lt; omega); have G7b6 := Lib.hid (G7b7.out.through hk6); clear hle6 hb6 hk6
          refine hK.out _ _ (below_step hHeld HK6.out) (fun hHeld1 => ?_)
          clear hHeld hK K
          have hHeld := hHeld1
          clear hHeld1
          change wpAnyH _ _ _ _ _ _ _ (Act.put _ (some (16 : Nat)) (.pointer (some ⟨g6, 0, none⟩))) _
          simp only [Act.put, List.setIfInBounds_toArray, List.set_cons_zero, List.set_cons_succ]
          refine wpAnyH_ready (rs := [2]) (by kernel_rfl) (by simp) ?_
          refine AllReadyH.cons rfl (fun K hK => ?_) AllReadyH.nil
          go_simp
          refine ((HTo.out _ (below_step HXf.out hHeld))).mono ?_
          rintro e u2 ⟨A3, n3, c3, B3, m3, d3, rfl, hi3, _, _, hk2⟩; have HK2 := Lib.hid hk2; have G7b2 := Lib.hid (G7b6.out.through hk2); have G6b2 := Lib.hid (G6b6.out.through hk2); have I3b2 := Lib.hid hi3; clear hi3 hk2
          go_wp2_with fail
          refine hK.out _ _ (below_step hHeld HK2.out) (fun hHeld1 => ?_)
          clear hHeld hK K
          have hHeld := hHeld1
          clear hHeld1
          refine wpAnyH_ready (rs := [5]) (by kernel_rfl) (by simp) ?_
          refine AllReadyH.cons rfl (fun K hK => ?_) AllReadyH.nil
          go_simp
          refine ((HRt.out _ (below_step HXf.out hHeld))).mono ?_
          rintro e u5 ⟨A4, n4, c4, B4, m4, d4, rfl, hi4, hk5⟩; have HK5 := Lib.hid hk5; have G7b5 := Lib.hid (G7b2.out.through hk5); have G6b5 := Lib.hid (G6b2.out.through hk5); have I3b5 := Lib.hid (I3b2.out.through hk5); have I4b5 := Lib.hid hi4; clear hi4 hk5
          go_wp2_with fail
          refine hK.out _ _ (below_step hHeld HK5.out) (fun hHeld1 => ?_)
          clear hHeld hK K
          have hHeld := hHeld1
          clear hHeld1
          refine wpAnyH_ready (rs := [8]) (by kernel_rfl) (by simp) ?_
          refine AllReadyH.cons (o := ⟨none, .store 25 (.tmp 16) (.tmp 69), _, _, _, none⟩) rfl (fun K hK => ?_) AllReadyH.nil
          refine step_store_blk rfl 25 (.tmp 16) (.tmp 69) rfl g6 [.int .i64 lt.sq, .int .i64 lt.tt, .slice A3 n3 c3, .slice B3 m3 d3] rfl rfl 25 [.int .i64 0, .int .i64 0, .slice none 0 0, .slice none 0 0] G6b5.out (by kernel_rfl) rfl (one4 _ _ _ _ _ _ _ _) ?_; intro u8 hb8 hg8; have HG8 := Lib.hid hg8; have G6b8 := Lib.hid hb8; have G7b8 := Lib.hid (G7b5.out.grown hg8 (fun e9 => DD.out (Option.some.inj e9).symm)); have I3b8 := Lib.hid (I3b5.out.stored2 G6b5.out hg8); have I4b8 := Lib.hid (I4b5.out.stored2 G6b5.out hg8); clear hb8 hg8
          refine hK.out _ _ (hHeld.grown HG8.out hHeld.size (fun q hq => by have := Option.some.inj hq; have := L6.out; omega)) (fun hHeld1 => ?_)
          clear hHeld hK K
          have hHeld := hHeld1
          clear hHeld1
          change wpAnyH _ _ _ _ _ _ _ (Act.put _ none undef) _
          simp only [Act.put]
          refine wpAnyH_ready (rs := [9]) (by kernel_rfl) (by simp) ?_
          refine AllReadyH.cons (o := ⟨none, .store 25 (.tmp 17) (.tmp 72), _, _, _, none⟩) rfl (fun K hK => ?_) AllReadyH.nil
          refine step_store_blk rfl 25 (.tmp 17) (.tmp 72) rfl g7 [.int .i64 lt.sq, .int .i64 lt.tt, .slice A4 n4 c4, .slice B4 m4 d4] rfl rfl 25 [.int .i64 0, .int .i64 0, .slice none 0 0, .slice none 0 0] G7b8.out (by kernel_rfl) rfl (one4 _ _ _ _ _ _ _ _) ?_; intro u9 hb9 hg9; have HG9 := Lib.hid hg9; have G7b9 := Lib.hid hb9; have G6b9 := Lib.hid (G6b8.out.grown hg9 (fun e9 => DD.out (Option.some.inj e9))); have I3b9 := Lib.hid (I3b8.out.stored2 G7b8.out hg9); have I4b9 := Lib.hid (I4b8.out.stored2 G7b8.out hg9); clear hb9 hg9
          refine hK.out _ _ (hHeld.grown HG9.out hHeld.size (fun q hq => by have := Option.some.inj hq; have := L7.out; omega)) (fun hHeld1 => ?_)
          clear hHeld hK K
          have hHeld := hHeld1
          clear hHeld1
          change wpAnyH _ _ _ _ _ _ _ (Act.put _ none undef) _
          simp only [Act.put]
          refine wpAnyH_done (by kernel_rfl) ?_ _
          go_wp2
          go_meet
          case rel => exact ⟨g6, g7, _, _, _, _, _, _, _, _, _, _, _, _, rfl, rfl, G6b9.out, G7b9.out, I3b9.out, I4b9.out, hHeld⟩
    case rest =>
      obtain ⟨g6, g7, A3, n3, c3, B3, m3, d3, A4, n4, c4, B4, m4, d4, rfl, rfl, hb6, hb7, hi3, hi4, hx8⟩ := hcut
      obtain ⟨wg, hwg⟩ : ∃ W, W = wc := ⟨_, rfl⟩
      subst hwg
      have HXg := Lib.hid (below_step HXf.out hx8)
      have K1g := Lib.hid (K1f.out.through hx8)
      have G0g := Lib.hid (G0f.out.through hx8)
      have I0g := Lib.hid (I0f.out.through hx8)
      have G1g := Lib.hid (G1f.out.through hx8)
      have I1g := Lib.hid (I1f.out.through hx8)
      have G2g := Lib.hid (G2f.out.through hx8)
      have I2g := Lib.hid (I2f.out.through hx8)
      have G3g := Lib.hid hb6
      have G4g := Lib.hid hb7
      have I3g := Lib.hid hi3
      have I4g := Lib.hid hi4
      clear hb6 hb7 hi3 hi4 hx8
      go_wp2_with (first
        | (refine wpList_load_blk rfl 25 (.tmp 5) rfl (w.heap.size) rfl 25 [.int .i64 l.sq, .int .i64 l.tt, .slice A n c, .slice B m d] _ K1g.out Try.underlying25 rfl (by kernel_rfl) ?_)
        | (go_at_call 13; (with_reducible refine (HFi.out _ HXg.out).mono ?_); rintro e v5 ⟨rfl, hbv5⟩; have HXh := Lib.hid ((below_step HXg.out hbv5).alloc (below_step HXg.out hbv5).size (.cells #[.string (ba xf.nm), .int .i64 xf.st, .int .i64 xf.am, .int .i64 xf.du, .string (ba xf.po), .string (ba xf.pa)] 27)); have K1h := Lib.hid ((K1g.out.through hbv5).alloc (.cells #[.string (ba xf.nm), .int .i64 xf.st, .int .i64 xf.am, .int .i64 xf.du, .string (ba xf.po), .string (ba xf.pa)] 27)); have G0h := Lib.hid ((G0g.out.through hbv5).alloc (.cells #[.string (ba xf.nm), .int .i64 xf.st, .int .i64 xf.am, .int .i64 xf.du, .string (ba xf.po), .string (ba xf.pa)] 27)); have I0h := Lib.hid ((I0g.out.through hbv5).alloc (.cells #[.string (ba xf.nm), .int .i64 xf.st, .int .i64 xf.am, .int .i64 xf.du, .string (ba xf.po), .string (ba xf.pa)] 27)); have G1h := Lib.hid ((G1g.out.through hbv5).alloc (.cells #[.string (ba xf.nm), .int .i64 xf.st, .int .i64 xf.am, .int .i64 xf.du, .string (ba xf.po), .string (ba xf.pa)] 27)); have I1h := Lib.hid ((I1g.out.through hbv5).alloc (.cells #[.string (ba xf.nm), .int .i64 xf.st, .int .i64 xf.am, .int .i64 xf.du, .string (ba xf.po), .string (ba xf.pa)] 27)); have G2h := Lib.hid ((G2g.out.through hbv5).alloc (.cells #[.string (ba xf.nm), .int .i64 xf.st, .int .i64 xf.am, .int .i64 xf.du, .string (ba xf.po), .string (ba xf.pa)] 27)); have I2h := Lib.hid ((I2g.out.through hbv5).alloc (.cells #[.string (ba xf.nm), .int .i64 xf.st, .int .i64 xf.am, .int .i64 xf.du, .string (ba xf.po), .string (ba xf.pa)] 27)); have G3h := Lib.hid ((G3g.out.through hbv5).alloc (.cells #[.string (ba xf.nm), .int .i64 xf.st, .int .i64 xf.am, .int .i64 xf.du, .string (ba xf.po), .string (ba xf.pa)] 27)); have I3h := Lib.hid ((I3g.out.through hbv5).alloc (.cells #[.string (ba xf.nm), .int .i64 xf.st, .int .i64 xf.am, .int .i64 xf.du, .string (ba xf.po), .string (ba xf.pa)] 27)); have G4h := Lib.hid ((G4g.out.through hbv5).alloc (.cells #[.string (ba xf.nm), .int .i64 xf.st, .int .i64 xf.am, .int .i64 xf.du, .string (ba xf.po), .string (ba xf.pa)] 27)); have I4h := Lib.hid ((I4g.out.through hbv5).alloc (.cells #[.string (ba xf.nm), .int .i64 xf.st, .int .i64 xf.am, .int .i64 xf.du, .string (ba xf.po), .string (ba xf.pa)] 27)); have G5h : Hid (Blk (v5.alloc (.cells #[.string (ba xf.nm), .int .i64 xf.st, .int .i64 xf.am, .int .i64 xf.du, .string (ba xf.po), .string (ba xf.pa)] 27)) v5.heap.size 27 [.string (ba xf.nm), .int .i64 xf.st, .int .i64 xf.am, .int .i64 xf.du, .string (ba xf.po), .string (ba xf.pa)]) := Lib.hid (Blk.fresh rfl rfl); clear hbv5)
        | (refine wpList_load_blk rfl 25 (.tmp 5) rfl (w.heap.size) rfl 25 [.int .i64 l.sq, .int .i64 l.tt, .slice A n c, .slice B m d] _ K1h.out Try.underlying25 rfl (by kernel_rfl) ?_)
        | (go_at_call 14; (with_reducible refine (HRf.out _ HXh.out).mono ?_); rintro e v6 ⟨rfl, hbv6⟩; have HXi := Lib.hid ((below_step HXh.out hbv6).alloc (below_step HXh.out hbv6).size (.cells #[.string (ba xf.nm), .int .i64 xf.st, .int .i64 xf.am, .int .i64 xf.du, .string (ba xf.po), .string (ba xf.pa)] 27)); have K1i := Lib.hid ((K1h.out.through hbv6).alloc (.cells #[.string (ba xf.nm), .int .i64 xf.st, .int .i64 xf.am, .int .i64 xf.du, .string (ba xf.po), .string (ba xf.pa)] 27)); have G0i := Lib.hid ((G0h.out.through hbv6).alloc (.cells #[.string (ba xf.nm), .int .i64 xf.st, .int .i64 xf.am, .int .i64 xf.du, .string (ba xf.po), .string (ba xf.pa)] 27)); have I0i := Lib.hid ((I0h.out.through hbv6).alloc (.cells #[.string (ba xf.nm), .int .i64 xf.st, .int .i64 xf.am, .int .i64 xf.du, .string (ba xf.po), .string (ba xf.pa)] 27)); have G1i := Lib.hid ((G1h.out.through hbv6).alloc (.cells #[.string (ba xf.nm), .int .i64 xf.st, .int .i64 xf.am, .int .i64 xf.du, .string (ba xf.po), .string (ba xf.pa)] 27)); have I1i := Lib.hid ((I1h.out.through hbv6).alloc (.cells #[.string (ba xf.nm), .int .i64 xf.st, .int .i64 xf.am, .int .i64 xf.du, .string (ba xf.po), .string (ba xf.pa)] 27)); have G2i := Lib.hid ((G2h.out.through hbv6).alloc (.cells #[.string (ba xf.nm), .int .i64 xf.st, .int .i64 xf.am, .int .i64 xf.du, .string (ba xf.po), .string (ba xf.pa)] 27)); have I2i := Lib.hid ((I2h.out.through hbv6).alloc (.cells #[.string (ba xf.nm), .int .i64 xf.st, .int .i64 xf.am, .int .i64 xf.du, .string (ba xf.po), .string (ba xf.pa)] 27)); have G3i := Lib.hid ((G3h.out.through hbv6).alloc (.cells #[.string (ba xf.nm), .int .i64 xf.st, .int .i64 xf.am, .int .i64 xf.du, .string (ba xf.po), .string (ba xf.pa)] 27)); have I3i := Lib.hid ((I3h.out.through hbv6).alloc (.cells #[.string (ba xf.nm), .int .i64 xf.st, .int .i64 xf.am, .int .i64 xf.du, .string (ba xf.po), .string (ba xf.pa)] 27)); have G4i := Lib.hid ((G4h.out.through hbv6).alloc (.cells #[.string (ba xf.nm), .int .i64 xf.st, .int .i64 xf.am, .int .i64 xf.du, .string (ba xf.po), .string (ba xf.pa)] 27)); have I4i := Lib.hid ((I4h.out.through hbv6).alloc (.cells #[.string (ba xf.nm), .int .i64 xf.st, .int .i64 xf.am, .int .i64 xf.du, .string (ba xf.po), .string (ba xf.pa)] 27)); have G5i := Lib.hid ((G5h.out.through hbv6).alloc (.cells #[.string (ba xf.nm), .int .i64 xf.st, .int .i64 xf.am, .int .i64 xf.du, .string (ba xf.po), .string (ba xf.pa)] 27)); have G6i : Hid (Blk (v6.alloc (.cells #[.string (ba xf.nm), .int .i64 xf.st, .int .i64 xf.am, .int .i64 xf.du, .string (ba xf.po), .string (ba xf.pa)] 27)) v6.heap.size 27 [.string (ba xf.nm), .int .i64 xf.st, .int .i64 xf.am, .int .i64 xf.du, .string (ba xf.po), .string (ba xf.pa)]) := Lib.hid (Blk.fresh rfl rfl); clear hbv6)
        | (refine wpList_load_blk rfl 25 (.tmp 5) rfl (w.heap.size) rfl 25 [.int .i64 l.sq, .int .i64 l.tt, .slice A n c, .slice B m d] _ K1i.out Try.underlying25 rfl (by kernel_rfl) ?_)
        | (go_at_call 15; (with_reducible refine (HLa.out _ HXi.out).mono ?_); rintro e v7 ⟨rfl, hbv7⟩; have HXj := Lib.hid ((below_step HXi.out hbv7).alloc (below_step HXi.out hbv7).size (.cells #[.int .i64 xo.cl, .int .i64 xo.sp, .int .i64 xo.rs] 30)); have K1j := Lib.hid ((K1i.out.through hbv7).alloc (.cells #[.int .i64 xo.cl, .int .i64 xo.sp, .int .i64 xo.rs] 30)); have G0j := Lib.hid ((G0i.out.through hbv7).alloc (.cells #[.int .i64 xo.cl, .int .i64 xo.sp, .int .i64 xo.rs] 30)); have I0j := Lib.hid ((I0i.out.through hbv7).alloc (.cells #[.int .i64 xo.cl, .int .i64 xo.sp, .int .i64 xo.rs] 30)); have G1j := Lib.hid ((G1i.out.through hbv7).alloc (.cells #[.int .i64 xo.cl, .int .i64 xo.sp, .int .i64 xo.rs] 30)); have I1j := Lib.hid ((I1i.out.through hbv7).alloc (.cells #[.int .i64 xo.cl, .int .i64 xo.sp, .int .i64 xo.rs] 30)); have G2j := Lib.hid ((G2i.out.through hbv7).alloc (.cells #[.int .i64 xo.cl, .int .i64 xo.sp, .int .i64 xo.rs] 30)); have I2j := Lib.hid ((I2i.out.through hbv7).alloc (.cells #[.int .i64 xo.cl, .int .i64 xo.sp, .int .i64 xo.rs] 30)); have G3j := Lib.hid ((G3i.out.through hbv7).alloc (.cells #[.int .i64 xo.cl, .int .i64 xo.sp, .int .i64 xo.rs] 30)); have I3j := Lib.hid ((I3i.out.through hbv7).alloc (.cells #[.int .i64 xo.cl, .int .i64 xo.sp, .int .i64 xo.rs] 30)); have G4j := Lib.hid ((G4i.out.through hbv7).alloc (.cells #[.int .i64 xo.cl, .int .i64 xo.sp, .int .i64 xo.rs] 30)); have I4j := Lib.hid ((I4i.out.through hbv7).alloc (.cells #[.int .i64 xo.cl, .int .i64 xo.sp, .int .i64 xo.rs] 30)); have G5j := Lib.hid ((G5i.out.through hbv7).alloc (.cells #[.int .i64 xo.cl, .int .i64 xo.sp, .int .i64 xo.rs] 30)); have G6j := Lib.hid ((G6i.out.through hbv7).alloc (.cells #[.int .i64 xo.cl, .int .i64 xo.sp, .int .i64 xo.rs] 30)); have G7j : Hid (Blk (v7.alloc (.cells #[.int .i64 xo.cl, .int .i64 xo.sp, .int .i64 xo.rs] 30)) v7.heap.size 30 [.int .i64 xo.cl, .int .i64 xo.sp, .int .i64 xo.rs]) := Lib.hid (Blk.fresh rfl rfl); clear hbv7)
        | (refine wpList_load_blk rfl 25 (.tmp 5) rfl (w.heap.size) rfl 25 [.int .i64 l.sq, .int .i64 l.tt, .slice A n c, .slice B m d] _ K1j.out Try.underlying25 rfl (by kernel_rfl) ?_)
        | (go_at_call 16; (with_reducible refine (HRl.out _ HXj.out).mono ?_); rintro e v8 ⟨rfl, hbv8⟩; have HXp := Lib.hid ((below_step HXj.out hbv8).alloc (below_step HXj.out hbv8).size (.cells #[.int .i64 xo.cl, .int .i64 xo.sp, .int .i64 xo.rs] 30)); have K1p := Lib.hid ((K1j.out.through hbv8).alloc (.cells #[.int .i64 xo.cl, .int .i64 xo.sp, .int .i64 xo.rs] 30)); have G0p := Lib.hid ((G0j.out.through hbv8).alloc (.cells #[.int .i64 xo.cl, .int .i64 xo.sp, .int .i64 xo.rs] 30)); have I0p := Lib.hid ((I0j.out.through hbv8).alloc (.cells #[.int .i64 xo.cl, .int .i64 xo.sp, .int .i64 xo.rs] 30)); have G1p := Lib.hid ((G1j.out.through hbv8).alloc (.cells #[.int .i64 xo.cl, .int .i64 xo.sp, .int .i64 xo.rs] 30)); have I1p := Lib.hid ((I1j.out.through hbv8).alloc (.cells #[.int .i64 xo.cl, .int .i64 xo.sp, .int .i64 xo.rs] 30)); have G2p := Lib.hid ((G2j.out.through hbv8).alloc (.cells #[.int .i64 xo.cl, .int .i64 xo.sp, .int .i64 xo.rs] 30)); have I2p := Lib.hid ((I2j.out.through hbv8).alloc (.cells #[.int .i64 xo.cl, .int .i64 xo.sp, .int .i64 xo.rs] 30)); have G3p := Lib.hid ((G3j.out.through hbv8).alloc (.cells #[.int .i64 xo.cl, .int .i64 xo.sp, .int .i64 xo.rs] 30)); have I3p := Lib.hid ((I3j.out.through hbv8).alloc (.cells #[.int .i64 xo.cl, .int .i64 xo.sp, .int .i64 xo.rs] 30)); have G4p := Lib.hid ((G4j.out.through hbv8).alloc (.cells #[.int .i64 xo.cl, .int .i64 xo.sp, .int .i64 xo.rs] 30)); have I4p := Lib.hid ((I4j.out.through hbv8).alloc (.cells #[.int .i64 xo.cl, .int .i64 xo.sp, .int .i64 xo.rs] 30)); have G5p := Lib.hid ((G5j.out.through hbv8).alloc (.cells #[.int .i64 xo.cl, .int .i64 xo.sp, .int .i64 xo.rs] 30)); have G6p := Lib.hid ((G6j.out.through hbv8).alloc (.cells #[.int .i64 xo.cl, .int .i64 xo.sp, .int .i64 xo.rs] 30)); have G7p := Lib.hid ((G7j.out.through hbv8).alloc (.cells #[.int .i64 xo.cl, .int .i64 xo.sp, .int .i64 xo.rs] 30)); have G8p : Hid (Blk (v8.alloc (.cells #[.int .i64 xo.cl, .int .i64 xo.sp, .int .i64 xo.rs] 30)) v8.heap.size 30 [.int .i64 xo.cl, .int .i64 xo.sp, .int .i64 xo.rs]) := Lib.hid (Blk.fresh rfl rfl); clear hbv8)
        | (refine wpList_load_blk_g 25 (.tmp 12) rfl (by kernel_rfl) (v1.heap.size) rfl 25 [.int .i64 lw.sq, .int .i64 lw.tt, .slice A1 n1 c1, .slice B1 m1 d1] _ G1p.out Try.underlying25 rfl (by kernel_rfl) ?_)
        | (refine wpList_load_blk_g 25 (.tmp 14) rfl (by kernel_rfl) (v2.heap.size) rfl 25 [.int .i64 lw.sq, .int .i64 lw.tt, .slice A2 n2 c2, .slice B2 m2 d2] _ G2p.out Try.underlying25 rfl (by kernel_rfl) ?_)
        | (go_at_call 17; (with_reducible refine (HS1.out _ _ _ _ _ _ _ _ _ _ _ _ _ I1p.out I2p.out).mono ?_); rintro e xq ⟨rfl, hbq⟩; have HXq := Lib.hid (below_step HXp.out hbq); have K1q := Lib.hid (K1p.out.through hbq); have G0q := Lib.hid (G0p.out.through hbq); have I0q := Lib.hid (I0p.out.through hbq); have G3q := Lib.hid (G3p.out.through hbq); have I3q := Lib.hid (I3p.out.through hbq); have G4q := Lib.hid (G4p.out.through hbq); have I4q := Lib.hid (I4p.out.through hbq); have G5q := Lib.hid (G5p.out.through hbq); have G6q := Lib.hid (G6p.out.through hbq); have G7q := Lib.hid (G7p.out.through hbq); have G8q := Lib.hid (G8p.out.through hbq); clear hbq)
        | (refine wpList_load_blk_g 25 (.tmp 16) rfl (by kernel_rfl) (g6) rfl 25 [.int .i64 lt.sq, .int .i64 lt.tt, .slice A3 n3 c3, .slice B3 m3 d3] _ G3q.out Try.underlying25 rfl (by kernel_rfl) ?_)
        | (refine wpList_load_blk_g 25 (.tmp 17) rfl (by kernel_rfl) (g7) rfl 25 [.int .i64 lt.sq, .int .i64 lt.tt, .slice A4 n4 c4, .slice B4 m4 d4] _ G4q.out Try.underlying25 rfl (by kernel_rfl) ?_)
        | (go_at_call 17; (with_reducible refine (HS3.out _ _ _ _ _ _ _ _ _ _ _ _ _ I3q.out I4q.out).mono ?_); rintro e xr ⟨rfl, hbr⟩; have HXr := Lib.hid (below_step HXq.out hbr); have K1r := Lib.hid (K1q.out.through hbr); have G0r := Lib.hid (G0q.out.through hbr); have I0r := Lib.hid (I0q.out.through hbr); have G5r := Lib.hid (G5q.out.through hbr); have G6r := Lib.hid (G6q.out.through hbr); have G7r := Lib.hid (G7q.out.through hbr); have G8r := Lib.hid (G8q.out.through hbr); clear hbr)
        | (refine wpList_load_blk_g 27 (.tmp 18) rfl (by kernel_rfl) (v5.heap.size) rfl 27 [.string (ba xf.nm), .int .i64 xf.st, .int .i64 xf.am, .int .i64 xf.du, .string (ba xf.po), .string (ba xf.pa)] _ G5r.out Try.underlying27 rfl (by kernel_rfl) ?_)
        | (refine wpList_load_blk_g 27 (.tmp 20) rfl (by kernel_rfl) (v6.heap.size) rfl 27 [.string (ba xf.nm), .int .i64 xf.st, .int .i64 xf.am, .int .i64 xf.du, .string (ba xf.po), .string (ba xf.pa)] _ G6r.out Try.underlying27 rfl (by kernel_rfl) ?_)
        | (refine wpList_load_blk_g 30 (.tmp 22) rfl (by kernel_rfl) (v7.heap.size) rfl 30 [.int .i64 xo.cl, .int .i64 xo.sp, .int .i64 xo.rs] _ G7r.out Try.underlying30 rfl (by kernel_rfl) ?_)
        | (refine wpList_load_blk_g 30 (.tmp 24) rfl (by kernel_rfl) (v8.heap.size) rfl 30 [.int .i64 xo.cl, .int .i64 xo.sp, .int .i64 xo.rs] _ G8r.out Try.underlying30 rfl (by kernel_rfl) ?_)
        | (refine wpList_load_blk_g 25 (.tmp 5) rfl (by kernel_rfl) (w.heap.size) rfl 25 [.int .i64 l.sq, .int .i64 l.tt, .slice A n c, .slice B m d] _ K1r.out Try.underlying25 rfl (by kernel_rfl) ?_)
        | (refine wpList_load_blk_g 25 (.tmp 11) rfl (by kernel_rfl) (g0) rfl 25 [.int .i64 l.sq, .int .i64 l.tt, .slice A0 n0 c0, .slice B0 m0 d0] _ G0r.out Try.underlying25 rfl (by kernel_rfl) ?_)
        | (go_at_call 17; (with_reducible refine (HS5.out _ _ _ _ _ _ _ _ _ _ _ _ _ (HI.out.through HXr.out) I0r.out).mono ?_); rintro e xs ⟨rfl, hbs⟩; have HXs := Lib.hid (below_step HXr.out hbs); clear hbs)
        | (go_at_call 18; (with_reducible refine (HN1.out _).mono ?_); rintro e xt ⟨rfl, hbt⟩; have HXt := Lib.hid (below_step HXs.out hbt); clear hbt)
        | (go_at_call 19; (with_reducible refine (HN2.out _).mono ?_); rintro e xu ⟨rfl, rfl⟩))
      go_ret
      exact ⟨rfl, HXt.out⟩

end Go.Proofs.Ytkbeodlihmmdbaa
