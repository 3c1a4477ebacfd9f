/-
  Joined: PgB2 PgB3.
-/
import Derived.Laws.Cover1
import Derived.Test.YtfflkodgojiklaaGreatDoorKG1
namespace Go.Proofs.YtfflkodgojiklaaGreatDoor

section
open Go.RowKit
theorem ret_i {a b : Int} (h : a = b) : Ending.returned (Value.int .i64 a) = .returned (.int .i64 b) := by rw [h]

set_option maxHeartbeats 4000000 in
theorem againstL_any (x : Lt) (k : List UInt8) (gk : Nat) (w : World) (hb : Blk w gk 99 [.func (.func 55) #[] #[]]) :
    Calls Tryz.prog 96 #[.agg #[.string (ba x.nm), .int .i64 x.st, .int .i64 x.am, .int .i64 x.du, .string (ba x.po), .string (ba x.pa)], .string (ba k), .pointer (some ⟨gk, 0, none⟩)] w fun e w' => e = .returned (.int .i64 (cmpS x.nm k)) ∧ Below w.heap.size w w' := by
  have c0 := (hb.alloc (.cells #[.string (ba x.nm), .int .i64 x.st, .int .i64 x.am, .int .i64 x.du, .string (ba x.po), .string (ba x.pa)] 39)).cellAt (i := 0) rfl
  clear hb
  go_enter Tryz.func96, Tryz.ntmps96
  go_wp2_with (first
    | (go_at_call 55; (with_reducible refine (nameof_any x _).mono ?_); rintro e w1 ⟨rfl, hb1⟩; have HX1 : Hid (Below w.heap.size w w1) := Lib.hid ((below1 w _).trans (hb1.mono (by simp))); clear hb1)
    | (go_at_call 97; (with_reducible refine (cmpS_any _ _ _).mono ?_); rintro e w2 ⟨rfl, rfl⟩))
  go_ret
  exact ⟨rfl, HX1.out⟩

set_option maxHeartbeats 4000000 in
theorem asks2L_any (x : Lt) (k : List UInt8) (gk g8 g4 : Nat) (w : World) (hk : Blk w gk 99 [.func (.func 55) #[] #[]]) (h8 : Blk w g8 134 [.func (.func 96) #[] #[.pointer (some ⟨gk, 0, none⟩)]]) (h4 : Blk w g4 9 [.string (ba k)]) :
    Calls Tryz.prog 101 #[.agg #[.string (ba x.nm), .int .i64 x.st, .int .i64 x.am, .int .i64 x.du, .string (ba x.po), .string (ba x.pa)], .pointer (some ⟨g8, 0, none⟩), .pointer (some ⟨g4, 0, none⟩)] w fun e w' => e = .returned (.bool (cmpS x.nm k == 0)) ∧ Below w.heap.size w w' := by
  have c8 := (h8.alloc (.cells #[.string (ba x.nm), .int .i64 x.st, .int .i64 x.am, .int .i64 x.du, .string (ba x.po), .string (ba x.pa)] 39)).cellAt (i := 0) rfl
  have c4 := (h4.alloc (.cells #[.string (ba x.nm), .int .i64 x.st, .int .i64 x.am, .int .i64 x.du, .string (ba x.po), .string (ba x.pa)] 39)).cellAt (i := 0) rfl
  clear h8 h4
  go_enter Tryz.func101, Tryz.ntmps101
  go_wp2_with (go_at_call 96; (with_reducible refine (againstL_any x k gk _ (hk.alloc _)).mono ?_); rintro e w1 ⟨rfl, hb1⟩; have HX1 : Hid (Below w.heap.size w w1) := Lib.hid ((below1 w _).trans (hb1.mono (by simp))); clear hb1; generalize hq : cmpS x.nm k = q; have HQ := Lib.hid hq; clear hq)
  go_ret
  exact ⟨by rw [HQ.out]; rfl, HX1.out⟩

set_option maxHeartbeats 4000000 in
set_option maxRecDepth 100000 in
theorem idx2L_any (ls : List Lt) (A : Option Addr) (n c : Nat) (k : List UInt8) (gk g8 g4 : Nat) (w : World) (h : Sl w 6 A n (ls.map Lt.cells)) (hn : n ≤ 1000000) (hk : Blk w gk 99 [.func (.func 55) #[] #[]]) (h8 : Blk w g8 134 [.func (.func 96) #[] #[.pointer (some ⟨gk, 0, none⟩)]]) (h4 : Blk w g4 9 [.string (ba k)]) :
    Calls Tryz.prog 100 #[.slice A n c, .func (.func 101) #[] #[.pointer (some ⟨g8, 0, none⟩), .pointer (some ⟨g4, 0, none⟩)]] w fun e w' => e = .returned (.int .i64 (ixF (fun x : Lt => cmpS x.nm k == 0) ls)) ∧ Below w.heap.size w w' := by
  have HI := Lib.hid h
  have hlen : ls.length = n := by simpa using h.len
  have HLn := Lib.hid hlen
  have HIX := Lib.hid Tryz.ix_lt
  have hcall : ∀ (W : World) (x : Lt), x ∈ ls → Below w.heap.size w W → Calls Tryz.prog 101 #[.agg #[.string (ba x.nm), .int .i64 x.st, .int .i64 x.am, .int .i64 x.du, .string (ba x.po), .string (ba x.pa)], .pointer (some ⟨g8, 0, none⟩), .pointer (some ⟨g4, 0, none⟩)] W fun e w' => e = .returned (.bool ((fun x : Lt => cmpS x.nm k == 0) x)) ∧ Below W.heap.size W w' := fun W x _ hW => asks2L_any x k gk g8 g4 W (hk.through hW) (h8.through hW) (h4.through hW)
  have HC := Lib.hid hcall
  obtain ⟨pr, hpr⟩ : ∃ pr : Lt → Bool, (fun x : Lt => cmpS x.nm k == 0) = pr := ⟨_, rfl⟩
  rw [hpr] at HC ⊢
  clear hpr
  obtain ⟨bb, hbb⟩ : ∃ bb, ixF pr ls = bb := ⟨_, rfl⟩
  rw [hbb]
  have HBB := Lib.hid hbb
  clear h hbb hlen hcall
  go_enter Tryz.func100, Tryz.ntmps100
  go_wp2
  go_loopw [8] (fun iv wr => ∃ i : Nat, i ≤ n ∧ iv = .int .i64 i ∧ (∀ (j : Nat) (y : Lt), j < i → ls[j]? = some y → pr y = false) ∧ Below w.heap.size w wr) (fun iv _ => n - (intOf iv).toNat)
  case atStart => exact ⟨0, Nat.zero_le _, rfl, fun j y hj _ => absurd hj (Nat.not_lt_zero _), Below.refl _ _⟩
  case round =>
    obtain ⟨i, hi, rfl, hp, hx⟩ := hrel
    have HX := Lib.hid hx
    have HP := Lib.hid hp
    clear hx hp
    by_cases hlt : i < n
    · obtain ⟨g, o, x, rfl, hxi, hmem, hd, hrx⟩ := (HI.out.through HX.out).at_lt hlt
      have HRx := Lib.hid hrx
      have hix := HIX.out wr g o n c i hlt
      have hc := fun W hW => HC.out W x hmem hW
      have HXi := Lib.hid hxi
      clear hrx hd hmem hxi
      cases hq : pr x with
      | true =>
        rw [hq] at hc
        have HC2 := Lib.hid hc
        have HE : Hid (ixF pr ls = (i : Int)) := Lib.hid (by unfold ixF; rw [findIdx?_of HXi.out hq HP.out])
        clear hc hq
        go_wp2_with (first
          | (refine wpList_load_mid rfl 39 (.tmp 14) rfl g (o + i * 6) rfl [.string (ba x.nm), .int .i64 x.st, .int .i64 x.am, .int .i64 x.du, .string (ba x.po), .string (ba x.pa)] _ HRx.out Tryz.underlying39 rfl (by kernel_rfl) ?_)
          | (go_at_call 101; (with_reducible refine (HC2.out _ HX.out).mono ?_); rintro e w5 ⟨rfl, hb5⟩; have HX5 : Hid (Below w.heap.size w w5) := Lib.hid (below_step HX.out hb5); clear hb5))
        go_ret
        exact ⟨ret_i (by rw [← HBB.out, HE.out]), HX5.out⟩
      | false =>
        rw [hq] at hc
        have HC2 := Lib.hid hc
        have HQ := Lib.hid hq
        clear hc hq
        go_wp2_with (first
          | (refine wpList_load_mid rfl 39 (.tmp 14) rfl g (o + i * 6) rfl [.string (ba x.nm), .int .i64 x.st, .int .i64 x.am, .int .i64 x.du, .string (ba x.po), .string (ba x.pa)] _ HRx.out Tryz.underlying39 rfl (by kernel_rfl) ?_)
          | (go_at_call 101; (with_reducible refine (HC2.out _ HX.out).mono ?_); rintro e w5 ⟨rfl, hb5⟩; have HX5 : Hid (Below w.heap.size w w5) := Lib.hid (below_step HX.out hb5); clear hb5))
        go_roundw
        case rel => exact ⟨i + 1, by omega, by go_num, fun j y hj hy => (Nat.lt_or_ge j i).elim (fun h9 => HP.out j y h9 hy) (fun h9 => by
          have h8 : j = i := by omega
          subst h8
          rw [HXi.out] at hy
          injection hy with hy
          rw [← hy]
          exact HQ.out), HX5.out⟩
        case measure => simp [intOf]; omega
    · have HE : Hid (ixF pr ls = -1) := Lib.hid (by
        unfold ixF
        rw [findIdx?_none_of fun x hx => by
          obtain ⟨j, hj, rfl⟩ := List.mem_iff_getElem.1 hx
          exact HP.out j _ (by have := HLn.out; omega) (List.getElem?_eq_getElem hj)])
      go_wp2
      go_ret
      exact ⟨ret_i (by rw [← HBB.out, HE.out]), HX.out⟩

set_option maxHeartbeats 4000000 in
theorem asks3L_any (x : Lt) (k : List UInt8) (gk g8 g4 : Nat) (w : World) (hk : Blk w gk 99 [.func (.func 55) #[] #[]]) (h8 : Blk w g8 134 [.func (.func 96) #[] #[.pointer (some ⟨gk, 0, none⟩)]]) (h4 : Blk w g4 9 [.string (ba k)]) :
    Calls Tryz.prog 102 #[.agg #[.string (ba x.nm), .int .i64 x.st, .int .i64 x.am, .int .i64 x.du, .string (ba x.po), .string (ba x.pa)], .pointer (some ⟨g8, 0, none⟩), .pointer (some ⟨g4, 0, none⟩)] w fun e w' => e = .returned (.bool (decide (0 < cmpS x.nm k))) ∧ Below w.heap.size w w' := by
  have c8 := (h8.alloc (.cells #[.string (ba x.nm), .int .i64 x.st, .int .i64 x.am, .int .i64 x.du, .string (ba x.po), .string (ba x.pa)] 39)).cellAt (i := 0) rfl
  have c4 := (h4.alloc (.cells #[.string (ba x.nm), .int .i64 x.st, .int .i64 x.am, .int .i64 x.du, .string (ba x.po), .string (ba x.pa)] 39)).cellAt (i := 0) rfl
  clear h8 h4
  go_enter Tryz.func102, Tryz.ntmps102
  go_wp2_with (go_at_call 96; (with_reducible refine (againstL_any x k gk _ (hk.alloc _)).mono ?_); rintro e w1 ⟨rfl, hb1⟩; have HX1 : Hid (Below w.heap.size w w1) := Lib.hid ((below1 w _).trans (hb1.mono (by simp))); clear hb1; generalize hq : cmpS x.nm k = q; have HQ := Lib.hid hq; clear hq)
  go_ret
  exact ⟨by rw [HQ.out]; rfl, HX1.out⟩

set_option maxHeartbeats 4000000 in
set_option maxRecDepth 100000 in
theorem idx3L_any (ls : List Lt) (A : Option Addr) (n c : Nat) (k : List UInt8) (gk g8 g4 : Nat) (w : World) (h : Sl w 6 A n (ls.map Lt.cells)) (hn : n ≤ 1000000) (hk : Blk w gk 99 [.func (.func 55) #[] #[]]) (h8 : Blk w g8 134 [.func (.func 96) #[] #[.pointer (some ⟨gk, 0, none⟩)]]) (h4 : Blk w g4 9 [.string (ba k)]) :
    Calls Tryz.prog 100 #[.slice A n c, .func (.func 102) #[] #[.pointer (some ⟨g8, 0, none⟩), .pointer (some ⟨g4, 0, none⟩)]] w fun e w' => e = .returned (.int .i64 (ixF (fun x : Lt => decide (0 < cmpS x.nm k)) ls)) ∧ Below w.heap.size w w' := by
  have HI := Lib.hid h
  have hlen : ls.length = n := by simpa using h.len
  have HLn := Lib.hid hlen
  have HIX := Lib.hid Tryz.ix_lt
  have hcall : ∀ (W : World) (x : Lt), x ∈ ls → Below w.heap.size w W → Calls Tryz.prog 102 #[.agg #[.string (ba x.nm), .int .i64 x.st, .int .i64 x.am, .int .i64 x.du, .string (ba x.po), .string (ba x.pa)], .pointer (some ⟨g8, 0, none⟩), .pointer (some ⟨g4, 0, none⟩)] W fun e w' => e = .returned (.bool ((fun x : Lt => decide (0 < cmpS x.nm k)) x)) ∧ Below W.heap.size W w' := fun W x _ hW => asks3L_any x k gk g8 g4 W (hk.through hW) (h8.through hW) (h4.through hW)
  have HC := Lib.hid hcall
  obtain ⟨pr, hpr⟩ : ∃ pr : Lt → Bool, (fun x : Lt => decide (0 < cmpS x.nm k)) = pr := ⟨_, rfl⟩
  rw [hpr] at HC ⊢
  clear hpr
  obtain ⟨bb, hbb⟩ : ∃ bb, ixF pr ls = bb := ⟨_, rfl⟩
  rw [hbb]
  have HBB := Lib.hid hbb
  clear h hbb hlen hcall
  go_enter Tryz.func100, Tryz.ntmps100
  go_wp2
  go_loopw [8] (fun iv wr => ∃ i : Nat, i ≤ n ∧ iv = .int .i64 i ∧ (∀ (j : Nat) (y : Lt), j < i → ls[j]? = some y → pr y = false) ∧ Below w.heap.size w wr) (fun iv _ => n - (intOf iv).toNat)
  case atStart => exact ⟨0, Nat.zero_le _, rfl, fun j y hj _ => absurd hj (Nat.not_lt_zero _), Below.refl _ _⟩
  case round =>
    obtain ⟨i, hi, rfl, hp, hx⟩ := hrel
    have HX := Lib.hid hx
    have HP := Lib.hid hp
    clear hx hp
    by_cases hlt : i < n
    · obtain ⟨g, o, x, rfl, hxi, hmem, hd, hrx⟩ := (HI.out.through HX.out).at_lt hlt
      have HRx := Lib.hid hrx
      have hix := HIX.out wr g o n c i hlt
      have hc := fun W hW => HC.out W x hmem hW
      have HXi := Lib.hid hxi
      clear hrx hd hmem hxi
      cases hq : pr x with
      | true =>
        rw [hq] at hc
        have HC2 := Lib.hid hc
        have HE : Hid (ixF pr ls = (i : Int)) := Lib.hid (by unfold ixF; rw [findIdx?_of HXi.out hq HP.out])
        clear hc hq
        go_wp2_with (first
          | (refine wpList_load_mid rfl 39 (.tmp 14) rfl g (o + i * 6) rfl [.string (ba x.nm), .int .i64 x.st, .int .i64 x.am, .int .i64 x.du, .string (ba x.po), .string (ba x.pa)] _ HRx.out Tryz.underlying39 rfl (by kernel_rfl) ?_)
          | (go_at_call 102; (with_reducible refine (HC2.out _ HX.out).mono ?_); rintro e w5 ⟨rfl, hb5⟩; have HX5 : Hid (Below w.heap.size w w5) := Lib.hid (below_step HX.out hb5); clear hb5))
        go_ret
        exact ⟨ret_i (by rw [← HBB.out, HE.out]), HX5.out⟩
      | false =>
        rw [hq] at hc
        have HC2 := Lib.hid hc
        have HQ := Lib.hid hq
        clear hc hq
        go_wp2_with (first
          | (refine wpList_load_mid rfl 39 (.tmp 14) rfl g (o + i * 6) rfl [.string (ba x.nm), .int .i64 x.st, .int .i64 x.am, .int .i64 x.du, .string (ba x.po), .string (ba x.pa)] _ HRx.out Tryz.underlying39 rfl (by kernel_rfl) ?_)
          | (go_at_call 102; (with_reducible refine (HC2.out _ HX.out).mono ?_); rintro e w5 ⟨rfl, hb5⟩; have HX5 : Hid (Below w.heap.size w w5) := Lib.hid (below_step HX.out hb5); clear hb5))
        go_roundw
        case rel => exact ⟨i + 1, by omega, by go_num, fun j y hj hy => (Nat.lt_or_ge j i).elim (fun h9 => HP.out j y h9 hy) (fun h9 => by
          have h8 : j = i := by omega
          subst h8
          rw [HXi.out] at hy
          injection hy with hy
          rw [← hy]
          exact HQ.out), HX5.out⟩
        case measure => simp [intOf]; omega
    · have HE : Hid (ixF pr ls = -1) := Lib.hid (by
        unfold ixF
        rw [findIdx?_none_of fun x hx => by
          obtain ⟨j, hj, rfl⟩ := List.mem_iff_getElem.1 hx
          exact HP.out j _ (by have := HLn.out; omega) (List.getElem?_eq_getElem hj)])
      go_wp2
      go_ret
      exact ⟨ret_i (by rw [← HBB.out, HE.out]), HX.out⟩

set_option maxHeartbeats 4000000 in
theorem againstO_any (x : Oc) (k : Int) (gk : Nat) (w : World) (hb : Blk w gk 87 [.func (.func 44) #[] #[]]) :
    Calls Tryz.prog 88 #[.agg #[.int .i64 x.cl, .int .i64 x.sp, .int .i64 x.rs], .int .i64 k, .pointer (some ⟨gk, 0, none⟩)] w fun e w' => e = .returned (.int .i64 (cmpI x.cl k)) ∧ Below w.heap.size w w' := by
  have c0 := (hb.alloc (.cells #[.int .i64 x.cl, .int .i64 x.sp, .int .i64 x.rs] 56)).cellAt (i := 0) rfl
  clear hb
  go_enter Tryz.func88, Tryz.ntmps88
  go_wp2_with (first
    | (go_at_call 44; (with_reducible refine (clientof_any x _).mono ?_); rintro e w1 ⟨rfl, hb1⟩; have HX1 : Hid (Below w.heap.size w w1) := Lib.hid ((below1 w _).trans (hb1.mono (by simp))); clear hb1)
    | (go_at_call 89; (with_reducible refine (cmpI_any _ _ _).mono ?_); rintro e w2 ⟨rfl, rfl⟩))
  go_ret
  exact ⟨rfl, HX1.out⟩

set_option maxHeartbeats 4000000 in
theorem asks2O_any (x : Oc) (k : Int) (gk g8 g4 : Nat) (w : World) (hk : Blk w gk 87 [.func (.func 44) #[] #[]]) (h8 : Blk w g8 126 [.func (.func 88) #[] #[.pointer (some ⟨gk, 0, none⟩)]]) (h4 : Blk w g4 3 [.int .i64 k]) :
    Calls Tryz.prog 93 #[.agg #[.int .i64 x.cl, .int .i64 x.sp, .int .i64 x.rs], .pointer (some ⟨g8, 0, none⟩), .pointer (some ⟨g4, 0, none⟩)] w fun e w' => e = .returned (.bool (cmpI x.cl k == 0)) ∧ Below w.heap.size w w' := by
  have c8 := (h8.alloc (.cells #[.int .i64 x.cl, .int .i64 x.sp, .int .i64 x.rs] 56)).cellAt (i := 0) rfl
  have c4 := (h4.alloc (.cells #[.int .i64 x.cl, .int .i64 x.sp, .int .i64 x.rs] 56)).cellAt (i := 0) rfl
  clear h8 h4
  go_enter Tryz.func93, Tryz.ntmps93
  go_wp2_with (go_at_call 88; (with_reducible refine (againstO_any x k gk _ (hk.alloc _)).mono ?_); rintro e w1 ⟨rfl, hb1⟩; have HX1 : Hid (Below w.heap.size w w1) := Lib.hid ((below1 w _).trans (hb1.mono (by simp))); clear hb1; generalize hq : cmpI x.cl k = q; have HQ := Lib.hid hq; clear hq)
  go_ret
  exact ⟨by rw [HQ.out]; rfl, HX1.out⟩

set_option maxHeartbeats 4000000 in
set_option maxRecDepth 100000 in
theorem idx2O_any (ls : List Oc) (A : Option Addr) (n c : Nat) (k : Int) (gk g8 g4 : Nat) (w : World) (h : Sl w 3 A n (ls.map Oc.cells)) (hn : n ≤ 1000000) (hk : Blk w gk 87 [.func (.func 44) #[] #[]]) (h8 : Blk w g8 126 [.func (.func 88) #[] #[.pointer (some ⟨gk, 0, none⟩)]]) (h4 : Blk w g4 3 [.int .i64 k]) :
    Calls Tryz.prog 92 #[.slice A n c, .func (.func 93) #[] #[.pointer (some ⟨g8, 0, none⟩), .pointer (some ⟨g4, 0, none⟩)]] w fun e w' => e = .returned (.int .i64 (ixF (fun x : Oc => cmpI x.cl k == 0) ls)) ∧ Below w.heap.size w w' := by
  have HI := Lib.hid h
  have hlen : ls.length = n := by simpa using h.len
  have HLn := Lib.hid hlen
  have HIX := Lib.hid Tryz.ix_oc
  have hcall : ∀ (W : World) (x : Oc), x ∈ ls → Below w.heap.size w W → Calls Tryz.prog 93 #[.agg #[.int .i64 x.cl, .int .i64 x.sp, .int .i64 x.rs], .pointer (some ⟨g8, 0, none⟩), .pointer (some ⟨g4, 0, none⟩)] W fun e w' => e = .returned (.bool ((fun x : Oc => cmpI x.cl k == 0) x)) ∧ Below W.heap.size W w' := fun W x _ hW => asks2O_any x k gk g8 g4 W (hk.through hW) (h8.through hW) (h4.through hW)
  have HC := Lib.hid hcall
  obtain ⟨pr, hpr⟩ : ∃ pr : Oc → Bool, (fun x : Oc => cmpI x.cl k == 0) = pr := ⟨_, rfl⟩
  rw [hpr] at HC ⊢
  clear hpr
  obtain ⟨bb, hbb⟩ : ∃ bb, ixF pr ls = bb := ⟨_, rfl⟩
  rw [hbb]
  have HBB := Lib.hid hbb
  clear h hbb hlen hcall
  go_enter Tryz.func92, Tryz.ntmps92
  go_wp2
  go_loopw [8] (fun iv wr => ∃ i : Nat, i ≤ n ∧ iv = .int .i64 i ∧ (∀ (j : Nat) (y : Oc), j < i → ls[j]? = some y → pr y = false) ∧ Below w.heap.size w wr) (fun iv _ => n - (intOf iv).toNat)
  case atStart => exact ⟨0, Nat.zero_le _, rfl, fun j y hj _ => absurd hj (Nat.not_lt_zero _), Below.refl _ _⟩
  case round =>
    obtain ⟨i, hi, rfl, hp, hx⟩ := hrel
    have HX := Lib.hid hx
    have HP := Lib.hid hp
    clear hx hp
    by_cases hlt : i < n
    · obtain ⟨g, o, x, rfl, hxi, hmem, hd, hrx⟩ := (HI.out.through HX.out).at_oc hlt
      have HRx := Lib.hid hrx
      have hix := HIX.out wr g o n c i hlt
      have hc := fun W hW => HC.out W x hmem hW
      have HXi := Lib.hid hxi
      clear hrx hd hmem hxi
      cases hq : pr x with
      | true =>
        rw [hq] at hc
        have HC2 := Lib.hid hc
        have HE : Hid (ixF pr ls = (i : Int)) := Lib.hid (by unfold ixF; rw [findIdx?_of HXi.out hq HP.out])
        clear hc hq
        go_wp2_with (first
          | (refine wpList_load_mid rfl 56 (.tmp 14) rfl g (o + i * 3) rfl [.int .i64 x.cl, .int .i64 x.sp, .int .i64 x.rs] _ HRx.out Tryz.underlying56 rfl (by kernel_rfl) ?_)
          | (go_at_call 93; (with_reducible refine (HC2.out _ HX.out).mono ?_); rintro e w5 ⟨rfl, hb5⟩; have HX5 : Hid (Below w.heap.size w w5) := Lib.hid (below_step HX.out hb5); clear hb5))
        go_ret
        exact ⟨ret_i (by rw [← HBB.out, HE.out]), HX5.out⟩
      | false =>
        rw [hq] at hc
        have HC2 := Lib.hid hc
        have HQ := Lib.hid hq
        clear hc hq
        go_wp2_with (first
          | (refine wpList_load_mid rfl 56 (.tmp 14) rfl g (o + i * 3) rfl [.int .i64 x.cl, .int .i64 x.sp, .int .i64 x.rs] _ HRx.out Tryz.underlying56 rfl (by kernel_rfl) ?_)
          | (go_at_call 93; (with_reducible refine (HC2.out _ HX.out).mono ?_); rintro e w5 ⟨rfl, hb5⟩; have HX5 : Hid (Below w.heap.size w w5) := Lib.hid (below_step HX.out hb5); clear hb5))
        go_roundw
        case rel => exact ⟨i + 1, by omega, by go_num, fun j y hj hy => (Nat.lt_or_ge j i).elim (fun h9 => HP.out j y h9 hy) (fun h9 => by
          have h8 : j = i := by omega
          subst h8
          rw [HXi.out] at hy
          injection hy with hy
          rw [← hy]
          exact HQ.out), HX5.out⟩
        case measure => simp [intOf]; omega
    · have HE : Hid (ixF pr ls = -1) := Lib.hid (by
        unfold ixF
        rw [findIdx?_none_of fun x hx => by
          obtain ⟨j, hj, rfl⟩ := List.mem_iff_getElem.1 hx
          exact HP.out j _ (by have := HLn.out; omega) (List.getElem?_eq_getElem hj)])
      go_wp2
      go_ret
      exact ⟨ret_i (by rw [← HBB.out, HE.out]), HX.out⟩

set_option maxHeartbeats 4000000 in
theorem asks3O_any (x : Oc) (k : Int) (gk g8 g4 : Nat) (w : World) (hk : Blk w gk 87 [.func (.func 44) #[] #[]]) (h8 : Blk w g8 126 [.func (.func 88) #[] #[.pointer (some ⟨gk, 0, none⟩)]]) (h4 : Blk w g4 3 [.int .i64 k]) :
    Calls Tryz.prog 94 #[.agg #[.int .i64 x.cl, .int .i64 x.sp, .int .i64 x.rs], .pointer (some ⟨g8, 0, none⟩), .pointer (some ⟨g4, 0, none⟩)] w fun e w' => e = .returned (.bool (decide (0 < cmpI x.cl k))) ∧ Below w.heap.size w w' := by
  have c8 := (h8.alloc (.cells #[.int .i64 x.cl, .int .i64 x.sp, .int .i64 x.rs] 56)).cellAt (i := 0) rfl
  have c4 := (h4.alloc (.cells #[.int .i64 x.cl, .int .i64 x.sp, .int .i64 x.rs] 56)).cellAt (i := 0) rfl
  clear h8 h4
  go_enter Tryz.func94, Tryz.ntmps94
  go_wp2_with (go_at_call 88; (with_reducible refine (againstO_any x k gk _ (hk.alloc _)).mono ?_); rintro e w1 ⟨rfl, hb1⟩; have HX1 : Hid (Below w.heap.size w w1) := Lib.hid ((below1 w _).trans (hb1.mono (by simp))); clear hb1; generalize hq : cmpI x.cl k = q; have HQ := Lib.hid hq; clear hq)
  go_ret
  exact ⟨by rw [HQ.out]; rfl, HX1.out⟩

set_option maxHeartbeats 4000000 in
set_option maxRecDepth 100000 in
theorem idx3O_any (ls : List Oc) (A : Option Addr) (n c : Nat) (k : Int) (gk g8 g4 : Nat) (w : World) (h : Sl w 3 A n (ls.map Oc.cells)) (hn : n ≤ 1000000) (hk : Blk w gk 87 [.func (.func 44) #[] #[]]) (h8 : Blk w g8 126 [.func (.func 88) #[] #[.pointer (some ⟨gk, 0, none⟩)]]) (h4 : Blk w g4 3 [.int .i64 k]) :
    Calls Tryz.prog 92 #[.slice A n c, .func (.func 94) #[] #[.pointer (some ⟨g8, 0, none⟩), .pointer (some ⟨g4, 0, none⟩)]] w fun e w' => e = .returned (.int .i64 (ixF (fun x : Oc => decide (0 < cmpI x.cl k)) ls)) ∧ Below w.heap.size w w' := by
  have HI := Lib.hid h
  have hlen : ls.length = n := by simpa using h.len
  have HLn := Lib.hid hlen
  have HIX := Lib.hid Tryz.ix_oc
  have hcall : ∀ (W : World) (x : Oc), x ∈ ls → Below w.heap.size w W → Calls Tryz.prog 94 #[.agg #[.int .i64 x.cl, .int .i64 x.sp, .int .i64 x.rs], .pointer (some ⟨g8, 0, none⟩), .pointer (some ⟨g4, 0, none⟩)] W fun e w' => e = .returned (.bool ((fun x : Oc => decide (0 < cmpI x.cl k)) x)) ∧ Below W.heap.size W w' := fun W x _ hW => asks3O_any x k gk g8 g4 W (hk.through hW) (h8.through hW) (h4.through hW)
  have HC := Lib.hid hcall
  obtain ⟨pr, hpr⟩ : ∃ pr : Oc → Bool, (fun x : Oc => decide (0 < cmpI x.cl k)) = pr := ⟨_, rfl⟩
  rw [hpr] at HC ⊢
  clear hpr
  obtain ⟨bb, hbb⟩ : ∃ bb, ixF pr ls = bb := ⟨_, rfl⟩
  rw [hbb]
  have HBB := Lib.hid hbb
  clear h hbb hlen hcall
  go_enter Tryz.func92, Tryz.ntmps92
  go_wp2
  go_loopw [8] (fun iv wr => ∃ i : Nat, i ≤ n ∧ iv = .int .i64 i ∧ (∀ (j : Nat) (y : Oc), j < i → ls[j]? = some y → pr y = false) ∧ Below w.heap.size w wr) (fun iv _ => n - (intOf iv).toNat)
  case atStart => exact ⟨0, Nat.zero_le _, rfl, fun j y hj _ => absurd hj (Nat.not_lt_zero _), Below.refl _ _⟩
  case round =>
    obtain ⟨i, hi, rfl, hp, hx⟩ := hrel
    have HX := Lib.hid hx
    have HP := Lib.hid hp
    clear hx hp
    by_cases hlt : i < n
    · obtain ⟨g, o, x, rfl, hxi, hmem, hd, hrx⟩ := (HI.out.through HX.out).at_oc hlt
      have HRx := Lib.hid hrx
      have hix := HIX.out wr g o n c i hlt
      have hc := fun W hW => HC.out W x hmem hW
      have HXi := Lib.hid hxi
      clear hrx hd hmem hxi
      cases hq : pr x with
      | true =>
        rw [hq] at hc
        have HC2 := Lib.hid hc
        have HE : Hid (ixF pr ls = (i : Int)) := Lib.hid (by unfold ixF; rw [findIdx?_of HXi.out hq HP.out])
        clear hc hq
        go_wp2_with (first
          | (refine wpList_load_mid rfl 56 (.tmp 14) rfl g (o + i * 3) rfl [.int .i64 x.cl, .int .i64 x.sp, .int .i64 x.rs] _ HRx.out Tryz.underlying56 rfl (by kernel_rfl) ?_)
          | (go_at_call 94; (with_reducible refine (HC2.out _ HX.out).mono ?_); rintro e w5 ⟨rfl, hb5⟩; have HX5 : Hid (Below w.heap.size w w5) := Lib.hid (below_step HX.out hb5); clear hb5))
        go_ret
        exact ⟨ret_i (by rw [← HBB.out, HE.out]), HX5.out⟩
      | false =>
        rw [hq] at hc
        have HC2 := Lib.hid hc
        have HQ := Lib.hid hq
        clear hc hq
        go_wp2_with (first
          | (refine wpList_load_mid rfl 56 (.tmp 14) rfl g (o + i * 3) rfl [.int .i64 x.cl, .int .i64 x.sp, .int .i64 x.rs] _ HRx.out Tryz.underlying56 rfl (by kernel_rfl) ?_)
          | (go_at_call 94; (with_reducible refine (HC2.out _ HX.out).mono ?_); rintro e w5 ⟨rfl, hb5⟩; have HX5 : Hid (Below w.heap.size w w5) := Lib.hid (below_step HX.out hb5); clear hb5))
        go_roundw
        case rel => exact ⟨i + 1, by omega, by go_num, fun j y hj hy => (Nat.lt_or_ge j i).elim (fun h9 => HP.out j y h9 hy) (fun h9 => by
          have h8 : j = i := by omega
          subst h8
          rw [HXi.out] at hy
          injection hy with hy
          rw [← hy]
          exact HQ.out), HX5.out⟩
        case measure => simp [intOf]; omega
    · have HE : Hid (ixF pr ls = -1) := Lib.hid (by
        unfold ixF
        rw [findIdx?_none_of fun x hx => by
          obtain ⟨j, hj, rfl⟩ := List.mem_iff_getElem.1 hx
          exact HP.out j _ (by have := HLn.out; omega) (List.getElem?_eq_getElem hj)])
      go_wp2
      go_ret
      exact ⟨ret_i (by rw [← HBB.out, HE.out]), HX.out⟩
end

section
open Go.RowKit
theorem half_lt {i j : Nat} (h : i < j) : i ≤ (i + j) / 2 ∧ (i + j) / 2 < j := by omega
theorem ret_ib {a b : Int} {p q : Bool} (h : a = b) (h' : p = q) : Ending.returned (.tuple #[Value.int .i64 a, .bool p]) = .returned (.tuple #[.int .i64 b, .bool q]) := by rw [h, h']
theorem shr_one (s : Nat) (k : IntKind) (w : World) : (Op.shift .shr .u64 (s : Int) k 1).run Tryz.prog w = .ok (.int .u64 ((s / 2 : Nat) : Int)) w := by
  rw [shift_shr_any _ _ _ _ (by decide)]
  show Result.ok _ w = _
  congr 2
theorem wpList_load_mid_g {P : Program} {ops : Array Oper} {rest : List Oper} {op : Oper} {a : Act} {w : World} {Q : Exit → Act → World → Prop} (ty : TypeId) (x : Operand) (ho : op.op = .load ty x) (hw : Region.wanted op (yielded ops a.tmps) = true)
    (b o : Nat) (hx : a.eval x = .pointer (some ⟨b, o, none⟩)) (cs : List Value) (d : TypeDesc) (hc : w.rangeAt b o cs)
    (hu : P.underlying ty = some d) (hd : d.isRow = true) (hi : (P.info? ty).map (·.size) = some cs.length)
    (h : wpList P ops Q rest (a.put op.dst (.agg cs.toArray)) w) : wpList P ops Q (op :: rest) a w := by
  rw [wpList, if_pos hw]
  exact .inl (wp_load_mid ty x ho b o hx cs d hc hu hd hi h)

set_option maxHeartbeats 8000000 in
set_option maxRecDepth 100000 in
theorem halveL_any (ls : List Lt) (A : Option Addr) (n c : Nat) (k : List UInt8) (gk : Nat) (w : World) (h : Sl w 6 A n (ls.map Lt.cells)) (hn : n ≤ 1000000) (hk : Blk w gk 99 [.func (.func 55) #[] #[]]) (hr : ris (fun a b : Lt => ltS a.nm b.nm) ls = true) :
    Calls Tryz.prog 99 #[.slice A n c, .string (ba k), .func (.func 96) #[] #[.pointer (some ⟨gk, 0, none⟩)]] w fun e w' => e = .returned (.tuple #[.int .i64 ((plc (fun x : Lt => cmpS x.nm k) ls).1 : Nat), .bool (plc (fun x : Lt => cmpS x.nm k) ls).2]) ∧ Below w.heap.size w w' := by
  have HI := Lib.hid h
  have hlen : ls.length = n := by simpa using h.len
  have HLn := Lib.hid hlen
  have HIX := Lib.hid Tryz.ix_lt
  have hcall : ∀ (W : World) (x : Lt), Below w.heap.size w W → Calls Tryz.prog 96 #[.agg #[.string (ba x.nm), .int .i64 x.st, .int .i64 x.am, .int .i64 x.du, .string (ba x.po), .string (ba x.pa)], .string (ba k), .pointer (some ⟨gk, 0, none⟩)] W fun e w' => e = .returned (.int .i64 ((fun x : Lt => cmpS x.nm k) x)) ∧ Below W.heap.size W w' := fun W x hW => againstL_any x k gk W (hk.through hW)
  have HC := Lib.hid hcall
  have hmono := mono_lt hr k
  obtain ⟨cf, hcf⟩ : ∃ cf : Lt → Int, (fun x : Lt => cmpS x.nm k) = cf := ⟨_, rfl⟩
  have hmono2 : ∀ (j k : Nat) (y z : Lt), j < k → ls[j]? = some y → ls[k]? = some z → 0 ≤ cf y → 0 < cf z := by rw [← hcf]; exact hmono
  have HM := Lib.hid hmono2
  rw [hcf] at HC ⊢
  clear hcf hmono hmono2
  obtain ⟨bb, hbb⟩ : ∃ bb, plc cf ls = bb := ⟨_, rfl⟩
  rw [hbb]
  have HBB := Lib.hid hbb
  clear h hbb hlen hcall hk hr
  go_enter Tryz.func99, Tryz.ntmps99
  go_wp2
  go_loopw [9, 10] (fun iv jv wr => ∃ i j : Nat, i ≤ j ∧ j ≤ n ∧ iv = .int .i64 i ∧ jv = .int .i64 j ∧ (∀ (q : Nat) (y : Lt), q < i → ls[q]? = some y → cf y < 0) ∧ (∀ (q : Nat) (y : Lt), j ≤ q → ls[q]? = some y → 0 ≤ cf y) ∧ Below w.heap.size w wr) (fun iv jv _ => (intOf jv - intOf iv).toNat)
  case atStart => exact ⟨0, n, Nat.zero_le _, Nat.le_refl _, rfl, rfl, fun j y hj _ => absurd hj (Nat.not_lt_zero _), fun q y hq hy => absurd (List.getElem?_eq_some_iff.1 hy).1 (by have := HLn.out; omega), Below.refl _ _⟩
  case round =>
    obtain ⟨i, j, hij, hj, rfl, rfl, hlo, hhi, hx⟩ := hrel
    have HX := Lib.hid hx
    have HLo := Lib.hid hlo
    have HHi := Lib.hid hhi
    clear hx hlo hhi
    by_cases hlt : i < j
    · obtain ⟨hh1, hh2⟩ := half_lt hlt
      have hsh := fun (kk : IntKind) (W : World) => shr_one (i + j) kk W
      have hw1 : IntKind.i64.wrap ((i : Int) + (j : Int)) = ((i + j : Nat) : Int) := by rw [IntWalk.i64_in _ (by omega)]; simp
      have hw2 : IntKind.u64.wrap ((i + j : Nat) : Int) = ((i + j : Nat) : Int) := IntWalk.u64_in _ (by omega)
      have hs2 : ((i + j : Nat) : Int) / 2 = (((i + j) / 2 : Nat) : Int) := by omega
      have hsb : i + j ≤ 2000000 := by omega
      generalize i + j = s at *
      generalize s / 2 = m at *
      have hmb : m ≤ 1000000 := by omega
      have hw5 : Go.RowKit.wrap64 (m : Int) = (m : Int) := IntWalk.wrap64_in _ (by omega)
      have hw3 : IntKind.i64.wrap (m : Int) = (m : Int) := IntWalk.i64_in _ (by omega)
      obtain ⟨g, o, x, rfl, hxi, hmem, hd, hrx⟩ := (HI.out.through HX.out).at_lt (i := m) (by omega)
      have HRx := Lib.hid hrx
      have hix := HIX.out wr g o n c m (by omega)
      have hc := fun W hW => HC.out W x hW
      have HXi := Lib.hid hxi
      clear hrx hd hmem hxi
      obtain ⟨v, hv⟩ : ∃ v, cf x = v := ⟨_, rfl⟩
      rw [hv] at hc
      have HC2 := Lib.hid hc
      have HV := Lib.hid hv
      clear hc hv
      by_cases hq : v < 0
      · go_wp2_with (first
        | (refine wpList_load_mid rfl 39 (.tmp 27) rfl g (o + m * 6) rfl [.string (ba x.nm), .int .i64 x.st, .int .i64 x.am, .int .i64 x.du, .string (ba x.po), .string (ba x.pa)] _ HRx.out Tryz.underlying39 rfl (by kernel_rfl) ?_)
        | (go_at_call 96; (with_reducible refine (HC2.out _ HX.out).mono ?_); rintro e w5 ⟨rfl, hb5⟩; have HX5 : Hid (Below w.heap.size w w5) := Lib.hid (below_step HX.out hb5); clear hb5))
        go_roundw
        case rel => exact ⟨m + 1, j, by omega, hj, by go_num, rfl, fun q y hq2 hy => (Nat.lt_or_ge q m).elim (fun h9 => by
          rcases Int.lt_or_le (cf y) 0 with h8 | h8
          · exact h8
          · have h7 := HM.out q m y x h9 hy HXi.out h8
            rw [HV.out] at h7
            omega) (fun h9 => by
          have h8 : q = m := by omega
          subst h8
          rw [HXi.out] at hy
          injection hy with hy
          rw [← hy, HV.out]
          exact hq), HHi.out, HX5.out⟩
        case measure => simp [intOf]; omega
      · have hq0 : decide (v < 0) = false := by simpa using hq
        go_wp2_with (first
        | (refine wpList_load_mid rfl 39 (.tmp 27) rfl g (o + m * 6) rfl [.string (ba x.nm), .int .i64 x.st, .int .i64 x.am, .int .i64 x.du, .string (ba x.po), .string (ba x.pa)] _ HRx.out Tryz.underlying39 rfl (by kernel_rfl) ?_)
        | (go_at_call 96; (with_reducible refine (HC2.out _ HX.out).mono ?_); rintro e w5 ⟨rfl, hb5⟩; have HX5 : Hid (Below w.heap.size w w5) := Lib.hid (below_step HX.out hb5); clear hb5))
        go_roundw
        case rel => exact ⟨i, m, hh1, by omega, rfl, rfl, HLo.out, fun q y hq2 hy => (Nat.lt_or_ge m q).elim (fun h9 => Int.le_of_lt (HM.out m q x y h9 HXi.out hy (by rw [HV.out]; omega))) (fun h9 => by
          have h8 : q = m := by omega
          subst h8
          rw [HXi.out] at hy
          injection hy with hy
          rw [← hy, HV.out]
          omega), HX5.out⟩
        case measure => simp [intOf]; omega
    · have hji : j = i := by omega
      subst hji
      have hp := plc_cut HM.out HLo.out HHi.out (by have := HLn.out; omega)
      rw [HBB.out] at hp
      by_cases hlt2 : j < n
      · obtain ⟨g, o, x, rfl, hxi, hmem, hd, hrx⟩ := (HI.out.through HX.out).at_lt hlt2
        rw [hxi] at hp
        have HRx := Lib.hid hrx
        have hix := HIX.out wr g o n c j hlt2
        have hc := fun W hW => HC.out W x hW
        clear hrx hd hmem hxi
        obtain ⟨v, hv⟩ : ∃ v, cf x = v := ⟨_, rfl⟩
        rw [hv] at hc
        simp only [hv] at hp
        have HC2 := Lib.hid hc
        have HP := Lib.hid hp
        clear hc hv hp
        go_wp2_with (first
        | (refine wpList_load_mid_g 39 (.tmp 43) rfl (by kernel_rfl) g (o + j * 6) rfl [.string (ba x.nm), .int .i64 x.st, .int .i64 x.am, .int .i64 x.du, .string (ba x.po), .string (ba x.pa)] _ HRx.out Tryz.underlying39 rfl (by kernel_rfl) ?_)
        | (go_at_call 96; (with_reducible refine (HC2.out _ HX.out).mono ?_); rintro e w5 ⟨rfl, hb5⟩; have HX5 : Hid (Below w.heap.size w w5) := Lib.hid (below_step HX.out hb5); clear hb5))
        go_ret2
        exact ⟨by rw [HP.out]; rfl, HX5.out⟩
      · have hx0 : ls[j]? = none := List.getElem?_eq_none (by have := HLn.out; omega)
        rw [hx0] at hp
        have HP := Lib.hid hp
        clear hp hx0
        go_wp2
        go_ret2
        exact ⟨by rw [HP.out]; rfl, HX.out⟩

set_option maxHeartbeats 8000000 in
set_option maxRecDepth 100000 in
theorem halveO_any (ls : List Oc) (A : Option Addr) (n c : Nat) (k : Int) (gk : Nat) (w : World) (h : Sl w 3 A n (ls.map Oc.cells)) (hn : n ≤ 1000000) (hk : Blk w gk 87 [.func (.func 44) #[] #[]]) (hr : ris (fun a b : Oc => decide (a.cl < b.cl)) ls = true) :
    Calls Tryz.prog 91 #[.slice A n c, .int .i64 k, .func (.func 88) #[] #[.pointer (some ⟨gk, 0, none⟩)]] w fun e w' => e = .returned (.tuple #[.int .i64 ((plc (fun x : Oc => cmpI x.cl k) ls).1 : Nat), .bool (plc (fun x : Oc => cmpI x.cl k) ls).2]) ∧ Below w.heap.size w w' := by
  have HI := Lib.hid h
  have hlen : ls.length = n := by simpa using h.len
  have HLn := Lib.hid hlen
  have HIX := Lib.hid Tryz.ix_oc
  have hcall : ∀ (W : World) (x : Oc), Below w.heap.size w W → Calls Tryz.prog 88 #[.agg #[.int .i64 x.cl, .int .i64 x.sp, .int .i64 x.rs], .int .i64 k, .pointer (some ⟨gk, 0, none⟩)] W fun e w' => e = .returned (.int .i64 ((fun x : Oc => cmpI x.cl k) x)) ∧ Below W.heap.size W w' := fun W x hW => againstO_any x k gk W (hk.through hW)
  have HC := Lib.hid hcall
  have hmono := mono_oc hr k
  obtain ⟨cf, hcf⟩ : ∃ cf : Oc → Int, (fun x : Oc => cmpI x.cl k) = cf := ⟨_, rfl⟩
  have hmono2 : ∀ (j k : Nat) (y z : Oc), j < k → ls[j]? = some y → ls[k]? = some z → 0 ≤ cf y → 0 < cf z := by rw [← hcf]; exact hmono
  have HM := Lib.hid hmono2
  rw [hcf] at HC ⊢
  clear hcf hmono hmono2
  obtain ⟨bb, hbb⟩ : ∃ bb, plc cf ls = bb := ⟨_, rfl⟩
  rw [hbb]
  have HBB := Lib.hid hbb
  clear h hbb hlen hcall hk hr
  go_enter Tryz.func91, Tryz.ntmps91
  go_wp2
  go_loopw [9, 10] (fun iv jv wr => ∃ i j : Nat, i ≤ j ∧ j ≤ n ∧ iv = .int .i64 i ∧ jv = .int .i64 j ∧ (∀ (q : Nat) (y : Oc), q < i → ls[q]? = some y → cf y < 0) ∧ (∀ (q : Nat) (y : Oc), j ≤ q → ls[q]? = some y → 0 ≤ cf y) ∧ Below w.heap.size w wr) (fun iv jv _ => (intOf jv - intOf iv).toNat)
  case atStart => exact ⟨0, n, Nat.zero_le _, Nat.le_refl _, rfl, rfl, fun j y hj _ => absurd hj (Nat.not_lt_zero _), fun q y hq hy => absurd (List.getElem?_eq_some_iff.1 hy).1 (by have := HLn.out; omega), Below.refl _ _⟩
  case round =>
    obtain ⟨i, j, hij, hj, rfl, rfl, hlo, hhi, hx⟩ := hrel
    have HX := Lib.hid hx
    have HLo := Lib.hid hlo
    have HHi := Lib.hid hhi
    clear hx hlo hhi
    by_cases hlt : i < j
    · obtain ⟨hh1, hh2⟩ := half_lt hlt
      have hsh := fun (kk : IntKind) (W : World) => shr_one (i + j) kk W
      have hw1 : IntKind.i64.wrap ((i : Int) + (j : Int)) = ((i + j : Nat) : Int) := by rw [IntWalk.i64_in _ (by omega)]; simp
      have hw2 : IntKind.u64.wrap ((i + j : Nat) : Int) = ((i + j : Nat) : Int) := IntWalk.u64_in _ (by omega)
      have hs2 : ((i + j : Nat) : Int) / 2 = (((i + j) / 2 : Nat) : Int) := by omega
      have hsb : i + j ≤ 2000000 := by omega
      generalize i + j = s at *
      generalize s / 2 = m at *
      have hmb : m ≤ 1000000 := by omega
      have hw5 : Go.RowKit.wrap64 (m : Int) = (m : Int) := IntWalk.wrap64_in _ (by omega)
      have hw3 : IntKind.i64.wrap (m : Int) = (m : Int) := IntWalk.i64_in _ (by omega)
      obtain ⟨g, o, x, rfl, hxi, hmem, hd, hrx⟩ := (HI.out.through HX.out).at_oc (i := m) (by omega)
      have HRx := Lib.hid hrx
      have hix := HIX.out wr g o n c m (by omega)
      have hc := fun W hW => HC.out W x hW
      have HXi := Lib.hid hxi
      clear hrx hd hmem hxi
      obtain ⟨v, hv⟩ : ∃ v, cf x = v := ⟨_, rfl⟩
      rw [hv] at hc
      have HC2 := Lib.hid hc
      have HV := Lib.hid hv
      clear hc hv
      by_cases hq : v < 0
      · go_wp2_with (first
        | (refine wpList_load_mid rfl 56 (.tmp 27) rfl g (o + m * 3) rfl [.int .i64 x.cl, .int .i64 x.sp, .int .i64 x.rs] _ HRx.out Tryz.underlying56 rfl (by kernel_rfl) ?_)
        | (go_at_call 88; (with_reducible refine (HC2.out _ HX.out).mono ?_); rintro e w5 ⟨rfl, hb5⟩; have HX5 : Hid (Below w.heap.size w w5) := Lib.hid (below_step HX.out hb5); clear hb5))
        go_roundw
        case rel => exact ⟨m + 1, j, by omega, hj, by go_num, rfl, fun q y hq2 hy => (Nat.lt_or_ge q m).elim (fun h9 => by
          rcases Int.lt_or_le (cf y) 0 with h8 | h8
          · exact h8
          · have h7 := HM.out q m y x h9 hy HXi.out h8
            rw [HV.out] at h7
            omega) (fun h9 => by
          have h8 : q = m := by omega
          subst h8
          rw [HXi.out] at hy
          injection hy with hy
          rw [← hy, HV.out]
          exact hq), HHi.out, HX5.out⟩
        case measure => simp [intOf]; omega
      · have hq0 : decide (v < 0) = false := by simpa using hq
        go_wp2_with (first
        | (refine wpList_load_mid rfl 56 (.tmp 27) rfl g (o + m * 3) rfl [.int .i64 x.cl, .int .i64 x.sp, .int .i64 x.rs] _ HRx.out Tryz.underlying56 rfl (by kernel_rfl) ?_)
        | (go_at_call 88; (with_reducible refine (HC2.out _ HX.out).mono ?_); rintro e w5 ⟨rfl, hb5⟩; have HX5 : Hid (Below w.heap.size w w5) := Lib.hid (below_step HX.out hb5); clear hb5))
        go_roundw
        case rel => exact ⟨i, m, hh1, by omega, rfl, rfl, HLo.out, fun q y hq2 hy => (Nat.lt_or_ge m q).elim (fun h9 => Int.le_of_lt (HM.out m q x y h9 HXi.out hy (by rw [HV.out]; omega))) (fun h9 => by
          have h8 : q = m := by omega
          subst h8
          rw [HXi.out] at hy
          injection hy with hy
          rw [← hy, HV.out]
          omega), HX5.out⟩
        case measure => simp [intOf]; omega
    · have hji : j = i := by omega
      subst hji
      have hp := plc_cut HM.out HLo.out HHi.out (by have := HLn.out; omega)
      rw [HBB.out] at hp
      by_cases hlt2 : j < n
      · obtain ⟨g, o, x, rfl, hxi, hmem, hd, hrx⟩ := (HI.out.through HX.out).at_oc hlt2
        rw [hxi] at hp
        have HRx := Lib.hid hrx
        have hix := HIX.out wr g o n c j hlt2
        have hc := fun W hW => HC.out W x hW
        clear hrx hd hmem hxi
        obtain ⟨v, hv⟩ : ∃ v, cf x = v := ⟨_, rfl⟩
        rw [hv] at hc
        simp only [hv] at hp
        have HC2 := Lib.hid hc
        have HP := Lib.hid hp
        clear hc hv hp
        go_wp2_with (first
        | (refine wpList_load_mid_g 56 (.tmp 43) rfl (by kernel_rfl) g (o + j * 3) rfl [.int .i64 x.cl, .int .i64 x.sp, .int .i64 x.rs] _ HRx.out Tryz.underlying56 rfl (by kernel_rfl) ?_)
        | (go_at_call 88; (with_reducible refine (HC2.out _ HX.out).mono ?_); rintro e w5 ⟨rfl, hb5⟩; have HX5 : Hid (Below w.heap.size w w5) := Lib.hid (below_step HX.out hb5); clear hb5))
        go_ret2
        exact ⟨by rw [HP.out]; rfl, HX5.out⟩
      · have hx0 : ls[j]? = none := List.getElem?_eq_none (by have := HLn.out; omega)
        rw [hx0] at hp
        have HP := Lib.hid hp
        clear hp hx0
        go_wp2
        go_ret2
        exact ⟨by rw [HP.out]; rfl, HX.out⟩
end

end Go.Proofs.YtfflkodgojiklaaGreatDoor
