/-
  The closures of the program's place, and IndexFunc with each of them; for letters and for outcomes.
-/
import Derived.Test.YtkbeodlihmmdbaaPgP
import Derived.Laws.Cover1
namespace Go.Proofs.Ytkbeodlihmmdbaa
open Go.RowKit

theorem ret_i {a b : Int} (h : a = b) : Ending.returned (Value.int .i64 a) = .returned (.int .i64 b) := by rw [h]

set_option maxHeartbeats 4000000 in
theorem againstL_any (x : Lt) (k : List UInt8) (gk : Nat) (w : World) (hb : Blk w gk 52 [.func (.func 28) #[] #[]]) :
    Calls Try.prog 83 #[.agg #[.string (ba x.nm), .int .i64 x.st, .int .i64 x.am, .int .i64 x.du, .string (ba x.po), .string (ba x.pa)], .string (ba k), .pointer (some ⟨gk, 0, none⟩)] w fun e w' => e = .returned (.int .i64 (cmpS x.nm k)) ∧ Below w.heap.size w w' := by
  have c0 := (hb.alloc (.cells #[.string (ba x.nm), .int .i64 x.st, .int .i64 x.am, .int .i64 x.du, .string (ba x.po), .string (ba x.pa)] 27)).cellAt (i := 0) rfl
  clear hb
  go_enter Try.func83, Try.ntmps83
  go_wp2_with (first
    | (go_at_call 28; (with_reducible refine (nameof_any x _).mono ?_); rintro e w1 ⟨rfl, hb1⟩; have HX1 : Hid (Below w.heap.size w w1) := Lib.hid ((below1 w _).trans (hb1.mono (by simp))); clear hb1)
    | (go_at_call 84; (with_reducible refine (cmpS_any _ _ _).mono ?_); rintro e w2 ⟨rfl, rfl⟩))
  go_ret
  exact ⟨rfl, HX1.out⟩

set_option maxHeartbeats 4000000 in
theorem asks2L_any (x : Lt) (k : List UInt8) (gk g8 g4 : Nat) (w : World) (hk : Blk w gk 52 [.func (.func 28) #[] #[]]) (h8 : Blk w g8 103 [.func (.func 83) #[] #[.pointer (some ⟨gk, 0, none⟩)]]) (h4 : Blk w g4 9 [.string (ba k)]) :
    Calls Try.prog 87 #[.agg #[.string (ba x.nm), .int .i64 x.st, .int .i64 x.am, .int .i64 x.du, .string (ba x.po), .string (ba x.pa)], .pointer (some ⟨g8, 0, none⟩), .pointer (some ⟨g4, 0, none⟩)] w fun e w' => e = .returned (.bool (cmpS x.nm k == 0)) ∧ Below w.heap.size w w' := by
  have c8 := (h8.alloc (.cells #[.string (ba x.nm), .int .i64 x.st, .int .i64 x.am, .int .i64 x.du, .string (ba x.po), .string (ba x.pa)] 27)).cellAt (i := 0) rfl
  have c4 := (h4.alloc (.cells #[.string (ba x.nm), .int .i64 x.st, .int .i64 x.am, .int .i64 x.du, .string (ba x.po), .string (ba x.pa)] 27)).cellAt (i := 0) rfl
  clear h8 h4
  go_enter Try.func87, Try.ntmps87
  go_wp2_with (go_at_call 83; (with_reducible refine (againstL_any x k gk _ (hk.alloc _)).mono ?_); rintro e w1 ⟨rfl, hb1⟩; have HX1 : Hid (Below w.heap.size w w1) := Lib.hid ((below1 w _).trans (hb1.mono (by simp))); clear hb1; generalize hq : cmpS x.nm k = q; have HQ := Lib.hid hq; clear hq)
  go_ret
  exact ⟨by rw [HQ.out]; rfl, HX1.out⟩

set_option maxHeartbeats 4000000 in
set_option maxRecDepth 100000 in
theorem idx2L_any (ls : List Lt) (A : Option Addr) (n c : Nat) (k : List UInt8) (gk g8 g4 : Nat) (w : World) (h : Sl w 6 A n (ls.map Lt.cells)) (hn : n ≤ 1000000) (hk : Blk w gk 52 [.func (.func 28) #[] #[]]) (h8 : Blk w g8 103 [.func (.func 83) #[] #[.pointer (some ⟨gk, 0, none⟩)]]) (h4 : Blk w g4 9 [.string (ba k)]) :
    Calls Try.prog 86 #[.slice A n c, .func (.func 87) #[] #[.pointer (some ⟨g8, 0, none⟩), .pointer (some ⟨g4, 0, none⟩)]] w fun e w' => e = .returned (.int .i64 (ixF (fun x : Lt => cmpS x.nm k == 0) ls)) ∧ Below w.heap.size w w' := by
  have HI := Lib.hid h
  have hlen : ls.length = n := by simpa using h.len
  have HLn := Lib.hid hlen
  have HIX := Lib.hid Try.ix_lt
  have hcall : ∀ (W : World) (x : Lt), x ∈ ls → Below w.heap.size w W → Calls Try.prog 87 #[.agg #[.string (ba x.nm), .int .i64 x.st, .int .i64 x.am, .int .i64 x.du, .string (ba x.po), .string (ba x.pa)], .pointer (some ⟨g8, 0, none⟩), .pointer (some ⟨g4, 0, none⟩)] W fun e w' => e = .returned (.bool ((fun x : Lt => cmpS x.nm k == 0) x)) ∧ Below W.heap.size W w' := fun W x _ hW => asks2L_any x k gk g8 g4 W (hk.through hW) (h8.through hW) (h4.through hW)
  have HC := Lib.hid hcall
  obtain ⟨pr, hpr⟩ : ∃ pr : Lt → Bool, (fun x : Lt => cmpS x.nm k == 0) = pr := ⟨_, rfl⟩
  rw [hpr] at HC ⊢
  clear hpr
  obtain ⟨bb, hbb⟩ : ∃ bb, ixF pr ls = bb := ⟨_, rfl⟩
  rw [hbb]
  have HBB := Lib.hid hbb
  clear h hbb hlen hcall
  go_enter Try.func86, Try.ntmps86
  go_wp2
  go_loopw [8] (fun iv wr => ∃ i : Nat, i ≤ n ∧ iv = .int .i64 i ∧ (∀ (j : Nat) (y : Lt), j < i → ls[j]? = some y → pr y = false) ∧ Below w.heap.size w wr) (fun iv _ => n - (intOf iv).toNat)
  case atStart => exact ⟨0, Nat.zero_le _, rfl, fun j y hj _ => absurd hj (Nat.not_lt_zero _), Below.refl _ _⟩
  case round =>
    obtain ⟨i, hi, rfl, hp, hx⟩ := hrel
    have HX := Lib.hid hx
    have HP := Lib.hid hp
    clear hx hp
    by_cases hlt : i < n
    · obtain ⟨g, o, x, rfl, hxi, hmem, hd, hrx⟩ := (HI.out.through HX.out).at_lt hlt
      have HRx := Lib.hid hrx
      have hix := HIX.out wr g o n c i hlt
      have hc := fun W hW => HC.out W x hmem hW
      have HXi := Lib.hid hxi
      clear hrx hd hmem hxi
      cases hq : pr x with
      | true =>
        rw [hq] at hc
        have HC2 := Lib.hid hc
        have HE : Hid (ixF pr ls = (i : Int)) := Lib.hid (by unfold ixF; rw [findIdx?_of HXi.out hq HP.out])
        clear hc hq
        go_wp2_with (first
          | (refine wpList_load_mid rfl 27 (.tmp 14) rfl g (o + i * 6) rfl [.string (ba x.nm), .int .i64 x.st, .int .i64 x.am, .int .i64 x.du, .string (ba x.po), .string (ba x.pa)] _ HRx.out Try.underlying27 rfl (by kernel_rfl) ?_)
          | (go_at_call 87; (with_reducible refine (HC2.out _ HX.out).mono ?_); rintro e w5 ⟨rfl, hb5⟩; have HX5 : Hid (Below w.heap.size w w5) := Lib.hid (below_step HX.out hb5); clear hb5))
        go_ret
        exact ⟨ret_i (by rw [← HBB.out, HE.out]), HX5.out⟩
      | false =>
        rw [hq] at hc
        have HC2 := Lib.hid hc
        have HQ := Lib.hid hq
        clear hc hq
        go_wp2_with (first
          | (refine wpList_load_mid rfl 27 (.tmp 14) rfl g (o + i * 6) rfl [.string (ba x.nm), .int .i64 x.st, .int .i64 x.am, .int .i64 x.du, .string (ba x.po), .string (ba x.pa)] _ HRx.out Try.underlying27 rfl (by kernel_rfl) ?_)
          | (go_at_call 87; (with_reducible refine (HC2.out _ HX.out).mono ?_); rintro e w5 ⟨rfl, hb5⟩; have HX5 : Hid (Below w.heap.size w w5) := Lib.hid (below_step HX.out hb5); clear hb5))
        go_roundw
        case rel => exact ⟨i + 1, by omega, by go_num, fun j y hj hy => (Nat.lt_or_ge j i).elim (fun h9 => HP.out j y h9 hy) (fun h9 => by
          have h8 : j = i := by omega
          subst h8
          rw [HXi.out] at hy
          injection hy with hy
          rw [← hy]
          exact HQ.out), HX5.out⟩
        case measure => simp [intOf]; omega
    · have HE : Hid (ixF pr ls = -1) := Lib.hid (by
        unfold ixF
        rw [findIdx?_none_of fun x hx => by
          obtain ⟨j, hj, rfl⟩ := List.mem_iff_getElem.1 hx
          exact HP.out j _ (by have := HLn.out; omega) (List.getElem?_eq_getElem hj)])
      go_wp2
      go_ret
      exact ⟨ret_i (by rw [← HBB.out, HE.out]), HX.out⟩

set_option maxHeartbeats 4000000 in
theorem asks3L_any (x : Lt) (k : List UInt8) (gk g8 g4 : Nat) (w : World) (hk : Blk w gk 52 [.func (.func 28) #[] #[]]) (h8 : Blk w g8 103 [.func (.func 83) #[] #[.pointer (some ⟨gk, 0, none⟩)]]) (h4 : Blk w g4 9 [.string (ba k)]) :
    Calls Try.prog 88 #[.agg #[.string (ba x.nm), .int .i64 x.st, .int .i64 x.am, .int .i64 x.du, .string (ba x.po), .string (ba x.pa)], .pointer (some ⟨g8, 0, none⟩), .pointer (some ⟨g4, 0, none⟩)] w fun e w' => e = .returned (.bool (decide (0 < cmpS x.nm k))) ∧ Below w.heap.size w w' := by
  have c8 := (h8.alloc (.cells #[.string (ba x.nm), .int .i64 x.st, .int .i64 x.am, .int .i64 x.du, .string (ba x.po), .string (ba x.pa)] 27)).cellAt (i := 0) rfl
  have c4 := (h4.alloc (.cells #[.string (ba x.nm), .int .i64 x.st, .int .i64 x.am, .int .i64 x.du, .string (ba x.po), .string (ba x.pa)] 27)).cellAt (i := 0) rfl
  clear h8 h4
  go_enter Try.func88, Try.ntmps88
  go_wp2_with (go_at_call 83; (with_reducible refine (againstL_any x k gk _ (hk.alloc _)).mono ?_); rintro e w1 ⟨rfl, hb1⟩; have HX1 : Hid (Below w.heap.size w w1) := Lib.hid ((below1 w _).trans (hb1.mono (by simp))); clear hb1; generalize hq : cmpS x.nm k = q; have HQ := Lib.hid hq; clear hq)
  go_ret
  exact ⟨by rw [HQ.out]; rfl, HX1.out⟩

set_option maxHeartbeats 4000000 in
set_option maxRecDepth 100000 in
theorem idx3L_any (ls : List Lt) (A : Option Addr) (n c : Nat) (k : List UInt8) (gk g8 g4 : Nat) (w : World) (h : Sl w 6 A n (ls.map Lt.cells)) (hn : n ≤ 1000000) (hk : Blk w gk 52 [.func (.func 28) #[] #[]]) (h8 : Blk w g8 103 [.func (.func 83) #[] #[.pointer (some ⟨gk, 0, none⟩)]]) (h4 : Blk w g4 9 [.string (ba k)]) :
    Calls Try.prog 86 #[.slice A n c, .func (.func 88) #[] #[.pointer (some ⟨g8, 0, none⟩), .pointer (some ⟨g4, 0, none⟩)]] w fun e w' => e = .returned (.int .i64 (ixF (fun x : Lt => decide (0 < cmpS x.nm k)) ls)) ∧ Below w.heap.size w w' := by
  have HI := Lib.hid h
  have hlen : ls.length = n := by simpa using h.len
  have HLn := Lib.hid hlen
  have HIX := Lib.hid Try.ix_lt
  have hcall : ∀ (W : World) (x : Lt), x ∈ ls → Below w.heap.size w W → Calls Try.prog 88 #[.agg #[.string (ba x.nm), .int .i64 x.st, .int .i64 x.am, .int .i64 x.du, .string (ba x.po), .string (ba x.pa)], .pointer (some ⟨g8, 0, none⟩), .pointer (some ⟨g4, 0, none⟩)] W fun e w' => e = .returned (.bool ((fun x : Lt => decide (0 < cmpS x.nm k)) x)) ∧ Below W.heap.size W w' := fun W x _ hW => asks3L_any x k gk g8 g4 W (hk.through hW) (h8.through hW) (h4.through hW)
  have HC := Lib.hid hcall
  obtain ⟨pr, hpr⟩ : ∃ pr : Lt → Bool, (fun x : Lt => decide (0 < cmpS x.nm k)) = pr := ⟨_, rfl⟩
  rw [hpr] at HC ⊢
  clear hpr
  obtain ⟨bb, hbb⟩ : ∃ bb, ixF pr ls = bb := ⟨_, rfl⟩
  rw [hbb]
  have HBB := Lib.hid hbb
  clear h hbb hlen hcall
  go_enter Try.func86, Try.ntmps86
  go_wp2
  go_loopw [8] (fun iv wr => ∃ i : Nat, i ≤ n ∧ iv = .int .i64 i ∧ (∀ (j : Nat) (y : Lt), j < i → ls[j]? = some y → pr y = false) ∧ Below w.heap.size w wr) (fun iv _ => n - (intOf iv).toNat)
  case atStart => exact ⟨0, Nat.zero_le _, rfl, fun j y hj _ => absurd hj (Nat.not_lt_zero _), Below.refl _ _⟩
  case round =>
    obtain ⟨i, hi, rfl, hp, hx⟩ := hrel
    have HX := Lib.hid hx
    have HP := Lib.hid hp
    clear hx hp
    by_cases hlt : i < n
    · obtain ⟨g, o, x, rfl, hxi, hmem, hd, hrx⟩ := (HI.out.through HX.out).at_lt hlt
      have HRx := Lib.hid hrx
      have hix := HIX.out wr g o n c i hlt
      have hc := fun W hW => HC.out W x hmem hW
      have HXi := Lib.hid hxi
      clear hrx hd hmem hxi
      cases hq : pr x with
      | true =>
        rw [hq] at hc
        have HC2 := Lib.hid hc
        have HE : Hid (ixF pr ls = (i : Int)) := Lib.hid (by unfold ixF; rw [findIdx?_of HXi.out hq HP.out])
        clear hc hq
        go_wp2_with (first
          | (refine wpList_load_mid rfl 27 (.tmp 14) rfl g (o + i * 6) rfl [.string (ba x.nm), .int .i64 x.st, .int .i64 x.am, .int .i64 x.du, .string (ba x.po), .string (ba x.pa)] _ HRx.out Try.underlying27 rfl (by kernel_rfl) ?_)
          | (go_at_call 88; (with_reducible refine (HC2.out _ HX.out).mono ?_); rintro e w5 ⟨rfl, hb5⟩; have HX5 : Hid (Below w.heap.size w w5) := Lib.hid (below_step HX.out hb5); clear hb5))
        go_ret
        exact ⟨ret_i (by rw [← HBB.out, HE.out]), HX5.out⟩
      | false =>
        rw [hq] at hc
        have HC2 := Lib.hid hc
        have HQ := Lib.hid hq
        clear hc hq
        go_wp2_with (first
          | (refine wpList_load_mid rfl 27 (.tmp 14) rfl g (o + i * 6) rfl [.string (ba x.nm), .int .i64 x.st, .int .i64 x.am, .int .i64 x.du, .string (ba x.po), .string (ba x.pa)] _ HRx.out Try.underlying27 rfl (by kernel_rfl) ?_)
          | (go_at_call 88; (with_reducible refine (HC2.out _ HX.out).mono ?_); rintro e w5 ⟨rfl, hb5⟩; have HX5 : Hid (Below w.heap.size w w5) := Lib.hid (below_step HX.out hb5); clear hb5))
        go_roundw
        case rel => exact ⟨i + 1, by omega, by go_num, fun j y hj hy => (Nat.lt_or_ge j i).elim (fun h9 => HP.out j y h9 hy) (fun h9 => by
          have h8 : j = i := by omega
          subst h8
          rw [HXi.out] at hy
          injection hy with hy
          rw [← hy]
          exact HQ.out), HX5.out⟩
        case measure => simp [intOf]; omega
    · have HE : Hid (ixF pr ls = -1) := Lib.hid (by
        unfold ixF
        rw [findIdx?_none_of fun x hx => by
          obtain ⟨j, hj, rfl⟩ := List.mem_iff_getElem.1 hx
          exact HP.out j _ (by have := HLn.out; omega) (List.getElem?_eq_getElem hj)])
      go_wp2
      go_ret
      exact ⟨ret_i (by rw [← HBB.out, HE.out]), HX.out⟩

set_option maxHeartbeats 4000000 in
theorem againstO_any (x : Oc) (k : Int) (gk : Nat) (w : World) (hb : Blk w gk 56 [.func (.func 32) #[] #[]]) :
    Calls Try.prog 90 #[.agg #[.int .i64 x.cl, .int .i64 x.sp, .int .i64 x.rs], .int .i64 k, .pointer (some ⟨gk, 0, none⟩)] w fun e w' => e = .returned (.int .i64 (cmpI x.cl k)) ∧ Below w.heap.size w w' := by
  have c0 := (hb.alloc (.cells #[.int .i64 x.cl, .int .i64 x.sp, .int .i64 x.rs] 30)).cellAt (i := 0) rfl
  clear hb
  go_enter Try.func90, Try.ntmps90
  go_wp2_with (first
    | (go_at_call 32; (with_reducible refine (clientof_any x _).mono ?_); rintro e w1 ⟨rfl, hb1⟩; have HX1 : Hid (Below w.heap.size w w1) := Lib.hid ((below1 w _).trans (hb1.mono (by simp))); clear hb1)
    | (go_at_call 91; (with_reducible refine (cmpI_any _ _ _).mono ?_); rintro e w2 ⟨rfl, rfl⟩))
  go_ret
  exact ⟨rfl, HX1.out⟩

set_option maxHeartbeats 4000000 in
theorem asks2O_any (x : Oc) (k : Int) (gk g8 g4 : Nat) (w : World) (hk : Blk w gk 56 [.func (.func 32) #[] #[]]) (h8 : Blk w g8 109 [.func (.func 90) #[] #[.pointer (some ⟨gk, 0, none⟩)]]) (h4 : Blk w g4 3 [.int .i64 k]) :
    Calls Try.prog 94 #[.agg #[.int .i64 x.cl, .int .i64 x.sp, .int .i64 x.rs], .pointer (some ⟨g8, 0, none⟩), .pointer (some ⟨g4, 0, none⟩)] w fun e w' => e = .returned (.bool (cmpI x.cl k == 0)) ∧ Below w.heap.size w w' := by
  have c8 := (h8.alloc (.cells #[.int .i64 x.cl, .int .i64 x.sp, .int .i64 x.rs] 30)).cellAt (i := 0) rfl
  have c4 := (h4.alloc (.cells #[.int .i64 x.cl, .int .i64 x.sp, .int .i64 x.rs] 30)).cellAt (i := 0) rfl
  clear h8 h4
  go_enter Try.func94, Try.ntmps94
  go_wp2_with (go_at_call 90; (with_reducible refine (againstO_any x k gk _ (hk.alloc _)).mono ?_); rintro e w1 ⟨rfl, hb1⟩; have HX1 : Hid (Below w.heap.size w w1) := Lib.hid ((below1 w _).trans (hb1.mono (by simp))); clear hb1; generalize hq : cmpI x.cl k = q; have HQ := Lib.hid hq; clear hq)
  go_ret
  exact ⟨by rw [HQ.out]; rfl, HX1.out⟩

set_option maxHeartbeats 4000000 in
set_option maxRecDepth 100000 in
theorem idx2O_any (ls : List Oc) (A : Option Addr) (n c : Nat) (k : Int) (gk g8 g4 : Nat) (w : World) (h : Sl w 3 A n (ls.map Oc.cells)) (hn : n ≤ 1000000) (hk : Blk w gk 56 [.func (.func 32) #[] #[]]) (h8 : Blk w g8 109 [.func (.func 90) #[] #[.pointer (some ⟨gk, 0, none⟩)]]) (h4 : Blk w g4 3 [.int .i64 k]) :
    Calls Try.prog 93 #[.slice A n c, .func (.func 94) #[] #[.pointer (some ⟨g8, 0, none⟩), .pointer (some ⟨g4, 0, none⟩)]] w fun e w' => e = .returned (.int .i64 (ixF (fun x : Oc => cmpI x.cl k == 0) ls)) ∧ Below w.heap.size w w' := by
  have HI := Lib.hid h
  have hlen : ls.length = n := by simpa using h.len
  have HLn := Lib.hid hlen
  have HIX := Lib.hid Try.ix_oc
  have hcall : ∀ (W : World) (x : Oc), x ∈ ls → Below w.heap.size w W → Calls Try.prog 94 #[.agg #[.int .i64 x.cl, .int .i64 x.sp, .int .i64 x.rs], .pointer (some ⟨g8, 0, none⟩), .pointer (some ⟨g4, 0, none⟩)] W fun e w' => e = .returned (.bool ((fun x : Oc => cmpI x.cl k == 0) x)) ∧ Below W.heap.size W w' := fun W x _ hW => asks2O_any x k gk g8 g4 W (hk.through hW) (h8.through hW) (h4.through hW)
  have HC := Lib.hid hcall
  obtain ⟨pr, hpr⟩ : ∃ pr : Oc → Bool, (fun x : Oc => cmpI x.cl k == 0) = pr := ⟨_, rfl⟩
  rw [hpr] at HC ⊢
  clear hpr
  obtain ⟨bb, hbb⟩ : ∃ bb, ixF pr ls = bb := ⟨_, rfl⟩
  rw [hbb]
  have HBB := Lib.hid hbb
  clear h hbb hlen hcall
  go_enter Try.func93, Try.ntmps93
  go_wp2
  go_loopw [8] (fun iv wr => ∃ i : Nat, i ≤ n ∧ iv = .int .i64 i ∧ (∀ (j : Nat) (y : Oc), j < i → ls[j]? = some y → pr y = false) ∧ Below w.heap.size w wr) (fun iv _ => n - (intOf iv).toNat)
  case atStart => exact ⟨0, Nat.zero_le _, rfl, fun j y hj _ => absurd hj (Nat.not_lt_zero _), Below.refl _ _⟩
  case round =>
    obtain ⟨i, hi, rfl, hp, hx⟩ := hrel
    have HX := Lib.hid hx
    have HP := Lib.hid hp
    clear hx hp
    by_cases hlt : i < n
    · obtain ⟨g, o, x, rfl, hxi, hmem, hd, hrx⟩ := (HI.out.through HX.out).at_oc hlt
      have HRx := Lib.hid hrx
      have hix := HIX.out wr g o n c i hlt
      have hc := fun W hW => HC.out W x hmem hW
      have HXi := Lib.hid hxi
      clear hrx hd hmem hxi
      cases hq : pr x with
      | true =>
        rw [hq] at hc
        have HC2 := Lib.hid hc
        have HE : Hid (ixF pr ls = (i : Int)) := Lib.hid (by unfold ixF; rw [findIdx?_of HXi.out hq HP.out])
        clear hc hq
        go_wp2_with (first
          | (refine wpList_load_mid rfl 30 (.tmp 14) rfl g (o + i * 3) rfl [.int .i64 x.cl, .int .i64 x.sp, .int .i64 x.rs] _ HRx.out Try.underlying30 rfl (by kernel_rfl) ?_)
          | (go_at_call 94; (with_reducible refine (HC2.out _ HX.out).mono ?_); rintro e w5 ⟨rfl, hb5⟩; have HX5 : Hid (Below w.heap.size w w5) := Lib.hid (below_step HX.out hb5); clear hb5))
        go_ret
        exact ⟨ret_i (by rw [← HBB.out, HE.out]), HX5.out⟩
      | false =>
        rw [hq] at hc
        have HC2 := Lib.hid hc
        have HQ := Lib.hid hq
        clear hc hq
        go_wp2_with (first
          | (refine wpList_load_mid rfl 30 (.tmp 14) rfl g (o + i * 3) rfl [.int .i64 x.cl, .int .i64 x.sp, .int .i64 x.rs] _ HRx.out Try.underlying30 rfl (by kernel_rfl) ?_)
          | (go_at_call 94; (with_reducible refine (HC2.out _ HX.out).mono ?_); rintro e w5 ⟨rfl, hb5⟩; have HX5 : Hid (Below w.heap.size w w5) := Lib.hid (below_step HX.out hb5); clear hb5))
        go_roundw
        case rel => exact ⟨i + 1, by omega, by go_num, fun j y hj hy => (Nat.lt_or_ge j i).elim (fun h9 => HP.out j y h9 hy) (fun h9 => by
          have h8 : j = i := by omega
          subst h8
          rw [HXi.out] at hy
          injection hy with hy
          rw [← hy]
          exact HQ.out), HX5.out⟩
        case measure => simp [intOf]; omega
    · have HE : Hid (ixF pr ls = -1) := Lib.hid (by
        unfold ixF
        rw [findIdx?_none_of fun x hx => by
          obtain ⟨j, hj, rfl⟩ := List.mem_iff_getElem.1 hx
          exact HP.out j _ (by have := HLn.out; omega) (List.getElem?_eq_getElem hj)])
      go_wp2
      go_ret
      exact ⟨ret_i (by rw [← HBB.out, HE.out]), HX.out⟩

set_option maxHeartbeats 4000000 in
theorem asks3O_any (x : Oc) (k : Int) (gk g8 g4 : Nat) (w : World) (hk : Blk w gk 56 [.func (.func 32) #[] #[]]) (h8 : Blk w g8 109 [.func (.func 90) #[] #[.pointer (some ⟨gk, 0, none⟩)]]) (h4 : Blk w g4 3 [.int .i64 k]) :
    Calls Try.prog 95 #[.agg #[.int .i64 x.cl, .int .i64 x.sp, .int .i64 x.rs], .pointer (some ⟨g8, 0, none⟩), .pointer (some ⟨g4, 0, none⟩)] w fun e w' => e = .returned (.bool (decide (0 < cmpI x.cl k))) ∧ Below w.heap.size w w' := by
  have c8 := (h8.alloc (.cells #[.int .i64 x.cl, .int .i64 x.sp, .int .i64 x.rs] 30)).cellAt (i := 0) rfl
  have c4 := (h4.alloc (.cells #[.int .i64 x.cl, .int .i64 x.sp, .int .i64 x.rs] 30)).cellAt (i := 0) rfl
  clear h8 h4
  go_enter Try.func95, Try.ntmps95
  go_wp2_with (go_at_call 90; (with_reducible refine (againstO_any x k gk _ (hk.alloc _)).mono ?_); rintro e w1 ⟨rfl, hb1⟩; have HX1 : Hid (Below w.heap.size w w1) := Lib.hid ((below1 w _).trans (hb1.mono (by simp))); clear hb1; generalize hq : cmpI x.cl k = q; have HQ := Lib.hid hq; clear hq)
  go_ret
  exact ⟨by rw [HQ.out]; rfl, HX1.out⟩

set_option maxHeartbeats 4000000 in
set_option maxRecDepth 100000 in
theorem idx3O_any (ls : List Oc) (A : Option Addr) (n c : Nat) (k : Int) (gk g8 g4 : Nat) (w : World) (h : Sl w 3 A n (ls.map Oc.cells)) (hn : n ≤ 1000000) (hk : Blk w gk 56 [.func (.func 32) #[] #[]]) (h8 : Blk w g8 109 [.func (.func 90) #[] #[.pointer (some ⟨gk, 0, none⟩)]]) (h4 : Blk w g4 3 [.int .i64 k]) :
    Calls Try.prog 93 #[.slice A n c, .func (.func 95) #[] #[.pointer (some ⟨g8, 0, none⟩), .pointer (some ⟨g4, 0, none⟩)]] w fun e w' => e = .returned (.int .i64 (ixF (fun x : Oc => decide (0 < cmpI x.cl k)) ls)) ∧ Below w.heap.size w w' := by
  have HI := Lib.hid h
  have hlen : ls.length = n := by simpa using h.len
  have HLn := Lib.hid hlen
  have HIX := Lib.hid Try.ix_oc
  have hcall : ∀ (W : World) (x : Oc), x ∈ ls → Below w.heap.size w W → Calls Try.prog 95 #[.agg #[.int .i64 x.cl, .int .i64 x.sp, .int .i64 x.rs], .pointer (some ⟨g8, 0, none⟩), .pointer (some ⟨g4, 0, none⟩)] W fun e w' => e = .returned (.bool ((fun x : Oc => decide (0 < cmpI x.cl k)) x)) ∧ Below W.heap.size W w' := fun W x _ hW => asks3O_any x k gk g8 g4 W (hk.through hW) (h8.through hW) (h4.through hW)
  have HC := Lib.hid hcall
  obtain ⟨pr, hpr⟩ : ∃ pr : Oc → Bool, (fun x : Oc => decide (0 < cmpI x.cl k)) = pr := ⟨_, rfl⟩
  rw [hpr] at HC ⊢
  clear hpr
  obtain ⟨bb, hbb⟩ : ∃ bb, ixF pr ls = bb := ⟨_, rfl⟩
  rw [hbb]
  have HBB := Lib.hid hbb
  clear h hbb hlen hcall
  go_enter Try.func93, Try.ntmps93
  go_wp2
  go_loopw [8] (fun iv wr => ∃ i : Nat, i ≤ n ∧ iv = .int .i64 i ∧ (∀ (j : Nat) (y : Oc), j < i → ls[j]? = some y → pr y = false) ∧ Below w.heap.size w wr) (fun iv _ => n - (intOf iv).toNat)
  case atStart => exact ⟨0, Nat.zero_le _, rfl, fun j y hj _ => absurd hj (Nat.not_lt_zero _), Below.refl _ _⟩
  case round =>
    obtain ⟨i, hi, rfl, hp, hx⟩ := hrel
    have HX := Lib.hid hx
    have HP := Lib.hid hp
    clear hx hp
    by_cases hlt : i < n
    · obtain ⟨g, o, x, rfl, hxi, hmem, hd, hrx⟩ := (HI.out.through HX.out).at_oc hlt
      have HRx := Lib.hid hrx
      have hix := HIX.out wr g o n c i hlt
      have hc := fun W hW => HC.out W x hmem hW
      have HXi := Lib.hid hxi
      clear hrx hd hmem hxi
      cases hq : pr x with
      | true =>
        rw [hq] at hc
        have HC2 := Lib.hid hc
        have HE : Hid (ixF pr ls = (i : Int)) := Lib.hid (by unfold ixF; rw [findIdx?_of HXi.out hq HP.out])
        clear hc hq
        go_wp2_with (first
          | (refine wpList_load_mid rfl 30 (.tmp 14) rfl g (o + i * 3) rfl [.int .i64 x.cl, .int .i64 x.sp, .int .i64 x.rs] _ HRx.out Try.underlying30 rfl (by kernel_rfl) ?_)
          | (go_at_call 95; (with_reducible refine (HC2.out _ HX.out).mono ?_); rintro e w5 ⟨rfl, hb5⟩; have HX5 : Hid (Below w.heap.size w w5) := Lib.hid (below_step HX.out hb5); clear hb5))
        go_ret
        exact ⟨ret_i (by rw [← HBB.out, HE.out]), HX5.out⟩
      | false =>
        rw [hq] at hc
        have HC2 := Lib.hid hc
        have HQ := Lib.hid hq
        clear hc hq
        go_wp2_with (first
          | (refine wpList_load_mid rfl 30 (.tmp 14) rfl g (o + i * 3) rfl [.int .i64 x.cl, .int .i64 x.sp, .int .i64 x.rs] _ HRx.out Try.underlying30 rfl (by kernel_rfl) ?_)
          | (go_at_call 95; (with_reducible refine (HC2.out _ HX.out).mono ?_); rintro e w5 ⟨rfl, hb5⟩; have HX5 : Hid (Below w.heap.size w w5) := Lib.hid (below_step HX.out hb5); clear hb5))
        go_roundw
        case rel => exact ⟨i + 1, by omega, by go_num, fun j y hj hy => (Nat.lt_or_ge j i).elim (fun h9 => HP.out j y h9 hy) (fun h9 => by
          have h8 : j = i := by omega
          subst h8
          rw [HXi.out] at hy
          injection hy with hy
          rw [← hy]
          exact HQ.out), HX5.out⟩
        case measure => simp [intOf]; omega
    · have HE : Hid (ixF pr ls = -1) := Lib.hid (by
        unfold ixF
        rw [findIdx?_none_of fun x hx => by
          obtain ⟨j, hj, rfl⟩ := List.mem_iff_getElem.1 hx
          exact HP.out j _ (by have := HLn.out; omega) (List.getElem?_eq_getElem hj)])
      go_wp2
      go_ret
      exact ⟨ret_i (by rw [← HBB.out, HE.out]), HX.out⟩

end Go.Proofs.Ytkbeodlihmmdbaa
