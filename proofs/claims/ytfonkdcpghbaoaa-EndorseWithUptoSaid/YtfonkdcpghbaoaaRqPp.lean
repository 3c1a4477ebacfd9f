/-
  The program's Parse of a request, walked.
-/
import Derived.Test.YtfonkdcpghbaoaaRqQ
import Derived.Test.YtfonkdcpghbaoaaRqB
namespace Go.Proofs.Ytfonkdcpghbaoaa
open Go.RowKit

theorem OEs.es {w : World} {B : Nat} {A : Option Addr} {n c : Nat} {es : List En} (h : OEs w B (.slice A n c) es) : EsIn w A n es := by
  obtain ⟨A', c', hv, _, _, h1⟩ := h.out
  injection hv with e1 e2 _
  subst e1; subst e2
  exact h1

set_option maxHeartbeats 16000000 in
set_option maxRecDepth 100000 in
theorem parsereq_any (xs : List UInt8) (N : Int) (A : Option Addr) (n c : Nat) (w : World) (h : By w (fun _ => True) A n xs) (hn : n ≤ 1000000) :
    Calls Try.prog 15 #[.slice A n c, .int .i64 N] w (RqOut w (parseP xs N).1 (parseP xs N).2) := by
  have hz := Try.zero_rq
  have hb0 := Try.build_rq0
  have hbq := Try.build_rq
  have hlen := h.len
  have HZ0 : Hid (Blk (w.alloc (.cells #[.int .i64 0, .int .i64 0, .int .i64 0, .string (ba []), .int .i64 0, .int .i64 0, .string (ba []), .slice none 0 0] 34)) w.heap.size 34 [.int .i64 0, .int .i64 0, .int .i64 0, .string (ba []), .int .i64 0, .int .i64 0, .string (ba []), .slice none 0 0]) := Lib.hid (Blk.fresh rfl rfl)
  have HX0 : Hid (Below w.heap.size w (w.alloc (.cells #[.int .i64 0, .int .i64 0, .int .i64 0, .string (ba []), .int .i64 0, .int .i64 0, .string (ba []), .slice none 0 0] 34))) := Lib.hid (below1_ w _)
  by_cases hN : N < 1 ∨ 7 < N
  · have HSZ := Lib.hid (fun W : World => szB_no hN ▸ issize_any N W)
    have hP : parseP xs N = (Rq.no, 1) := by unfold parseP; rw [if_pos hN]
    rw [hP]
    clear hP hN hlen
    go_enter Try.func15, Try.ntmps15
    go_wp2_with (first
      | (go_at_call 37; (with_reducible refine (HSZ.out _).mono ?_); rintro e w0 ⟨rfl, rfl⟩)
      | (refine wpList_store_blk rfl 34 (.tmp 4) (.tmp 14) rfl w.heap.size [.int .i64 0, .int .i64 0, .int .i64 0, .string (ba []), .int .i64 0, .int .i64 0, .string (ba []), .slice none 0 0] rfl rfl 34 [.int .i64 0, .int .i64 0, .int .i64 0, .string (ba []), .int .i64 0, .int .i64 0, .string (ba []), .slice none 0 0] HZ0.out (by kernel_rfl) rfl (one8 _ _ _ _ _ _ _ _ _ _) ?_; intro wy hby hgy; have HGy := Lib.hid hgy; have HBy := Lib.hid hby; have HXy : Hid (Below w.heap.size w wy) := Lib.hid (HX0.out.grown hgy HX0.out.size (fun k hk => by have := Option.some.inj hk; omega)); clear hby hgy))
    (try simp only [Exit.inBlock, Exit.then]); refine bodyPost_ret (results_cell_row_tmp1 rfl _ _ w.heap.size 34 _ (0, 0) _ rfl HBy.out Try.underlying34 rfl (by kernel_rfl)) rfl ?_
    exact ⟨none, 0, 0, rfl, EsIn.none_, Nat.le_refl _, by simp [maxLen], HXy.out⟩
  have HSZ := Lib.hid (fun W : World => szB_yes hN ▸ issize_any N W)
  obtain ⟨k, rfl⟩ : ∃ k : Nat, N = k := ⟨N.toNat, by omega⟩
  have hk7 : k ≤ 7 := by omega
  obtain ⟨core, hcore⟩ : ∃ core, rval n (some xs) = core := ⟨_, rfl⟩
  obtain ⟨s1, hs1⟩ : ∃ s1, rnext n (some xs) = s1 := ⟨_, rfl⟩
  obtain ⟨L, hL⟩ : ∃ L, rdAll (rdEn k) (cval k s1) (cnext k s1) = L := ⟨_, rfl⟩
  obtain ⟨PC, hPC⟩ : ∃ PC, parseCr core.length core (k : Int) = PC := ⟨_, rfl⟩
  have hP : parseP xs (k : Int) = if L.2 = some [] ∧ risE (k : Int) (-1) L.1 = true then (if PC.2 = 0 then (⟨PC.1, L.1⟩, 0) else (Rq.no, PC.2)) else (Rq.no, 2) := by
    unfold parseP
    rw [if_neg hN, Int.toNat_natCast, hlen, hcore, hs1, hL, hPC]
  obtain ⟨P, hPP⟩ : ∃ P, parseP xs (k : Int) = P := ⟨_, rfl⟩
  rw [hPP] at hP ⊢
  have hcl : core.length ≤ 1000000 := by rw [← hcore]; exact Nat.le_trans (rval_stL _ _) (by simp only [stL]; omega)
  have hLl : L.1.length ≤ 7 := by rw [← hL, rdAll_length]; exact Nat.le_trans (cval_le_ _ _) hk7
  have HRe0 : Hid (∀ W, By W (fun _ => True) A n xs → Calls Try.prog 42 #[.slice A n c] W fun e w' => ∃ g, e = .returned (.pointer (some ⟨g, 0, none⟩)) ∧ Rs (fun b => W.heap.size ≤ b) w' g tR (some xs) ∧ Below W.heap.size W w' ∧ W.heap.size ≤ g) := Lib.hid (fun W hY => read_rs hY (by omega))
  have HRow : Hid (∀ (M : Nat) (W : World) (g : Nat), Rs (fun b => b < M) W g tR (some xs) → Calls Try.prog 44 #[.pointer (some ⟨g, 0, none⟩), .int .i64 (n : Int)] W fun e w' => ∃ B m c, e = .returned (.slice B m c) ∧ By w' (fun _ => True) B m core ∧ Rs (fun b => b < M) w' g tR s1 ∧ W.grownBy w' (some g)) := Lib.hid (fun M W g hR => hcore ▸ hs1 ▸ row_rs hR n)
  have HEn : Hid (∀ (M : Nat) (W : World) (g : Nat), Rs (fun b => b < M) W g tR s1 → M ≤ W.heap.size → Calls Try.prog 49 #[.pointer (some ⟨g, 0, none⟩), .int .i64 (k : Int)] W fun e w' => ∃ v, e = .returned v ∧ OEs w' W.heap.size v L.1 ∧ Rs (fun b => b < M) w' g tR L.2 ∧ W.grownBy w' (some g)) := Lib.hid (fun M W g hR hM => hL ▸ readends_any g s1 k W hR (fun b hb => Nat.lt_of_lt_of_le hb hM) hk7)
  have HEd : Hid (∀ (M : Nat) (W : World) (g : Nat), Rs (fun b => b < M) W g tR L.2 → Calls Try.prog 45 #[.pointer (some ⟨g, 0, none⟩)] W fun e w' => ∃ x, e = .returned (.int .i64 x) ∧ (x = 0 ↔ L.2 = some []) ∧ W = w') := Lib.hid (fun M W g hR => end_rs hR)
  have hmy : ∀ (W : World) (A : Option Addr) (m c : Nat), EsIn W A m L.1 → Calls Try.prog 50 #[.slice A m c, .int .i64 (k : Int)] W fun e w' => e = .returned (.bool (risE (k : Int) (-1) L.1)) ∧ Below W.heap.size W w' := fun W A m c hI => mayend_any (k : Int) L.1 A m c W hI (by have := hI.len; omega)
  have hpc : ∀ (W : World) (B : Option Addr) (m d : Nat), By W (fun _ => True) B m core → Calls Try.prog 13 #[.slice B m d, .int .i64 (k : Int)] W fun e w' => e = .returned (.tuple #[.agg #[.int .i64 PC.1.cl, .int .i64 PC.1.sp, .int .i64 PC.1.op, .string (ba PC.1.lt), .int .i64 PC.1.a, .int .i64 PC.1.b, .string (ba PC.1.tx)], .int .i64 PC.2]) ∧ Below W.heap.size W w' := fun W B m d hY => by
    have hm : m = core.length := hY.len.symm
    have h9 := parseCr_any core (k : Int) B m d W hY (by omega)
    rw [hm, hPC] at h9
    rw [hm]
    exact h9
  have HY0 := Lib.hid (h.alloc (.cells #[.int .i64 0, .int .i64 0, .int .i64 0, .string (ba []), .int .i64 0, .int .i64 0, .string (ba []), .slice none 0 0] 34))
  have HPP := Lib.hid hP
  clear h hN hcore hs1 hL hPC hP hPP hcl hLl hk7 hlen
  by_cases hst : L.2 = some []
  case neg =>
    have HST := Lib.hid hst
    have hpe : P = (Rq.no, 2) := by rw [HPP.out, if_neg (fun h => hst h.1)]
    subst hpe
    clear hst hmy hpc
    go_enter Try.func15, Try.ntmps15
    go_wp2_with (first
      | (go_at_call 37; (with_reducible refine (HSZ.out _).mono ?_); rintro e w0 ⟨rfl, rfl⟩)
      | (go_at_call 42; (with_reducible refine (HRe0.out _ HY0.out).mono ?_); rintro e w1 ⟨g, rfl, hr1, hb1, hg1⟩; have HX1 : Hid (Below w.heap.size w w1) := Lib.hid (below_step (below1_ w (.cells #[.int .i64 0, .int .i64 0, .int .i64 0, .string (ba []), .int .i64 0, .int .i64 0, .string (ba []), .slice none 0 0] 34)) hb1); have HR1 := Lib.hid hr1.lt_; have HGg : Hid (w.heap.size + 1 ≤ g) := Lib.hid (by simpa using hg1); have HZ1 := Lib.hid (HZ0.out.through hb1); clear hr1 hb1 hg1)
      | (go_at_call 44; (with_reducible refine (HRow.out _ _ _ HR1.out).mono ?_); rintro e w2 ⟨Bc, mc, cc, rfl, hyc, hr2, hg2⟩; have HR2 := Lib.hid hr2; have HG2 := Lib.hid hg2; have HY2 := Lib.hid hyc; have HX2 : Hid (Below w.heap.size w w2) := Lib.hid (HX1.out.grown HG2.out HX1.out.size (fun k hk => by have := Option.some.inj hk; have := HGg.out; omega)); have HZ2 := Lib.hid (HZ1.out.grown HG2.out (fun e => by have := Option.some.inj e; have := HGg.out; omega)); clear hr2 hg2 hyc)
      | (go_at_call 49; (with_reducible refine (HEn.out _ _ _ HR2.out HG2.out.size).mono ?_); rintro e w3 ⟨v3, rfl, ho3, hr3, hg3⟩; obtain ⟨A3, c3, rfl, hn3, hm3, hes⟩ := ho3.out; have HO3 := Lib.hid ho3; have HZL := Lib.hid HZ2.out.lt; have HR3 := Lib.hid hr3; have HG3 := Lib.hid hg3; have HES3 := Lib.hid hes; have HC3 := Lib.hid (And.intro hn3 hm3); have HY3 := Lib.hid (HR2.out.by_keep HY2.out hg3); have HX3 : Hid (Below w.heap.size w w3) := Lib.hid (HX2.out.grown HG3.out HX2.out.size (fun k hk => by have := Option.some.inj hk; have := HGg.out; omega)); have HZ3 := Lib.hid (HZ2.out.grown HG3.out (fun e => by have := Option.some.inj e; have := HGg.out; omega)); clear hr3 hg3 hes hn3 hm3 ho3)
      | (go_at_call 45; (with_reducible refine (HEd.out _ _ _ HR3.out).mono ?_); rintro e w4 ⟨x, rfl, hx, rfl⟩; have hx0 : ¬ x = 0 := (fun h9 => HST.out (hx.1 h9)); have hxb : (x == 0) = false := (by simpa using hx0); have hxd : (x != 0) = true := (by simpa using hx0); clear hx hx0)
      | (refine wpList_store_blk rfl 34 (.tmp 4) (.tmp 33) rfl w.heap.size [.int .i64 0, .int .i64 0, .int .i64 0, .string (ba []), .int .i64 0, .int .i64 0, .string (ba []), .slice none 0 0] rfl rfl 34 [.int .i64 0, .int .i64 0, .int .i64 0, .string (ba []), .int .i64 0, .int .i64 0, .string (ba []), .slice none 0 0] HZ3.out (by kernel_rfl) rfl (one8 _ _ _ _ _ _ _ _ _ _) ?_; intro wy hby hgy; have HGy := Lib.hid hgy; have HBy := Lib.hid hby; have HXy : Hid (Below w.heap.size w wy) := Lib.hid (HX3.out.grown hgy HX3.out.size (fun k hk => by have := Option.some.inj hk; omega)); clear hby hgy))
    (try simp only [Exit.inBlock, Exit.then]); refine bodyPost_ret (results_cell_row_tmp1 rfl _ _ w.heap.size 34 _ (0, 0) _ rfl HBy.out Try.underlying34 rfl (by kernel_rfl)) rfl ?_
    exact ⟨none, 0, 0, rfl, EsIn.none_, Nat.le_refl _, by simp [maxLen], HXy.out⟩
  have HST := Lib.hid hst
  cases hri : risE (k : Int) (-1) L.1 with
  | false =>
    have hpe : P = (Rq.no, 2) := by rw [HPP.out, if_neg (fun h => by rw [hri] at h; cases h.2)]
    subst hpe
    rw [hri] at hmy
    have HMy := Lib.hid hmy
    clear hst hri hmy hpc
    go_enter Try.func15, Try.ntmps15
    go_wp2_with (first
      | (go_at_call 37; (with_reducible refine (HSZ.out _).mono ?_); rintro e w0 ⟨rfl, rfl⟩)
      | (go_at_call 42; (with_reducible refine (HRe0.out _ HY0.out).mono ?_); rintro e w1 ⟨g, rfl, hr1, hb1, hg1⟩; have HX1 : Hid (Below w.heap.size w w1) := Lib.hid (below_step (below1_ w (.cells #[.int .i64 0, .int .i64 0, .int .i64 0, .string (ba []), .int .i64 0, .int .i64 0, .string (ba []), .slice none 0 0] 34)) hb1); have HR1 := Lib.hid hr1.lt_; have HGg : Hid (w.heap.size + 1 ≤ g) := Lib.hid (by simpa using hg1); have HZ1 := Lib.hid (HZ0.out.through hb1); clear hr1 hb1 hg1)
      | (go_at_call 44; (with_reducible refine (HRow.out _ _ _ HR1.out).mono ?_); rintro e w2 ⟨Bc, mc, cc, rfl, hyc, hr2, hg2⟩; have HR2 := Lib.hid hr2; have HG2 := Lib.hid hg2; have HY2 := Lib.hid hyc; have HX2 : Hid (Below w.heap.size w w2) := Lib.hid (HX1.out.grown HG2.out HX1.out.size (fun k hk => by have := Option.some.inj hk; have := HGg.out; omega)); have HZ2 := Lib.hid (HZ1.out.grown HG2.out (fun e => by have := Option.some.inj e; have := HGg.out; omega)); clear hr2 hg2 hyc)
      | (go_at_call 49; (with_reducible refine (HEn.out _ _ _ HR2.out HG2.out.size).mono ?_); rintro e w3 ⟨v3, rfl, ho3, hr3, hg3⟩; obtain ⟨A3, c3, rfl, hn3, hm3, hes⟩ := ho3.out; have HO3 := Lib.hid ho3; have HZL := Lib.hid HZ2.out.lt; have HR3 := Lib.hid hr3; have HG3 := Lib.hid hg3; have HES3 := Lib.hid hes; have HC3 := Lib.hid (And.intro hn3 hm3); have HY3 := Lib.hid (HR2.out.by_keep HY2.out hg3); have HX3 : Hid (Below w.heap.size w w3) := Lib.hid (HX2.out.grown HG3.out HX2.out.size (fun k hk => by have := Option.some.inj hk; have := HGg.out; omega)); have HZ3 := Lib.hid (HZ2.out.grown HG3.out (fun e => by have := Option.some.inj e; have := HGg.out; omega)); clear hr3 hg3 hes hn3 hm3 ho3)
      | (go_at_call 45; (with_reducible refine (HEd.out _ _ _ HR3.out).mono ?_); rintro e w4 ⟨x, rfl, hx, rfl⟩; have hx0 : x = 0 := hx.2 HST.out; subst hx0; clear hx)
      | (go_at_call 50; (with_reducible refine (HMy.out _ _ _ _ HES3.out).mono ?_); rintro e w5 ⟨rfl, hb5⟩; have HX5 := Lib.hid (below_step HX3.out hb5); have HZ5 := Lib.hid (HZ3.out.through hb5); have HES5 := Lib.hid (HES3.out.through hb5); have HO5 := Lib.hid (HO3.out.through hb5); have HY5 := Lib.hid (HY3.out.through hb5); clear hb5)
      | (refine wpList_store_blk rfl 34 (.tmp 4) (.tmp 33) rfl w.heap.size [.int .i64 0, .int .i64 0, .int .i64 0, .string (ba []), .int .i64 0, .int .i64 0, .string (ba []), .slice none 0 0] rfl rfl 34 [.int .i64 0, .int .i64 0, .int .i64 0, .string (ba []), .int .i64 0, .int .i64 0, .string (ba []), .slice none 0 0] HZ5.out (by kernel_rfl) rfl (one8 _ _ _ _ _ _ _ _ _ _) ?_; intro wy hby hgy; have HGy := Lib.hid hgy; have HBy := Lib.hid hby; have HXy : Hid (Below w.heap.size w wy) := Lib.hid (HX5.out.grown hgy HX5.out.size (fun k hk => by have := Option.some.inj hk; omega)); clear hby hgy))
    (try simp only [Exit.inBlock, Exit.then]); refine bodyPost_ret (results_cell_row_tmp1 rfl _ _ w.heap.size 34 _ (0, 0) _ rfl HBy.out Try.underlying34 rfl (by kernel_rfl)) rfl ?_
    exact ⟨none, 0, 0, rfl, EsIn.none_, Nat.le_refl _, by simp [maxLen], HXy.out⟩
  | true =>
    rw [hri] at hmy
    have HMy := Lib.hid hmy
    by_cases her : PC.2 = 0
    case pos =>
      have hpe : P = (⟨PC.1, L.1⟩, 0) := by rw [HPP.out, if_pos ⟨hst, hri⟩, if_pos her]
      subst hpe
      rw [her] at hpc
      have HPc := Lib.hid hpc
      obtain ⟨c1, hc1⟩ : ∃ c1, PC.1 = c1 := ⟨_, rfl⟩
      rw [hc1] at HPc
      simp only
      rw [hc1]
      clear hst hri hmy hpc her hc1
      go_enter Try.func15, Try.ntmps15
      go_wp2_with (first
        | (go_at_call 37; (with_reducible refine (HSZ.out _).mono ?_); rintro e w0 ⟨rfl, rfl⟩)
        | (go_at_call 42; (with_reducible refine (HRe0.out _ HY0.out).mono ?_); rintro e w1 ⟨g, rfl, hr1, hb1, hg1⟩; have HX1 : Hid (Below w.heap.size w w1) := Lib.hid (below_step (below1_ w (.cells #[.int .i64 0, .int .i64 0, .int .i64 0, .string (ba []), .int .i64 0, .int .i64 0, .string (ba []), .slice none 0 0] 34)) hb1); have HR1 := Lib.hid hr1.lt_; have HGg : Hid (w.heap.size + 1 ≤ g) := Lib.hid (by simpa using hg1); have HZ1 := Lib.hid (HZ0.out.through hb1); clear hr1 hb1 hg1)
        | (go_at_call 44; (with_reducible refine (HRow.out _ _ _ HR1.out).mono ?_); rintro e w2 ⟨Bc, mc, cc, rfl, hyc, hr2, hg2⟩; have HR2 := Lib.hid hr2; have HG2 := Lib.hid hg2; have HY2 := Lib.hid hyc; have HX2 : Hid (Below w.heap.size w w2) := Lib.hid (HX1.out.grown HG2.out HX1.out.size (fun k hk => by have := Option.some.inj hk; have := HGg.out; omega)); have HZ2 := Lib.hid (HZ1.out.grown HG2.out (fun e => by have := Option.some.inj e; have := HGg.out; omega)); clear hr2 hg2 hyc)
        | (go_at_call 49; (with_reducible refine (HEn.out _ _ _ HR2.out HG2.out.size).mono ?_); rintro e w3 ⟨v3, rfl, ho3, hr3, hg3⟩; obtain ⟨A3, c3, rfl, hn3, hm3, hes⟩ := ho3.out; have HO3 := Lib.hid ho3; have HZL := Lib.hid HZ2.out.lt; have HR3 := Lib.hid hr3; have HG3 := Lib.hid hg3; have HES3 := Lib.hid hes; have HC3 := Lib.hid (And.intro hn3 hm3); have HY3 := Lib.hid (HR2.out.by_keep HY2.out hg3); have HX3 : Hid (Below w.heap.size w w3) := Lib.hid (HX2.out.grown HG3.out HX2.out.size (fun k hk => by have := Option.some.inj hk; have := HGg.out; omega)); have HZ3 := Lib.hid (HZ2.out.grown HG3.out (fun e => by have := Option.some.inj e; have := HGg.out; omega)); clear hr3 hg3 hes hn3 hm3 ho3)
        | (go_at_call 45; (with_reducible refine (HEd.out _ _ _ HR3.out).mono ?_); rintro e w4 ⟨x, rfl, hx, rfl⟩; have hx0 : x = 0 := hx.2 HST.out; subst hx0; clear hx)
        | (go_at_call 50; (with_reducible refine (HMy.out _ _ _ _ HES3.out).mono ?_); rintro e w5 ⟨rfl, hb5⟩; have HX5 := Lib.hid (below_step HX3.out hb5); have HZ5 := Lib.hid (HZ3.out.through hb5); have HES5 := Lib.hid (HES3.out.through hb5); have HO5 := Lib.hid (HO3.out.through hb5); have HY5 := Lib.hid (HY3.out.through hb5); clear hb5)
        | (go_at_call 13; (with_reducible refine (HPc.out _ _ _ _ HY5.out).mono ?_); rintro e w6 ⟨rfl, hb6⟩; have HX6 := Lib.hid (below_step HX5.out hb6); have HZ6 := Lib.hid (HZ5.out.through hb6); have HO6 := Lib.hid (HO5.out.through hb6); clear hb6)
        | (refine wpList_load_blk rfl 23 (.tmp 9) rfl w6.heap.size rfl 23 [.int .i64 c1.cl, .int .i64 c1.sp, .int .i64 c1.op, .string (ba c1.lt), .int .i64 c1.a, .int .i64 c1.b, .string (ba c1.tx)] _ (Blk.fresh rfl rfl) Try.underlying23 rfl (by kernel_rfl) ?_)
        | (refine wpList_store_blk rfl 34 (.tmp 4) (.tmp 46) rfl w.heap.size [.int .i64 c1.cl, .int .i64 c1.sp, .int .i64 c1.op, .string (ba c1.lt), .int .i64 c1.a, .int .i64 c1.b, .string (ba c1.tx), .slice A3 L.1.length c3] rfl rfl 34 [.int .i64 0, .int .i64 0, .int .i64 0, .string (ba []), .int .i64 0, .int .i64 0, .string (ba []), .slice none 0 0] (HZ6.out.alloc (.cells #[.int .i64 c1.cl, .int .i64 c1.sp, .int .i64 c1.op, .string (ba c1.lt), .int .i64 c1.a, .int .i64 c1.b, .string (ba c1.tx)] 23)) (by kernel_rfl) rfl (one8 _ _ _ _ _ _ _ _ _ _) ?_; intro wy hby hgy; have HGy := Lib.hid hgy; have HBy := Lib.hid hby; have HXy : Hid (Below w.heap.size w wy) := Lib.hid ((HX6.out.alloc HX6.out.size (.cells #[.int .i64 c1.cl, .int .i64 c1.sp, .int .i64 c1.op, .string (ba c1.lt), .int .i64 c1.a, .int .i64 c1.b, .string (ba c1.tx)] 23)).grown hgy (HX6.out.alloc HX6.out.size (.cells #[.int .i64 c1.cl, .int .i64 c1.sp, .int .i64 c1.op, .string (ba c1.lt), .int .i64 c1.a, .int .i64 c1.b, .string (ba c1.tx)] 23)).size (fun k hk => by have := Option.some.inj hk; omega)); clear hby hgy))
      (try simp only [Exit.inBlock, Exit.then]); refine bodyPost_ret (results_cell_row_tmp1 rfl _ _ w.heap.size 34 _ (0, 0) _ rfl HBy.out Try.underlying34 rfl (by kernel_rfl)) rfl ?_
      exact ⟨A3, _, c3, rfl, ((HO6.out.alloc (.cells #[.int .i64 c1.cl, .int .i64 c1.sp, .int .i64 c1.op, .string (ba c1.lt), .int .i64 c1.a, .int .i64 c1.b, .string (ba c1.tx)] 23)).far HGy.out HZL.out).es, HC3.out.1, HC3.out.2, HXy.out⟩
    case neg =>
      obtain ⟨er, her2⟩ : ∃ er, PC.2 = er := ⟨_, rfl⟩
      have hpe : P = (Rq.no, er) := by rw [HPP.out, if_pos ⟨hst, hri⟩, if_neg her, her2]
      subst hpe
      rw [her2] at hpc her
      have HPc := Lib.hid hpc
      have hkb : (er == 0) = false := by simpa using her
      have hkd : (er != 0) = true := by simpa using her
      obtain ⟨c1, hc1⟩ : ∃ c1, PC.1 = c1 := ⟨_, rfl⟩
      rw [hc1] at HPc
      clear hst hri hmy hpc her her2 hc1
      go_enter Try.func15, Try.ntmps15
      go_wp2_with (first
        | (go_at_call 37; (with_reducible refine (HSZ.out _).mono ?_); rintro e w0 ⟨rfl, rfl⟩)
        | (go_at_call 42; (with_reducible refine (HRe0.out _ HY0.out).mono ?_); rintro e w1 ⟨g, rfl, hr1, hb1, hg1⟩; have HX1 : Hid (Below w.heap.size w w1) := Lib.hid (below_step (below1_ w (.cells #[.int .i64 0, .int .i64 0, .int .i64 0, .string (ba []), .int .i64 0, .int .i64 0, .string (ba []), .slice none 0 0] 34)) hb1); have HR1 := Lib.hid hr1.lt_; have HGg : Hid (w.heap.size + 1 ≤ g) := Lib.hid (by simpa using hg1); have HZ1 := Lib.hid (HZ0.out.through hb1); clear hr1 hb1 hg1)
        | (go_at_call 44; (with_reducible refine (HRow.out _ _ _ HR1.out).mono ?_); rintro e w2 ⟨Bc, mc, cc, rfl, hyc, hr2, hg2⟩; have HR2 := Lib.hid hr2; have HG2 := Lib.hid hg2; have HY2 := Lib.hid hyc; have HX2 : Hid (Below w.heap.size w w2) := Lib.hid (HX1.out.grown HG2.out HX1.out.size (fun k hk => by have := Option.some.inj hk; have := HGg.out; omega)); have HZ2 := Lib.hid (HZ1.out.grown HG2.out (fun e => by have := Option.some.inj e; have := HGg.out; omega)); clear hr2 hg2 hyc)
        | (go_at_call 49; (with_reducible refine (HEn.out _ _ _ HR2.out HG2.out.size).mono ?_); rintro e w3 ⟨v3, rfl, ho3, hr3, hg3⟩; obtain ⟨A3, c3, rfl, hn3, hm3, hes⟩ := ho3.out; have HO3 := Lib.hid ho3; have HZL := Lib.hid HZ2.out.lt; have HR3 := Lib.hid hr3; have HG3 := Lib.hid hg3; have HES3 := Lib.hid hes; have HC3 := Lib.hid (And.intro hn3 hm3); have HY3 := Lib.hid (HR2.out.by_keep HY2.out hg3); have HX3 : Hid (Below w.heap.size w w3) := Lib.hid (HX2.out.grown HG3.out HX2.out.size (fun k hk => by have := Option.some.inj hk; have := HGg.out; omega)); have HZ3 := Lib.hid (HZ2.out.grown HG3.out (fun e => by have := Option.some.inj e; have := HGg.out; omega)); clear hr3 hg3 hes hn3 hm3 ho3)
        | (go_at_call 45; (with_reducible refine (HEd.out _ _ _ HR3.out).mono ?_); rintro e w4 ⟨x, rfl, hx, rfl⟩; have hx0 : x = 0 := hx.2 HST.out; subst hx0; clear hx)
        | (go_at_call 50; (with_reducible refine (HMy.out _ _ _ _ HES3.out).mono ?_); rintro e w5 ⟨rfl, hb5⟩; have HX5 := Lib.hid (below_step HX3.out hb5); have HZ5 := Lib.hid (HZ3.out.through hb5); have HES5 := Lib.hid (HES3.out.through hb5); have HO5 := Lib.hid (HO3.out.through hb5); have HY5 := Lib.hid (HY3.out.through hb5); clear hb5)
        | (go_at_call 13; (with_reducible refine (HPc.out _ _ _ _ HY5.out).mono ?_); rintro e w6 ⟨rfl, hb6⟩; have HX6 := Lib.hid (below_step HX5.out hb6); have HZ6 := Lib.hid (HZ5.out.through hb6); have HO6 := Lib.hid (HO5.out.through hb6); clear hb6)
        | (refine wpList_store_blk rfl 34 (.tmp 4) (.tmp 42) rfl w.heap.size [.int .i64 0, .int .i64 0, .int .i64 0, .string (ba []), .int .i64 0, .int .i64 0, .string (ba []), .slice none 0 0] rfl rfl 34 [.int .i64 0, .int .i64 0, .int .i64 0, .string (ba []), .int .i64 0, .int .i64 0, .string (ba []), .slice none 0 0] (HZ6.out.alloc (.cells #[.int .i64 c1.cl, .int .i64 c1.sp, .int .i64 c1.op, .string (ba c1.lt), .int .i64 c1.a, .int .i64 c1.b, .string (ba c1.tx)] 23)) (by kernel_rfl) rfl (one8 _ _ _ _ _ _ _ _ _ _) ?_; intro wy hby hgy; have HGy := Lib.hid hgy; have HBy := Lib.hid hby; have HXy : Hid (Below w.heap.size w wy) := Lib.hid ((HX6.out.alloc HX6.out.size (.cells #[.int .i64 c1.cl, .int .i64 c1.sp, .int .i64 c1.op, .string (ba c1.lt), .int .i64 c1.a, .int .i64 c1.b, .string (ba c1.tx)] 23)).grown hgy (HX6.out.alloc HX6.out.size (.cells #[.int .i64 c1.cl, .int .i64 c1.sp, .int .i64 c1.op, .string (ba c1.lt), .int .i64 c1.a, .int .i64 c1.b, .string (ba c1.tx)] 23)).size (fun k hk => by have := Option.some.inj hk; omega)); clear hby hgy))
      (try simp only [Exit.inBlock, Exit.then]); refine bodyPost_ret (results_cell_row_tmp1 rfl _ _ w.heap.size 34 _ (0, 0) _ rfl HBy.out Try.underlying34 rfl (by kernel_rfl)) rfl ?_
      exact ⟨none, 0, 0, rfl, EsIn.none_, Nat.le_refl _, by simp [maxLen], HXy.out⟩

end Go.Proofs.Ytfonkdcpghbaoaa
