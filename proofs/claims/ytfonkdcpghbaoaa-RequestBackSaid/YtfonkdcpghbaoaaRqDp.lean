/-
  The document's Parse of a request, walked.
-/
import Derived.Test.YtfonkdcpghbaoaaRqDf
import Derived.Test.YtfonkdcpghbaoaaRqDe
import Derived.Test.YtfonkdcpghbaoaaRqPp
import Derived.Test.YtfonkdcpghbaoaaRqS
import Derived.Deep.CutBlock
namespace Go.Proofs.Ytfonkdcpghbaoaa
open Go.RowKit

theorem Try.build_en0 (i : Int) (w : World) : (Instr.build 41 #[(0, .int .i64 i)]).run Try.prog w = .ok (.agg #[.int .i64 i, .slice none 0 0]) w := by kernel_rfl
theorem rdMany_step {α : Type} (rd : Option (List UInt8) → α × Option (List UInt8)) (k : Nat) (xs : List UInt8) (pre : List α) : (pre ++ (rdMany rd (k + 1) (some xs)).1, (rdMany rd (k + 1) (some xs)).2) = ((pre ++ [(rd (some xs)).1]) ++ (rdMany rd k (rd (some xs)).2).1, (rdMany rd k (rd (some xs)).2).2) := by
  rw [rdMany_some]
  simp
theorem rdMany_length {α : Type} (rd : Option (List UInt8) → α × Option (List UInt8)) : ∀ (n : Nat) (st : Option (List UInt8)), (rdMany rd n st).1.length ≤ n
  | 0, _ => by simp [rdMany]
  | n + 1, none => by rw [rdMany_none]; exact Nat.zero_le _
  | n + 1, some xs => by rw [rdMany_some]; simp; exact rdMany_length rd n _
/-- A store of the first cells of a block. -/
theorem wpList_store_front {P : Program} {ops : Array Oper} {rest : List Oper} {o : Oper} {a : Act} {w : World} {Q : Exit → Act → World → Prop} (hgd : o.guard = none) (ty : TypeId) (x y : Operand) (ho : o.op = .store ty x y)
    (g : Nat) (cells : List Value) (hx : a.eval x = .pointer (some ⟨g, 0, none⟩)) (hy : a.eval y = .agg cells.toArray) (t : TypeId) (old post : List Value) (hg : Blk w g t (old ++ post)) (hi : (P.info? ty).map (·.size) = some cells.length)
    (hold : old.length = cells.length) (h1 : cells.toArray.all (·.oneCell') = true)
    (h : ∀ w', Blk w' g t (cells ++ post) → w.grownBy w' (some g) → wpList P ops Q rest (a.put o.dst undef) w') : wpList P ops Q (o :: rest) a w := by
  have hb : Blk w g t (([] : List Value) ++ (old ++ post)) := hg
  have hth : w.there g 0 cells.toArray.size := fun j hj => ⟨by rw [Nat.zero_add, hg.cell]; rw [List.getElem?_append_left (by simp at hj; omega)]; simp at hj; simp; omega, hg.frozen _⟩
  refine wpList_store_mid hgd ty x y ho g 0 cells.toArray hx hy hth (by simpa using hi) h1 (h _ ?_ ?_)
  · exact Blk.cells (t := t) g cells [] old post w (by simpa using hold) hb
  · exact only_cells g _ 0 w
theorem put_next {ys : List UInt8} {i : Nat} (h : i < ys.length) (h32 : i < 32) : (vs (ys.take i ++ List.replicate (32 - i) 0)).set i (u8 ys[i]) = vs (ys.take (i + 1) ++ List.replicate (32 - (i + 1)) 0) := by
  have e : List.replicate (32 - i) (0 : UInt8) = 0 :: List.replicate (32 - (i + 1)) 0 := by
    rw [← List.replicate_succ]; congr 1; omega
  have hl : (ys.take i).length = i := by rw [List.length_take]; omega
  have e2 : ys.take i ++ ys[i] :: List.replicate (32 - (i + 1)) 0 = ys.take (i + 1) ++ List.replicate (32 - (i + 1)) 0 := by
    rw [List.take_add_one, List.getElem?_eq_getElem h, List.append_assoc]
    rfl
  unfold vs
  rw [← List.map_set, List.set_append_right _ _ (by omega), hl, Nat.sub_self, e, List.set_cons_zero, e2]
theorem copied (st : Option (List UInt8)) {m : Nat} (h : (tval 32 st).length = m) : (tval 32 st).take m ++ List.replicate (32 - m) 0 = tagOf (tval 32 st) := by
  rcases tval_32 st with h9 | h9
  · rw [tagOf_32 h9, ← h, List.take_length, h9]
    simp
  · rw [h9] at h ⊢
    subst h
    rfl

set_option maxHeartbeats 32000000 in
set_option maxRecDepth 100000 in
theorem rparserq_any (xs : List UInt8) (N : Int) (A : Option Addr) (n c : Nat) (w : World) (h : By w (fun _ => True) A n xs) (hnc : n ≤ c) (hc : c ≤ maxLen) (hn : n ≤ 1000000) :
    Calls Try.prog 16 #[.slice A n c, .int .i64 N] w (RqOut w (parseRq 1048576 xs N).1 (parseRq 1048576 xs N).2) := by
  have hz := Try.zero_rq
  have hb0 := Try.build_rq0
  have hbr := Try.build_rdr
  have HZ0 : Hid (Blk (w.alloc (.cells #[.int .i64 0, .int .i64 0, .int .i64 0, .string (ba []), .int .i64 0, .int .i64 0, .string (ba []), .slice none 0 0] 34)) w.heap.size 34 [.int .i64 0, .int .i64 0, .int .i64 0, .string (ba []), .int .i64 0, .int .i64 0, .string (ba []), .slice none 0 0]) := Lib.hid (Blk.fresh rfl rfl)
  have HX0 : Hid (Below w.heap.size w (w.alloc (.cells #[.int .i64 0, .int .i64 0, .int .i64 0, .string (ba []), .int .i64 0, .int .i64 0, .string (ba []), .slice none 0 0] 34))) := Lib.hid (below1_ w _)
  by_cases hN : N < 1 ∨ 7 < N
  · have hP : parseRq 1048576 xs N = (Rq.no, 1) := by unfold parseRq; rw [if_pos hN]
    rw [hP]
    clear hP
    by_cases hN1 : N < 1
    · have d1 : decide (N < 1) = true := decide_eq_true hN1
      clear hN hN1
      go_enter Try.func16, Try.ntmps16
      go_wp2_with (first
        | (refine wpList_store_blk rfl 34 (.tmp 4) (.tmp 23) rfl w.heap.size [.int .i64 0, .int .i64 0, .int .i64 0, .string (ba []), .int .i64 0, .int .i64 0, .string (ba []), .slice none 0 0] rfl rfl 34 [.int .i64 0, .int .i64 0, .int .i64 0, .string (ba []), .int .i64 0, .int .i64 0, .string (ba []), .slice none 0 0] HZ0.out (by kernel_rfl) rfl (one8 _ _ _ _ _ _ _ _ _ _) ?_; intro wy hby hgy; have HGy := Lib.hid hgy; have HBy := Lib.hid hby; have HXy : Hid (Below w.heap.size w wy) := Lib.hid (HX0.out.grown hgy HX0.out.size (fun k hk => by have := Option.some.inj hk; omega)); clear hby hgy))
      (try simp only [Exit.inBlock, Exit.then]); refine bodyPost_ret (results_cell_row_tmp1 rfl _ _ w.heap.size 34 _ (0, 0) _ rfl HBy.out Try.underlying34 rfl (by kernel_rfl)) rfl ?_
      exact ⟨none, 0, 0, rfl, EsIn.none_, Nat.le_refl _, by simp [maxLen], HXy.out⟩
    · have d1 : decide (N < 1) = false := decide_eq_false hN1
      have d2 : decide (7 < N) = true := decide_eq_true (by omega)
      clear hN hN1
      go_enter Try.func16, Try.ntmps16
      go_wp2_with (first
        | (refine wpList_store_blk rfl 34 (.tmp 4) (.tmp 23) rfl w.heap.size [.int .i64 0, .int .i64 0, .int .i64 0, .string (ba []), .int .i64 0, .int .i64 0, .string (ba []), .slice none 0 0] rfl rfl 34 [.int .i64 0, .int .i64 0, .int .i64 0, .string (ba []), .int .i64 0, .int .i64 0, .string (ba []), .slice none 0 0] HZ0.out (by kernel_rfl) rfl (one8 _ _ _ _ _ _ _ _ _ _) ?_; intro wy hby hgy; have HGy := Lib.hid hgy; have HBy := Lib.hid hby; have HXy : Hid (Below w.heap.size w wy) := Lib.hid (HX0.out.grown hgy HX0.out.size (fun k hk => by have := Option.some.inj hk; omega)); clear hby hgy))
      (try simp only [Exit.inBlock, Exit.then]); refine bodyPost_ret (results_cell_row_tmp1 rfl _ _ w.heap.size 34 _ (0, 0) _ rfl HBy.out Try.underlying34 rfl (by kernel_rfl)) rfl ?_
      exact ⟨none, 0, 0, rfl, EsIn.none_, Nat.le_refl _, by simp [maxLen], HXy.out⟩
  obtain ⟨k, rfl⟩ : ∃ k : Nat, N = k := ⟨N.toNat, by omega⟩
  have d1 : decide ((k : Int) < 1) = false := decide_eq_false (by omega)
  have d2 : decide (7 < (k : Int)) = false := decide_eq_false (by omega)
  have hk7 : k ≤ 7 := by omega
  obtain ⟨core, hcore⟩ : ∃ core, rval 1048576 (some xs) = core := ⟨_, rfl⟩
  obtain ⟨s1, hs1⟩ : ∃ s1, rnext 1048576 (some xs) = s1 := ⟨_, rfl⟩
  obtain ⟨L, hL⟩ : ∃ L, rdMany (rdEn k) (cval k s1) (cnext k s1) = L := ⟨_, rfl⟩
  obtain ⟨c1, er0, hPC⟩ : ∃ c1 er0, parseCr 1048576 core (k : Int) = (c1, er0) := ⟨_, _, rfl⟩
  have hP : parseRq 1048576 xs (k : Int) = if L.2 = some [] ∧ endsOk (k : Int) L.1 = true then (if er0 = 0 then (⟨c1, L.1⟩, 0) else (Rq.no, er0)) else (Rq.no, 2) := by
    unfold parseRq rdRq
    rw [if_neg hN, Int.toNat_natCast, hcore, hs1, hL, hPC]
  obtain ⟨P, hPP⟩ : ∃ P, parseRq 1048576 xs (k : Int) = P := ⟨_, rfl⟩
  rw [hPP] at hP ⊢
  have hcl : core.length ≤ 1000000 := by rw [← hcore]; exact Nat.le_trans (rval_stL _ _) (by simp only [stL]; have := h.len; omega)
  have hck := cval_le_ k s1
  have HLl : Hid (L.1.length ≤ 7) := Lib.hid (by rw [← hL]; exact Nat.le_trans (rdMany_length _ _ _) (Nat.le_trans hck hk7))
  have HR2 : Hid (Rs (fun b => b < w.heap.size) ((w.alloc (.cells #[.int .i64 0, .int .i64 0, .int .i64 0, .string (ba []), .int .i64 0, .int .i64 0, .string (ba []), .slice none 0 0] 34)).alloc (.cells #[.slice A n c, .int .i64 0] 76)) (w.heap.size + 1) 76 (some xs)) := Lib.hid (by
    have h1 := rs_built (Q := (fun b => b < w.heap.size)) (((h.lt.weak fun _ h => h.2).alloc (.cells #[.int .i64 0, .int .i64 0, .int .i64 0, .string (ba []), .int .i64 0, .int .i64 0, .string (ba []), .slice none 0 0] 34))) hnc hc (by omega)
    simpa using h1)
  have HX2 : Hid (Below w.heap.size w ((w.alloc (.cells #[.int .i64 0, .int .i64 0, .int .i64 0, .string (ba []), .int .i64 0, .int .i64 0, .string (ba []), .slice none 0 0] 34)).alloc (.cells #[.slice A n c, .int .i64 0] 76))) := Lib.hid (below2_ w _ _)
  have HZ2 : Hid (Blk ((w.alloc (.cells #[.int .i64 0, .int .i64 0, .int .i64 0, .string (ba []), .int .i64 0, .int .i64 0, .string (ba []), .slice none 0 0] 34)).alloc (.cells #[.slice A n c, .int .i64 0] 76)) w.heap.size 34 [.int .i64 0, .int .i64 0, .int .i64 0, .string (ba []), .int .i64 0, .int .i64 0, .string (ba []), .slice none 0 0]) := Lib.hid ((Blk.fresh rfl rfl).alloc _)
  have hs2 : w.heap.size + 2 ≤ ((w.alloc (.cells #[.int .i64 0, .int .i64 0, .int .i64 0, .string (ba []), .int .i64 0, .int .i64 0, .string (ba []), .slice none 0 0] 34)).alloc (.cells #[.slice A n c, .int .i64 0] 76)).heap.size := by simp
  have HRow : Hid (Calls Try.prog 47 #[.pointer (some ⟨w.heap.size + 1, 0, none⟩), .int .i64 1048576] ((w.alloc (.cells #[.int .i64 0, .int .i64 0, .int .i64 0, .string (ba []), .int .i64 0, .int .i64 0, .string (ba []), .slice none 0 0] 34)).alloc (.cells #[.slice A n c, .int .i64 0] 76)) fun e w' => ∃ B m cX, e = .returned (.slice B m cX) ∧ (m ≤ cX ∧ cX ≤ maxLen) ∧ By w' (fun b => ((w.alloc (.cells #[.int .i64 0, .int .i64 0, .int .i64 0, .string (ba []), .int .i64 0, .int .i64 0, .string (ba []), .slice none 0 0] 34)).alloc (.cells #[.slice A n c, .int .i64 0] 76)).heap.size ≤ b) B m core ∧ Rs (fun b => b < w.heap.size) w' (w.heap.size + 1) tQ s1 ∧ ((w.alloc (.cells #[.int .i64 0, .int .i64 0, .int .i64 0, .string (ba []), .int .i64 0, .int .i64 0, .string (ba []), .slice none 0 0] 34)).alloc (.cells #[.slice A n c, .int .i64 0] 76)).grownBy w' (some (w.heap.size + 1))) := Lib.hid (by
    have h9 := rrow_rsF HR2.out 1048576 (by omega)
    rw [hcore, hs1, show ((1048576 : Nat) : Int) = 1048576 from rfl] at h9
    exact h9)
  have HCnt : Hid (∀ W, Rs (fun b => b < w.heap.size) W (w.heap.size + 1) tQ s1 → Calls Try.prog 51 #[.pointer (some ⟨w.heap.size + 1, 0, none⟩), .int .i64 (k : Int)] W fun e w' => e = .returned (.int .i64 (cval k s1)) ∧ Rs (fun b => b < w.heap.size) w' (w.heap.size + 1) tQ (cnext k s1) ∧ W.grownBy w' (some (w.heap.size + 1))) := Lib.hid (fun W hR => rcount_rs hR k)
  have HPP := Lib.hid hP
  have HLL := Lib.hid hL
  have HPC0 := Lib.hid hPC
  have HCL := Lib.hid hcl
  have HN := Lib.hid hN
  have HCK := Lib.hid hck
  have hbe := Try.build_en0
  have HIX := Lib.hid Try.ix_tg
  clear h hN hcore hs1 hPC hP hPP hcl hL hck
  go_enter Try.func16, Try.ntmps16
  go_upto_block 0 with (first
    | (go_at_call 47; (refine (HRow.out).mono ?_); rintro e w3 ⟨Bc, mc, cc, rfl, hcc, hyc, hr3, hg3⟩; have HCC := Lib.hid hcc; have HR3 := Lib.hid hr3; have HY3 := Lib.hid (hyc.weak (Q' := fun _ => True) fun _ _ => trivial); have HX3 : Hid (Below w.heap.size w w3) := Lib.hid (HX2.out.grown hg3 HX2.out.size (fun k hk => by have := Option.some.inj hk; omega)); have HZ3 := Lib.hid (HZ2.out.grown hg3 (by simp)); have hs3 : w.heap.size + 2 ≤ w3.heap.size := Nat.le_trans hs2 hg3.size; clear hr3 hg3 hyc hcc)
    | (go_at_call 51; (refine (HCnt.out _ (HR3.out.alloc (.cells #[.int .i64 0, .int .i64 0, .int .i64 0, .string (ba []), .int .i64 0, .int .i64 0, .string (ba []), .slice none 0 0] 34))).mono ?_); rintro e w5 ⟨rfl, hr5, hg5⟩; have HR5 := Lib.hid hr5; have HG5 : Hid (w3.grownBy w5 (some (w.heap.size + 1))) := Lib.hid (only_trans (only_below (below1_ w3 (.cells #[.int .i64 0, .int .i64 0, .int .i64 0, .string (ba []), .int .i64 0, .int .i64 0, .string (ba []), .slice none 0 0] 34))) hg5); have HB5 : Hid (Blk w5 w3.heap.size 34 [.int .i64 0, .int .i64 0, .int .i64 0, .string (ba []), .int .i64 0, .int .i64 0, .string (ba []), .slice none 0 0]) := Lib.hid ((Blk.fresh rfl rfl : Blk (w3.alloc (.cells #[.int .i64 0, .int .i64 0, .int .i64 0, .string (ba []), .int .i64 0, .int .i64 0, .string (ba []), .slice none 0 0] 34)) w3.heap.size 34 [.int .i64 0, .int .i64 0, .int .i64 0, .string (ba []), .int .i64 0, .int .i64 0, .string (ba []), .slice none 0 0]).grown hg5 (by simp; omega)); have hs5 : (w3.heap.size + 1) ≤ w5.heap.size := (by have := hg5.size; simpa using this); clear hr5 hg5))
  go_cut [9, 10, 11, 12, 13, 14] from 32 to 75 (fun _ _ _ _ _ _ wx => ∃ (pre : List En) (Av : Option Addr) (nv cv : Nat) (s : Option (List UInt8)), L = (pre, s) ∧ Rs (fun b => b < w.heap.size) wx (w.heap.size + 1) tQ s ∧ OEs wx (w3.heap.size + 1) (.slice Av nv cv) pre ∧ Blk wx w3.heap.size 34 [.int .i64 0, .int .i64 0, .int .i64 0, .string (ba []), .int .i64 0, .int .i64 0, .string (ba []), .slice Av nv cv] ∧ w3.grownBy wx (some (w.heap.size + 1)) ∧ (w3.heap.size + 1) ≤ wx.heap.size)
  case first =>
    go_wp2_with fail
    go_loopw [9] (fun iv wr => ∃ (r : Nat), ∃ (pre : List En) (Av : Option Addr) (nv cv : Nat) (s : Option (List UInt8)), r + pre.length ≤ 7 ∧ iv = .int .i64 (r : Int) ∧ (pre ++ (rdMany (rdEn k) r s).1, (rdMany (rdEn k) r s).2) = L ∧ Rs (fun b => b < w.heap.size) wr (w.heap.size + 1) tQ s ∧ OEs wr (w3.heap.size + 1) (.slice Av nv cv) pre ∧ Blk wr w3.heap.size 34 [.int .i64 0, .int .i64 0, .int .i64 0, .string (ba []), .int .i64 0, .int .i64 0, .string (ba []), .slice Av nv cv] ∧ w3.grownBy wr (some (w.heap.size + 1)) ∧ (w3.heap.size + 1) ≤ wr.heap.size) (fun iv _ => (intOf iv).toNat)
    case atStart => exact ⟨_, [], none, 0, 0, _, by have := HCK.out; simp; omega, rfl, by simpa using HLL.out, HR5.out, OEs.nil _ _, HB5.out, HG5.out, hs5⟩
    case round =>
      obtain ⟨r, pre, Av, nv, cv, s, hk, rfl, hL, hr, ho, hb, hg, hs⟩ := hrel
      have HRl := Lib.hid hr; have HOl := Lib.hid ho; have HBl := Lib.hid hb; have HGl := Lib.hid hg; have HSl := Lib.hid hs
      obtain ⟨er, hcell, her⟩ := HRl.out.err
      clear hr ho hb hg hs
      cases r with
      | zero =>
        rw [rdMany_zero] at hL
        have HL2 := Lib.hid hL
        clear hL her hcell
        go_wp2
        go_meet
        case rel => exact ⟨pre, Av, nv, cv, s, (by have := HL2.out; simpa using this.symm), HRl.out, HOl.out, HBl.out, HGl.out, HSl.out⟩
      | succ r =>
        have hkd : decide ((0 : Int) < (r : Int) + 1) = true := decide_eq_true (by omega)
        have hwr : IntKind.i64.wrap ((r : Int) + 1 - 1) = (r : Int) := by rw [IntWalk.i64_in _ (by omega)]; omega
        have hwr2 : (r : Int) + 1 - 1 = (r : Int) := by omega
        cases s with
        | none =>
          rw [rdMany_none] at hL
          have HL2 := Lib.hid hL
          have hne : (er == 0) = false := by simpa using her
          clear hL her
          go_wp2
          go_meet
          case rel => exact ⟨pre, Av, nv, cv, none, (by have := HL2.out; simpa using this.symm), HRl.out, HOl.out, HBl.out, HGl.out, HSl.out⟩
        | some x =>
          have he0 : er = 0 := her.2 (by simp)
          subst he0
          obtain ⟨T, hT⟩ : ∃ T, rdAll rdTg k (nnext 1 (some x)) = T := ⟨_, rfl⟩
          have HLn : Hid ((pre ++ [⟨((nval 1 (some x) : Nat) : Int), T.1⟩] ++ (rdMany (rdEn k) r T.2).1, (rdMany (rdEn k) r T.2).2) = L) := Lib.hid (by
            have h9 := (rdMany_step (rdEn k) r x pre).symm.trans hL
            unfold rdEn at h9
            rw [hT] at h9
            exact h9)
          have HT0 := Lib.hid hT
          have hcv := fun (W : World) => conv_small 65 3 Try.underlying65 Try.underlying3 (nval 1 (some x)) (by have := nval_lt 1 (some x); simp only [e1] at this; omega) W
          clear hL her hT
          go_wp2_with (first
            | (go_at_call 46; (refine (rnumber_rs HRl.out 1 rfl).mono ?_); rintro e wa ⟨rfl, hra, hga⟩; have HRa := Lib.hid (hra.alloc (.cells #[.int .i64 ((nval 1 (some x) : Nat) : Int), .slice none 0 0] 41)); have HOa := Lib.hid (HOl.out.far hga (by omega)); have HBa := Lib.hid (HBl.out.grown hga (by simp; omega)); have HGa := Lib.hid (only_trans HGl.out hga); have HSa : Hid ((w3.heap.size + 1) ≤ wa.heap.size) := Lib.hid (Nat.le_trans HSl.out hga.size); clear hra hga))
          clear hcv hkd hcell
          go_loopw [11] (fun jv wr => ∃ (j : Nat) (tp : List (List UInt8)) (Ap : Option Addr) (np cp : Nat) (s2 : Option (List UInt8)), j ≤ k ∧ jv = .int .i64 (j : Int) ∧ tp.length = j ∧ (tp ++ (rdAll rdTg (k - j) s2).1, (rdAll rdTg (k - j) s2).2) = T ∧ Rs (fun b => b < w.heap.size) wr (w.heap.size + 1) tQ s2 ∧ OTs wr (wa.heap.size + 1) (Ap, np, cp) tp ∧ Blk wr wa.heap.size 41 [.int .i64 ((nval 1 (some x) : Nat) : Int), .slice Ap np cp] ∧ wa.grownBy wr (some (w.heap.size + 1)) ∧ (wa.heap.size + 1) ≤ wr.heap.size) (fun jv _ => k - (intOf jv).toNat)
          case atStart => exact ⟨0, [], none, 0, 0, _, Nat.zero_le _, rfl, rfl, by simpa using HT0.out, HRa.out, ⟨Os.nil _ _ _ _, fun t h => by cases h⟩, Blk.fresh rfl rfl, only_below (below1_ wa _), by simp⟩
          case round =>
            obtain ⟨j, tp, Ap, np, cp, s2, hj, rfl, htp, hT2, hrj, hoj, hej, hgj, hsj⟩ := hrel
            obtain ⟨wj, hwj⟩ : ∃ wj, wj = wr := ⟨_, rfl⟩
            subst hwj
            have HRj := Lib.hid hrj; have HOj := Lib.hid hoj; have HEj := Lib.hid hej; have HGj := Lib.hid hgj; have HSj := Lib.hid hsj; have HTp := Lib.hid htp; have HT2 := Lib.hid hT2
            clear hrj hoj hej hgj hsj htp hT2
            by_cases hlt : j < k
            · go_wp2_with (first
                | (go_at_call 52; (refine (rfixed_rsF (HRj.out.alloc (.cells #[.int .u8 0, .int .u8 0, .int .u8 0, .int .u8 0, .int .u8 0, .int .u8 0, .int .u8 0, .int .u8 0, .int .u8 0, .int .u8 0, .int .u8 0, .int .u8 0, .int .u8 0, .int .u8 0, .int .u8 0, .int .u8 0, .int .u8 0, .int .u8 0, .int .u8 0, .int .u8 0, .int .u8 0, .int .u8 0, .int .u8 0, .int .u8 0, .int .u8 0, .int .u8 0, .int .u8 0, .int .u8 0, .int .u8 0, .int .u8 0, .int .u8 0, .int .u8 0] 80)) 32).mono ?_); rintro e wd ⟨Bf, mf, cf, rfl, hyf, hrf, hgf⟩; have HRd := Lib.hid hrf; have HYd := Lib.hid hyf; have HTd : Hid (Blk wd wj.heap.size 80 (vs (List.replicate 32 0))) := Lib.hid ((Blk.fresh rfl rfl : Blk (wj.alloc (.cells #[.int .u8 0, .int .u8 0, .int .u8 0, .int .u8 0, .int .u8 0, .int .u8 0, .int .u8 0, .int .u8 0, .int .u8 0, .int .u8 0, .int .u8 0, .int .u8 0, .int .u8 0, .int .u8 0, .int .u8 0, .int .u8 0, .int .u8 0, .int .u8 0, .int .u8 0, .int .u8 0, .int .u8 0, .int .u8 0, .int .u8 0, .int .u8 0, .int .u8 0, .int .u8 0, .int .u8 0, .int .u8 0, .int .u8 0, .int .u8 0, .int .u8 0, .int .u8 0] 80)) wj.heap.size 80 (vs (List.replicate 32 0))).grown hgf (by have := HSj.out; have := HSa.out; simp; omega)); have HGd : Hid (wj.grownBy wd (some (w.heap.size + 1))) := Lib.hid (only_trans (only_below (below1_ wj (.cells #[.int .u8 0, .int .u8 0, .int .u8 0, .int .u8 0, .int .u8 0, .int .u8 0, .int .u8 0, .int .u8 0, .int .u8 0, .int .u8 0, .int .u8 0, .int .u8 0, .int .u8 0, .int .u8 0, .int .u8 0, .int .u8 0, .int .u8 0, .int .u8 0, .int .u8 0, .int .u8 0, .int .u8 0, .int .u8 0, .int .u8 0, .int .u8 0, .int .u8 0, .int .u8 0, .int .u8 0, .int .u8 0, .int .u8 0, .int .u8 0, .int .u8 0, .int .u8 0] 80))) hgf); have HSd : Hid (wj.heap.size + 1 ≤ wd.heap.size) := Lib.hid (by have := hgf.size; simpa using this); clear hyf hrf hgf))
              go_loopw [55] (fun iv wr => ∃ i : Nat, i ≤ mf ∧ iv = .int .i64 (i : Int) ∧ Blk wr wj.heap.size 80 (vs ((tval 32 s2).take i ++ List.replicate (32 - i) 0)) ∧ wd.grownBy wr (some wj.heap.size)) (fun iv _ => mf - (intOf iv).toNat)
              case atStart => exact ⟨0, Nat.zero_le _, rfl, HTd.out, only_refl _ _⟩
              case round =>
                obtain ⟨i, hi, rfl, hb3, hg3⟩ := hrel
                have H3 := Lib.hid hb3
                have HG3 := Lib.hid hg3
                have hml : (tval 32 s2).length = mf := HYd.out.len
                have HML := Lib.hid hml
                have h32 : mf ≤ 32 := by rcases tval_32 s2 with h9 | h9 <;> rw [h9] at hml <;> (try simp at hml) <;> omega
                have hy3 : By wr (fun b => (wj.alloc (.cells #[.int .u8 0, .int .u8 0, .int .u8 0, .int .u8 0, .int .u8 0, .int .u8 0, .int .u8 0, .int .u8 0, .int .u8 0, .int .u8 0, .int .u8 0, .int .u8 0, .int .u8 0, .int .u8 0, .int .u8 0, .int .u8 0, .int .u8 0, .int .u8 0, .int .u8 0, .int .u8 0, .int .u8 0, .int .u8 0, .int .u8 0, .int .u8 0, .int .u8 0, .int .u8 0, .int .u8 0, .int .u8 0, .int .u8 0, .int .u8 0, .int .u8 0, .int .u8 0] 80)).heap.size ≤ b) Bf mf (tval 32 s2) := (HYd.out.lt.keep fun b hb => hg3.block b hb.2 (fun e => by have := Option.some.inj e; have h7 : wj.heap.size + 1 ≤ b := (by simpa using hb.1); omega)).weak fun _ h => h.1
                clear hb3 hg3
                by_cases hli : i < mf
                · have hil : i < (tval 32 s2).length := by omega
                  have hi32 : i < 32 := by omega
                  obtain ⟨gb, ob, rfl, hc3⟩ := hy3.cell i hil
                  unfold u8 at hc3
                  have HPN := Lib.hid (put_next hil hi32)
                  clear hy3 hml
                  go_wp2_with (first
                    | (refine wpList_store_cell rfl 5 (.tmp 62) (.tmp 61) rfl wj.heap.size i (by simp [Act.eval]) (u8 (tval 32 s2)[i]) (by simp [Act.eval, u8]) rfl rfl (fun w => by kernel_rfl) 80 (vs ((tval 32 s2).take i ++ List.replicate (32 - i) 0)) H3.out (by rw [vs_length]; simp; omega) ?_; intro w6 hb6 hg6; have H6 := Lib.hid hb6; have HG6 := Lib.hid (only_trans HG3.out hg6); clear hb6 hg6))
                  go_roundw
                  case rel => exact ⟨i + 1, by omega, by go_num, by (have h9 := H6.out; rw [HPN.out] at h9; exact h9), HG6.out⟩
                  case measure => simp [intOf]; omega
                · have hie : i = mf := by omega
                  subst hie
                  obtain ⟨tg, htg⟩ : ∃ tg, tagOf (tval 32 s2) = tg := ⟨_, rfl⟩
                  have htl : tg.length = 32 := by rw [← htg]; exact tagOf_len _
                  have HTL := Lib.hid htl
                  have HT3 : Hid (Blk wr wj.heap.size 80 (vs tg)) := Lib.hid (by rw [← htg, ← copied s2 hml]; exact H3.out)
                  have HGw : Hid (wj.grownBy wr (some (w.heap.size + 1))) := Lib.hid (only_own_ HGd.out HG3.out (fun h e => by have := Option.some.inj e; omega))
                  have HOw := Lib.hid (HOj.out.1.far HGw.out (by have := HSa.out; omega))
                  have HEw := Lib.hid (HEj.out.grown HGw.out (by have := HSa.out; simp; omega))
                  have HRw := Lib.hid (HRd.out.other HG3.out (fun b hb => ⟨fun e => by have := Option.some.inj hb; have := HSj.out; have := HSa.out; omega, fun h9 => by have := Option.some.inj hb; have := HSj.out; have := HSa.out; omega⟩))
                  have hsw : (wa.heap.size + 1) ≤ wr.heap.size := Nat.le_trans HSj.out HGw.out.size
                  have HSw := Lib.hid hsw
                  have le1 := HEw.out.cellAt (i := 1) rfl
                  have HSt := Lib.hid (rdAll_step' rdTg (k := k - j) (j := k - (j + 1)) (by omega) s2 tp)
                  have HTg : Hid (rdTg s2 = (tg, nnext 32 s2)) := Lib.hid (by unfold rdTg; rw [htg])
                  clear htg htl hy3 hml h32
                  go_wp2_with (first
                    | (refine wpList_load_mid rfl 80 (.tmp 12) rfl wj.heap.size 0 rfl (vs tg) _ HT3.out.whole Try.underlying80 rfl (by rw [vs_length, HTL.out]; kernel_rfl) ?_)
                    | (refine wpList_build_el rfl Try.el_tg (.tmp 66) rfl (vs tg) rfl (by rw [vs_length, HTL.out]) ?_)
                    | (at_builtin; refine wpList_append_el rfl Try.el_tg (.tmp 65) (.tmp 67) rfl (wa.heap.size + 1) (.slice Ap np cp) (tp.map vs) rfl (HOw.out.alloc (.cells (vs tg).toArray 80)) wr.heap.size (vs tg) rfl (Blk.fresh rfl rfl) (by rw [vs_length, HTL.out]) vs_one (by rw [List.length_map, HTp.out]; omega) (by (try simp); have := HSw.out; omega) ?_; intro v4 w4 ho4 hg4; have HW := Lib.hid (fun b hb => (HOw.out.lt b hb).1); obtain ⟨A7, c7, rfl, _, _, _⟩ := ho4.out; have HO4 : Hid (Os w4 (wa.heap.size + 1) 80 32 (.slice A7 (tp.length + 1) c7) (tp.map vs ++ [vs tg])) := Lib.hid (by rw [show (tp.map vs ++ [vs tg]).length = tp.length + 1 by simp] at ho4; exact ho4); have HE4 := Lib.hid ((HEw.out.alloc (.cells (vs tg).toArray 80)).grown hg4 (fun e => by have := HW.out _ e.symm; omega)); have HR4 := Lib.hid ((HRw.out.alloc (.cells (vs tg).toArray 80)).other hg4 (fun b hb => ⟨fun e => by have := HW.out b hb; have := HSa.out; omega, fun h9 => by have := HW.out b hb; have := HSa.out; exact absurd (show b < w.heap.size from h9) (by omega)⟩)); have HG4 : Hid (wa.grownBy w4 (some (w.heap.size + 1))) := Lib.hid (only_own_ (only_trans (only_trans HGj.out HGw.out) (only_below (below1_ wr (.cells (vs tg).toArray 80)))) hg4 (fun h e => by have := HW.out h e; omega)); have HS4 : Hid ((wa.heap.size + 1) ≤ w4.heap.size) := Lib.hid (Nat.le_trans (Nat.le_trans HSw.out (below1_ wr (.cells (vs tg).toArray 80)).size) hg4.size); clear ho4 hg4)
                    | (refine wpList_store_cell rfl 39 (.tmp 69) (.tmp 68) rfl wa.heap.size 1 rfl (.slice A7 (tp.length + 1) c7) rfl rfl rfl (fun w => by kernel_rfl) 41 [.int .i64 ((nval 1 (some x) : Nat) : Int), .slice Ap np cp] HE4.out (by simp) ?_; intro w5 hb5 hg5; have HE5 := Lib.hid hb5; have HR5 := Lib.hid (HR4.out.other hg5 (fun b hb => ⟨fun e => by have := Option.some.inj hb; have := HSa.out; omega, fun h9 => by have := Option.some.inj hb; have := HSa.out; exact absurd (show b < w.heap.size from h9) (by omega)⟩)); have HO5 : Hid (OTs w5 (wa.heap.size + 1) (A7, tp.length + 1, c7) (tp ++ [tg])) := Lib.hid ⟨by (have h9 := HO4.out.far hg5 (by omega); rw [List.map_append]; exact h9), fun t ht => (List.mem_append.1 ht).elim (HOj.out.2 t) (fun h => by rw [List.mem_singleton.1 h]; exact HTL.out)⟩; have HG5 : Hid (wa.grownBy w5 (some (w.heap.size + 1))) := Lib.hid (only_own_ HG4.out hg5 (fun h e => by have := Option.some.inj e; omega)); have HS5 : Hid ((wa.heap.size + 1) ≤ w5.heap.size) := Lib.hid (Nat.le_trans HS4.out hg5.size); clear hb5 hg5))
                  go_roundw
                  case rel => exact ⟨j + 1, tp ++ [tg], A7, tp.length + 1, c7, nnext 32 s2, by omega, by go_num, by simp [HTp.out], (by have h9 := HSt.out; rw [HTg.out, HT2.out] at h9; exact h9.symm), HR5.out, HO5.out, HE5.out, HG5.out, HS5.out⟩
                  case measure => simp [intOf]; omega
            · have hjk : j = k := by omega
              subst hjk
              have hT3 : (tp, s2) = T := by
                have h9 := HT2.out
                rw [Nat.sub_self] at h9
                simpa [rdAll] using h9
              have HLm : Hid ((pre ++ [⟨((nval 1 (some x) : Nat) : Int), tp⟩] ++ (rdMany (rdEn j) r s2).1, (rdMany (rdEn j) r s2).2) = L) := Lib.hid (by have h9 := HLn.out; rw [← hT3] at h9; exact h9)
              clear hT3
              obtain ⟨ss, ho1, ho2⟩ := HOa.out
              have HPl := Lib.hid ho2.len
              have HPr : Hid ((enR pre ss).length ≤ 7) := Lib.hid (by rw [enR_len ho2.len]; omega)
              have HO1 := Lib.hid (ho1.far HGj.out (by omega))
              have HA1 := Lib.hid (ho2.mono fun _ _ h => h.far HGj.out (by omega))
              have HB1 := Lib.hid (HBa.out.grown HGj.out (by simp; omega))
              have HG1 : Hid (w3.grownBy wj (some (w.heap.size + 1))) := Lib.hid (only_trans HGa.out HGj.out)
              have HT1 := Lib.hid (HOj.out.weak (B' := (w3.heap.size + 1)) (by have := HSa.out; omega))
              have HS1 : Hid ((w3.heap.size + 1) ≤ wj.heap.size) := Lib.hid (Nat.le_trans HSa.out HGj.out.size)
              have HKb := Lib.hid hk
              have l7 := HB1.out.cellAt (i := 7) rfl
              clear ho1 ho2
              go_wp2_with (first
                | (refine wpList_load_mid rfl 41 (.tmp 10) rfl wa.heap.size 0 rfl [.int .i64 ((nval 1 (some x) : Nat) : Int), .slice Ap np cp] _ HEj.out.whole Try.underlying41 rfl (by kernel_rfl) ?_)
                | (refine wpList_build_el rfl Try.el_en (.tmp 72) rfl [.int .i64 ((nval 1 (some x) : Nat) : Int), .slice Ap np cp] rfl rfl ?_)
                | (at_builtin; refine wpList_append_el rfl Try.el_en (.tmp 71) (.tmp 73) rfl (w3.heap.size + 1) (.slice Av nv cv) (enR pre ss) rfl (HO1.out.alloc (.cells #[.int .i64 ((nval 1 (some x) : Nat) : Int), .slice Ap np cp] 41)) wj.heap.size [.int .i64 ((nval 1 (some x) : Nat) : Int), .slice Ap np cp] rfl (Blk.fresh rfl rfl) rfl (fun u hu => by simp at hu; rcases hu with rfl | rfl <;> rfl) (by have := HPr.out; omega) (by (try simp); have := HS1.out; omega) ?_; intro v4 w4 ho4 hg4; have HW := Lib.hid (fun b hb => (HO1.out.lt b hb).1); obtain ⟨A7, c7, rfl, _, _, _⟩ := ho4.out; have HO4 : Hid (Os w4 (w3.heap.size + 1) 41 2 (.slice A7 ((enR pre ss).length + 1) c7) (enR pre ss ++ ([[.int .i64 ((nval 1 (some x) : Nat) : Int), .slice Ap np cp]] : List (List Value)))) := Lib.hid (by rw [show (enR pre ss ++ ([[.int .i64 ((nval 1 (some x) : Nat) : Int), .slice Ap np cp]] : List (List Value))).length = (enR pre ss).length + 1 by simp] at ho4; exact ho4); have HA4 := Lib.hid ((HA1.out.mono fun _ _ h => h.alloc (.cells #[.int .i64 ((nval 1 (some x) : Nat) : Int), .slice Ap np cp] 41)).mono fun _ _ h => h.beside (HO1.out.alloc (.cells #[.int .i64 ((nval 1 (some x) : Nat) : Int), .slice Ap np cp] 41)) hg4 (by decide)); have HT4 := Lib.hid ((HT1.out.mono fun _ h => h.alloc (.cells #[.int .i64 ((nval 1 (some x) : Nat) : Int), .slice Ap np cp] 41)).mono fun _ h => h.beside (HO1.out.alloc (.cells #[.int .i64 ((nval 1 (some x) : Nat) : Int), .slice Ap np cp] 41)) hg4 (by decide)); have HB4 := Lib.hid ((HB1.out.alloc (.cells #[.int .i64 ((nval 1 (some x) : Nat) : Int), .slice Ap np cp] 41)).grown hg4 (fun e => by have := HW.out _ e.symm; omega)); have HR4 := Lib.hid ((HRj.out.alloc (.cells #[.int .i64 ((nval 1 (some x) : Nat) : Int), .slice Ap np cp] 41)).other hg4 (fun b hb => ⟨fun e => by have := HW.out b hb; omega, fun h9 => by have := HW.out b hb; exact absurd (show b < w.heap.size from h9) (by omega)⟩)); have HG4 : Hid (w3.grownBy w4 (some (w.heap.size + 1))) := Lib.hid (only_own_ (only_trans HG1.out (only_below (below1_ wj (.cells #[.int .i64 ((nval 1 (some x) : Nat) : Int), .slice Ap np cp] 41)))) hg4 (fun h e => by have := HW.out h e; omega)); have HS4 : Hid ((w3.heap.size + 1) ≤ w4.heap.size) := Lib.hid (Nat.le_trans (Nat.le_trans HS1.out (below1_ wj (.cells #[.int .i64 ((nval 1 (some x) : Nat) : Int), .slice Ap np cp] 41)).size) hg4.size); clear ho4 hg4)
                | (refine wpList_store_cell rfl 32 (.tmp 75) (.tmp 74) rfl w3.heap.size 7 rfl (.slice A7 ((enR pre ss).length + 1) c7) rfl rfl rfl (fun w => by kernel_rfl) 34 [.int .i64 0, .int .i64 0, .int .i64 0, .string (ba []), .int .i64 0, .int .i64 0, .string (ba []), .slice Av nv cv] HB4.out (by simp) ?_; intro w5 hb5 hg5; have HB5 := Lib.hid hb5; have HR5 := Lib.hid (HR4.out.other hg5 (fun b hb => ⟨fun e => by have := Option.some.inj hb; omega, fun h9 => by have := Option.some.inj hb; exact absurd (show b < w.heap.size from h9) (by omega)⟩)); have HO5 := Lib.hid (show OEs w5 (w3.heap.size + 1) (.slice A7 ((enR pre ss).length + 1) c7) (pre ++ [⟨((nval 1 (some x) : Nat) : Int), tp⟩]) from ⟨ss ++ [(Ap, np, cp)], (by rw [enR_snoc HPl.out]; exact HO4.out.far hg5 (by omega)), (HA4.out.snoc HT4.out).mono fun _ _ h => h.far hg5 (by omega)⟩); have HG5 : Hid (w3.grownBy w5 (some (w.heap.size + 1))) := Lib.hid (only_own_ HG4.out hg5 (fun h e => by have := Option.some.inj e; omega)); have HS5 : Hid ((w3.heap.size + 1) ≤ w5.heap.size) := Lib.hid (Nat.le_trans HS4.out hg5.size); clear hb5 hg5))
              go_roundw
              case rel => exact ⟨r, pre ++ [⟨((nval 1 (some x) : Nat) : Int), tp⟩], A7, (enR pre ss).length + 1, c7, s2, by simp; omega, by go_num, HLm.out, HR5.out, HO5.out, HB5.out, HG5.out, HS5.out⟩
              case measure => simp [intOf]
  case rest =>
    obtain ⟨pre, Av, nv, cv, s, hLe, hr, ho, hb, hg, hs⟩ := hcut
    obtain ⟨A9, c9, hv9, hn9, hm9, hes9⟩ := ho.out
    injection hv9 with e9 e8 e7
    subst e9; subst e8; subst e7
    have hL1 : L.1 = pre := by rw [hLe]
    have hL2 : L.2 = s := by rw [hLe]
    have hpl : pre.length ≤ 7 := by rw [← hL1]; exact HLl.out
    have HPQ : Hid (P = if s = some [] ∧ endsOk (k : Int) pre = true then (if er0 = 0 then (⟨c1, pre⟩, 0) else (Rq.no, er0)) else (Rq.no, 2)) := Lib.hid (by rw [HPP.out, hL1, hL2])
    have HRz := Lib.hid hr; have HOz := Lib.hid ho; have HBz := Lib.hid hb; have HGz := Lib.hid hg; have HSz := Lib.hid hs; have HC9 := Lib.hid (And.intro hn9 hm9)
    have HXz : Hid (Below w.heap.size w wc) := Lib.hid (HX3.out.grown hg HX3.out.size (fun k hk => by have := Option.some.inj hk; omega))
    have HZz := Lib.hid (HZ3.out.grown hg (by simp))
    have HYz := Lib.hid (HR3.out.by_keep HY3.out hg)
    have l7 := hb.cellAt (i := 7) rfl
    have hmy : Calls Try.prog 20 #[.slice Av pre.length cv, .int .i64 (k : Int)] wc fun e w' => e = .returned (.bool (endsOk (k : Int) pre)) ∧ Below wc.heap.size wc w' := rends_any (k : Int) pre Av pre.length cv wc hes9 (by omega)
    have hpc : ∀ W : World, By W (fun _ => True) Bc mc core → Calls Try.prog 14 #[.slice Bc mc cc, .int .i64 (k : Int)] W fun e w' => e = .returned (.tuple #[.agg #[.int .i64 c1.cl, .int .i64 c1.sp, .int .i64 c1.op, .string (ba c1.lt), .int .i64 c1.a, .int .i64 c1.b, .string (ba c1.tx)], .int .i64 er0]) ∧ Below W.heap.size W w' := fun W hY => by
      have h9 := rparseCr_any core (k : Int) Bc mc cc W hY HCC.out.1 HCC.out.2 (by have := hY.len; have := HCL.out; omega)
      rw [HPC0.out] at h9
      exact h9
    clear hr ho hb hg hs hLe hL1 hL2 hes9 hn9 hm9 hpl
    by_cases hst : s = some []
    case neg =>
      have HST := Lib.hid hst
      have hpe : P = (Rq.no, 2) := by rw [HPQ.out, if_neg (fun h => hst h.1)]
      subst hpe
      clear hst hmy hpc
      go_wp2_with (first
        | (go_at_call 48; (refine (rend_rs HRz.out).mono ?_); rintro e w4 ⟨x, rfl, hx, rfl⟩; have hx0 : ¬ x = 0 := (fun h9 => HST.out (hx.1 h9)); have hxb : (x == 0) = false := (by simpa using hx0); have hxd : (x != 0) = true := (by simpa using hx0); clear hx hx0)
        | (refine wpList_store_blk rfl 34 (.tmp 4) (.tmp 86) rfl w.heap.size [.int .i64 0, .int .i64 0, .int .i64 0, .string (ba []), .int .i64 0, .int .i64 0, .string (ba []), .slice none 0 0] rfl rfl 34 [.int .i64 0, .int .i64 0, .int .i64 0, .string (ba []), .int .i64 0, .int .i64 0, .string (ba []), .slice none 0 0] HZz.out (by kernel_rfl) rfl (one8 _ _ _ _ _ _ _ _ _ _) ?_; intro wy hby hgy; have HGy := Lib.hid hgy; have HBy := Lib.hid hby; have HXy : Hid (Below w.heap.size w wy) := Lib.hid (HXz.out.grown hgy HXz.out.size (fun k hk => by have := Option.some.inj hk; omega)); clear hby hgy))
      (try simp only [Exit.inBlock, Exit.then]); refine bodyPost_ret (results_cell_row_tmp1 rfl _ _ w.heap.size 34 _ (0, 0) _ rfl HBy.out Try.underlying34 rfl (by kernel_rfl)) rfl ?_
      exact ⟨none, 0, 0, rfl, EsIn.none_, Nat.le_refl _, by simp [maxLen], HXy.out⟩
    have HST := Lib.hid hst
    cases hri : endsOk (k : Int) pre with
    | false =>
      have hpe : P = (Rq.no, 2) := by rw [HPQ.out, if_neg (fun h => by rw [hri] at h; cases h.2)]
      subst hpe
      rw [hri] at hmy
      have HMy := Lib.hid hmy
      clear hst hri hmy hpc
      go_wp2_with (first
        | (go_at_call 48; (refine (rend_rs HRz.out).mono ?_); rintro e w4 ⟨x, rfl, hx, rfl⟩; have hx0 : x = 0 := hx.2 HST.out; subst hx0; clear hx)
        | (go_at_call 20; (with_reducible refine (HMy.out).mono ?_); rintro e w5 ⟨rfl, hb5⟩; have HX5 := Lib.hid (below_step HXz.out hb5); have HZ5 := Lib.hid (HZz.out.through hb5); have HO5 := Lib.hid (HOz.out.through hb5); have HY5 := Lib.hid (HYz.out.through hb5); have HB5 := Lib.hid (HBz.out.through hb5); have HS5 := Lib.hid (Nat.le_trans HSz.out hb5.size); clear hb5)
        | (refine wpList_store_blk rfl 34 (.tmp 4) (.tmp 86) rfl w.heap.size [.int .i64 0, .int .i64 0, .int .i64 0, .string (ba []), .int .i64 0, .int .i64 0, .string (ba []), .slice none 0 0] rfl rfl 34 [.int .i64 0, .int .i64 0, .int .i64 0, .string (ba []), .int .i64 0, .int .i64 0, .string (ba []), .slice none 0 0] HZ5.out (by kernel_rfl) rfl (one8 _ _ _ _ _ _ _ _ _ _) ?_; intro wy hby hgy; have HGy := Lib.hid hgy; have HBy := Lib.hid hby; have HXy : Hid (Below w.heap.size w wy) := Lib.hid (HX5.out.grown hgy HX5.out.size (fun k hk => by have := Option.some.inj hk; omega)); clear hby hgy))
      (try simp only [Exit.inBlock, Exit.then]); refine bodyPost_ret (results_cell_row_tmp1 rfl _ _ w.heap.size 34 _ (0, 0) _ rfl HBy.out Try.underlying34 rfl (by kernel_rfl)) rfl ?_
      exact ⟨none, 0, 0, rfl, EsIn.none_, Nat.le_refl _, by simp [maxLen], HXy.out⟩
    | true =>
      rw [hri] at hmy
      have HMy := Lib.hid hmy
      by_cases her : er0 = 0
      case pos =>
        have hpe : P = (⟨c1, pre⟩, 0) := by rw [HPQ.out, if_pos ⟨hst, hri⟩, if_pos her]
        subst hpe
        rw [her] at hpc
        have HPc := Lib.hid hpc
        clear hst hri hmy hpc her
        go_wp2_with (first
          | (go_at_call 48; (refine (rend_rs HRz.out).mono ?_); rintro e w4 ⟨x, rfl, hx, rfl⟩; have hx0 : x = 0 := hx.2 HST.out; subst hx0; clear hx)
          | (go_at_call 20; (with_reducible refine (HMy.out).mono ?_); rintro e w5 ⟨rfl, hb5⟩; have HX5 := Lib.hid (below_step HXz.out hb5); have HZ5 := Lib.hid (HZz.out.through hb5); have HO5 := Lib.hid (HOz.out.through hb5); have HY5 := Lib.hid (HYz.out.through hb5); have HB5 := Lib.hid (HBz.out.through hb5); have HS5 := Lib.hid (Nat.le_trans HSz.out hb5.size); clear hb5)
          | (go_at_call 14; (with_reducible refine (HPc.out _ HY5.out).mono ?_); rintro e w6 ⟨rfl, hb6⟩; have HX6 := Lib.hid (below_step HX5.out hb6); have HZ6 := Lib.hid (HZ5.out.through hb6); have HO6 := Lib.hid (HO5.out.through hb6); have HB6 := Lib.hid (HB5.out.through hb6); have HS6 := Lib.hid (Nat.le_trans HS5.out hb6.size); clear hb6)
          | (refine wpList_load_blk rfl 23 (.tmp 15) rfl w6.heap.size rfl 23 [.int .i64 c1.cl, .int .i64 c1.sp, .int .i64 c1.op, .string (ba c1.lt), .int .i64 c1.a, .int .i64 c1.b, .string (ba c1.tx)] _ (Blk.fresh rfl rfl) Try.underlying23 rfl (by kernel_rfl) ?_)
          | (refine wpList_store_front rfl 23 (.tmp 98) (.tmp 97) rfl w3.heap.size [.int .i64 c1.cl, .int .i64 c1.sp, .int .i64 c1.op, .string (ba c1.lt), .int .i64 c1.a, .int .i64 c1.b, .string (ba c1.tx)] rfl rfl 34 [.int .i64 0, .int .i64 0, .int .i64 0, .string (ba []), .int .i64 0, .int .i64 0, .string (ba [])] [.slice Av pre.length cv] (HB6.out.alloc (.cells #[.int .i64 c1.cl, .int .i64 c1.sp, .int .i64 c1.op, .string (ba c1.lt), .int .i64 c1.a, .int .i64 c1.b, .string (ba c1.tx)] 23)) (by kernel_rfl) rfl (one7 _ _ _ _ _ _ _) ?_; intro w7 hb7 hg7; have HB7 : Hid (Blk w7 w3.heap.size 34 [.int .i64 c1.cl, .int .i64 c1.sp, .int .i64 c1.op, .string (ba c1.lt), .int .i64 c1.a, .int .i64 c1.b, .string (ba c1.tx), .slice Av pre.length cv]) := Lib.hid hb7; have HZ7 := Lib.hid ((HZ6.out.alloc (.cells #[.int .i64 c1.cl, .int .i64 c1.sp, .int .i64 c1.op, .string (ba c1.lt), .int .i64 c1.a, .int .i64 c1.b, .string (ba c1.tx)] 23)).grown hg7 (by simp; omega)); have HO7 := Lib.hid ((HO6.out.alloc (.cells #[.int .i64 c1.cl, .int .i64 c1.sp, .int .i64 c1.op, .string (ba c1.lt), .int .i64 c1.a, .int .i64 c1.b, .string (ba c1.tx)] 23)).far hg7 (by omega)); have HX7 : Hid (Below w.heap.size w w7) := Lib.hid ((HX6.out.alloc HX6.out.size (.cells #[.int .i64 c1.cl, .int .i64 c1.sp, .int .i64 c1.op, .string (ba c1.lt), .int .i64 c1.a, .int .i64 c1.b, .string (ba c1.tx)] 23)).grown hg7 (HX6.out.alloc HX6.out.size (.cells #[.int .i64 c1.cl, .int .i64 c1.sp, .int .i64 c1.op, .string (ba c1.lt), .int .i64 c1.a, .int .i64 c1.b, .string (ba c1.tx)] 23)).size (fun k hk => by have := Option.some.inj hk; omega)); clear hb7 hg7)
          | (refine wpList_load_blk rfl 34 (.tmp 8) rfl w3.heap.size rfl 34 [.int .i64 c1.cl, .int .i64 c1.sp, .int .i64 c1.op, .string (ba c1.lt), .int .i64 c1.a, .int .i64 c1.b, .string (ba c1.tx), .slice Av pre.length cv] _ HB7.out Try.underlying34 rfl (by kernel_rfl) ?_)
          | (refine wpList_store_blk rfl 34 (.tmp 4) (.tmp 99) rfl w.heap.size [.int .i64 c1.cl, .int .i64 c1.sp, .int .i64 c1.op, .string (ba c1.lt), .int .i64 c1.a, .int .i64 c1.b, .string (ba c1.tx), .slice Av pre.length cv] rfl rfl 34 [.int .i64 0, .int .i64 0, .int .i64 0, .string (ba []), .int .i64 0, .int .i64 0, .string (ba []), .slice none 0 0] HZ7.out (by kernel_rfl) rfl (one8 _ _ _ _ _ _ _ _ _ _) ?_; intro wy hby hgy; have HGy := Lib.hid hgy; have HBy := Lib.hid hby; have HXy : Hid (Below w.heap.size w wy) := Lib.hid (HX7.out.grown hgy HX7.out.size (fun k hk => by have := Option.some.inj hk; omega)); clear hby hgy))
        (try simp only [Exit.inBlock, Exit.then]); refine bodyPost_ret (results_cell_row_tmp1 rfl _ _ w.heap.size 34 _ (0, 0) _ rfl HBy.out Try.underlying34 rfl (by kernel_rfl)) rfl ?_
        exact ⟨Av, _, cv, rfl, ((HO7.out).far HGy.out (by omega)).es, HC9.out.1, HC9.out.2, HXy.out⟩
      case neg =>
        obtain ⟨er, her2⟩ : ∃ er, er0 = er := ⟨_, rfl⟩
        have hpe : P = (Rq.no, er) := by rw [HPQ.out, if_pos ⟨hst, hri⟩, if_neg her, her2]
        subst hpe
        rw [her2] at hpc her
        have HPc := Lib.hid hpc
        have hkb : (er == 0) = false := by simpa using her
        have hkd : (er != 0) = true := by simpa using her
        clear hst hri hmy hpc her her2
        go_wp2_with (first
          | (go_at_call 48; (refine (rend_rs HRz.out).mono ?_); rintro e w4 ⟨x, rfl, hx, rfl⟩; have hx0 : x = 0 := hx.2 HST.out; subst hx0; clear hx)
          | (go_at_call 20; (with_reducible refine (HMy.out).mono ?_); rintro e w5 ⟨rfl, hb5⟩; have HX5 := Lib.hid (below_step HXz.out hb5); have HZ5 := Lib.hid (HZz.out.through hb5); have HO5 := Lib.hid (HOz.out.through hb5); have HY5 := Lib.hid (HYz.out.through hb5); have HB5 := Lib.hid (HBz.out.through hb5); have HS5 := Lib.hid (Nat.le_trans HSz.out hb5.size); clear hb5)
          | (go_at_call 14; (with_reducible refine (HPc.out _ HY5.out).mono ?_); rintro e w6 ⟨rfl, hb6⟩; have HX6 := Lib.hid (below_step HX5.out hb6); have HZ6 := Lib.hid (HZ5.out.through hb6); have HO6 := Lib.hid (HO5.out.through hb6); have HB6 := Lib.hid (HB5.out.through hb6); have HS6 := Lib.hid (Nat.le_trans HS5.out hb6.size); clear hb6)
          | (refine wpList_store_blk rfl 34 (.tmp 4) (.tmp 95) rfl w.heap.size [.int .i64 0, .int .i64 0, .int .i64 0, .string (ba []), .int .i64 0, .int .i64 0, .string (ba []), .slice none 0 0] rfl rfl 34 [.int .i64 0, .int .i64 0, .int .i64 0, .string (ba []), .int .i64 0, .int .i64 0, .string (ba []), .slice none 0 0] (HZ6.out.alloc (.cells #[.int .i64 c1.cl, .int .i64 c1.sp, .int .i64 c1.op, .string (ba c1.lt), .int .i64 c1.a, .int .i64 c1.b, .string (ba c1.tx)] 23)) (by kernel_rfl) rfl (one8 _ _ _ _ _ _ _ _ _ _) ?_; intro wy hby hgy; have HGy := Lib.hid hgy; have HBy := Lib.hid hby; have HXy : Hid (Below w.heap.size w wy) := Lib.hid ((HX6.out.alloc HX6.out.size (.cells #[.int .i64 c1.cl, .int .i64 c1.sp, .int .i64 c1.op, .string (ba c1.lt), .int .i64 c1.a, .int .i64 c1.b, .string (ba c1.tx)] 23)).grown hgy (HX6.out.alloc HX6.out.size (.cells #[.int .i64 c1.cl, .int .i64 c1.sp, .int .i64 c1.op, .string (ba c1.lt), .int .i64 c1.a, .int .i64 c1.b, .string (ba c1.tx)] 23)).size (fun k hk => by have := Option.some.inj hk; omega)); clear hby hgy))
        (try simp only [Exit.inBlock, Exit.then]); refine bodyPost_ret (results_cell_row_tmp1 rfl _ _ w.heap.size 34 _ (0, 0) _ rfl HBy.out Try.underlying34 rfl (by kernel_rfl)) rfl ?_
        exact ⟨none, 0, 0, rfl, EsIn.none_, Nat.le_refl _, by simp [maxLen], HXy.out⟩

end Go.Proofs.Ytfonkdcpghbaoaa
