/-
  The law EndorseWith, of a policy whose nodes can be counted.
-/
import Derived.Test.YtfonkdcpghbaoaaEnF
import Derived.Test.YtfonkdcpghbaoaaEnD
import Derived.Test.YtfonkdcpghbaoaaEnZ
namespace Go.Proofs.Ytfonkdcpghbaoaa
open Go.RowKit

theorem Try.empty_es (g : Nat) (w : World) (hg : w.heap.size = g) : (Instr.buildSlice 32 0 #[]).run Try.prog w = .ok (.slice (some ⟨g, 0, none⟩) 0 0) (w.alloc (.cells #[] 41)) := by
  subst hg
  kernel_rfl

theorem Try.alloc_rq (w : World) : (Instr.alloc 34 true (.tuple #[])).run Try.prog w = .ok (.pointer (some ⟨w.heap.size, 0, none⟩)) (w.alloc (.cells #[.int .i64 0, .int .i64 0, .int .i64 0, .string (ba []), .int .i64 0, .int .i64 0, .string (ba []), .slice none 0 0] 34)) := by kernel_rfl
theorem step_mk {P : Program} {s e : TypeId} {k B : Nat} {ops : Array Oper} {o : Oper} {a : Act} {w : World} {K : Act → World → Prop} {Q : Exit → Act → World → Prop} {F : Prop} (hgd : o.guard = none) (ho : o.op = .buildSlice s 0 #[])
    (hrun : (Instr.buildSlice s 0 #[]).run P w = .ok (.slice (some ⟨w.heap.size, 0, none⟩) 0 0) (w.alloc (.cells #[] e))) (hB : B ≤ w.heap.size)
    (h : ∀ g w', Os w' B e k (.slice (some ⟨g, 0, none⟩) 0 0) [] → Below w.heap.size w w' → K (a.put o.dst (.slice (some ⟨g, 0, none⟩) 0 0)) w') : if Region.wanted o (yielded ops a.tmps) = true then Oper.wp P o a w K Q else F := by
  have hw : Region.wanted o (yielded ops a.tmps) = true := by simp [Region.wanted, hgd]
  rw [if_pos hw]
  unfold Oper.wp execOp
  simp only [ho, Sem.run_bind, List.map_toArray, List.map_nil, hrun, Result.andThen_ok]
  exact h _ _ ((Os.made w e k).weak hB) ((Below.refl _ w).alloc (Nat.le_refl _) _)
theorem step_al {P : Program} {T : TypeId} {cs : List Value} {ops : Array Oper} {o : Oper} {a : Act} {w : World} {K : Act → World → Prop} {Q : Exit → Act → World → Prop} {F : Prop} (hgd : o.guard = none) (ho : o.op = .alloc T)
    (hrun : (Instr.alloc T true (.tuple #[])).run P w = .ok (.pointer (some ⟨w.heap.size, 0, none⟩)) (w.alloc (.cells cs.toArray T)))
    (h : ∀ g w', w.heap.size ≤ g → Blk w' g T cs → Below w.heap.size w w' → K (a.put o.dst (.pointer (some ⟨g, 0, none⟩))) w') : if Region.wanted o (yielded ops a.tmps) = true then Oper.wp P o a w K Q else F := by
  have hw : Region.wanted o (yielded ops a.tmps) = true := by simp [Region.wanted, hgd]
  rw [if_pos hw]
  unfold Oper.wp execOp
  simp only [ho, Sem.run_bind, hrun, Result.andThen_ok]
  exact h _ _ (Nat.le_refl _) (Blk.fresh rfl rfl) ((Below.refl _ w).alloc (Nat.le_refl _) _)
theorem Blk.apart {w w' : World} {g : Nat} {t : TypeId} {cs : List Value} {B' : Nat} {e' : TypeId} {k' : Nat} {v' : Value} {xs' : List (List Value)} (h : Blk w g t cs) (h' : Os w B' e' k' v' xs') (hne : t ≠ e') (hg : w.grownBy w' v'.ownBlock) : Blk w' g t cs := by
  rcases h'.1.2 with ⟨rfl, _⟩ | ⟨g2, cap, cur, rfl, _, hg2, _⟩
  · exact h.grown hg (by simp [Value.ownBlock])
  · refine h.grown hg (fun e2 => ?_)
    have e3 : g = g2 := Option.some.inj e2
    subst e3
    unfold Blk at h
    rw [hg2] at h
    injection h with h
    injection h with _ h _
    exact hne h.symm

set_option maxHeartbeats 16000000 in
set_option maxRecDepth 100000 in
theorem endorsewith_any (co : Cr) (es : List En) (A : Option Addr) (n c1 : Nat) (x : En) (B : Option Addr) (m d : Nat) (f : Fm) (Af : Option Addr) (nf cf : Nat) (s : Nat) (y : Int) (w : World) (h : EsIn w A n es) (hx : TsIn w (B, m, d) x.ts) (hnc : n ≤ c1) (hc1 : c1 ≤ maxLen) (hf : f.In w (fun _ => True) Af nf) (hz : f.size ≤ 2000000) (hd : f.depth ≤ 2000000) (hs : s < 4294967296) :
    Calls Try.prog 7 #[.agg #[.int .i64 co.cl, .int .i64 co.sp, .int .i64 co.op, .string (ba co.lt), .int .i64 co.a, .int .i64 co.b, .string (ba co.tx), .slice A n c1], .agg #[.int .i64 x.og, .slice B m d], f.val Af nf cf, .int .u32 (s : Int), .int .i64 y] w fun e w' => e = .returned (.bool true) ∧ Below w.heap.size w w' := by
  have hbq := Try.build_rq
  have hml := hx.len
  simp only at hml
  have HFw : Hid (∀ W : World, EsIn W A n es → Calls Try.prog 22 #[.agg #[.int .i64 co.cl, .int .i64 co.sp, .int .i64 co.op, .string (ba co.lt), .int .i64 co.a, .int .i64 co.b, .string (ba co.tx), .slice A n c1]] W fun e w' => e = .returned (.bool (fewQ ⟨co, es⟩)) ∧ Below W.heap.size W w') := Lib.hid (fun W hE => few_any co es A n c1 W hE (Nat.le_trans hnc hc1))
  have hsz : ∀ W, f.In W (fun _ => True) Af nf → Calls Try.prog 30 #[f.val Af nf cf] W fun e w' => e = .returned (.tuple #[.int .i64 (f.size : Int), .int .i64 (f.depth : Int)]) ∧ Below W.heap.size W w' := fun W hF => fsizeG_any f Af nf cf W (by omega) (by omega) hF
  have hen : ∀ W, f.few → f.In W (fun _ => True) Af nf → Calls Try.prog 34 #[f.val Af nf cf, .int .u32 (s : Int), .int .i64 y] W fun e w' => e = .returned (.bool (decide (f.check y = 0) && f.hold s)) ∧ Below W.heap.size W w' := fun W hfew hF => enough_any s hs f y Af nf cf W hfew hF
  have hrc : ∀ W, f.few → f.In W (fun _ => True) Af nf → Calls Try.prog 31 #[f.val Af nf cf, .int .i64 y] W fun e w' => e = .returned (.int .i64 (f.check y)) ∧ Below W.heap.size W w' := fun W hfew hF => rcheck_any f y Af nf cf W hfew hF
  have hrh : ∀ W, f.check y = 0 → f.In W (fun _ => True) Af nf → Calls Try.prog 32 #[f.val Af nf cf, .int .u32 (s : Int)] W fun e w' => e = .returned (.bool (f.hold s)) ∧ Below W.heap.size W w' := fun W hch hF => rholds_any s hs f Af nf cf W (Fm.mb_rng (Fm.mb_of_check hch)) hF
  have HE := Lib.hid h
  have HTx := Lib.hid hx
  have HF := Lib.hid hf
  have HNc := Lib.hid hnc
  unfold Fm.val at hsz hen hrc hrh ⊢
  generalize f.org = fo at *
  generalize f.nd = fa at *
  have HX0 : Hid (Below w.heap.size w (((w.alloc (.cells #[.int .i64 co.cl, .int .i64 co.sp, .int .i64 co.op, .string (ba co.lt), .int .i64 co.a, .int .i64 co.b, .string (ba co.tx), .slice A n c1] 34)).alloc (.cells #[.int .i64 x.og, .slice B m d] 41)).alloc (.cells #[.int .i64 fo, .int .i64 fa, .slice Af nf cf] 57))) := Lib.hid ((below2_ w _ _).alloc (below2_ w _ _).size _)
  have K50 : Hid (Blk (((w.alloc (.cells #[.int .i64 co.cl, .int .i64 co.sp, .int .i64 co.op, .string (ba co.lt), .int .i64 co.a, .int .i64 co.b, .string (ba co.tx), .slice A n c1] 34)).alloc (.cells #[.int .i64 x.og, .slice B m d] 41)).alloc (.cells #[.int .i64 fo, .int .i64 fa, .slice Af nf cf] 57)) w.heap.size 34 [.int .i64 co.cl, .int .i64 co.sp, .int .i64 co.op, .string (ba co.lt), .int .i64 co.a, .int .i64 co.b, .string (ba co.tx), .slice A n c1]) := Lib.hid (((Blk.fresh rfl rfl).alloc _).alloc _)
  have K60 : Hid (Blk (((w.alloc (.cells #[.int .i64 co.cl, .int .i64 co.sp, .int .i64 co.op, .string (ba co.lt), .int .i64 co.a, .int .i64 co.b, .string (ba co.tx), .slice A n c1] 34)).alloc (.cells #[.int .i64 x.og, .slice B m d] 41)).alloc (.cells #[.int .i64 fo, .int .i64 fa, .slice Af nf cf] 57)) (w.heap.size + 1) 41 [.int .i64 x.og, .slice B m d]) := Lib.hid ((Blk.fresh (by simp) rfl).alloc _)
  have K70 : Hid (Blk (((w.alloc (.cells #[.int .i64 co.cl, .int .i64 co.sp, .int .i64 co.op, .string (ba co.lt), .int .i64 co.a, .int .i64 co.b, .string (ba co.tx), .slice A n c1] 34)).alloc (.cells #[.int .i64 x.og, .slice B m d] 41)).alloc (.cells #[.int .i64 fo, .int .i64 fa, .slice Af nf cf] 57)) (w.heap.size + 2) 57 [.int .i64 fo, .int .i64 fa, .slice Af nf cf]) := Lib.hid (Blk.fresh (by simp) rfl)
  have HSz := Lib.hid hsz
  clear hsz h hx hf hnc hc1
  cases hfw : fewQ ⟨co, es⟩ with
  | false =>
    rw [hfw] at HFw
    clear hfw hen hrc hrh
    go_enter Try.func7, Try.ntmps7
    go_wp2_with (first
      | (go_at_call 21; (with_reducible refine (fixed13_any _).mono ?_); rintro e w1 ⟨rfl, hb1⟩; have K51 := Lib.hid (K50.out.through hb1); have K61 := Lib.hid (K60.out.through hb1); have K71 := Lib.hid (K70.out.through hb1); have HX1 := Lib.hid (below_step HX0.out hb1); clear hb1)
      | (refine wpList_load_blk rfl 57 (.tmp 7) rfl (w.heap.size + 2) rfl 57 [.int .i64 fo, .int .i64 fa, .slice Af nf cf] _ K71.out Try.underlying57 rfl (by kernel_rfl) ?_)
      | (go_at_call 30; (with_reducible refine (HSz.out _ (HF.out.through HX1.out)).mono ?_); rintro e w2 ⟨rfl, hb2⟩; have K52 := Lib.hid (K51.out.through hb2); have K62 := Lib.hid (K61.out.through hb2); have K72 := Lib.hid (K71.out.through hb2); have HX2 := Lib.hid (below_step HX1.out hb2); clear hb2)
      | (refine wpList_load_blk rfl 34 (.tmp 5) rfl w.heap.size rfl 34 [.int .i64 co.cl, .int .i64 co.sp, .int .i64 co.op, .string (ba co.lt), .int .i64 co.a, .int .i64 co.b, .string (ba co.tx), .slice A n c1] _ K52.out Try.underlying34 rfl (by kernel_rfl) ?_)
      | (go_at_call 22; (with_reducible refine (HFw.out _ (HE.out.through HX2.out)).mono ?_); rintro e w3 ⟨rfl, hb3⟩; have K53 := Lib.hid (K52.out.through hb3); have K63 := Lib.hid (K62.out.through hb3); have K73 := Lib.hid (K72.out.through hb3); have HX3 := Lib.hid (below_step HX2.out hb3); clear hb3; have c61 := K63.out.cellAt (i := 1) rfl))
    go_ret
    exact ⟨rfl, HX3.out⟩
  | true =>
  have hq := hfw
  rw [hfw] at HFw
  unfold fewQ at hq
  simp only [Bool.and_eq_true, decide_eq_true_eq, List.all_eq_true] at hq
  have HQ := Lib.hid hq
  clear hfw hq
  by_cases h1 : 20 < m
  · have d1 : decide ((20 : Int) < (m : Int)) = true := by simp; omega
    clear h1 hen hrc hrh
    go_enter Try.func7, Try.ntmps7
    go_wp2_with (first
      | (go_at_call 21; (with_reducible refine (fixed13_any _).mono ?_); rintro e w1 ⟨rfl, hb1⟩; have K51 := Lib.hid (K50.out.through hb1); have K61 := Lib.hid (K60.out.through hb1); have K71 := Lib.hid (K70.out.through hb1); have HX1 := Lib.hid (below_step HX0.out hb1); clear hb1)
      | (refine wpList_load_blk rfl 57 (.tmp 7) rfl (w.heap.size + 2) rfl 57 [.int .i64 fo, .int .i64 fa, .slice Af nf cf] _ K71.out Try.underlying57 rfl (by kernel_rfl) ?_)
      | (go_at_call 30; (with_reducible refine (HSz.out _ (HF.out.through HX1.out)).mono ?_); rintro e w2 ⟨rfl, hb2⟩; have K52 := Lib.hid (K51.out.through hb2); have K62 := Lib.hid (K61.out.through hb2); have K72 := Lib.hid (K71.out.through hb2); have HX2 := Lib.hid (below_step HX1.out hb2); clear hb2)
      | (refine wpList_load_blk rfl 34 (.tmp 5) rfl w.heap.size rfl 34 [.int .i64 co.cl, .int .i64 co.sp, .int .i64 co.op, .string (ba co.lt), .int .i64 co.a, .int .i64 co.b, .string (ba co.tx), .slice A n c1] _ K52.out Try.underlying34 rfl (by kernel_rfl) ?_)
      | (go_at_call 22; (with_reducible refine (HFw.out _ (HE.out.through HX2.out)).mono ?_); rintro e w3 ⟨rfl, hb3⟩; have K53 := Lib.hid (K52.out.through hb3); have K63 := Lib.hid (K62.out.through hb3); have K73 := Lib.hid (K72.out.through hb3); have HX3 := Lib.hid (below_step HX2.out hb3); clear hb3; have c61 := K63.out.cellAt (i := 1) rfl))
    go_ret
    exact ⟨rfl, HX3.out⟩
  have d1 : decide ((20 : Int) < (m : Int)) = false := by simp; omega
  by_cases h2 : 200 < f.size
  · have d2 : decide ((200 : Int) < (f.size : Int)) = true := by simp; omega
    clear h1 h2 hen hrc hrh
    go_enter Try.func7, Try.ntmps7
    go_wp2_with (first
      | (go_at_call 21; (with_reducible refine (fixed13_any _).mono ?_); rintro e w1 ⟨rfl, hb1⟩; have K51 := Lib.hid (K50.out.through hb1); have K61 := Lib.hid (K60.out.through hb1); have K71 := Lib.hid (K70.out.through hb1); have HX1 := Lib.hid (below_step HX0.out hb1); clear hb1)
      | (refine wpList_load_blk rfl 57 (.tmp 7) rfl (w.heap.size + 2) rfl 57 [.int .i64 fo, .int .i64 fa, .slice Af nf cf] _ K71.out Try.underlying57 rfl (by kernel_rfl) ?_)
      | (go_at_call 30; (with_reducible refine (HSz.out _ (HF.out.through HX1.out)).mono ?_); rintro e w2 ⟨rfl, hb2⟩; have K52 := Lib.hid (K51.out.through hb2); have K62 := Lib.hid (K61.out.through hb2); have K72 := Lib.hid (K71.out.through hb2); have HX2 := Lib.hid (below_step HX1.out hb2); clear hb2)
      | (refine wpList_load_blk rfl 34 (.tmp 5) rfl w.heap.size rfl 34 [.int .i64 co.cl, .int .i64 co.sp, .int .i64 co.op, .string (ba co.lt), .int .i64 co.a, .int .i64 co.b, .string (ba co.tx), .slice A n c1] _ K52.out Try.underlying34 rfl (by kernel_rfl) ?_)
      | (go_at_call 22; (with_reducible refine (HFw.out _ (HE.out.through HX2.out)).mono ?_); rintro e w3 ⟨rfl, hb3⟩; have K53 := Lib.hid (K52.out.through hb3); have K63 := Lib.hid (K62.out.through hb3); have K73 := Lib.hid (K72.out.through hb3); have HX3 := Lib.hid (below_step HX2.out hb3); clear hb3; have c61 := K63.out.cellAt (i := 1) rfl))
    go_ret
    exact ⟨rfl, HX3.out⟩
  have d2 : decide ((200 : Int) < (f.size : Int)) = false := by simp; omega
  by_cases h3 : 50 < f.depth
  · have d3 : decide ((50 : Int) < (f.depth : Int)) = true := by simp; omega
    clear h1 h2 h3 hen hrc hrh
    go_enter Try.func7, Try.ntmps7
    go_wp2_with (first
      | (go_at_call 21; (with_reducible refine (fixed13_any _).mono ?_); rintro e w1 ⟨rfl, hb1⟩; have K51 := Lib.hid (K50.out.through hb1); have K61 := Lib.hid (K60.out.through hb1); have K71 := Lib.hid (K70.out.through hb1); have HX1 := Lib.hid (below_step HX0.out hb1); clear hb1)
      | (refine wpList_load_blk rfl 57 (.tmp 7) rfl (w.heap.size + 2) rfl 57 [.int .i64 fo, .int .i64 fa, .slice Af nf cf] _ K71.out Try.underlying57 rfl (by kernel_rfl) ?_)
      | (go_at_call 30; (with_reducible refine (HSz.out _ (HF.out.through HX1.out)).mono ?_); rintro e w2 ⟨rfl, hb2⟩; have K52 := Lib.hid (K51.out.through hb2); have K62 := Lib.hid (K61.out.through hb2); have K72 := Lib.hid (K71.out.through hb2); have HX2 := Lib.hid (below_step HX1.out hb2); clear hb2)
      | (refine wpList_load_blk rfl 34 (.tmp 5) rfl w.heap.size rfl 34 [.int .i64 co.cl, .int .i64 co.sp, .int .i64 co.op, .string (ba co.lt), .int .i64 co.a, .int .i64 co.b, .string (ba co.tx), .slice A n c1] _ K52.out Try.underlying34 rfl (by kernel_rfl) ?_)
      | (go_at_call 22; (with_reducible refine (HFw.out _ (HE.out.through HX2.out)).mono ?_); rintro e w3 ⟨rfl, hb3⟩; have K53 := Lib.hid (K52.out.through hb3); have K63 := Lib.hid (K62.out.through hb3); have K73 := Lib.hid (K72.out.through hb3); have HX3 := Lib.hid (below_step HX2.out hb3); clear hb3; have c61 := K63.out.cellAt (i := 1) rfl))
    go_ret
    exact ⟨rfl, HX3.out⟩
  have d3 : decide ((50 : Int) < (f.depth : Int)) = false := by simp; omega
  have hfew : f.few := ⟨by omega, by omega⟩
  have HEn0 := Lib.hid (fun W => hen W hfew)
  have HRc0 := Lib.hid (fun W => hrc W hfew)
  have HRh0 := Lib.hid hrh
  have hn20 : n ≤ 20 := by have := HQ.out.2.2; have := HE.out.len; omega
  obtain ⟨ss, hS, hA⟩ := HE.out
  have HS := Lib.hid hS
  have HA := Lib.hid hA
  have HRw : Hid (∀ y ∈ enR es ss, y.length = 2 ∧ ∀ u ∈ y, u.oneCell' = true) := Lib.hid (fun y hy => ⟨enR_all es ss y hy, enR_one es ss y hy⟩)
  have hm20 : m ≤ 20 := by omega
  have HWi : Hid (∀ W, EsIn W A n es → TsIn W (B, m, d) x.ts → Calls Try.prog 25 #[.agg #[.int .i64 co.cl, .int .i64 co.sp, .int .i64 co.op, .string (ba co.lt), .int .i64 co.a, .int .i64 co.b, .string (ba co.tx), .slice A n c1], .agg #[.int .i64 x.og, .slice B m d]] W fun e w' => ∃ (A' : Option Addr) (n' c' : Nat), e = .returned (.agg #[.int .i64 co.cl, .int .i64 co.sp, .int .i64 co.op, .string (ba co.lt), .int .i64 co.a, .int .i64 co.b, .string (ba co.tx), .slice A' n' c']) ∧ EsIn w' A' n' (withE es x) ∧ Below W.heap.size W w') := Lib.hid (fun W hE hT => (with_any co es A n c1 x B m d W hE hT (by omega) HNc.out (fun e he => Nat.le_trans (HQ.out.1 e he) (by omega)) (by omega)).mono fun e w' ⟨A', n', c', h1, h2, _, _, h3⟩ => ⟨A', n', c', h1, h2, h3⟩)
  have HRWi : Hid (∀ W, EsIn W A n es → TsIn W (B, m, d) x.ts → Calls Try.prog 33 #[.agg #[.int .i64 co.cl, .int .i64 co.sp, .int .i64 co.op, .string (ba co.lt), .int .i64 co.a, .int .i64 co.b, .string (ba co.tx), .slice A n c1], .agg #[.int .i64 x.og, .slice B m d]] W fun e w' => ∃ (A' : Option Addr) (n' c' : Nat), e = .returned (.agg #[.int .i64 co.cl, .int .i64 co.sp, .int .i64 co.op, .string (ba co.lt), .int .i64 co.a, .int .i64 co.b, .string (ba co.tx), .slice A' n' c']) ∧ EsIn w' A' n' (withE es x) ∧ Below W.heap.size W w') := Lib.hid (fun W hE hT => (rwith_any co es A n c1 x B m d W hE hT (by omega)).mono fun e w' ⟨A', n', c', h1, h2, _, _, h3⟩ => ⟨A', n', c', h1, h2, h3⟩)
  have HSm : Hid (∀ (l : List En) (A : Option Addr) (n c1 : Nat) (A' : Option Addr) (n' c2 : Nat) (W : World), EsIn W A n l → EsIn W A' n' l → l.length ≤ 1000000 → Calls Try.prog 17 #[.agg #[.int .i64 co.cl, .int .i64 co.sp, .int .i64 co.op, .string (ba co.lt), .int .i64 co.a, .int .i64 co.b, .string (ba co.tx), .slice A n c1], .agg #[.int .i64 co.cl, .int .i64 co.sp, .int .i64 co.op, .string (ba co.lt), .int .i64 co.a, .int .i64 co.b, .string (ba co.tx), .slice A' n' c2]] W fun e w' => e = .returned (.bool true) ∧ Below W.heap.size W w') := Lib.hid (fun l A n c1 A' n' c2 W h h' hl => by
    have h9 := rsame_any co co l l A n c1 A' n' c2 W h h' (by rw [← h.len]; exact hl) (by rw [← h'.len]; exact hl)
    rw [Rq.same_self] at h9
    exact h9)
  have HLe : Hid (es.length ≤ 1000000) := Lib.hid (Nat.le_trans HQ.out.2.2 (by omega))
  have HLw : Hid ((withE es x).length ≤ 1000000) := Lib.hid (Nat.le_trans (withE_len es x).1 (by have := HLe.out; have := HQ.out.2.2; omega))
  generalize f.size = fz at *
  generalize f.depth = fd at *
  clear h1 h2 h3 hen hrc hrh hS hA
  go_enter Try.func7, Try.ntmps7
  go_upto_region 6 with (first
    | (go_at_call 21; (with_reducible refine (fixed13_any _).mono ?_); rintro e w1 ⟨rfl, hb1⟩; have K51 := Lib.hid (K50.out.through hb1); have K61 := Lib.hid (K60.out.through hb1); have K71 := Lib.hid (K70.out.through hb1); have HX1 := Lib.hid (below_step HX0.out hb1); clear hb1)
    | (refine wpList_load_blk rfl 57 (.tmp 7) rfl (w.heap.size + 2) rfl 57 [.int .i64 fo, .int .i64 fa, .slice Af nf cf] _ K71.out Try.underlying57 rfl (by kernel_rfl) ?_)
    | (go_at_call 30; (with_reducible refine (HSz.out _ (HF.out.through HX1.out)).mono ?_); rintro e w2 ⟨rfl, hb2⟩; have K52 := Lib.hid (K51.out.through hb2); have K62 := Lib.hid (K61.out.through hb2); have K72 := Lib.hid (K71.out.through hb2); have HX2 := Lib.hid (below_step HX1.out hb2); clear hb2)
    | (refine wpList_load_blk rfl 34 (.tmp 5) rfl w.heap.size rfl 34 [.int .i64 co.cl, .int .i64 co.sp, .int .i64 co.op, .string (ba co.lt), .int .i64 co.a, .int .i64 co.b, .string (ba co.tx), .slice A n c1] _ K52.out Try.underlying34 rfl (by kernel_rfl) ?_)
    | (go_at_call 22; (with_reducible refine (HFw.out _ (HE.out.through HX2.out)).mono ?_); rintro e w3 ⟨rfl, hb3⟩; have K53 := Lib.hid (K52.out.through hb3); have K63 := Lib.hid (K62.out.through hb3); have K73 := Lib.hid (K72.out.through hb3); have HX3 := Lib.hid (below_step HX2.out hb3); clear hb3; have c61 := K63.out.cellAt (i := 1) rfl))
  go_cut [13] from 40 to 46 (fun v wx => ∃ (g7 : Nat) (A5 : Option Addr) (n5 c5 : Nat), v = .pointer (some ⟨g7, 0, none⟩) ∧ Blk wx g7 34 [.int .i64 co.cl, .int .i64 co.sp, .int .i64 co.op, .string (ba co.lt), .int .i64 co.a, .int .i64 co.b, .string (ba co.tx), .slice A5 n5 c5] ∧ n = n5 ∧ EsIn wx A5 n5 es ∧ Below w3.heap.size w3 wx)
  case first =>
    refine wp_region_held_drew (S := fun W => Below w3.heap.size w3 W) (by kernel_rfl) (Below.refl _ _).drew (fun hHeld => ?_)
    change wpAnyH _ _ _ _ _ _ #[false, false, false, false, false, false, false, false, false] _ _
    refine wpAnyH_take (i := 0) (v := (.pointer (some ⟨w.heap.size, 0, none⟩))) rfl (by kernel_rfl) (by kernel_rfl) (by kernel_rfl) (fun _ _ _ h => h) (Or.inl ⟨by kernel_rfl, fun w hSw => ?_⟩) (by assumption) ?_
    · (try dsimp only at hSw); go_simp <;> (try rfl)
    change wpAnyH _ _ _ _ _ _ _ (Act.put _ (some (40 : Nat)) (.pointer (some ⟨w.heap.size, 0, none⟩))) _
    simp only [Act.put, List.setIfInBounds_toArray, List.set_cons_zero, List.set_cons_succ]
    refine wpAnyH_take (i := 1) (v := (.agg #[.int .i64 co.cl, .int .i64 co.sp, .int .i64 co.op, .string (ba co.lt), .int .i64 co.a, .int .i64 co.b, .string (ba co.tx)])) rfl (by kernel_rfl) (by kernel_rfl) (by kernel_rfl) (fun _ _ _ h => h) (yieldsIf_load_mid (by kernel_rfl) 23 (.tmp 40) rfl w.heap.size 0 (by simp [Act.eval]) [.int .i64 co.cl, .int .i64 co.sp, .int .i64 co.op, .string (ba co.lt), .int .i64 co.a, .int .i64 co.b, .string (ba co.tx)] _ (fun W hW => range_through (Blk.front (post := [.slice A n c1]) K53.out) hW) Try.underlying23 rfl (by kernel_rfl)) (by assumption) ?_
    change wpAnyH _ _ _ _ _ _ _ (Act.put _ (some (41 : Nat)) (.agg #[.int .i64 co.cl, .int .i64 co.sp, .int .i64 co.op, .string (ba co.lt), .int .i64 co.a, .int .i64 co.b, .string (ba co.tx)])) _
    simp only [Act.put, List.setIfInBounds_toArray, List.set_cons_zero, List.set_cons_succ]
    refine wpAnyH_take (i := 3) (v := (.pointer (some ⟨w.heap.size, 7, none⟩))) rfl (by kernel_rfl) (by kernel_rfl) (by kernel_rfl) (fun _ _ _ h => h) (Or.inl ⟨by kernel_rfl, fun w hSw => ?_⟩) (by assumption) ?_
    · (try dsimp only at hSw); go_simp <;> (try rfl)
    change wpAnyH _ _ _ _ _ _ _ (Act.put _ (some (43 : Nat)) (.pointer (some ⟨w.heap.size, 7, none⟩))) _
    simp only [Act.put, List.setIfInBounds_toArray, List.set_cons_zero, List.set_cons_succ]
    refine wpAnyH_take (i := 4) (v := (.slice A n c1)) rfl (by kernel_rfl) (by kernel_rfl) (by kernel_rfl) (fun _ _ _ h => h) (yields_load_at (by kernel_rfl) 32 (.tmp 43) rfl (.pointer (some ⟨w.heap.size, 7, none⟩)) (by simp [Act.eval]) (.slice A n c1) (fun W hW => load_one' (by kernel_rfl) ((K53.out.through hW).cellAt (i := 7) rfl))) (by assumption) ?_
    change wpAnyH _ _ _ _ _ _ _ (Act.put _ (some (44 : Nat)) (.slice A n c1)) _
    simp only [Act.put, List.setIfInBounds_toArray, List.set_cons_zero, List.set_cons_succ]
    refine wpAnyH_ready (rs := [2, 7]) (by kernel_rfl) (by simp) ?_
    refine AllReadyH.cons (o := ⟨some 42, .buildSlice 32 0 #[], _, _, _, none⟩) rfl (fun K hK => ?_) (AllReadyH.cons (o := ⟨some 13, .alloc 34, _, _, _, none⟩) rfl (fun K hK => ?_) AllReadyH.nil)
    · as_aux_lemma =>
      refine step_mk (B := w3.heap.size) (e := 41) (k := 2) rfl rfl (Try.empty_es _ _ rfl) hHeld.size ?_; intro g2 u2 ho2 hb2; have HO2 := Lib.hid ho2; have HX2 := Lib.hid (below_step hHeld hb2); clear ho2 hb2
      refine hK.out _ _ HX2.out (fun hHeld1 => ?_)
      clear hHeld hK K
      have hHeld := hHeld1
      clear hHeld1
      change wpAnyH _ _ _ _ _ _ _ (Act.put _ (some (42 : Nat)) (.slice (some ⟨g2, 0, none⟩) 0 0)) _
      simp only [Act.put, List.setIfInBounds_toArray, List.set_cons_zero, List.set_cons_succ]
      refine wpAnyH_ready (rs := [5, 7]) (by kernel_rfl) (by simp) ?_
      refine AllReadyH.cons (o := ⟨some 45, .call ⟨.builtin .append, #[.tmp 42, .tmp 44], #[32, 32]⟩, _, _, _, none⟩) rfl (fun K hK => ?_) (AllReadyH.cons (o := ⟨some 13, .alloc 34, _, _, _, none⟩) rfl (fun K hK => ?_) AllReadyH.nil)
      · as_aux_lemma =>
        refine step_append_sl rfl Try.el_en (.tmp 42) (.tmp 44) rfl w3.heap.size (.slice (some ⟨g2, 0, none⟩) 0 0) [] rfl HO2.out A n c1 (enR es ss) rfl ((HS.out.through HX3.out).through hHeld) (fun y hy => (HRw.out y hy).1) (fun y hy => (HRw.out y hy).2) (by simp; omega) hHeld.size ?_; intro A5 n5 c5 u5 hn5 ho5 hg5; rw [List.nil_append] at hn5 ho5; have HO5 := Lib.hid ho5; have HX5 : Hid (Below w3.heap.size w3 u5) := Lib.hid (hHeld.grown hg5 hHeld.size (fun k hk => (HO2.out.lt k hk).1)); have HN5 := Lib.hid hn5; clear hn5 ho5 hg5
        refine hK.out _ _ HX5.out (fun hHeld1 => ?_)
        clear hHeld hK K
        have hHeld := hHeld1
        clear hHeld1
        change wpAnyH _ _ _ _ _ _ _ (Act.put _ (some (45 : Nat)) (.slice A5 n5 c5)) _
        simp only [Act.put, List.setIfInBounds_toArray, List.set_cons_zero, List.set_cons_succ]
        refine wpAnyH_take (i := 6) (v := (.agg #[.int .i64 co.cl, .int .i64 co.sp, .int .i64 co.op, .string (ba co.lt), .int .i64 co.a, .int .i64 co.b, .string (ba co.tx), .slice A5 n5 c5])) rfl (by kernel_rfl) (by kernel_rfl) (by kernel_rfl) (fun _ _ _ h => h) (yields_build (by kernel_rfl) 34 _ rfl _ (by simp only [List.map_toArray, List.map_cons, List.map_nil, Act.eval]; rfl) (.agg #[.int .i64 co.cl, .int .i64 co.sp, .int .i64 co.op, .string (ba co.lt), .int .i64 co.a, .int .i64 co.b, .string (ba co.tx), .slice A5 n5 c5]) (fun W _ => hbq _ _ _ _ _ _ _ _ _ _ W)) (by assumption) ?_
        change wpAnyH _ _ _ _ _ _ _ (Act.put _ (some (46 : Nat)) (.agg #[.int .i64 co.cl, .int .i64 co.sp, .int .i64 co.op, .string (ba co.lt), .int .i64 co.a, .int .i64 co.b, .string (ba co.tx), .slice A5 n5 c5])) _
        simp only [Act.put, List.setIfInBounds_toArray, List.set_cons_zero, List.set_cons_succ]
        refine wpAnyH_ready (rs := [7]) (by kernel_rfl) (by simp) ?_
        refine AllReadyH.cons (o := ⟨some 13, .alloc 34, _, _, _, none⟩) rfl (fun K hK => ?_) AllReadyH.nil
        refine step_al (cs := [.int .i64 0, .int .i64 0, .int .i64 0, .string (ba []), .int .i64 0, .int .i64 0, .string (ba []), .slice none 0 0]) rfl rfl (Try.alloc_rq _) ?_; intro g7 u7 hg7 hk7 hb7; have H7 := Lib.hid hk7; have HG7 : Hid (w3.heap.size ≤ g7) := Lib.hid (Nat.le_trans hHeld.size hg7); have HX7 := Lib.hid (below_step hHeld hb7); have HO5b := Lib.hid (HO5.out.through hb7); clear hg7 hk7 hb7
        refine hK.out _ _ HX7.out (fun hHeld1 => ?_)
        clear hHeld hK K
        have hHeld := hHeld1
        clear hHeld1
        change wpAnyH _ _ _ _ _ _ _ (Act.put _ (some (13 : Nat)) (.pointer (some ⟨g7, 0, none⟩))) _
        simp only [Act.put, List.setIfInBounds_toArray, List.set_cons_zero, List.set_cons_succ]
        refine wpAnyH_ready (rs := [8]) (by kernel_rfl) (by simp) ?_
        refine AllReadyH.cons (o := ⟨none, .store 34 (.tmp 13) (.tmp 46), _, _, _, none⟩) rfl (fun K hK => ?_) AllReadyH.nil
        refine step_store_blk rfl 34 (.tmp 13) (.tmp 46) rfl g7 [.int .i64 co.cl, .int .i64 co.sp, .int .i64 co.op, .string (ba co.lt), .int .i64 co.a, .int .i64 co.b, .string (ba co.tx), .slice A5 n5 c5] rfl rfl 34 [.int .i64 0, .int .i64 0, .int .i64 0, .string (ba []), .int .i64 0, .int .i64 0, .string (ba []), .slice none 0 0] H7.out (by kernel_rfl) rfl (one8 _ _ _ _ _ _ _ _ _ _) ?_; intro u8 hk8 hg8; have H8 := Lib.hid hk8; have HO8 := Lib.hid (HO5b.out.only hg8 H7.out (by decide)); have HX8 : Hid (Below w3.heap.size w3 u8) := Lib.hid (hHeld.grown hg8 hHeld.size (fun k hk => by have := Option.some.inj hk; have := HG7.out; omega)); clear hk8 hg8
        refine hK.out _ _ HX8.out (fun hHeld1 => ?_)
        clear hHeld hK K
        have hHeld := hHeld1
        clear hHeld1
        change wpAnyH _ _ _ _ _ _ _ (Act.put _ none undef) _
        simp only [Act.put]
        refine wpAnyH_done (by kernel_rfl) ?_ _
        have HX9 := Lib.hid hHeld
        clear hHeld
        go_wp2
        go_meet
        case rel => exact ⟨g7, A5, n5, c5, rfl, H8.out, (by rw [HN5.out]; exact HS.out.len.symm), es_behind HO8.out HA.out (below_step HX3.out HX9.out), HX9.out⟩
      · as_aux_lemma =>
        refine step_al (cs := [.int .i64 0, .int .i64 0, .int .i64 0, .string (ba []), .int .i64 0, .int .i64 0, .string (ba []), .slice none 0 0]) rfl rfl (Try.alloc_rq _) ?_; intro g7 u7 hg7 hk7 hb7; have H7 := Lib.hid hk7; have HG7 : Hid (w3.heap.size ≤ g7) := Lib.hid (Nat.le_trans hHeld.size hg7); have HX7 := Lib.hid (below_step hHeld hb7); have HO2b := Lib.hid (HO2.out.through hb7); clear hg7 hk7 hb7
        refine hK.out _ _ HX7.out (fun hHeld1 => ?_)
        clear hHeld hK K
        have hHeld := hHeld1
        clear hHeld1
        change wpAnyH _ _ _ _ _ _ _ (Act.put _ (some (13 : Nat)) (.pointer (some ⟨g7, 0, none⟩))) _
        simp only [Act.put, List.setIfInBounds_toArray, List.set_cons_zero, List.set_cons_succ]
        refine wpAnyH_ready (rs := [5]) (by kernel_rfl) (by simp) ?_
        refine AllReadyH.cons (o := ⟨some 45, .call ⟨.builtin .append, #[.tmp 42, .tmp 44], #[32, 32]⟩, _, _, _, none⟩) rfl (fun K hK => ?_) AllReadyH.nil
        refine step_append_sl rfl Try.el_en (.tmp 42) (.tmp 44) rfl w3.heap.size (.slice (some ⟨g2, 0, none⟩) 0 0) [] rfl HO2b.out A n c1 (enR es ss) rfl ((HS.out.through HX3.out).through hHeld) (fun y hy => (HRw.out y hy).1) (fun y hy => (HRw.out y hy).2) (by simp; omega) hHeld.size ?_; intro A5 n5 c5 u5 hn5 ho5 hg5; rw [List.nil_append] at hn5 ho5; have HO5 := Lib.hid ho5; have HX5 : Hid (Below w3.heap.size w3 u5) := Lib.hid (hHeld.grown hg5 hHeld.size (fun k hk => (HO2b.out.lt k hk).1)); have HN5 := Lib.hid hn5; have H7c := Lib.hid (H7.out.apart HO2b.out (by decide) hg5); clear hn5 ho5 hg5
        refine hK.out _ _ HX5.out (fun hHeld1 => ?_)
        clear hHeld hK K
        have hHeld := hHeld1
        clear hHeld1
        change wpAnyH _ _ _ _ _ _ _ (Act.put _ (some (45 : Nat)) (.slice A5 n5 c5)) _
        simp only [Act.put, List.setIfInBounds_toArray, List.set_cons_zero, List.set_cons_succ]
        refine wpAnyH_take (i := 6) (v := (.agg #[.int .i64 co.cl, .int .i64 co.sp, .int .i64 co.op, .string (ba co.lt), .int .i64 co.a, .int .i64 co.b, .string (ba co.tx), .slice A5 n5 c5])) rfl (by kernel_rfl) (by kernel_rfl) (by kernel_rfl) (fun _ _ _ h => h) (yields_build (by kernel_rfl) 34 _ rfl _ (by simp only [List.map_toArray, List.map_cons, List.map_nil, Act.eval]; rfl) (.agg #[.int .i64 co.cl, .int .i64 co.sp, .int .i64 co.op, .string (ba co.lt), .int .i64 co.a, .int .i64 co.b, .string (ba co.tx), .slice A5 n5 c5]) (fun W _ => hbq _ _ _ _ _ _ _ _ _ _ W)) (by assumption) ?_
        change wpAnyH _ _ _ _ _ _ _ (Act.put _ (some (46 : Nat)) (.agg #[.int .i64 co.cl, .int .i64 co.sp, .int .i64 co.op, .string (ba co.lt), .int .i64 co.a, .int .i64 co.b, .string (ba co.tx), .slice A5 n5 c5])) _
        simp only [Act.put, List.setIfInBounds_toArray, List.set_cons_zero, List.set_cons_succ]
        refine wpAnyH_ready (rs := [8]) (by kernel_rfl) (by simp) ?_
        refine AllReadyH.cons (o := ⟨none, .store 34 (.tmp 13) (.tmp 46), _, _, _, none⟩) rfl (fun K hK => ?_) AllReadyH.nil
        refine step_store_blk rfl 34 (.tmp 13) (.tmp 46) rfl g7 [.int .i64 co.cl, .int .i64 co.sp, .int .i64 co.op, .string (ba co.lt), .int .i64 co.a, .int .i64 co.b, .string (ba co.tx), .slice A5 n5 c5] rfl rfl 34 [.int .i64 0, .int .i64 0, .int .i64 0, .string (ba []), .int .i64 0, .int .i64 0, .string (ba []), .slice none 0 0] H7c.out (by kernel_rfl) rfl (one8 _ _ _ _ _ _ _ _ _ _) ?_; intro u8 hk8 hg8; have H8 := Lib.hid hk8; have HO8 := Lib.hid (HO5.out.only hg8 H7c.out (by decide)); have HX8 : Hid (Below w3.heap.size w3 u8) := Lib.hid (hHeld.grown hg8 hHeld.size (fun k hk => by have := Option.some.inj hk; have := HG7.out; omega)); clear hk8 hg8
        refine hK.out _ _ HX8.out (fun hHeld1 => ?_)
        clear hHeld hK K
        have hHeld := hHeld1
        clear hHeld1
        change wpAnyH _ _ _ _ _ _ _ (Act.put _ none undef) _
        simp only [Act.put]
        refine wpAnyH_done (by kernel_rfl) ?_ _
        have HX9 := Lib.hid hHeld
        clear hHeld
        go_wp2
        go_meet
        case rel => exact ⟨g7, A5, n5, c5, rfl, H8.out, (by rw [HN5.out]; exact HS.out.len.symm), es_behind HO8.out HA.out (below_step HX3.out HX9.out), HX9.out⟩
    · as_aux_lemma =>
      refine step_al (cs := [.int .i64 0, .int .i64 0, .int .i64 0, .string (ba []), .int .i64 0, .int .i64 0, .string (ba []), .slice none 0 0]) rfl rfl (Try.alloc_rq _) ?_; intro g7 u7 hg7 hk7 hb7; have H7 := Lib.hid hk7; have HG7 : Hid (w3.heap.size ≤ g7) := Lib.hid (Nat.le_trans hHeld.size hg7); have HX7 := Lib.hid (below_step hHeld hb7); clear hg7 hk7 hb7
      refine hK.out _ _ HX7.out (fun hHeld1 => ?_)
      clear hHeld hK K
      have hHeld := hHeld1
      clear hHeld1
      change wpAnyH _ _ _ _ _ _ _ (Act.put _ (some (13 : Nat)) (.pointer (some ⟨g7, 0, none⟩))) _
      simp only [Act.put, List.setIfInBounds_toArray, List.set_cons_zero, List.set_cons_succ]
      refine wpAnyH_ready (rs := [2]) (by kernel_rfl) (by simp) ?_
      refine AllReadyH.cons (o := ⟨some 42, .buildSlice 32 0 #[], _, _, _, none⟩) rfl (fun K hK => ?_) AllReadyH.nil
      refine step_mk (B := w3.heap.size) (e := 41) (k := 2) rfl rfl (Try.empty_es _ _ rfl) hHeld.size ?_; intro g2 u2 ho2 hb2; have HO2 := Lib.hid ho2; have HX2 := Lib.hid (below_step hHeld hb2); have H7b := Lib.hid (H7.out.through hb2); clear ho2 hb2
      refine hK.out _ _ HX2.out (fun hHeld1 => ?_)
      clear hHeld hK K
      have hHeld := hHeld1
      clear hHeld1
      change wpAnyH _ _ _ _ _ _ _ (Act.put _ (some (42 : Nat)) (.slice (some ⟨g2, 0, none⟩) 0 0)) _
      simp only [Act.put, List.setIfInBounds_toArray, List.set_cons_zero, List.set_cons_succ]
      refine wpAnyH_ready (rs := [5]) (by kernel_rfl) (by simp) ?_
      refine AllReadyH.cons (o := ⟨some 45, .call ⟨.builtin .append, #[.tmp 42, .tmp 44], #[32, 32]⟩, _, _, _, none⟩) rfl (fun K hK => ?_) AllReadyH.nil
      refine step_append_sl rfl Try.el_en (.tmp 42) (.tmp 44) rfl w3.heap.size (.slice (some ⟨g2, 0, none⟩) 0 0) [] rfl HO2.out A n c1 (enR es ss) rfl ((HS.out.through HX3.out).through hHeld) (fun y hy => (HRw.out y hy).1) (fun y hy => (HRw.out y hy).2) (by simp; omega) hHeld.size ?_; intro A5 n5 c5 u5 hn5 ho5 hg5; rw [List.nil_append] at hn5 ho5; have HO5 := Lib.hid ho5; have HX5 : Hid (Below w3.heap.size w3 u5) := Lib.hid (hHeld.grown hg5 hHeld.size (fun k hk => (HO2.out.lt k hk).1)); have HN5 := Lib.hid hn5; have H7c := Lib.hid (H7b.out.apart HO2.out (by decide) hg5); clear hn5 ho5 hg5
      refine hK.out _ _ HX5.out (fun hHeld1 => ?_)
      clear hHeld hK K
      have hHeld := hHeld1
      clear hHeld1
      change wpAnyH _ _ _ _ _ _ _ (Act.put _ (some (45 : Nat)) (.slice A5 n5 c5)) _
      simp only [Act.put, List.setIfInBounds_toArray, List.set_cons_zero, List.set_cons_succ]
      refine wpAnyH_take (i := 6) (v := (.agg #[.int .i64 co.cl, .int .i64 co.sp, .int .i64 co.op, .string (ba co.lt), .int .i64 co.a, .int .i64 co.b, .string (ba co.tx), .slice A5 n5 c5])) rfl (by kernel_rfl) (by kernel_rfl) (by kernel_rfl) (fun _ _ _ h => h) (yields_build (by kernel_rfl) 34 _ rfl _ (by simp only [List.map_toArray, List.map_cons, List.map_nil, Act.eval]; rfl) (.agg #[.int .i64 co.cl, .int .i64 co.sp, .int .i64 co.op, .string (ba co.lt), .int .i64 co.a, .int .i64 co.b, .string (ba co.tx), .slice A5 n5 c5]) (fun W _ => hbq _ _ _ _ _ _ _ _ _ _ W)) (by assumption) ?_
      change wpAnyH _ _ _ _ _ _ _ (Act.put _ (some (46 : Nat)) (.agg #[.int .i64 co.cl, .int .i64 co.sp, .int .i64 co.op, .string (ba co.lt), .int .i64 co.a, .int .i64 co.b, .string (ba co.tx), .slice A5 n5 c5])) _
      simp only [Act.put, List.setIfInBounds_toArray, List.set_cons_zero, List.set_cons_succ]
      refine wpAnyH_ready (rs := [8]) (by kernel_rfl) (by simp) ?_
      refine AllReadyH.cons (o := ⟨none, .store 34 (.tmp 13) (.tmp 46), _, _, _, none⟩) rfl (fun K hK => ?_) AllReadyH.nil
      refine step_store_blk rfl 34 (.tmp 13) (.tmp 46) rfl g7 [.int .i64 co.cl, .int .i64 co.sp, .int .i64 co.op, .string (ba co.lt), .int .i64 co.a, .int .i64 co.b, .string (ba co.tx), .slice A5 n5 c5] rfl rfl 34 [.int .i64 0, .int .i64 0, .int .i64 0, .string (ba []), .int .i64 0, .int .i64 0, .string (ba []), .slice none 0 0] H7c.out (by kernel_rfl) rfl (one8 _ _ _ _ _ _ _ _ _ _) ?_; intro u8 hk8 hg8; have H8 := Lib.hid hk8; have HO8 := Lib.hid (HO5.out.only hg8 H7c.out (by decide)); have HX8 : Hid (Below w3.heap.size w3 u8) := Lib.hid (hHeld.grown hg8 hHeld.size (fun k hk => by have := Option.some.inj hk; have := HG7.out; omega)); clear hk8 hg8
      refine hK.out _ _ HX8.out (fun hHeld1 => ?_)
      clear hHeld hK K
      have hHeld := hHeld1
      clear hHeld1
      change wpAnyH _ _ _ _ _ _ _ (Act.put _ none undef) _
      simp only [Act.put]
      refine wpAnyH_done (by kernel_rfl) ?_ _
      have HX9 := Lib.hid hHeld
      clear hHeld
      go_wp2
      go_meet
      case rel => exact ⟨g7, A5, n5, c5, rfl, H8.out, (by rw [HN5.out]; exact HS.out.len.symm), es_behind HO8.out HA.out (below_step HX3.out HX9.out), HX9.out⟩
  case rest =>
    obtain ⟨g7, A5, n5, c5, rfl, hk13, rfl, he5, hx6⟩ := hcut
    have H136 := Lib.hid hk13
    have HE56 := Lib.hid he5
    have K56 := Lib.hid (K53.out.through hx6)
    have K66 := Lib.hid (K63.out.through hx6)
    have K76 := Lib.hid (K73.out.through hx6)
    have HX6 := Lib.hid (below_step HX3.out hx6)
    clear hk13 he5 hx6
    by_cases hk : f.check y = 0
    · have HRh : Hid (∀ W, f.In W (fun _ => True) Af nf → Calls Try.prog 32 #[.agg #[.int .i64 fo, .int .i64 fa, .slice Af nf cf], .int .u32 (s : Int)] W fun e w' => e = .returned (.bool (f.hold s)) ∧ Below W.heap.size W w') := Lib.hid (fun W hF => HRh0.out W hk hF)
      have hen2 := HEn0.out
      have hrc2 := HRc0.out
      rw [hk] at hen2 hrc2
      simp only [eq_self, decide_true, Bool.true_and] at hen2
      generalize f.hold s = bo at *
      have HEn := Lib.hid hen2
      have HRc := Lib.hid hrc2
      clear hk hen2 hrc2
      go_wp2_with (first
        | (refine wpList_load_blk rfl 34 (.tmp 5) rfl w.heap.size rfl 34 [.int .i64 co.cl, .int .i64 co.sp, .int .i64 co.op, .string (ba co.lt), .int .i64 co.a, .int .i64 co.b, .string (ba co.tx), .slice A n c1] _ K56.out Try.underlying34 rfl (by kernel_rfl) ?_)
        | (refine wpList_load_blk rfl 41 (.tmp 6) rfl (w.heap.size + 1) rfl 41 [.int .i64 x.og, .slice B m d] _ K66.out Try.underlying41 rfl (by kernel_rfl) ?_)
        | (go_at_call 25; (with_reducible refine (HWi.out _ (HE.out.through HX6.out) (HTx.out.through HX6.out)).mono ?_); rintro e w7 ⟨A7, n7, c7, rfl, he7, hb7⟩; have hb7' := Below.trans hb7 ((below1_ w7 (.cells #[.int .i64 co.cl, .int .i64 co.sp, .int .i64 co.op, .string (ba co.lt), .int .i64 co.a, .int .i64 co.b, .string (ba co.tx), .slice A7 n7 c7] 34)).mono hb7.size); have K58 := Lib.hid (K56.out.through hb7'); have K68 := Lib.hid (K66.out.through hb7'); have K78 := Lib.hid (K76.out.through hb7'); have H138 := Lib.hid (H136.out.through hb7'); have HX8 := Lib.hid (below_step HX6.out hb7'); have H148 : Hid (Blk (w7.alloc (.cells #[.int .i64 co.cl, .int .i64 co.sp, .int .i64 co.op, .string (ba co.lt), .int .i64 co.a, .int .i64 co.b, .string (ba co.tx), .slice A7 n7 c7] 34)) w7.heap.size 34 [.int .i64 co.cl, .int .i64 co.sp, .int .i64 co.op, .string (ba co.lt), .int .i64 co.a, .int .i64 co.b, .string (ba co.tx), .slice A7 n7 c7]) := Lib.hid (Blk.fresh rfl rfl); have HE78 := Lib.hid (he7.through (below1_ w7 (.cells #[.int .i64 co.cl, .int .i64 co.sp, .int .i64 co.op, .string (ba co.lt), .int .i64 co.a, .int .i64 co.b, .string (ba co.tx), .slice A7 n7 c7] 34))); have HE58 := Lib.hid (HE56.out.through hb7'); clear hb7 hb7' he7)
        | (refine wpList_load_blk rfl 57 (.tmp 7) rfl (w.heap.size + 2) rfl 57 [.int .i64 fo, .int .i64 fa, .slice Af nf cf] _ K78.out Try.underlying57 rfl (by kernel_rfl) ?_)
        | (go_at_call 31; (with_reducible refine (HRc.out _ (HF.out.through HX8.out)).mono ?_); rintro e w9 ⟨rfl, hb9⟩; have K59 := Lib.hid (K58.out.through hb9); have K69 := Lib.hid (K68.out.through hb9); have K79 := Lib.hid (K78.out.through hb9); have H139 := Lib.hid (H138.out.through hb9); have HX9 := Lib.hid (below_step HX8.out hb9); have H149 := Lib.hid (H148.out.through hb9); have HE79 := Lib.hid (HE78.out.through hb9); have HE59 := Lib.hid (HE58.out.through hb9); clear hb9)
        | (refine wpList_load_blk_g 57 (.tmp 7) rfl (by kernel_rfl) (w.heap.size + 2) rfl 57 [.int .i64 fo, .int .i64 fa, .slice Af nf cf] _ K79.out Try.underlying57 rfl (by kernel_rfl) ?_)
        | (go_at_call 32; (with_reducible refine (HRh.out _ (HF.out.through HX9.out)).mono ?_); rintro e wa ⟨rfl, hba⟩; have K5a := Lib.hid (K59.out.through hba); have K6a := Lib.hid (K69.out.through hba); have K7a := Lib.hid (K79.out.through hba); have H13a := Lib.hid (H139.out.through hba); have HXa := Lib.hid (below_step HX9.out hba); have H14a := Lib.hid (H149.out.through hba); have HE7a := Lib.hid (HE79.out.through hba); have HE5a := Lib.hid (HE59.out.through hba); clear hba))
      refine wp_region_held_drew (S := fun W => Below wa.heap.size wa W) (by kernel_rfl) (Below.refl _ _).drew (fun hHeld => ?_)
      change wpAnyH _ _ _ _ _ _ #[false, false, false, false, false, false, false, false, false, false, false, false, false, false, false, false, false, false, false] _ _
      refine wpAnyH_take (i := 0) (v := (.agg #[.int .i64 co.cl, .int .i64 co.sp, .int .i64 co.op, .string (ba co.lt), .int .i64 co.a, .int .i64 co.b, .string (ba co.tx), .slice A7 n7 c7])) rfl (by kernel_rfl) (by kernel_rfl) (by kernel_rfl) (fun _ _ _ h => h) (yieldsIf_load_mid (by kernel_rfl) 34 (.tmp 14) rfl w7.heap.size 0 (by simp [Act.eval]) [.int .i64 co.cl, .int .i64 co.sp, .int .i64 co.op, .string (ba co.lt), .int .i64 co.a, .int .i64 co.b, .string (ba co.tx), .slice A7 n7 c7] _ (fun W hW => range_through (Blk.front (post := []) H14a.out) hW) Try.underlying34 rfl (by kernel_rfl)) (by assumption) ?_
      change wpAnyH _ _ _ _ _ _ _ (Act.put _ (some (59 : Nat)) (.agg #[.int .i64 co.cl, .int .i64 co.sp, .int .i64 co.op, .string (ba co.lt), .int .i64 co.a, .int .i64 co.b, .string (ba co.tx), .slice A7 n7 c7])) _
      simp only [Act.put, List.setIfInBounds_toArray, List.set_cons_zero, List.set_cons_succ]
      refine wpAnyH_take (i := 1) (v := (.agg #[.int .i64 co.cl, .int .i64 co.sp, .int .i64 co.op, .string (ba co.lt), .int .i64 co.a, .int .i64 co.b, .string (ba co.tx), .slice A n c1])) rfl (by kernel_rfl) (by kernel_rfl) (by kernel_rfl) (fun _ _ _ h => h) (yieldsIf_load_mid (by kernel_rfl) 34 (.tmp 5) rfl w.heap.size 0 (by simp [Act.eval]) [.int .i64 co.cl, .int .i64 co.sp, .int .i64 co.op, .string (ba co.lt), .int .i64 co.a, .int .i64 co.b, .string (ba co.tx), .slice A n c1] _ (fun W hW => range_through (Blk.front (post := []) K5a.out) hW) Try.underlying34 rfl (by kernel_rfl)) (by assumption) ?_
      change wpAnyH _ _ _ _ _ _ _ (Act.put _ (some (60 : Nat)) (.agg #[.int .i64 co.cl, .int .i64 co.sp, .int .i64 co.op, .string (ba co.lt), .int .i64 co.a, .int .i64 co.b, .string (ba co.tx), .slice A n c1])) _
      simp only [Act.put, List.setIfInBounds_toArray, List.set_cons_zero, List.set_cons_succ]
      refine wpAnyH_take (i := 2) (v := (.agg #[.int .i64 x.og, .slice B m d])) rfl (by kernel_rfl) (by kernel_rfl) (by kernel_rfl) (fun _ _ _ h => h) (yieldsIf_load_mid (by kernel_rfl) 41 (.tmp 6) rfl (w.heap.size + 1) 0 (by simp [Act.eval]) [.int .i64 x.og, .slice B m d] _ (fun W hW => range_through (Blk.front (post := []) K6a.out) hW) Try.underlying41 rfl (by kernel_rfl)) (by assumption) ?_
      change wpAnyH _ _ _ _ _ _ _ (Act.put _ (some (61 : Nat)) (.agg #[.int .i64 x.og, .slice B m d])) _
      simp only [Act.put, List.setIfInBounds_toArray, List.set_cons_zero, List.set_cons_succ]
      refine wpAnyH_ready (rs := [3]) (by kernel_rfl) (by simp) ?_
      refine AllReadyH.cons rfl (fun K hK => ?_) AllReadyH.nil
      go_simp
      refine (HRWi.out _ ((HE.out.through HXa.out).through hHeld) ((HTx.out.through HXa.out).through hHeld)).mono ?_
      rintro e wb ⟨Ab, nb, cb, rfl, heb, hbb⟩; have HEb := Lib.hid heb; have HKb := Lib.hid (below_step hHeld hbb); clear heb hbb
      go_wp2_with fail
      refine hK.out _ _ HKb.out (fun hHeld1 => ?_)
      clear hHeld hK K
      have hHeld := hHeld1
      clear hHeld1
      refine wpAnyH_ready (rs := [4]) (by kernel_rfl) (by simp) ?_
      refine AllReadyH.cons rfl (fun K hK => ?_) AllReadyH.nil
      go_simp
      refine (HSm.out (withE es x) A7 n7 c7 Ab nb cb _ (HE7a.out.through hHeld) HEb.out HLw.out).mono ?_
      rintro e wd ⟨rfl, hbd⟩; have HKd := Lib.hid (below_step hHeld hbd); clear hbd
      go_wp2_with fail
      refine hK.out _ _ HKd.out (fun hHeld1 => ?_)
      clear hHeld hK K
      have hHeld := hHeld1
      clear hHeld1
      refine wpAnyH_take (i := 5) (v := (.bool true)) rfl (by kernel_rfl) (by kernel_rfl) (by kernel_rfl) (fun _ _ _ h => h) (Or.inl ⟨by kernel_rfl, fun w hSw => ?_⟩) (by assumption) ?_
      · (try dsimp only at hSw); go_simp <;> (try rfl)
      change wpAnyH _ _ _ _ _ _ _ (Act.put _ (some (64 : Nat)) (.bool true)) _
      simp only [Act.put, List.setIfInBounds_toArray, List.set_cons_zero, List.set_cons_succ]
      refine wpAnyH_take (i := 6) (v := (.agg #[.int .i64 co.cl, .int .i64 co.sp, .int .i64 co.op, .string (ba co.lt), .int .i64 co.a, .int .i64 co.b, .string (ba co.tx), .slice A n c1])) rfl (by kernel_rfl) (by kernel_rfl) (by kernel_rfl) (fun _ _ _ h => h) (yieldsIf_load_mid (by kernel_rfl) 34 (.tmp 5) rfl w.heap.size 0 (by simp [Act.eval]) [.int .i64 co.cl, .int .i64 co.sp, .int .i64 co.op, .string (ba co.lt), .int .i64 co.a, .int .i64 co.b, .string (ba co.tx), .slice A n c1] _ (fun W hW => range_through (Blk.front (post := []) K5a.out) hW) Try.underlying34 rfl (by kernel_rfl)) (by assumption) ?_
      change wpAnyH _ _ _ _ _ _ _ (Act.put _ (some (65 : Nat)) (.agg #[.int .i64 co.cl, .int .i64 co.sp, .int .i64 co.op, .string (ba co.lt), .int .i64 co.a, .int .i64 co.b, .string (ba co.tx), .slice A n c1])) _
      simp only [Act.put, List.setIfInBounds_toArray, List.set_cons_zero, List.set_cons_succ]
      refine wpAnyH_take (i := 7) (v := (.agg #[.int .i64 co.cl, .int .i64 co.sp, .int .i64 co.op, .string (ba co.lt), .int .i64 co.a, .int .i64 co.b, .string (ba co.tx), .slice A5 n c5])) rfl (by kernel_rfl) (by kernel_rfl) (by kernel_rfl) (fun _ _ _ h => h) (yieldsIf_load_mid (by kernel_rfl) 34 (.tmp 13) rfl g7 0 (by simp [Act.eval]) [.int .i64 co.cl, .int .i64 co.sp, .int .i64 co.op, .string (ba co.lt), .int .i64 co.a, .int .i64 co.b, .string (ba co.tx), .slice A5 n c5] _ (fun W hW => range_through (Blk.front (post := []) H13a.out) hW) Try.underlying34 rfl (by kernel_rfl)) (by assumption) ?_
      change wpAnyH _ _ _ _ _ _ _ (Act.put _ (some (66 : Nat)) (.agg #[.int .i64 co.cl, .int .i64 co.sp, .int .i64 co.op, .string (ba co.lt), .int .i64 co.a, .int .i64 co.b, .string (ba co.tx), .slice A5 n c5])) _
      simp only [Act.put, List.setIfInBounds_toArray, List.set_cons_zero, List.set_cons_succ]
      refine wpAnyH_ready (rs := [8]) (by kernel_rfl) (by simp) ?_
      refine AllReadyH.cons rfl (fun K hK => ?_) AllReadyH.nil
      go_simp
      refine (HSm.out es A n c1 A5 n c5 _ ((HE.out.through HXa.out).through hHeld) (HE5a.out.through hHeld) HLe.out).mono ?_
      rintro e we ⟨rfl, hbe⟩; have HKe := Lib.hid (below_step hHeld hbe); clear hbe
      go_wp2_with fail
      refine hK.out _ _ HKe.out (fun hHeld1 => ?_)
      clear hHeld hK K
      have hHeld := hHeld1
      clear hHeld1
      refine wpAnyH_take (i := 9) (v := (.bool true)) rfl (by kernel_rfl) (by kernel_rfl) (by kernel_rfl) (fun _ _ _ h => h) (Or.inl ⟨by kernel_rfl, fun w hSw => ?_⟩) (by assumption) ?_
      · (try dsimp only at hSw); go_simp <;> (try rfl)
      change wpAnyH _ _ _ _ _ _ _ (Act.put _ (some (68 : Nat)) (.bool true)) _
      simp only [Act.put, List.setIfInBounds_toArray, List.set_cons_zero, List.set_cons_succ]
      refine wpAnyH_take (i := 10) (v := (.bool true)) rfl (by kernel_rfl) (by kernel_rfl) (by kernel_rfl) (fun _ _ _ h => h) (Or.inl ⟨by kernel_rfl, fun w hSw => ?_⟩) (by assumption) ?_
      · (try dsimp only at hSw); go_simp <;> (try rfl)
      change wpAnyH _ _ _ _ _ _ _ (Act.put _ (some (69 : Nat)) (.bool true)) _
      simp only [Act.put, List.setIfInBounds_toArray, List.set_cons_zero, List.set_cons_succ]
      refine wpAnyH_take (i := 11) (v := (.agg #[.int .i64 fo, .int .i64 fa, .slice Af nf cf])) rfl (by kernel_rfl) (by kernel_rfl) (by kernel_rfl) (fun _ _ _ h => h) (yieldsIf_load_mid (by kernel_rfl) 57 (.tmp 7) rfl (w.heap.size + 2) 0 (by simp [Act.eval]) [.int .i64 fo, .int .i64 fa, .slice Af nf cf] _ (fun W hW => range_through (Blk.front (post := []) K7a.out) hW) Try.underlying57 rfl (by kernel_rfl)) (by assumption) ?_
      change wpAnyH _ _ _ _ _ _ _ (Act.put _ (some (70 : Nat)) (.agg #[.int .i64 fo, .int .i64 fa, .slice Af nf cf])) _
      simp only [Act.put, List.setIfInBounds_toArray, List.set_cons_zero, List.set_cons_succ]
      refine wpAnyH_take (i := 12) (v := (.int .u32 (s : Int))) rfl (by kernel_rfl) (by kernel_rfl) (by kernel_rfl) (fun _ _ _ h => h) (Or.inl ⟨by kernel_rfl, fun w hSw => ?_⟩) (by assumption) ?_
      · (try dsimp only at hSw); go_simp <;> (try rfl)
      change wpAnyH _ _ _ _ _ _ _ (Act.put _ (some (71 : Nat)) (.int .u32 (s : Int))) _
      simp only [Act.put, List.setIfInBounds_toArray, List.set_cons_zero, List.set_cons_succ]
      refine wpAnyH_take (i := 13) (v := (.int .i64 y)) rfl (by kernel_rfl) (by kernel_rfl) (by kernel_rfl) (fun _ _ _ h => h) (Or.inl ⟨by kernel_rfl, fun w hSw => ?_⟩) (by assumption) ?_
      · (try dsimp only at hSw); go_simp <;> (try rfl)
      change wpAnyH _ _ _ _ _ _ _ (Act.put _ (some (72 : Nat)) (.int .i64 y)) _
      simp only [Act.put, List.setIfInBounds_toArray, List.set_cons_zero, List.set_cons_succ]
      refine wpAnyH_take (i := 15) (v := (.bool bo)) rfl (by kernel_rfl) (by kernel_rfl) (by kernel_rfl) (fun _ _ _ h => h) (Or.inl ⟨by kernel_rfl, fun w hSw => ?_⟩) (by assumption) ?_
      · (try dsimp only at hSw); go_simp <;> (try rfl)
      change wpAnyH _ _ _ _ _ _ _ (Act.put _ (some (74 : Nat)) (.bool bo)) _
      simp only [Act.put, List.setIfInBounds_toArray, List.set_cons_zero, List.set_cons_succ]
      refine wpAnyH_ready (rs := [14]) (by kernel_rfl) (by simp) ?_
      refine AllReadyH.cons rfl (fun K hK => ?_) AllReadyH.nil
      go_simp
      refine (HEn.out _ ((HF.out.through HXa.out).through hHeld)).mono ?_
      rintro e wf ⟨rfl, hbf⟩; have HKf := Lib.hid (below_step hHeld hbf); clear hbf
      go_wp2_with fail
      refine hK.out _ _ HKf.out (fun hHeld1 => ?_)
      clear hHeld hK K
      have hHeld := hHeld1
      clear hHeld1
      refine wpAnyH_take (i := 16) (v := (.bool true)) rfl (by kernel_rfl) (by kernel_rfl) (by kernel_rfl) (fun _ _ _ h => h) (Or.inl ⟨by kernel_rfl, fun w hSw => ?_⟩) (by assumption) ?_
      · (try dsimp only at hSw); go_simp <;> (try rfl)
      change wpAnyH _ _ _ _ _ _ _ (Act.put _ (some (75 : Nat)) (.bool true)) _
      simp only [Act.put, List.setIfInBounds_toArray, List.set_cons_zero, List.set_cons_succ]
      refine wpAnyH_take (i := 17) (v := (.bool true)) rfl (by kernel_rfl) (by kernel_rfl) (by kernel_rfl) (fun _ _ _ h => h) (Or.inl ⟨by kernel_rfl, fun w hSw => ?_⟩) (by assumption) ?_
      · (try dsimp only at hSw); go_simp <;> (try rfl)
      change wpAnyH _ _ _ _ _ _ _ (Act.put _ (some (76 : Nat)) (.bool true)) _
      simp only [Act.put, List.setIfInBounds_toArray, List.set_cons_zero, List.set_cons_succ]
      refine wpAnyH_take (i := 18) (v := (.bool true)) rfl (by kernel_rfl) (by kernel_rfl) (by kernel_rfl) (fun _ _ _ h => h) (Or.inl ⟨by kernel_rfl, fun w hSw => ?_⟩) (by assumption) ?_
      · (try dsimp only at hSw); go_simp <;> (try rfl)
      change wpAnyH _ _ _ _ _ _ _ (Act.put _ (some (10 : Nat)) (.bool true)) _
      simp only [Act.put, List.setIfInBounds_toArray, List.set_cons_zero, List.set_cons_succ]
      refine wpAnyH_done (by kernel_rfl) ?_ _
      have HXz := Lib.hid (below_step HXa.out hHeld)
      clear hHeld
      go_wp2
      go_ret
      exact ⟨rfl, HXz.out⟩
    · have hen2 := HEn0.out
      have hrc2 := HRc0.out
      simp only [hk, decide_false, Bool.false_and] at hen2
      generalize f.check y = ck at *
      have dk : decide (ck = 0) = false := decide_eq_false hk
      have dk2 : (ck == (0 : Int)) = false := by simpa using hk
      have hkn := hk
      have HEn := Lib.hid hen2
      have HRc := Lib.hid hrc2
      clear hk hen2 hrc2
      go_wp2_with (first
        | (refine wpList_load_blk rfl 34 (.tmp 5) rfl w.heap.size rfl 34 [.int .i64 co.cl, .int .i64 co.sp, .int .i64 co.op, .string (ba co.lt), .int .i64 co.a, .int .i64 co.b, .string (ba co.tx), .slice A n c1] _ K56.out Try.underlying34 rfl (by kernel_rfl) ?_)
        | (refine wpList_load_blk rfl 41 (.tmp 6) rfl (w.heap.size + 1) rfl 41 [.int .i64 x.og, .slice B m d] _ K66.out Try.underlying41 rfl (by kernel_rfl) ?_)
        | (go_at_call 25; (with_reducible refine (HWi.out _ (HE.out.through HX6.out) (HTx.out.through HX6.out)).mono ?_); rintro e w7 ⟨A7, n7, c7, rfl, he7, hb7⟩; have hb7' := Below.trans hb7 ((below1_ w7 (.cells #[.int .i64 co.cl, .int .i64 co.sp, .int .i64 co.op, .string (ba co.lt), .int .i64 co.a, .int .i64 co.b, .string (ba co.tx), .slice A7 n7 c7] 34)).mono hb7.size); have K58 := Lib.hid (K56.out.through hb7'); have K68 := Lib.hid (K66.out.through hb7'); have K78 := Lib.hid (K76.out.through hb7'); have H138 := Lib.hid (H136.out.through hb7'); have HX8 := Lib.hid (below_step HX6.out hb7'); have H148 : Hid (Blk (w7.alloc (.cells #[.int .i64 co.cl, .int .i64 co.sp, .int .i64 co.op, .string (ba co.lt), .int .i64 co.a, .int .i64 co.b, .string (ba co.tx), .slice A7 n7 c7] 34)) w7.heap.size 34 [.int .i64 co.cl, .int .i64 co.sp, .int .i64 co.op, .string (ba co.lt), .int .i64 co.a, .int .i64 co.b, .string (ba co.tx), .slice A7 n7 c7]) := Lib.hid (Blk.fresh rfl rfl); have HE78 := Lib.hid (he7.through (below1_ w7 (.cells #[.int .i64 co.cl, .int .i64 co.sp, .int .i64 co.op, .string (ba co.lt), .int .i64 co.a, .int .i64 co.b, .string (ba co.tx), .slice A7 n7 c7] 34))); have HE58 := Lib.hid (HE56.out.through hb7'); clear hb7 hb7' he7)
        | (refine wpList_load_blk rfl 57 (.tmp 7) rfl (w.heap.size + 2) rfl 57 [.int .i64 fo, .int .i64 fa, .slice Af nf cf] _ K78.out Try.underlying57 rfl (by kernel_rfl) ?_)
        | (go_at_call 31; (with_reducible refine (HRc.out _ (HF.out.through HX8.out)).mono ?_); rintro e w9 ⟨rfl, hb9⟩; have K59 := Lib.hid (K58.out.through hb9); have K69 := Lib.hid (K68.out.through hb9); have K79 := Lib.hid (K78.out.through hb9); have H139 := Lib.hid (H138.out.through hb9); have HX9 := Lib.hid (below_step HX8.out hb9); have H149 := Lib.hid (H148.out.through hb9); have HE79 := Lib.hid (HE78.out.through hb9); have HE59 := Lib.hid (HE58.out.through hb9); clear hb9))
      refine wp_region_held_drew (S := fun W => Below w9.heap.size w9 W) (by kernel_rfl) (Below.refl _ _).drew (fun hHeld => ?_)
      change wpAnyH _ _ _ _ _ _ #[false, false, false, false, false, false, false, false, false, false, false, false, false, false, false, false, false, false, false] _ _
      refine wpAnyH_take (i := 0) (v := (.agg #[.int .i64 co.cl, .int .i64 co.sp, .int .i64 co.op, .string (ba co.lt), .int .i64 co.a, .int .i64 co.b, .string (ba co.tx), .slice A7 n7 c7])) rfl (by kernel_rfl) (by kernel_rfl) (by kernel_rfl) (fun _ _ _ h => h) (yieldsIf_load_mid (by kernel_rfl) 34 (.tmp 14) rfl w7.heap.size 0 (by simp [Act.eval]) [.int .i64 co.cl, .int .i64 co.sp, .int .i64 co.op, .string (ba co.lt), .int .i64 co.a, .int .i64 co.b, .string (ba co.tx), .slice A7 n7 c7] _ (fun W hW => range_through (Blk.front (post := []) H149.out) hW) Try.underlying34 rfl (by kernel_rfl)) (by assumption) ?_
      change wpAnyH _ _ _ _ _ _ _ (Act.put _ (some (59 : Nat)) (.agg #[.int .i64 co.cl, .int .i64 co.sp, .int .i64 co.op, .string (ba co.lt), .int .i64 co.a, .int .i64 co.b, .string (ba co.tx), .slice A7 n7 c7])) _
      simp only [Act.put, List.setIfInBounds_toArray, List.set_cons_zero, List.set_cons_succ]
      refine wpAnyH_take (i := 1) (v := (.agg #[.int .i64 co.cl, .int .i64 co.sp, .int .i64 co.op, .string (ba co.lt), .int .i64 co.a, .int .i64 co.b, .string (ba co.tx), .slice A n c1])) rfl (by kernel_rfl) (by kernel_rfl) (by kernel_rfl) (fun _ _ _ h => h) (yieldsIf_load_mid (by kernel_rfl) 34 (.tmp 5) rfl w.heap.size 0 (by simp [Act.eval]) [.int .i64 co.cl, .int .i64 co.sp, .int .i64 co.op, .string (ba co.lt), .int .i64 co.a, .int .i64 co.b, .string (ba co.tx), .slice A n c1] _ (fun W hW => range_through (Blk.front (post := []) K59.out) hW) Try.underlying34 rfl (by kernel_rfl)) (by assumption) ?_
      change wpAnyH _ _ _ _ _ _ _ (Act.put _ (some (60 : Nat)) (.agg #[.int .i64 co.cl, .int .i64 co.sp, .int .i64 co.op, .string (ba co.lt), .int .i64 co.a, .int .i64 co.b, .string (ba co.tx), .slice A n c1])) _
      simp only [Act.put, List.setIfInBounds_toArray, List.set_cons_zero, List.set_cons_succ]
      refine wpAnyH_take (i := 2) (v := (.agg #[.int .i64 x.og, .slice B m d])) rfl (by kernel_rfl) (by kernel_rfl) (by kernel_rfl) (fun _ _ _ h => h) (yieldsIf_load_mid (by kernel_rfl) 41 (.tmp 6) rfl (w.heap.size + 1) 0 (by simp [Act.eval]) [.int .i64 x.og, .slice B m d] _ (fun W hW => range_through (Blk.front (post := []) K69.out) hW) Try.underlying41 rfl (by kernel_rfl)) (by assumption) ?_
      change wpAnyH _ _ _ _ _ _ _ (Act.put _ (some (61 : Nat)) (.agg #[.int .i64 x.og, .slice B m d])) _
      simp only [Act.put, List.setIfInBounds_toArray, List.set_cons_zero, List.set_cons_succ]
      refine wpAnyH_ready (rs := [3]) (by kernel_rfl) (by simp) ?_
      refine AllReadyH.cons rfl (fun K hK => ?_) AllReadyH.nil
      go_simp
      refine (HRWi.out _ ((HE.out.through HX9.out).through hHeld) ((HTx.out.through HX9.out).through hHeld)).mono ?_
      rintro e wb ⟨Ab, nb, cb, rfl, heb, hbb⟩; have HEb := Lib.hid heb; have HKb := Lib.hid (below_step hHeld hbb); clear heb hbb
      go_wp2_with fail
      refine hK.out _ _ HKb.out (fun hHeld1 => ?_)
      clear hHeld hK K
      have hHeld := hHeld1
      clear hHeld1
      refine wpAnyH_ready (rs := [4]) (by kernel_rfl) (by simp) ?_
      refine AllReadyH.cons rfl (fun K hK => ?_) AllReadyH.nil
      go_simp
      refine (HSm.out (withE es x) A7 n7 c7 Ab nb cb _ (HE79.out.through hHeld) HEb.out HLw.out).mono ?_
      rintro e wd ⟨rfl, hbd⟩; have HKd := Lib.hid (below_step hHeld hbd); clear hbd
      go_wp2_with fail
      refine hK.out _ _ HKd.out (fun hHeld1 => ?_)
      clear hHeld hK K
      have hHeld := hHeld1
      clear hHeld1
      refine wpAnyH_take (i := 5) (v := (.bool true)) rfl (by kernel_rfl) (by kernel_rfl) (by kernel_rfl) (fun _ _ _ h => h) (Or.inl ⟨by kernel_rfl, fun w hSw => ?_⟩) (by assumption) ?_
      · (try dsimp only at hSw); go_simp <;> (try rfl)
      change wpAnyH _ _ _ _ _ _ _ (Act.put _ (some (64 : Nat)) (.bool true)) _
      simp only [Act.put, List.setIfInBounds_toArray, List.set_cons_zero, List.set_cons_succ]
      refine wpAnyH_take (i := 6) (v := (.agg #[.int .i64 co.cl, .int .i64 co.sp, .int .i64 co.op, .string (ba co.lt), .int .i64 co.a, .int .i64 co.b, .string (ba co.tx), .slice A n c1])) rfl (by kernel_rfl) (by kernel_rfl) (by kernel_rfl) (fun _ _ _ h => h) (yieldsIf_load_mid (by kernel_rfl) 34 (.tmp 5) rfl w.heap.size 0 (by simp [Act.eval]) [.int .i64 co.cl, .int .i64 co.sp, .int .i64 co.op, .string (ba co.lt), .int .i64 co.a, .int .i64 co.b, .string (ba co.tx), .slice A n c1] _ (fun W hW => range_through (Blk.front (post := []) K59.out) hW) Try.underlying34 rfl (by kernel_rfl)) (by assumption) ?_
      change wpAnyH _ _ _ _ _ _ _ (Act.put _ (some (65 : Nat)) (.agg #[.int .i64 co.cl, .int .i64 co.sp, .int .i64 co.op, .string (ba co.lt), .int .i64 co.a, .int .i64 co.b, .string (ba co.tx), .slice A n c1])) _
      simp only [Act.put, List.setIfInBounds_toArray, List.set_cons_zero, List.set_cons_succ]
      refine wpAnyH_take (i := 7) (v := (.agg #[.int .i64 co.cl, .int .i64 co.sp, .int .i64 co.op, .string (ba co.lt), .int .i64 co.a, .int .i64 co.b, .string (ba co.tx), .slice A5 n c5])) rfl (by kernel_rfl) (by kernel_rfl) (by kernel_rfl) (fun _ _ _ h => h) (yieldsIf_load_mid (by kernel_rfl) 34 (.tmp 13) rfl g7 0 (by simp [Act.eval]) [.int .i64 co.cl, .int .i64 co.sp, .int .i64 co.op, .string (ba co.lt), .int .i64 co.a, .int .i64 co.b, .string (ba co.tx), .slice A5 n c5] _ (fun W hW => range_through (Blk.front (post := []) H139.out) hW) Try.underlying34 rfl (by kernel_rfl)) (by assumption) ?_
      change wpAnyH _ _ _ _ _ _ _ (Act.put _ (some (66 : Nat)) (.agg #[.int .i64 co.cl, .int .i64 co.sp, .int .i64 co.op, .string (ba co.lt), .int .i64 co.a, .int .i64 co.b, .string (ba co.tx), .slice A5 n c5])) _
      simp only [Act.put, List.setIfInBounds_toArray, List.set_cons_zero, List.set_cons_succ]
      refine wpAnyH_ready (rs := [8]) (by kernel_rfl) (by simp) ?_
      refine AllReadyH.cons rfl (fun K hK => ?_) AllReadyH.nil
      go_simp
      refine (HSm.out es A n c1 A5 n c5 _ ((HE.out.through HX9.out).through hHeld) (HE59.out.through hHeld) HLe.out).mono ?_
      rintro e we ⟨rfl, hbe⟩; have HKe := Lib.hid (below_step hHeld hbe); clear hbe
      go_wp2_with fail
      refine hK.out _ _ HKe.out (fun hHeld1 => ?_)
      clear hHeld hK K
      have hHeld := hHeld1
      clear hHeld1
      refine wpAnyH_take (i := 9) (v := (.bool true)) rfl (by kernel_rfl) (by kernel_rfl) (by kernel_rfl) (fun _ _ _ h => h) (Or.inl ⟨by kernel_rfl, fun w hSw => ?_⟩) (by assumption) ?_
      · (try dsimp only at hSw); go_simp <;> (try rfl)
      change wpAnyH _ _ _ _ _ _ _ (Act.put _ (some (68 : Nat)) (.bool true)) _
      simp only [Act.put, List.setIfInBounds_toArray, List.set_cons_zero, List.set_cons_succ]
      refine wpAnyH_take (i := 10) (v := (.bool true)) rfl (by kernel_rfl) (by kernel_rfl) (by kernel_rfl) (fun _ _ _ h => h) (Or.inl ⟨by kernel_rfl, fun w hSw => ?_⟩) (by assumption) ?_
      · (try dsimp only at hSw); go_simp <;> (try rfl)
      change wpAnyH _ _ _ _ _ _ _ (Act.put _ (some (69 : Nat)) (.bool true)) _
      simp only [Act.put, List.setIfInBounds_toArray, List.set_cons_zero, List.set_cons_succ]
      refine wpAnyH_take (i := 11) (v := (.agg #[.int .i64 fo, .int .i64 fa, .slice Af nf cf])) rfl (by kernel_rfl) (by kernel_rfl) (by kernel_rfl) (fun _ _ _ h => h) (yieldsIf_load_mid (by kernel_rfl) 57 (.tmp 7) rfl (w.heap.size + 2) 0 (by simp [Act.eval]) [.int .i64 fo, .int .i64 fa, .slice Af nf cf] _ (fun W hW => range_through (Blk.front (post := []) K79.out) hW) Try.underlying57 rfl (by kernel_rfl)) (by assumption) ?_
      change wpAnyH _ _ _ _ _ _ _ (Act.put _ (some (70 : Nat)) (.agg #[.int .i64 fo, .int .i64 fa, .slice Af nf cf])) _
      simp only [Act.put, List.setIfInBounds_toArray, List.set_cons_zero, List.set_cons_succ]
      refine wpAnyH_take (i := 12) (v := (.int .u32 (s : Int))) rfl (by kernel_rfl) (by kernel_rfl) (by kernel_rfl) (fun _ _ _ h => h) (Or.inl ⟨by kernel_rfl, fun w hSw => ?_⟩) (by assumption) ?_
      · (try dsimp only at hSw); go_simp <;> (try rfl)
      change wpAnyH _ _ _ _ _ _ _ (Act.put _ (some (71 : Nat)) (.int .u32 (s : Int))) _
      simp only [Act.put, List.setIfInBounds_toArray, List.set_cons_zero, List.set_cons_succ]
      refine wpAnyH_take (i := 13) (v := (.int .i64 y)) rfl (by kernel_rfl) (by kernel_rfl) (by kernel_rfl) (fun _ _ _ h => h) (Or.inl ⟨by kernel_rfl, fun w hSw => ?_⟩) (by assumption) ?_
      · (try dsimp only at hSw); go_simp <;> (try rfl)
      change wpAnyH _ _ _ _ _ _ _ (Act.put _ (some (72 : Nat)) (.int .i64 y)) _
      simp only [Act.put, List.setIfInBounds_toArray, List.set_cons_zero, List.set_cons_succ]
      refine wpAnyH_take (i := 15) (v := (.bool false)) rfl (by kernel_rfl) (by kernel_rfl) (by kernel_rfl) (fun _ _ _ h => h) (Or.inl ⟨by kernel_rfl, fun w hSw => ?_⟩) (by assumption) ?_
      · (try dsimp only at hSw); go_simp <;> (try rfl)
      change wpAnyH _ _ _ _ _ _ _ (Act.put _ (some (74 : Nat)) (.bool false)) _
      simp only [Act.put, List.setIfInBounds_toArray, List.set_cons_zero, List.set_cons_succ]
      refine wpAnyH_ready (rs := [14]) (by kernel_rfl) (by simp) ?_
      refine AllReadyH.cons rfl (fun K hK => ?_) AllReadyH.nil
      go_simp
      refine (HEn.out _ ((HF.out.through HX9.out).through hHeld)).mono ?_
      rintro e wf ⟨rfl, hbf⟩; have HKf := Lib.hid (below_step hHeld hbf); clear hbf
      go_wp2_with fail
      refine hK.out _ _ HKf.out (fun hHeld1 => ?_)
      clear hHeld hK K
      have hHeld := hHeld1
      clear hHeld1
      refine wpAnyH_take (i := 16) (v := (.bool true)) rfl (by kernel_rfl) (by kernel_rfl) (by kernel_rfl) (fun _ _ _ h => h) (Or.inl ⟨by kernel_rfl, fun w hSw => ?_⟩) (by assumption) ?_
      · (try dsimp only at hSw); go_simp <;> (try rfl)
      change wpAnyH _ _ _ _ _ _ _ (Act.put _ (some (75 : Nat)) (.bool true)) _
      simp only [Act.put, List.setIfInBounds_toArray, List.set_cons_zero, List.set_cons_succ]
      refine wpAnyH_take (i := 17) (v := (.bool true)) rfl (by kernel_rfl) (by kernel_rfl) (by kernel_rfl) (fun _ _ _ h => h) (Or.inl ⟨by kernel_rfl, fun w hSw => ?_⟩) (by assumption) ?_
      · (try dsimp only at hSw); go_simp <;> (try rfl)
      change wpAnyH _ _ _ _ _ _ _ (Act.put _ (some (76 : Nat)) (.bool true)) _
      simp only [Act.put, List.setIfInBounds_toArray, List.set_cons_zero, List.set_cons_succ]
      refine wpAnyH_take (i := 18) (v := (.bool true)) rfl (by kernel_rfl) (by kernel_rfl) (by kernel_rfl) (fun _ _ _ h => h) (Or.inl ⟨by kernel_rfl, fun w hSw => ?_⟩) (by assumption) ?_
      · (try dsimp only at hSw); go_simp <;> (try rfl)
      change wpAnyH _ _ _ _ _ _ _ (Act.put _ (some (10 : Nat)) (.bool true)) _
      simp only [Act.put, List.setIfInBounds_toArray, List.set_cons_zero, List.set_cons_succ]
      refine wpAnyH_done (by kernel_rfl) ?_ _
      have HXz := Lib.hid (below_step HX9.out hHeld)
      clear hHeld
      go_wp2
      go_ret
      exact ⟨rfl, HXz.out⟩

end Go.Proofs.Ytfonkdcpghbaoaa
