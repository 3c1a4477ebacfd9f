/-
  The program's ParseVote and ParseReply.
-/
import Derived.Test.YtpngcdafamkhcaaVpC
import Derived.Deep.CutRange
namespace Go.Proofs.Ytpngcdafamkhcaa
open Go.RowKit

theorem step_build2_w {P : Program} {ops : Array Oper} {o : Oper} {a : Act} {w : World} {K : Act → World → Prop} {Q : Exit → Act → World → Prop} {F : Prop} (hgd : o.guard = none) (s e : TypeId) (x0 x1 : Operand) (ho : o.op = .buildSlice s 2 #[(0, x0), (1, x1)])
    (p0 p1 : Value) (h0 : a.eval x0 = p0) (h1 : a.eval x1 = p1) (hrun : (Instr.buildSlice s 2 #[(0, p0), (1, p1)]).run P w = .ok (.slice (some ⟨w.heap.size, 0, none⟩) 2 2) (w.alloc (.cells #[p0, p1] e)))
    (h : ∀ g w', Blk w' g e [p0, p1] → Below w.heap.size w w' → K (a.put o.dst (.slice (some ⟨g, 0, none⟩) 2 2)) w') : if Region.wanted o (yielded ops a.tmps) = true then Oper.wp P o a w K Q else F := by
  have hw : Region.wanted o (yielded ops a.tmps) = true := by simp [Region.wanted, hgd]
  rw [if_pos hw]
  unfold Oper.wp execOp
  simp only [ho, Sem.run_bind, List.map_toArray, List.map_cons, List.map_nil, h0, h1, hrun, Result.andThen_ok]
  exact h _ _ (Blk.fresh rfl rfl) ((Below.refl _ w).alloc (Nat.le_refl _) _)
theorem step_build3_w {P : Program} {ops : Array Oper} {o : Oper} {a : Act} {w : World} {K : Act → World → Prop} {Q : Exit → Act → World → Prop} {F : Prop} (hgd : o.guard = none) (s e : TypeId) (x0 x1 x2 : Operand) (ho : o.op = .buildSlice s 3 #[(0, x0), (1, x1), (2, x2)])
    (p0 p1 p2 : Value) (h0 : a.eval x0 = p0) (h1 : a.eval x1 = p1) (h2 : a.eval x2 = p2) (hrun : (Instr.buildSlice s 3 #[(0, p0), (1, p1), (2, p2)]).run P w = .ok (.slice (some ⟨w.heap.size, 0, none⟩) 3 3) (w.alloc (.cells #[p0, p1, p2] e)))
    (h : ∀ g w', Blk w' g e [p0, p1, p2] → Below w.heap.size w w' → K (a.put o.dst (.slice (some ⟨g, 0, none⟩) 3 3)) w') : if Region.wanted o (yielded ops a.tmps) = true then Oper.wp P o a w K Q else F := by
  have hw : Region.wanted o (yielded ops a.tmps) = true := by simp [Region.wanted, hgd]
  rw [if_pos hw]
  unfold Oper.wp execOp
  simp only [ho, Sem.run_bind, List.map_toArray, List.map_cons, List.map_nil, h0, h1, h2, hrun, Result.andThen_ok]
  exact h _ _ (Blk.fresh rfl rfl) ((Below.refl _ w).alloc (Nat.le_refl _) _)
theorem step_build4_w {P : Program} {ops : Array Oper} {o : Oper} {a : Act} {w : World} {K : Act → World → Prop} {Q : Exit → Act → World → Prop} {F : Prop} (hgd : o.guard = none) (s e : TypeId) (x0 x1 x2 x3 : Operand) (ho : o.op = .buildSlice s 4 #[(0, x0), (1, x1), (2, x2), (3, x3)])
    (p0 p1 p2 p3 : Value) (h0 : a.eval x0 = p0) (h1 : a.eval x1 = p1) (h2 : a.eval x2 = p2) (h3 : a.eval x3 = p3) (hrun : (Instr.buildSlice s 4 #[(0, p0), (1, p1), (2, p2), (3, p3)]).run P w = .ok (.slice (some ⟨w.heap.size, 0, none⟩) 4 4) (w.alloc (.cells #[p0, p1, p2, p3] e)))
    (h : ∀ g w', Blk w' g e [p0, p1, p2, p3] → Below w.heap.size w w' → K (a.put o.dst (.slice (some ⟨g, 0, none⟩) 4 4)) w') : if Region.wanted o (yielded ops a.tmps) = true then Oper.wp P o a w K Q else F := by
  have hw : Region.wanted o (yielded ops a.tmps) = true := by simp [Region.wanted, hgd]
  rw [if_pos hw]
  unfold Oper.wp execOp
  simp only [ho, Sem.run_bind, List.map_toArray, List.map_cons, List.map_nil, h0, h1, h2, h3, hrun, Result.andThen_ok]
  exact h _ _ (Blk.fresh rfl rfl) ((Below.refl _ w).alloc (Nat.le_refl _) _)
theorem Try.run_bbo2 (p0 p1 : Bool) (w : World) : (Instr.buildSlice 89 2 #[(0, .bool p0), (1, .bool p1)]).run Try.prog w = .ok (.slice (some ⟨w.heap.size, 0, none⟩) 2 2) (w.alloc (.cells #[.bool p0, .bool p1] 4)) := by kernel_rfl
theorem Try.run_bbo4 (p0 p1 p2 p3 : Bool) (w : World) : (Instr.buildSlice 89 4 #[(0, .bool p0), (1, .bool p1), (2, .bool p2), (3, .bool p3)]).run Try.prog w = .ok (.slice (some ⟨w.heap.size, 0, none⟩) 4 4) (w.alloc (.cells #[.bool p0, .bool p1, .bool p2, .bool p3] 4)) := by kernel_rfl
theorem Try.run_ber2 (p0 p1 : Int) (w : World) : (Instr.buildSlice 88 2 #[(0, .int .i64 p0), (1, .int .i64 p1)]).run Try.prog w = .ok (.slice (some ⟨w.heap.size, 0, none⟩) 2 2) (w.alloc (.cells #[.int .i64 p0, .int .i64 p1] 33)) := by kernel_rfl
theorem Try.run_ber3 (p0 p1 p2 : Int) (w : World) : (Instr.buildSlice 88 3 #[(0, .int .i64 p0), (1, .int .i64 p1), (2, .int .i64 p2)]).run Try.prog w = .ok (.slice (some ⟨w.heap.size, 0, none⟩) 3 3) (w.alloc (.cells #[.int .i64 p0, .int .i64 p1, .int .i64 p2] 33)) := by kernel_rfl
theorem Blk.whole_ {w : World} {g : Nat} {t : TypeId} {cs : List Value} (h : Blk w g t cs) : w.rangeAt g 0 cs := Blk.range (pre := []) (post := []) (by simpa using h)

set_option maxHeartbeats 16000000 in
set_option maxRecDepth 100000 in
theorem vparse_vo (xs : List UInt8) (A : Option Addr) (n c : Nat) (w : World) (h : By w (fun _ => True) A n xs) (hn : n ≤ 1000000) :
    Calls Try.prog 14 #[.slice A n c] w (Told w (Vo.cells (parseVo xs).1) (parseVo xs).2) := by
  have HZ0 : Hid (Blk (w.alloc (.cells #[.int .i64 0, .int .i64 0, .int .u8 0, .int .u8 0, .int .u8 0, .int .u8 0, .int .u8 0, .int .u8 0, .int .u8 0, .int .u8 0, .int .u8 0, .int .u8 0, .int .u8 0, .int .u8 0, .int .u8 0, .int .u8 0, .int .u8 0, .int .u8 0, .int .u8 0, .int .u8 0, .int .u8 0, .int .u8 0, .int .u8 0, .int .u8 0, .int .u8 0, .int .u8 0, .int .u8 0, .int .u8 0, .int .u8 0, .int .u8 0, .int .u8 0, .int .u8 0, .int .u8 0, .int .u8 0] 43)) w.heap.size 43 (Vo.cells Vo.no)) := Lib.hid (Blk.fresh rfl rfl)
  have HX0 : Hid (Below w.heap.size w (w.alloc (.cells #[.int .i64 0, .int .i64 0, .int .u8 0, .int .u8 0, .int .u8 0, .int .u8 0, .int .u8 0, .int .u8 0, .int .u8 0, .int .u8 0, .int .u8 0, .int .u8 0, .int .u8 0, .int .u8 0, .int .u8 0, .int .u8 0, .int .u8 0, .int .u8 0, .int .u8 0, .int .u8 0, .int .u8 0, .int .u8 0, .int .u8 0, .int .u8 0, .int .u8 0, .int .u8 0, .int .u8 0, .int .u8 0, .int .u8 0, .int .u8 0, .int .u8 0, .int .u8 0, .int .u8 0, .int .u8 0] 43))) := Lib.hid (below1_ w _)
  obtain ⟨P, hPP⟩ : ∃ P, parseVo xs = P := ⟨_, rfl⟩
  rw [hPP]
  have HRd : Hid (Calls Try.prog 21 #[.slice A n c] (w.alloc (.cells #[.int .i64 0, .int .i64 0, .int .u8 0, .int .u8 0, .int .u8 0, .int .u8 0, .int .u8 0, .int .u8 0, .int .u8 0, .int .u8 0, .int .u8 0, .int .u8 0, .int .u8 0, .int .u8 0, .int .u8 0, .int .u8 0, .int .u8 0, .int .u8 0, .int .u8 0, .int .u8 0, .int .u8 0, .int .u8 0, .int .u8 0, .int .u8 0, .int .u8 0, .int .u8 0, .int .u8 0, .int .u8 0, .int .u8 0, .int .u8 0, .int .u8 0, .int .u8 0, .int .u8 0, .int .u8 0] 43)) fun e w' => ∃ g, e = .returned (.pointer (some ⟨g, 0, none⟩)) ∧ Rs (fun b => (w.alloc (.cells #[.int .i64 0, .int .i64 0, .int .u8 0, .int .u8 0, .int .u8 0, .int .u8 0, .int .u8 0, .int .u8 0, .int .u8 0, .int .u8 0, .int .u8 0, .int .u8 0, .int .u8 0, .int .u8 0, .int .u8 0, .int .u8 0, .int .u8 0, .int .u8 0, .int .u8 0, .int .u8 0, .int .u8 0, .int .u8 0, .int .u8 0, .int .u8 0, .int .u8 0, .int .u8 0, .int .u8 0, .int .u8 0, .int .u8 0, .int .u8 0, .int .u8 0, .int .u8 0, .int .u8 0, .int .u8 0] 43)).heap.size ≤ b) w' g tR (some xs) ∧ Below (w.alloc (.cells #[.int .i64 0, .int .i64 0, .int .u8 0, .int .u8 0, .int .u8 0, .int .u8 0, .int .u8 0, .int .u8 0, .int .u8 0, .int .u8 0, .int .u8 0, .int .u8 0, .int .u8 0, .int .u8 0, .int .u8 0, .int .u8 0, .int .u8 0, .int .u8 0, .int .u8 0, .int .u8 0, .int .u8 0, .int .u8 0, .int .u8 0, .int .u8 0, .int .u8 0, .int .u8 0, .int .u8 0, .int .u8 0, .int .u8 0, .int .u8 0, .int .u8 0, .int .u8 0, .int .u8 0, .int .u8 0] 43)).heap.size (w.alloc (.cells #[.int .i64 0, .int .i64 0, .int .u8 0, .int .u8 0, .int .u8 0, .int .u8 0, .int .u8 0, .int .u8 0, .int .u8 0, .int .u8 0, .int .u8 0, .int .u8 0, .int .u8 0, .int .u8 0, .int .u8 0, .int .u8 0, .int .u8 0, .int .u8 0, .int .u8 0, .int .u8 0, .int .u8 0, .int .u8 0, .int .u8 0, .int .u8 0, .int .u8 0, .int .u8 0, .int .u8 0, .int .u8 0, .int .u8 0, .int .u8 0, .int .u8 0, .int .u8 0, .int .u8 0, .int .u8 0] 43)) w' ∧ (w.alloc (.cells #[.int .i64 0, .int .i64 0, .int .u8 0, .int .u8 0, .int .u8 0, .int .u8 0, .int .u8 0, .int .u8 0, .int .u8 0, .int .u8 0, .int .u8 0, .int .u8 0, .int .u8 0, .int .u8 0, .int .u8 0, .int .u8 0, .int .u8 0, .int .u8 0, .int .u8 0, .int .u8 0, .int .u8 0, .int .u8 0, .int .u8 0, .int .u8 0, .int .u8 0, .int .u8 0, .int .u8 0, .int .u8 0, .int .u8 0, .int .u8 0, .int .u8 0, .int .u8 0, .int .u8 0, .int .u8 0] 43)).heap.size ≤ g) := Lib.hid (read_rs (h.through HX0.out) (by omega))
  have hPf : P = finVo (rdVo (some xs)) := by rw [← hPP]; rfl
  unfold rdVo at hPf
  have Hk1 : Hid (∀ (Q : Nat → Prop) (g : Nat) (W : World), Rs Q W g tR (some xs) → Calls Try.prog 22 #[.pointer (some ⟨g, 0, none⟩)] W fun e w' => e = .returned (.int .i64 (sx 8 (nval 8 (some xs)))) ∧ Rs Q w' g tR (nnext 8 (some xs)) ∧ W.grownBy w' (some g)) := Lib.hid (fun Q g W h9 => vnum_any h9)
  have Hk2 : Hid (∀ (Q : Nat → Prop) (g : Nat) (W : World), Rs Q W g tR (nnext 8 (some xs)) → Calls Try.prog 22 #[.pointer (some ⟨g, 0, none⟩)] W fun e w' => e = .returned (.int .i64 (sx 8 (nval 8 (nnext 8 (some xs))))) ∧ Rs Q w' g tR (nnext 8 (nnext 8 (some xs))) ∧ W.grownBy w' (some g)) := Lib.hid (fun Q g W h9 => vnum_any h9)
  have Hk3 : Hid (∀ (Q : Nat → Prop) (g : Nat) (W : World), Rs Q W g tR (nnext 8 (nnext 8 (some xs))) → (∀ b, Q b → b < W.heap.size) → Calls Try.prog 38 #[.pointer (some ⟨g, 0, none⟩)] W fun e w' => e = .returned (.agg (vs (tagOf (tval 32 (nnext 8 (nnext 8 (some xs)))))).toArray) ∧ Rs Q w' g tR (nnext 32 (nnext 8 (nnext 8 (some xs)))) ∧ W.grownBy w' (some g)) := Lib.hid (fun Q g W h9 h8 => vdig_any h9 h8)
  have hdl : (tagOf (tval 32 (nnext 8 (nnext 8 (some xs))))).length = 32 := tagOf_len _
  generalize sx 8 (nval 8 (some xs)) = v1 at hPf Hk1
  generalize nnext 8 (some xs) = s1 at hPf Hk1 Hk2 Hk3 hdl
  generalize sx 8 (nval 8 s1) = v2 at hPf Hk2
  generalize nnext 8 s1 = s2 at hPf Hk2 Hk3 hdl
  generalize tagOf (tval 32 s2) = v3 at hPf Hk3 hdl
  generalize nnext 32 s2 = s3 at hPf Hk3
  obtain ⟨X, hX⟩ : ∃ X, (⟨v1, v2, v3⟩ : Vo) = X := ⟨_, rfl⟩
  have hvl : (vs v3).length = 32 := by rw [vs_length]; exact hdl
  have hfo : List.foldl (fun (cs : Array Value) (x : Value × Nat) => cs.setIfInBounds (2 + x.snd) x.fst) #[.int .i64 v1, .int .i64 v2, .int .u8 0, .int .u8 0, .int .u8 0, .int .u8 0, .int .u8 0, .int .u8 0, .int .u8 0, .int .u8 0, .int .u8 0, .int .u8 0, .int .u8 0, .int .u8 0, .int .u8 0, .int .u8 0, .int .u8 0, .int .u8 0, .int .u8 0, .int .u8 0, .int .u8 0, .int .u8 0, .int .u8 0, .int .u8 0, .int .u8 0, .int .u8 0, .int .u8 0, .int .u8 0, .int .u8 0, .int .u8 0, .int .u8 0, .int .u8 0, .int .u8 0, .int .u8 0] (vs v3).zipIdx = (Vo.cells X).toArray := fold_vo v1 v2 v3 hdl X hX
  have HCL : Hid ((Vo.cells X).length = 34) := Lib.hid (by rw [← hX]; exact Vo.cells_len _ hdl)
  obtain ⟨q0, hq0⟩ : ∃ b, isW v1 = b := ⟨_, rfl⟩
  have HQ0 : Hid (∀ W : World, Calls Try.prog 28 #[.int .i64 X.vw] W fun e w' => e = .returned (.bool q0) ∧ w' = W) := Lib.hid (fun W => hq0 ▸ by rw [← hX]; exact vview_any v1 W)
  obtain ⟨q1, hq1⟩ : ∃ b, isW v2 = b := ⟨_, rfl⟩
  have HQ1 : Hid (∀ W : World, Calls Try.prog 29 #[.int .i64 X.sq] W fun e w' => e = .returned (.bool q1) ∧ w' = W) := Lib.hid (fun W => hq1 ▸ by rw [← hX]; exact vseq_any v2 W)
  obtain ⟨fo, hfo_⟩ : ∃ f, formE s3 = f := ⟨_, rfl⟩
  obtain ⟨rg, hrg⟩ : ∃ r, vrngE [q0, q1] = r := ⟨_, rfl⟩
  have HFo : Hid (∀ (Q : Nat → Prop) (g : Nat) (W : World), Rs Q W g tR s3 → Calls Try.prog 26 #[.pointer (some ⟨g, 0, none⟩)] W fun e w' => e = .returned (.int .i64 fo) ∧ w' = W) := Lib.hid (fun Q g W h9 => hfo_ ▸ vform_any h9)
  have HRg : Hid (∀ (W : World) (g : Nat), Blk W g 4 [.bool q0, .bool q1] → Calls Try.prog 27 #[.slice (some ⟨g, 0, none⟩) 2 2] W fun e w' => e = .returned (.int .i64 rg) ∧ w' = W) := Lib.hid (fun W g h9 => hrg ▸ vranges_any [q0, q1] g 2 W rfl (by omega) h9)
  have hU : ∀ W : World, ∀ g, Blk W g 33 [.int .i64 fo, .int .i64 rg] → Calls Try.prog 39 #[.agg (Vo.cells X : List Value).toArray, .slice (some ⟨g, 0, none⟩) 2 2] W (Told W (Vo.cells P.1) P.2) := fun W g h9 => by
    have h8 := vunless_vo (Vo.cells X) HCL.out (Vo.one _) [fo, rg] g 2 W rfl (by omega) h9
    have e1 : (if firstE [fo, rg] = 0 then (Vo.cells X : List Value) else [.int .i64 0, .int .i64 0, .int .u8 0, .int .u8 0, .int .u8 0, .int .u8 0, .int .u8 0, .int .u8 0, .int .u8 0, .int .u8 0, .int .u8 0, .int .u8 0, .int .u8 0, .int .u8 0, .int .u8 0, .int .u8 0, .int .u8 0, .int .u8 0, .int .u8 0, .int .u8 0, .int .u8 0, .int .u8 0, .int .u8 0, .int .u8 0, .int .u8 0, .int .u8 0, .int .u8 0, .int .u8 0, .int .u8 0, .int .u8 0, .int .u8 0, .int .u8 0, .int .u8 0, .int .u8 0]) = Vo.cells P.1 ∧ firstE [fo, rg] = P.2 := by
      rw [hPf, ← hfo_, ← hrg, ← hX]
      unfold finVo formE vrngE
      simp only [hq0, hq1]
      by_cases hst : s3 = some []
      · rw [if_pos hst, if_neg (show ¬ (s3 ≠ some []) from fun h => h hst)]
        cases q0 <;> cases q1 <;> exact ⟨rfl, rfl⟩
      · rw [if_neg hst, if_pos (show s3 ≠ some [] from hst)]
        exact ⟨rfl, rfl⟩
    rw [e1.1, e1.2] at h8
    exact h8
  have HU := Lib.hid hU
  have HPl : Hid ((Vo.cells P.1).length = 34) := Lib.hid (by
    rw [hPf]
    unfold finVo
    split
    · rfl
    · split
      · exact Vo.cells_len _ hdl
      · rfl)
  clear h hn hPP hPf hU hfo_ hrg hq0 hq1 hX hdl
  go_enter Try.func14, Try.ntmps14
  go_wp2_with (first
    | (go_at_call 21; (with_reducible refine HRd.out.mono ?_); rintro e w1 ⟨g, rfl, hr1, hb1, hg1⟩; have HR1 := Lib.hid hr1.lt_; have HGq : Hid (w.heap.size + 1 ≤ g) := Lib.hid (by simpa using hg1); have HGn : Hid (some w.heap.size ≠ some g) := Lib.hid (fun e => by have := Option.some.inj e; have := HGq.out; omega); have HX1 : Hid (Below w.heap.size w w1) := Lib.hid (below_step HX0.out hb1); have HZ1 := Lib.hid (HZ0.out.through hb1); have HS1 : Hid (w1.heap.size ≤ w1.heap.size) := Lib.hid (Nat.le_refl _); clear hr1 hb1 hg1)
    | (go_at_call 22; (with_reducible refine (Hk1.out _ _ _ HR1.out).mono ?_); rintro e w2 ⟨rfl, hr2, hg2⟩; have HR2 := Lib.hid hr2; have HX2 : Hid (Below w.heap.size w w2) := Lib.hid (HX1.out.grown hg2 HX1.out.size (fun k hk => by have := Option.some.inj hk; have := HGq.out; omega)); have HZ2 := Lib.hid (HZ1.out.grown hg2 HGn.out); have HS2 : Hid (w1.heap.size ≤ w2.heap.size) := Lib.hid (Nat.le_trans HS1.out hg2.size); clear hr2 hg2)
    | (go_at_call 22; (with_reducible refine (Hk2.out _ _ _ HR2.out).mono ?_); rintro e w3 ⟨rfl, hr3, hg3⟩; have HR3 := Lib.hid hr3; have HX3 : Hid (Below w.heap.size w w3) := Lib.hid (HX2.out.grown hg3 HX2.out.size (fun k hk => by have := Option.some.inj hk; have := HGq.out; omega)); have HZ3 := Lib.hid (HZ2.out.grown hg3 HGn.out); have HS3 : Hid (w1.heap.size ≤ w3.heap.size) := Lib.hid (Nat.le_trans HS2.out hg3.size); clear hr3 hg3)
    | (go_at_call 38; (with_reducible refine (Hk3.out _ _ _ HR3.out (fun b hb => Nat.lt_of_lt_of_le hb HS3.out)).mono ?_); rintro e w4 ⟨rfl, hr4, hg4⟩; have HR4 := Lib.hid hr4; have HX4 : Hid (Below w.heap.size w w4) := Lib.hid (HX3.out.grown hg4 HX3.out.size (fun k hk => by have := Option.some.inj hk; have := HGq.out; omega)); have HZ4 := Lib.hid (HZ3.out.grown hg4 HGn.out); have HS4 : Hid (w1.heap.size ≤ w4.heap.size) := Lib.hid (Nat.le_trans HS3.out hg4.size); clear hr4 hg4)
    | (refine wpList_store_blk rfl 43 (.tmp 5) (.tmp 14) rfl w4.heap.size (Vo.cells X) rfl rfl 43 (Vo.cells Vo.no) (Blk.fresh rfl rfl) (by rw [HCL.out]; kernel_rfl) (by rw [HCL.out]; rfl) (Vo.one _) ?_; intro wb hbb hgb; have HBb := Lib.hid hbb; have HXb : Hid (Below w.heap.size w wb) := Lib.hid (below_step HX4.out (below_new hgb)); have HRb := Lib.hid (HR4.out.below (below_new hgb)); have HZb := Lib.hid (HZ4.out.through (below_new hgb)); clear hbb hgb))
  try dsimp only [Act.put]
  obtain ⟨gv, hgv⟩ : ∃ gv, w4.heap.size = gv := ⟨_, rfl⟩
  have HNv : Hid (some gv ≠ some w.heap.size) := Lib.hid (fun e => by have := Option.some.inj e; have := HGq.out; have := HR4.out.lt; omega)
  rw [hgv] at HBb ⊢
  clear hgv
  refine wp_region_held_drew (S := fun W => wb.grownBy W (some w.heap.size)) (by kernel_rfl) (grown_drew (only_refl _ _)) (fun hHeld => ?_)
  change wpAnyH _ _ _ _ _ _ #[false, false, false, false, false, false, false, false, false, false, false, false, false, false, false, false, false] _ _
  refine wpAnyH_take (i := 0) (v := (.agg (Vo.cells X : List Value).toArray)) rfl (by kernel_rfl) (by kernel_rfl) (by kernel_rfl) (fun _ _ _ h => h) (yieldsIf_load_mid (by kernel_rfl) 43 (.tmp 5) rfl gv 0 (by simp [Act.eval]) (Vo.cells X) _ (fun W hW => (HBb.out.grown hW HNv.out).whole_) Try.underlying43 rfl (by rw [HCL.out]; kernel_rfl)) (by assumption) ?_
  change wpAnyH _ _ _ _ _ _ _ (Act.put _ (some (15 : Nat)) (.agg (Vo.cells X : List Value).toArray)) _
  simp only [Act.put, List.setIfInBounds_toArray, List.set_cons_zero, List.set_cons_succ]
  refine wpAnyH_take (i := 1) (v := (.pointer (some ⟨g, 0, none⟩))) rfl (by kernel_rfl) (by kernel_rfl) (by kernel_rfl) (fun _ _ _ h => h) (Or.inl ⟨by kernel_rfl, fun w hSw => ?_⟩) (by assumption) ?_
  · (try dsimp only at hSw); go_simp <;> (try rfl)
  change wpAnyH _ _ _ _ _ _ _ (Act.put _ (some (16 : Nat)) (.pointer (some ⟨g, 0, none⟩))) _
  simp only [Act.put, List.setIfInBounds_toArray, List.set_cons_zero, List.set_cons_succ]
  refine wpAnyH_take (i := 3) (v := (.pointer (some ⟨gv, 0, none⟩))) rfl (by kernel_rfl) (by kernel_rfl) (by kernel_rfl) (fun _ _ _ h => h) (Or.inl ⟨by kernel_rfl, fun w hSw => ?_⟩) (by assumption) ?_
  · (try dsimp only at hSw); go_simp <;> (try rfl)
  change wpAnyH _ _ _ _ _ _ _ (Act.put _ (some (18 : Nat)) (.pointer (some ⟨gv, 0, none⟩))) _
  simp only [Act.put, List.setIfInBounds_toArray, List.set_cons_zero, List.set_cons_succ]
  refine wpAnyH_take (i := 4) (v := (.int .i64 X.vw)) rfl (by kernel_rfl) (by kernel_rfl) (by kernel_rfl) (fun _ _ _ h => h) (yields_load_at (by kernel_rfl) 2 (.tmp 18) rfl (.pointer (some ⟨gv, 0, none⟩)) (by simp [Act.eval]) (.int .i64 X.vw) (fun W hW => load_one' (Try.agg_i64 W) ((HBb.out.grown hW HNv.out).cellAt (i := 0) rfl))) (by assumption) ?_
  change wpAnyH _ _ _ _ _ _ _ (Act.put _ (some (19 : Nat)) (.int .i64 X.vw)) _
  simp only [Act.put, List.setIfInBounds_toArray, List.set_cons_zero, List.set_cons_succ]
  refine wpAnyH_take (i := 6) (v := (.pointer (some ⟨gv, 1, none⟩))) rfl (by kernel_rfl) (by kernel_rfl) (by kernel_rfl) (fun _ _ _ h => h) (Or.inl ⟨by kernel_rfl, fun w hSw => ?_⟩) (by assumption) ?_
  · (try dsimp only at hSw); go_simp <;> (try rfl)
  change wpAnyH _ _ _ _ _ _ _ (Act.put _ (some (21 : Nat)) (.pointer (some ⟨gv, 1, none⟩))) _
  simp only [Act.put, List.setIfInBounds_toArray, List.set_cons_zero, List.set_cons_succ]
  refine wpAnyH_take (i := 7) (v := (.int .i64 X.sq)) rfl (by kernel_rfl) (by kernel_rfl) (by kernel_rfl) (fun _ _ _ h => h) (yields_load_at (by kernel_rfl) 2 (.tmp 21) rfl (.pointer (some ⟨gv, 1, none⟩)) (by simp [Act.eval]) (.int .i64 X.sq) (fun W hW => load_one' (Try.agg_i64 W) ((HBb.out.grown hW HNv.out).cellAt (i := 1) rfl))) (by assumption) ?_
  change wpAnyH _ _ _ _ _ _ _ (Act.put _ (some (22 : Nat)) (.int .i64 X.sq)) _
  simp only [Act.put, List.setIfInBounds_toArray, List.set_cons_zero, List.set_cons_succ]
  refine wpAnyH_ready (rs := [2]) (by kernel_rfl) (by simp) ?_
  refine AllReadyH.cons rfl (fun K hK => ?_) AllReadyH.nil
  go_simp
  refine (HFo.out _ _ _ HRb.out.drew).mono ?_
  rintro e wf ⟨rfl, rfl⟩
  go_wp2_with fail
  refine hK.out _ _ hHeld (fun hHeld1 => ?_)
  clear hHeld hK K
  have hHeld := hHeld1
  clear hHeld1
  refine wpAnyH_ready (rs := [5]) (by kernel_rfl) (by simp) ?_
  refine AllReadyH.cons rfl (fun K hK => ?_) AllReadyH.nil
  go_simp
  refine (HQ0.out _).mono ?_
  rintro e wq0 ⟨rfl, rfl⟩
  go_wp2_with fail
  refine hK.out _ _ hHeld (fun hHeld1 => ?_)
  clear hHeld hK K
  have hHeld := hHeld1
  clear hHeld1
  refine wpAnyH_ready (rs := [8]) (by kernel_rfl) (by simp) ?_
  refine AllReadyH.cons rfl (fun K hK => ?_) AllReadyH.nil
  go_simp
  refine (HQ1.out _).mono ?_
  rintro e wq1 ⟨rfl, rfl⟩
  go_wp2_with fail
  refine hK.out _ _ hHeld (fun hHeld1 => ?_)
  clear hHeld hK K
  have hHeld := hHeld1
  clear hHeld1
  refine wpAnyH_ready (rs := [9]) (by kernel_rfl) (by simp) ?_
  refine AllReadyH.cons (o := ⟨some 24, .buildSlice 89 2 #[(0, .tmp 20), (1, .tmp 23)], _, _, _, none⟩) rfl (fun K hK => ?_) AllReadyH.nil
  refine step_build2_w rfl 89 4 (.tmp 20) (.tmp 23) rfl (.bool q0) (.bool q1) (by simp [Act.eval]) (by simp [Act.eval]) (Try.run_bbo2 q0 q1 _) ?_; intro gx wx hbx hxx; have HBx := Lib.hid hbx; have HZx := Lib.hid (HZb.out.drew.through hxx); have HXx := Lib.hid (below_step HXb.out.drew hxx); have HGx := Lib.hid (only_trans hHeld (only_below hxx)); clear hbx hxx
  refine hK.out _ _ HGx.out (fun hHeld1 => ?_)
  clear hHeld hK K
  have hHeld := hHeld1
  clear hHeld1
  change wpAnyH _ _ _ _ _ _ _ (Act.put _ (some (24 : Nat)) (.slice (some ⟨gx, 0, none⟩) 2 2)) _
  simp only [Act.put, List.setIfInBounds_toArray, List.set_cons_zero, List.set_cons_succ]
  refine wpAnyH_ready (rs := [10]) (by kernel_rfl) (by simp) ?_
  refine AllReadyH.cons rfl (fun K hK => ?_) AllReadyH.nil
  go_simp
  refine (HRg.out _ _ HBx.out).mono ?_
  rintro e wr ⟨rfl, rfl⟩
  go_wp2_with fail
  refine hK.out _ _ hHeld (fun hHeld1 => ?_)
  clear hHeld hK K
  have hHeld := hHeld1
  clear hHeld1
  refine wpAnyH_ready (rs := [11]) (by kernel_rfl) (by simp) ?_
  refine AllReadyH.cons (o := ⟨some 26, .buildSlice 88 2 #[(0, .tmp 17), (1, .tmp 25)], _, _, _, none⟩) rfl (fun K hK => ?_) AllReadyH.nil
  refine step_build2_w rfl 88 33 (.tmp 17) (.tmp 25) rfl (.int .i64 fo) (.int .i64 rg) (by simp [Act.eval]) (by simp [Act.eval]) (Try.run_ber2 fo rg _) ?_; intro gy wy hby hxy; have HBy := Lib.hid hby; have HZy := Lib.hid (HZx.out.through hxy); have HXy := Lib.hid (below_step HXx.out hxy); have HGy := Lib.hid (only_trans hHeld (only_below hxy)); clear hby hxy
  refine hK.out _ _ HGy.out (fun hHeld1 => ?_)
  clear hHeld hK K
  have hHeld := hHeld1
  clear hHeld1
  change wpAnyH _ _ _ _ _ _ _ (Act.put _ (some (26 : Nat)) (.slice (some ⟨gy, 0, none⟩) 2 2)) _
  simp only [Act.put, List.setIfInBounds_toArray, List.set_cons_zero, List.set_cons_succ]
  refine wpAnyH_ready (rs := [12]) (by kernel_rfl) (by simp) ?_
  refine AllReadyH.cons rfl (fun K hK => ?_) AllReadyH.nil
  go_simp
  refine (HU.out _ _ HBy.out).mono ?_
  rintro e wu ⟨rfl, hbu⟩; have HZu := Lib.hid (HZy.out.through hbu); have HXu := Lib.hid (below_step HXy.out hbu); have HGu := Lib.hid (only_trans hHeld (only_below hbu)); clear hbu
  go_wp2_with fail
  refine hK.out _ _ HGu.out (fun hHeld1 => ?_)
  clear hHeld hK K
  have hHeld := hHeld1
  clear hHeld1
  refine wpAnyH_take (i := 13) (v := (.agg (Vo.cells P.1).toArray)) rfl (by kernel_rfl) (by kernel_rfl) (by kernel_rfl) (fun _ _ _ h => h) (Or.inl ⟨by kernel_rfl, fun w hSw => ?_⟩) (by assumption) ?_
  · (try dsimp only at hSw); go_simp <;> (try rfl)
  change wpAnyH _ _ _ _ _ _ _ (Act.put _ (some (28 : Nat)) (.agg (Vo.cells P.1).toArray)) _
  simp only [Act.put, List.setIfInBounds_toArray, List.set_cons_zero, List.set_cons_succ]
  refine wpAnyH_take (i := 14) (v := (.int .i64 P.2)) rfl (by kernel_rfl) (by kernel_rfl) (by kernel_rfl) (fun _ _ _ h => h) (Or.inl ⟨by kernel_rfl, fun w hSw => ?_⟩) (by assumption) ?_
  · (try dsimp only at hSw); go_simp <;> (try rfl)
  change wpAnyH _ _ _ _ _ _ _ (Act.put _ (some (29 : Nat)) (.int .i64 P.2)) _
  simp only [Act.put, List.setIfInBounds_toArray, List.set_cons_zero, List.set_cons_succ]
  refine wpAnyH_ready (rs := [15]) (by kernel_rfl) (by simp) ?_
  refine AllReadyH.cons (o := ⟨none, .store 43 (.tmp 2) (.tmp 28), _, _, _, none⟩) rfl (fun K hK => ?_) AllReadyH.nil
  refine step_store_blk rfl 43 (.tmp 2) (.tmp 28) rfl w.heap.size (Vo.cells P.1) (by simp [Act.eval]) (by simp [Act.eval]) 43 (Vo.cells Vo.no) HZu.out (by rw [HPl.out]; kernel_rfl) (by rw [HPl.out]; rfl) (Vo.one _) ?_; intro wz hbz hgz; have HBz := Lib.hid hbz; have HXz : Hid (Below w.heap.size w wz) := Lib.hid (HXu.out.grown hgz HXu.out.size (fun k hk => by have := Option.some.inj hk; omega)); have HGz := Lib.hid (only_trans hHeld hgz); clear hbz hgz
  refine hK.out _ _ HGz.out (fun hHeld1 => ?_)
  clear hHeld hK K
  have hHeld := hHeld1
  clear hHeld1
  change wpAnyH _ _ _ _ _ _ _ (Act.put _ none undef) _
  simp only [Act.put]
  refine wpAnyH_take (i := 16) (v := (.int .i64 P.2)) rfl (by kernel_rfl) (by kernel_rfl) (by kernel_rfl) (fun _ _ _ h => h) (Or.inl ⟨by kernel_rfl, fun w hSw => ?_⟩) (by assumption) ?_
  · (try dsimp only at hSw); go_simp <;> (try rfl)
  change wpAnyH _ _ _ _ _ _ _ (Act.put _ (some (3 : Nat)) (.int .i64 P.2)) _
  simp only [Act.put, List.setIfInBounds_toArray, List.set_cons_zero, List.set_cons_succ]
  refine wpAnyH_done (by kernel_rfl) ?_ _
  clear hHeld
  go_wp2_with fail
  (try simp only [Exit.inBlock, Exit.then])
  refine bodyPost_ret (results_cell_row_tmp1 rfl _ _ w.heap.size 43 _ (0, 0) _ rfl HBz.out Try.underlying43 rfl (by rw [List.size_toArray, HPl.out]; kernel_rfl)) rfl ?_
  exact ⟨rfl, HXz.out⟩

end Go.Proofs.Ytpngcdafamkhcaa
