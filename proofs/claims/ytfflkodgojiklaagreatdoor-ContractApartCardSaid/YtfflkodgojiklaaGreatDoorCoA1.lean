/-
  The law ContractApart.
-/
import Derived.Test.YtfflkodgojiklaaGreatDoorCoR
namespace Go.Proofs.YtfflkodgojiklaaGreatDoor
open Go.RowKit

theorem Tryz.build_ey2 (x0 x1 x2 x4 x5 x7 z0 z1 z2 z4 z5 z7 : Int) (x3 x6 z3 z6 : ByteArray) (W : World) : (Instr.buildSlice 33 2 #[(0, .agg #[.int .i64 x0, .int .i64 x1, .int .i64 x2, .string x3, .int .i64 x4, .int .i64 x5, .string x6, .int .u32 x7]), (1, .agg #[.int .i64 z0, .int .i64 z1, .int .i64 z2, .string z3, .int .i64 z4, .int .i64 z5, .string z6, .int .u32 z7])]).run Tryz.prog W = .ok (.slice (some ⟨W.heap.size, 0, none⟩) 2 2) (W.alloc (.cells ([.int .i64 x0, .int .i64 x1, .int .i64 x2, .string x3, .int .i64 x4, .int .i64 x5, .string x6, .int .u32 x7, .int .i64 z0, .int .i64 z1, .int .i64 z2, .string z3, .int .i64 z4, .int .i64 z5, .string z6, .int .u32 z7] : List Value).toArray 30)) := by kernel_rfl
theorem wpList_build_two {P : Program} {ops : Array Oper} {rest : List Oper} {o : Oper} {a : Act} {w : World} {Q : Exit → Act → World → Prop} (hgd : o.guard = none) (s e : TypeId) (x0 x1 : Operand) (ho : o.op = .buildSlice s 2 #[(0, x0), (1, x1)])
    (p0 p1 : Value) (cs : List Value) (h0 : a.eval x0 = p0) (h1 : a.eval x1 = p1)
    (hrun : (Instr.buildSlice s 2 #[(0, p0), (1, p1)]).run P w = .ok (.slice (some ⟨w.heap.size, 0, none⟩) 2 2) (w.alloc (.cells cs.toArray e)))
    (h : ∀ g w', Blk w' g e cs → Below w.heap.size w w' → wpList P ops Q rest (a.put o.dst (.slice (some ⟨g, 0, none⟩) 2 2)) w') : wpList P ops Q (o :: rest) a w :=
  wpList_plain hgd fun K hK => by
    unfold Oper.wp execOp
    simp only [ho, Sem.run_bind, List.map_toArray, List.map_cons, List.map_nil, h0, h1, hrun, Result.andThen_ok]
    exact hK _ _ (h _ _ (Blk.fresh rfl rfl) ((Below.refl _ w).alloc (Nat.le_refl _) _))
theorem EysIn.two {w : World} {g : Nat} {a b : Ey} (h : Blk w g 30 [.int .i64 a.co.cl, .int .i64 a.co.sp, .int .i64 a.co.op, .string (ba a.co.lt), .int .i64 a.co.a, .int .i64 a.co.b, .string (ba a.co.tx), .int .u32 (a.ms : Int), .int .i64 b.co.cl, .int .i64 b.co.sp, .int .i64 b.co.op, .string (ba b.co.lt), .int .i64 b.co.a, .int .i64 b.co.b, .string (ba b.co.tx), .int .u32 (b.ms : Int)]) (ha : a.ms < 4294967296) (hb : b.ms < 4294967296) : EysIn w (some ⟨g, 0, none⟩) 2 [a, b] := by
  refine ⟨⟨rfl, fun _ => ⟨g, 0, rfl, fun i cs hi => ?_⟩⟩, fun z hz => by simp at hz; rcases hz with rfl | rfl <;> assumption⟩
  match i, hi with
  | 0, hi =>
    injection hi with hi
    subst hi
    exact h.mid [] _ [.int .i64 b.co.cl, .int .i64 b.co.sp, .int .i64 b.co.op, .string (ba b.co.lt), .int .i64 b.co.a, .int .i64 b.co.b, .string (ba b.co.tx), .int .u32 (b.ms : Int)] 0 (by simp [Ey.cells]) rfl
  | 1, hi =>
    injection hi with hi
    subst hi
    exact h.mid [.int .i64 a.co.cl, .int .i64 a.co.sp, .int .i64 a.co.op, .string (ba a.co.lt), .int .i64 a.co.a, .int .i64 a.co.b, .string (ba a.co.tx), .int .u32 (a.ms : Int)] _ [] 8 (by simp [Ey.cells]) rfl
theorem few_two {w : World} {A B : Option Addr} {n m : Nat} {l : Lg} {a b : Ey} (h : LgIn w A n B m l) (hq : fewC l [a, b] = true) : n ≤ 64 ∧ m ≤ 64 ∧ a.co.lt.length ≤ 100 ∧ b.co.lt.length ≤ 100 ∧ a.co.tx.length ≤ 300 ∧ b.co.tx.length ≤ 300 ∧ ∀ x ∈ l.ls, x.nm.length ≤ 100 ∧ x.po.length ≤ 300 ∧ x.pa.length ≤ 300 := by
  have h1 := h.len.1
  have h2 := h.len.2
  simp [fewC, fewE, fewX] at hq
  obtain ⟨q1, ⟨q2, q3⟩, q4⟩ := hq
  refine ⟨by omega, by omega, q2.1, q3.1, q2.2, q3.2, fun x hx => ?_⟩
  have := q1 x hx
  exact ⟨this.1.1, this.1.2, this.2⟩

set_option maxHeartbeats 8000000 in
set_option maxRecDepth 100000 in
theorem apart_few (l : Lg) (a b : Ey) (A : Option Addr) (n c : Nat) (B : Option Addr) (m d : Nat) (w : World) (hI : LgIn w A n B m l) (hn : n ≤ maxLen) (hLe : Led w) (hEv : EV w) (ha : a.ms < 4294967296) (hb : b.ms < 4294967296) (hq : fewC l [a, b] = false) : Calls Tryz.prog 5 #[.agg #[.int .i64 l.sq, .int .i64 l.tt, .slice A n c, .slice B m d], .agg #[.int .i64 a.co.cl, .int .i64 a.co.sp, .int .i64 a.co.op, .string (ba a.co.lt), .int .i64 a.co.a, .int .i64 a.co.b, .string (ba a.co.tx), .int .u32 (a.ms : Int)], .agg #[.int .i64 b.co.cl, .int .i64 b.co.sp, .int .i64 b.co.op, .string (ba b.co.lt), .int .i64 b.co.a, .int .i64 b.co.b, .string (ba b.co.tx), .int .u32 (b.ms : Int)]] w fun e w' => e = .returned (.bool true) ∧ Below w.heap.size w w' := by
  have X0 : Hid (Below w.heap.size w (((w.alloc (.cells #[.int .i64 l.sq, .int .i64 l.tt, .slice A n c, .slice B m d] 25)).alloc (.cells #[.int .i64 a.co.cl, .int .i64 a.co.sp, .int .i64 a.co.op, .string (ba a.co.lt), .int .i64 a.co.a, .int .i64 a.co.b, .string (ba a.co.tx), .int .u32 (a.ms : Int)] 30)).alloc (.cells #[.int .i64 b.co.cl, .int .i64 b.co.sp, .int .i64 b.co.op, .string (ba b.co.lt), .int .i64 b.co.a, .int .i64 b.co.b, .string (ba b.co.tx), .int .u32 (b.ms : Int)] 30))) := Lib.hid (below3 w _ _ _)
  have L0 : Hid (Blk (((w.alloc (.cells #[.int .i64 l.sq, .int .i64 l.tt, .slice A n c, .slice B m d] 25)).alloc (.cells #[.int .i64 a.co.cl, .int .i64 a.co.sp, .int .i64 a.co.op, .string (ba a.co.lt), .int .i64 a.co.a, .int .i64 a.co.b, .string (ba a.co.tx), .int .u32 (a.ms : Int)] 30)).alloc (.cells #[.int .i64 b.co.cl, .int .i64 b.co.sp, .int .i64 b.co.op, .string (ba b.co.lt), .int .i64 b.co.a, .int .i64 b.co.b, .string (ba b.co.tx), .int .u32 (b.ms : Int)] 30)) w.heap.size 25 [.int .i64 l.sq, .int .i64 l.tt, .slice A n c, .slice B m d]) := Lib.hid (((Blk.fresh rfl rfl).alloc _).alloc _)
  have EA0 : Hid (Blk (((w.alloc (.cells #[.int .i64 l.sq, .int .i64 l.tt, .slice A n c, .slice B m d] 25)).alloc (.cells #[.int .i64 a.co.cl, .int .i64 a.co.sp, .int .i64 a.co.op, .string (ba a.co.lt), .int .i64 a.co.a, .int .i64 a.co.b, .string (ba a.co.tx), .int .u32 (a.ms : Int)] 30)).alloc (.cells #[.int .i64 b.co.cl, .int .i64 b.co.sp, .int .i64 b.co.op, .string (ba b.co.lt), .int .i64 b.co.a, .int .i64 b.co.b, .string (ba b.co.tx), .int .u32 (b.ms : Int)] 30)) (w.heap.size + 1) 30 [.int .i64 a.co.cl, .int .i64 a.co.sp, .int .i64 a.co.op, .string (ba a.co.lt), .int .i64 a.co.a, .int .i64 a.co.b, .string (ba a.co.tx), .int .u32 (a.ms : Int)]) := Lib.hid ((Blk.fresh (by simp) rfl).alloc _)
  have EB0 : Hid (Blk (((w.alloc (.cells #[.int .i64 l.sq, .int .i64 l.tt, .slice A n c, .slice B m d] 25)).alloc (.cells #[.int .i64 a.co.cl, .int .i64 a.co.sp, .int .i64 a.co.op, .string (ba a.co.lt), .int .i64 a.co.a, .int .i64 a.co.b, .string (ba a.co.tx), .int .u32 (a.ms : Int)] 30)).alloc (.cells #[.int .i64 b.co.cl, .int .i64 b.co.sp, .int .i64 b.co.op, .string (ba b.co.lt), .int .i64 b.co.a, .int .i64 b.co.b, .string (ba b.co.tx), .int .u32 (b.ms : Int)] 30)) (w.heap.size + 2) 30 [.int .i64 b.co.cl, .int .i64 b.co.sp, .int .i64 b.co.op, .string (ba b.co.lt), .int .i64 b.co.a, .int .i64 b.co.b, .string (ba b.co.tx), .int .u32 (b.ms : Int)]) := Lib.hid (Blk.fresh (by simp) rfl)
  have hli := ba_list
  have hfx : ∀ W, Below w.heap.size w W → Calls Tryz.prog 6 #[] W fun e w' => e = .returned (.bool true) ∧ Below W.heap.size W w' := fun W hW => fixed_any W (hLe.through hW) (hEv.through hW)
  have hfw : ∀ (W : World) (g : Nat), Below w.heap.size w W → EysIn W (some ⟨g, 0, none⟩) 2 [a, b] → Calls Tryz.prog 7 #[.agg #[.int .i64 l.sq, .int .i64 l.tt, .slice A n c, .slice B m d], .slice (some ⟨g, 0, none⟩) 2 2] W fun e w' => e = .returned (.bool (fewC l [a, b])) ∧ Below W.heap.size W w' := fun W g hW hE => few_any l [a, b] A n c B m d (some ⟨g, 0, none⟩) 2 2 W (hI.through hW) hE hn (by decide)
  rw [hq] at hfw
  have HFx := Lib.hid hfx
  have HFw := Lib.hid hfw
  have HSa := Lib.hid ha
  have HSb := Lib.hid hb
  clear hfx hfw hI hn hLe hEv ha hb hq
  go_enter Tryz.func5, Tryz.ntmps5
  go_wp2_with (first
    | go_skip
    | (go_at_call 6; (with_reducible refine (HFx.out _ X0.out).mono ?_); rintro e w1 ⟨rfl, hb⟩; have L1 := Lib.hid ((L0.out.through hb)); have EA1 := Lib.hid ((EA0.out.through hb)); have EB1 := Lib.hid ((EB0.out.through hb)); have X1 : Hid (Below w.heap.size w w1) := Lib.hid (below_step X0.out hb); clear hb)
    | (refine wpList_load_blk rfl 25 (.tmp 3) rfl w.heap.size rfl 25 [.int .i64 l.sq, .int .i64 l.tt, .slice A n c, .slice B m d] _ L1.out Tryz.underlying25 rfl (by kernel_rfl) ?_)
    | (refine wpList_load_blk rfl 30 (.tmp 4) rfl (w.heap.size + 1) rfl 30 [.int .i64 a.co.cl, .int .i64 a.co.sp, .int .i64 a.co.op, .string (ba a.co.lt), .int .i64 a.co.a, .int .i64 a.co.b, .string (ba a.co.tx), .int .u32 (a.ms : Int)] _ EA1.out Tryz.underlying30 rfl (by kernel_rfl) ?_)
    | (refine wpList_load_blk rfl 30 (.tmp 5) rfl (w.heap.size + 2) rfl 30 [.int .i64 b.co.cl, .int .i64 b.co.sp, .int .i64 b.co.op, .string (ba b.co.lt), .int .i64 b.co.a, .int .i64 b.co.b, .string (ba b.co.tx), .int .u32 (b.ms : Int)] _ EB1.out Tryz.underlying30 rfl (by kernel_rfl) ?_)
    | (refine wpList_build_two rfl 33 30 (.tmp 16) (.tmp 17) rfl (.agg #[.int .i64 a.co.cl, .int .i64 a.co.sp, .int .i64 a.co.op, .string (ba a.co.lt), .int .i64 a.co.a, .int .i64 a.co.b, .string (ba a.co.tx), .int .u32 (a.ms : Int)]) (.agg #[.int .i64 b.co.cl, .int .i64 b.co.sp, .int .i64 b.co.op, .string (ba b.co.lt), .int .i64 b.co.a, .int .i64 b.co.b, .string (ba b.co.tx), .int .u32 (b.ms : Int)]) [.int .i64 a.co.cl, .int .i64 a.co.sp, .int .i64 a.co.op, .string (ba a.co.lt), .int .i64 a.co.a, .int .i64 a.co.b, .string (ba a.co.tx), .int .u32 (a.ms : Int), .int .i64 b.co.cl, .int .i64 b.co.sp, .int .i64 b.co.op, .string (ba b.co.lt), .int .i64 b.co.a, .int .i64 b.co.b, .string (ba b.co.tx), .int .u32 (b.ms : Int)] rfl rfl (Tryz.build_ey2 _ _ _ _ _ _ _ _ _ _ _ _ _ _ _ _ _) ?_; intro gb wb hbb hwb; have HEb := Lib.hid (EysIn.two hbb HSa.out HSb.out); have Lb := Lib.hid ((L1.out.through hwb)); have EAb := Lib.hid ((EA1.out.through hwb)); have EBb := Lib.hid ((EB1.out.through hwb)); have Xb : Hid (Below w.heap.size w wb) := Lib.hid (below_step X1.out hwb); clear hbb hwb)
    | (go_at_call 7; (with_reducible refine (HFw.out _ _ Xb.out HEb.out).mono ?_); rintro e w2 ⟨rfl, hb⟩; have L2 := Lib.hid ((Lb.out.through hb)); have EA2 := Lib.hid ((EAb.out.through hb)); have EB2 := Lib.hid ((EBb.out.through hb)); have X2 : Hid (Below w.heap.size w w2) := Lib.hid (below_step Xb.out hb); clear hb))
  go_ret
  exact ⟨(by first | trivial | exact ret_b rfl), X2.out⟩

set_option maxHeartbeats 8000000 in
set_option maxRecDepth 100000 in
theorem apart_right (l : Lg) (a b : Ey) (A : Option Addr) (n c : Nat) (B : Option Addr) (m d : Nat) (w : World) (hI : LgIn w A n B m l) (hn : n ≤ maxLen) (hLe : Led w) (hEv : EV w) (ha : a.ms < 4294967296) (hb : b.ms < 4294967296) (hq : fewC l [a, b] = true) (hR : l.right = false) : Calls Tryz.prog 5 #[.agg #[.int .i64 l.sq, .int .i64 l.tt, .slice A n c, .slice B m d], .agg #[.int .i64 a.co.cl, .int .i64 a.co.sp, .int .i64 a.co.op, .string (ba a.co.lt), .int .i64 a.co.a, .int .i64 a.co.b, .string (ba a.co.tx), .int .u32 (a.ms : Int)], .agg #[.int .i64 b.co.cl, .int .i64 b.co.sp, .int .i64 b.co.op, .string (ba b.co.lt), .int .i64 b.co.a, .int .i64 b.co.b, .string (ba b.co.tx), .int .u32 (b.ms : Int)]] w fun e w' => e = .returned (.bool true) ∧ Below w.heap.size w w' := by
  have X0 : Hid (Below w.heap.size w (((w.alloc (.cells #[.int .i64 l.sq, .int .i64 l.tt, .slice A n c, .slice B m d] 25)).alloc (.cells #[.int .i64 a.co.cl, .int .i64 a.co.sp, .int .i64 a.co.op, .string (ba a.co.lt), .int .i64 a.co.a, .int .i64 a.co.b, .string (ba a.co.tx), .int .u32 (a.ms : Int)] 30)).alloc (.cells #[.int .i64 b.co.cl, .int .i64 b.co.sp, .int .i64 b.co.op, .string (ba b.co.lt), .int .i64 b.co.a, .int .i64 b.co.b, .string (ba b.co.tx), .int .u32 (b.ms : Int)] 30))) := Lib.hid (below3 w _ _ _)
  have L0 : Hid (Blk (((w.alloc (.cells #[.int .i64 l.sq, .int .i64 l.tt, .slice A n c, .slice B m d] 25)).alloc (.cells #[.int .i64 a.co.cl, .int .i64 a.co.sp, .int .i64 a.co.op, .string (ba a.co.lt), .int .i64 a.co.a, .int .i64 a.co.b, .string (ba a.co.tx), .int .u32 (a.ms : Int)] 30)).alloc (.cells #[.int .i64 b.co.cl, .int .i64 b.co.sp, .int .i64 b.co.op, .string (ba b.co.lt), .int .i64 b.co.a, .int .i64 b.co.b, .string (ba b.co.tx), .int .u32 (b.ms : Int)] 30)) w.heap.size 25 [.int .i64 l.sq, .int .i64 l.tt, .slice A n c, .slice B m d]) := Lib.hid (((Blk.fresh rfl rfl).alloc _).alloc _)
  have EA0 : Hid (Blk (((w.alloc (.cells #[.int .i64 l.sq, .int .i64 l.tt, .slice A n c, .slice B m d] 25)).alloc (.cells #[.int .i64 a.co.cl, .int .i64 a.co.sp, .int .i64 a.co.op, .string (ba a.co.lt), .int .i64 a.co.a, .int .i64 a.co.b, .string (ba a.co.tx), .int .u32 (a.ms : Int)] 30)).alloc (.cells #[.int .i64 b.co.cl, .int .i64 b.co.sp, .int .i64 b.co.op, .string (ba b.co.lt), .int .i64 b.co.a, .int .i64 b.co.b, .string (ba b.co.tx), .int .u32 (b.ms : Int)] 30)) (w.heap.size + 1) 30 [.int .i64 a.co.cl, .int .i64 a.co.sp, .int .i64 a.co.op, .string (ba a.co.lt), .int .i64 a.co.a, .int .i64 a.co.b, .string (ba a.co.tx), .int .u32 (a.ms : Int)]) := Lib.hid ((Blk.fresh (by simp) rfl).alloc _)
  have EB0 : Hid (Blk (((w.alloc (.cells #[.int .i64 l.sq, .int .i64 l.tt, .slice A n c, .slice B m d] 25)).alloc (.cells #[.int .i64 a.co.cl, .int .i64 a.co.sp, .int .i64 a.co.op, .string (ba a.co.lt), .int .i64 a.co.a, .int .i64 a.co.b, .string (ba a.co.tx), .int .u32 (a.ms : Int)] 30)).alloc (.cells #[.int .i64 b.co.cl, .int .i64 b.co.sp, .int .i64 b.co.op, .string (ba b.co.lt), .int .i64 b.co.a, .int .i64 b.co.b, .string (ba b.co.tx), .int .u32 (b.ms : Int)] 30)) (w.heap.size + 2) 30 [.int .i64 b.co.cl, .int .i64 b.co.sp, .int .i64 b.co.op, .string (ba b.co.lt), .int .i64 b.co.a, .int .i64 b.co.b, .string (ba b.co.tx), .int .u32 (b.ms : Int)]) := Lib.hid (Blk.fresh (by simp) rfl)
  have hli := ba_list
  have hfx : ∀ W, Below w.heap.size w W → Calls Tryz.prog 6 #[] W fun e w' => e = .returned (.bool true) ∧ Below W.heap.size W w' := fun W hW => fixed_any W (hLe.through hW) (hEv.through hW)
  have hfw : ∀ (W : World) (g : Nat), Below w.heap.size w W → EysIn W (some ⟨g, 0, none⟩) 2 [a, b] → Calls Tryz.prog 7 #[.agg #[.int .i64 l.sq, .int .i64 l.tt, .slice A n c, .slice B m d], .slice (some ⟨g, 0, none⟩) 2 2] W fun e w' => e = .returned (.bool (fewC l [a, b])) ∧ Below W.heap.size W w' := fun W g hW hE => few_any l [a, b] A n c B m d (some ⟨g, 0, none⟩) 2 2 W (hI.through hW) hE hn (by decide)
  rw [hq] at hfw
  have HFx := Lib.hid hfx
  have HFw := Lib.hid hfw
  have HSa := Lib.hid ha
  have HSb := Lib.hid hb
  obtain ⟨hn64, hm64, hlt, hbt, htx, hby, hpo⟩ := few_two hI hq
  have hri : ∀ W, Below w.heap.size w W → Calls Tryz.prog 14 #[.agg #[.int .i64 l.sq, .int .i64 l.tt, .slice A n c, .slice B m d]] W fun e w' => e = .returned (.bool l.right) ∧ Below W.heap.size W w' := fun W hW => rright_any l A n c B m d W (hI.through hW) (by omega) (by omega) (fun x hx => by have := (hpo x hx).1; omega)
  rw [hR] at hri
  have HRi := Lib.hid hri
  clear hfx hfw hI hn hLe hEv ha hb hq hR hri hn64 hm64 hlt hbt htx hby hpo
  go_enter Tryz.func5, Tryz.ntmps5
  go_wp2_with (first
    | go_skip
    | (go_at_call 6; (with_reducible refine (HFx.out _ X0.out).mono ?_); rintro e w1 ⟨rfl, hb⟩; have L1 := Lib.hid ((L0.out.through hb)); have EA1 := Lib.hid ((EA0.out.through hb)); have EB1 := Lib.hid ((EB0.out.through hb)); have X1 : Hid (Below w.heap.size w w1) := Lib.hid (below_step X0.out hb); clear hb)
    | (refine wpList_load_blk rfl 25 (.tmp 3) rfl w.heap.size rfl 25 [.int .i64 l.sq, .int .i64 l.tt, .slice A n c, .slice B m d] _ L1.out Tryz.underlying25 rfl (by kernel_rfl) ?_)
    | (refine wpList_load_blk rfl 30 (.tmp 4) rfl (w.heap.size + 1) rfl 30 [.int .i64 a.co.cl, .int .i64 a.co.sp, .int .i64 a.co.op, .string (ba a.co.lt), .int .i64 a.co.a, .int .i64 a.co.b, .string (ba a.co.tx), .int .u32 (a.ms : Int)] _ EA1.out Tryz.underlying30 rfl (by kernel_rfl) ?_)
    | (refine wpList_load_blk rfl 30 (.tmp 5) rfl (w.heap.size + 2) rfl 30 [.int .i64 b.co.cl, .int .i64 b.co.sp, .int .i64 b.co.op, .string (ba b.co.lt), .int .i64 b.co.a, .int .i64 b.co.b, .string (ba b.co.tx), .int .u32 (b.ms : Int)] _ EB1.out Tryz.underlying30 rfl (by kernel_rfl) ?_)
    | (refine wpList_build_two rfl 33 30 (.tmp 16) (.tmp 17) rfl (.agg #[.int .i64 a.co.cl, .int .i64 a.co.sp, .int .i64 a.co.op, .string (ba a.co.lt), .int .i64 a.co.a, .int .i64 a.co.b, .string (ba a.co.tx), .int .u32 (a.ms : Int)]) (.agg #[.int .i64 b.co.cl, .int .i64 b.co.sp, .int .i64 b.co.op, .string (ba b.co.lt), .int .i64 b.co.a, .int .i64 b.co.b, .string (ba b.co.tx), .int .u32 (b.ms : Int)]) [.int .i64 a.co.cl, .int .i64 a.co.sp, .int .i64 a.co.op, .string (ba a.co.lt), .int .i64 a.co.a, .int .i64 a.co.b, .string (ba a.co.tx), .int .u32 (a.ms : Int), .int .i64 b.co.cl, .int .i64 b.co.sp, .int .i64 b.co.op, .string (ba b.co.lt), .int .i64 b.co.a, .int .i64 b.co.b, .string (ba b.co.tx), .int .u32 (b.ms : Int)] rfl rfl (Tryz.build_ey2 _ _ _ _ _ _ _ _ _ _ _ _ _ _ _ _ _) ?_; intro gb wb hbb hwb; have HEb := Lib.hid (EysIn.two hbb HSa.out HSb.out); have Lb := Lib.hid ((L1.out.through hwb)); have EAb := Lib.hid ((EA1.out.through hwb)); have EBb := Lib.hid ((EB1.out.through hwb)); have Xb : Hid (Below w.heap.size w wb) := Lib.hid (below_step X1.out hwb); clear hbb hwb)
    | (go_at_call 7; (with_reducible refine (HFw.out _ _ Xb.out HEb.out).mono ?_); rintro e w2 ⟨rfl, hb⟩; have L2 := Lib.hid ((Lb.out.through hb)); have EA2 := Lib.hid ((EAb.out.through hb)); have EB2 := Lib.hid ((EBb.out.through hb)); have X2 : Hid (Below w.heap.size w w2) := Lib.hid (below_step Xb.out hb); clear hb)
    | (refine wpList_load_blk_g 25 (.tmp 3) rfl (by kernel_rfl) w.heap.size rfl 25 [.int .i64 l.sq, .int .i64 l.tt, .slice A n c, .slice B m d] _ L2.out Tryz.underlying25 rfl (by kernel_rfl) ?_)
    | (go_at_call 14; (with_reducible refine (HRi.out _ X2.out).mono ?_); rintro e w3 ⟨rfl, hb⟩; have L3 := Lib.hid ((L2.out.through hb)); have EA3 := Lib.hid ((EA2.out.through hb)); have EB3 := Lib.hid ((EB2.out.through hb)); have X3 : Hid (Below w.heap.size w w3) := Lib.hid (below_step X2.out hb); have l2 := L3.out.cellAt (i := 2) rfl; have p0 := EA3.out.cellAt (i := 0) rfl; have p2 := EA3.out.cellAt (i := 2) rfl; have p3 := EA3.out.cellAt (i := 3) rfl; have r0 := EB3.out.cellAt (i := 0) rfl; have r2 := EB3.out.cellAt (i := 2) rfl; have r3 := EB3.out.cellAt (i := 3) rfl; clear hb))
  go_ret
  exact ⟨(by first | trivial | exact ret_b rfl), X3.out⟩

set_option maxHeartbeats 8000000 in
set_option maxRecDepth 100000 in
theorem apart_len (l : Lg) (a b : Ey) (A : Option Addr) (n c : Nat) (B : Option Addr) (m d : Nat) (w : World) (hI : LgIn w A n B m l) (hn : n ≤ maxLen) (hLe : Led w) (hEv : EV w) (ha : a.ms < 4294967296) (hb : b.ms < 4294967296) (hq : fewC l [a, b] = true) (hR : l.right = true) (hl : ¬ l.ls.length ≤ 10) : Calls Tryz.prog 5 #[.agg #[.int .i64 l.sq, .int .i64 l.tt, .slice A n c, .slice B m d], .agg #[.int .i64 a.co.cl, .int .i64 a.co.sp, .int .i64 a.co.op, .string (ba a.co.lt), .int .i64 a.co.a, .int .i64 a.co.b, .string (ba a.co.tx), .int .u32 (a.ms : Int)], .agg #[.int .i64 b.co.cl, .int .i64 b.co.sp, .int .i64 b.co.op, .string (ba b.co.lt), .int .i64 b.co.a, .int .i64 b.co.b, .string (ba b.co.tx), .int .u32 (b.ms : Int)]] w fun e w' => e = .returned (.bool true) ∧ Below w.heap.size w w' := by
  have X0 : Hid (Below w.heap.size w (((w.alloc (.cells #[.int .i64 l.sq, .int .i64 l.tt, .slice A n c, .slice B m d] 25)).alloc (.cells #[.int .i64 a.co.cl, .int .i64 a.co.sp, .int .i64 a.co.op, .string (ba a.co.lt), .int .i64 a.co.a, .int .i64 a.co.b, .string (ba a.co.tx), .int .u32 (a.ms : Int)] 30)).alloc (.cells #[.int .i64 b.co.cl, .int .i64 b.co.sp, .int .i64 b.co.op, .string (ba b.co.lt), .int .i64 b.co.a, .int .i64 b.co.b, .string (ba b.co.tx), .int .u32 (b.ms : Int)] 30))) := Lib.hid (below3 w _ _ _)
  have L0 : Hid (Blk (((w.alloc (.cells #[.int .i64 l.sq, .int .i64 l.tt, .slice A n c, .slice B m d] 25)).alloc (.cells #[.int .i64 a.co.cl, .int .i64 a.co.sp, .int .i64 a.co.op, .string (ba a.co.lt), .int .i64 a.co.a, .int .i64 a.co.b, .string (ba a.co.tx), .int .u32 (a.ms : Int)] 30)).alloc (.cells #[.int .i64 b.co.cl, .int .i64 b.co.sp, .int .i64 b.co.op, .string (ba b.co.lt), .int .i64 b.co.a, .int .i64 b.co.b, .string (ba b.co.tx), .int .u32 (b.ms : Int)] 30)) w.heap.size 25 [.int .i64 l.sq, .int .i64 l.tt, .slice A n c, .slice B m d]) := Lib.hid (((Blk.fresh rfl rfl).alloc _).alloc _)
  have EA0 : Hid (Blk (((w.alloc (.cells #[.int .i64 l.sq, .int .i64 l.tt, .slice A n c, .slice B m d] 25)).alloc (.cells #[.int .i64 a.co.cl, .int .i64 a.co.sp, .int .i64 a.co.op, .string (ba a.co.lt), .int .i64 a.co.a, .int .i64 a.co.b, .string (ba a.co.tx), .int .u32 (a.ms : Int)] 30)).alloc (.cells #[.int .i64 b.co.cl, .int .i64 b.co.sp, .int .i64 b.co.op, .string (ba b.co.lt), .int .i64 b.co.a, .int .i64 b.co.b, .string (ba b.co.tx), .int .u32 (b.ms : Int)] 30)) (w.heap.size + 1) 30 [.int .i64 a.co.cl, .int .i64 a.co.sp, .int .i64 a.co.op, .string (ba a.co.lt), .int .i64 a.co.a, .int .i64 a.co.b, .string (ba a.co.tx), .int .u32 (a.ms : Int)]) := Lib.hid ((Blk.fresh (by simp) rfl).alloc _)
  have EB0 : Hid (Blk (((w.alloc (.cells #[.int .i64 l.sq, .int .i64 l.tt, .slice A n c, .slice B m d] 25)).alloc (.cells #[.int .i64 a.co.cl, .int .i64 a.co.sp, .int .i64 a.co.op, .string (ba a.co.lt), .int .i64 a.co.a, .int .i64 a.co.b, .string (ba a.co.tx), .int .u32 (a.ms : Int)] 30)).alloc (.cells #[.int .i64 b.co.cl, .int .i64 b.co.sp, .int .i64 b.co.op, .string (ba b.co.lt), .int .i64 b.co.a, .int .i64 b.co.b, .string (ba b.co.tx), .int .u32 (b.ms : Int)] 30)) (w.heap.size + 2) 30 [.int .i64 b.co.cl, .int .i64 b.co.sp, .int .i64 b.co.op, .string (ba b.co.lt), .int .i64 b.co.a, .int .i64 b.co.b, .string (ba b.co.tx), .int .u32 (b.ms : Int)]) := Lib.hid (Blk.fresh (by simp) rfl)
  have hli := ba_list
  have hfx : ∀ W, Below w.heap.size w W → Calls Tryz.prog 6 #[] W fun e w' => e = .returned (.bool true) ∧ Below W.heap.size W w' := fun W hW => fixed_any W (hLe.through hW) (hEv.through hW)
  have hfw : ∀ (W : World) (g : Nat), Below w.heap.size w W → EysIn W (some ⟨g, 0, none⟩) 2 [a, b] → Calls Tryz.prog 7 #[.agg #[.int .i64 l.sq, .int .i64 l.tt, .slice A n c, .slice B m d], .slice (some ⟨g, 0, none⟩) 2 2] W fun e w' => e = .returned (.bool (fewC l [a, b])) ∧ Below W.heap.size W w' := fun W g hW hE => few_any l [a, b] A n c B m d (some ⟨g, 0, none⟩) 2 2 W (hI.through hW) hE hn (by decide)
  rw [hq] at hfw
  have HFx := Lib.hid hfx
  have HFw := Lib.hid hfw
  have HSa := Lib.hid ha
  have HSb := Lib.hid hb
  obtain ⟨hn64, hm64, hlt, hbt, htx, hby, hpo⟩ := few_two hI hq
  have hri : ∀ W, Below w.heap.size w W → Calls Tryz.prog 14 #[.agg #[.int .i64 l.sq, .int .i64 l.tt, .slice A n c, .slice B m d]] W fun e w' => e = .returned (.bool l.right) ∧ Below W.heap.size W w' := fun W hW => rright_any l A n c B m d W (hI.through hW) (by omega) (by omega) (fun x hx => by have := (hpo x hx).1; omega)
  rw [hR] at hri
  have HRi := Lib.hid hri
  have h3 : decide ((10 : Int) < (n : Int)) = true := by have := hI.len.1; simp; omega
  clear hl
  clear hfx hfw hI hn hLe hEv ha hb hq hR hri hn64 hm64 hlt hbt htx hby hpo
  go_enter Tryz.func5, Tryz.ntmps5
  go_wp2_with (first
    | go_skip
    | (go_at_call 6; (with_reducible refine (HFx.out _ X0.out).mono ?_); rintro e w1 ⟨rfl, hb⟩; have L1 := Lib.hid ((L0.out.through hb)); have EA1 := Lib.hid ((EA0.out.through hb)); have EB1 := Lib.hid ((EB0.out.through hb)); have X1 : Hid (Below w.heap.size w w1) := Lib.hid (below_step X0.out hb); clear hb)
    | (refine wpList_load_blk rfl 25 (.tmp 3) rfl w.heap.size rfl 25 [.int .i64 l.sq, .int .i64 l.tt, .slice A n c, .slice B m d] _ L1.out Tryz.underlying25 rfl (by kernel_rfl) ?_)
    | (refine wpList_load_blk rfl 30 (.tmp 4) rfl (w.heap.size + 1) rfl 30 [.int .i64 a.co.cl, .int .i64 a.co.sp, .int .i64 a.co.op, .string (ba a.co.lt), .int .i64 a.co.a, .int .i64 a.co.b, .string (ba a.co.tx), .int .u32 (a.ms : Int)] _ EA1.out Tryz.underlying30 rfl (by kernel_rfl) ?_)
    | (refine wpList_load_blk rfl 30 (.tmp 5) rfl (w.heap.size + 2) rfl 30 [.int .i64 b.co.cl, .int .i64 b.co.sp, .int .i64 b.co.op, .string (ba b.co.lt), .int .i64 b.co.a, .int .i64 b.co.b, .string (ba b.co.tx), .int .u32 (b.ms : Int)] _ EB1.out Tryz.underlying30 rfl (by kernel_rfl) ?_)
    | (refine wpList_build_two rfl 33 30 (.tmp 16) (.tmp 17) rfl (.agg #[.int .i64 a.co.cl, .int .i64 a.co.sp, .int .i64 a.co.op, .string (ba a.co.lt), .int .i64 a.co.a, .int .i64 a.co.b, .string (ba a.co.tx), .int .u32 (a.ms : Int)]) (.agg #[.int .i64 b.co.cl, .int .i64 b.co.sp, .int .i64 b.co.op, .string (ba b.co.lt), .int .i64 b.co.a, .int .i64 b.co.b, .string (ba b.co.tx), .int .u32 (b.ms : Int)]) [.int .i64 a.co.cl, .int .i64 a.co.sp, .int .i64 a.co.op, .string (ba a.co.lt), .int .i64 a.co.a, .int .i64 a.co.b, .string (ba a.co.tx), .int .u32 (a.ms : Int), .int .i64 b.co.cl, .int .i64 b.co.sp, .int .i64 b.co.op, .string (ba b.co.lt), .int .i64 b.co.a, .int .i64 b.co.b, .string (ba b.co.tx), .int .u32 (b.ms : Int)] rfl rfl (Tryz.build_ey2 _ _ _ _ _ _ _ _ _ _ _ _ _ _ _ _ _) ?_; intro gb wb hbb hwb; have HEb := Lib.hid (EysIn.two hbb HSa.out HSb.out); have Lb := Lib.hid ((L1.out.through hwb)); have EAb := Lib.hid ((EA1.out.through hwb)); have EBb := Lib.hid ((EB1.out.through hwb)); have Xb : Hid (Below w.heap.size w wb) := Lib.hid (below_step X1.out hwb); clear hbb hwb)
    | (go_at_call 7; (with_reducible refine (HFw.out _ _ Xb.out HEb.out).mono ?_); rintro e w2 ⟨rfl, hb⟩; have L2 := Lib.hid ((Lb.out.through hb)); have EA2 := Lib.hid ((EAb.out.through hb)); have EB2 := Lib.hid ((EBb.out.through hb)); have X2 : Hid (Below w.heap.size w w2) := Lib.hid (below_step Xb.out hb); clear hb)
    | (refine wpList_load_blk_g 25 (.tmp 3) rfl (by kernel_rfl) w.heap.size rfl 25 [.int .i64 l.sq, .int .i64 l.tt, .slice A n c, .slice B m d] _ L2.out Tryz.underlying25 rfl (by kernel_rfl) ?_)
    | (go_at_call 14; (with_reducible refine (HRi.out _ X2.out).mono ?_); rintro e w3 ⟨rfl, hb⟩; have L3 := Lib.hid ((L2.out.through hb)); have EA3 := Lib.hid ((EA2.out.through hb)); have EB3 := Lib.hid ((EB2.out.through hb)); have X3 : Hid (Below w.heap.size w w3) := Lib.hid (below_step X2.out hb); have l2 := L3.out.cellAt (i := 2) rfl; have p0 := EA3.out.cellAt (i := 0) rfl; have p2 := EA3.out.cellAt (i := 2) rfl; have p3 := EA3.out.cellAt (i := 3) rfl; have r0 := EB3.out.cellAt (i := 0) rfl; have r2 := EB3.out.cellAt (i := 2) rfl; have r3 := EB3.out.cellAt (i := 3) rfl; clear hb))
  go_ret
  exact ⟨(by first | trivial | exact ret_b rfl), X3.out⟩

end Go.Proofs.YtfflkodgojiklaaGreatDoor
