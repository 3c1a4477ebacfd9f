/-
  Do: an entry is done.
-/
import Derived.Test.YtfflkodgojiklaaGreatDoorCoDP
namespace Go.Proofs.YtfflkodgojiklaaGreatDoor
open Go.RowKit

theorem fin_n {w w7 : World} {A A5 : Option Addr} {nn n5 : Nat} {B B5 : Option Addr} {m m5 : Nat} {l : Lg} {y : Ey} (h : LgIn w A nn B m l) (hn : nn ≤ 900) (h5 : LgIn w7 A5 n5 B5 m5 (finL l y)) : n5 ≤ 1000000 := by
  have h1 := (withL_lens l (nextD (oldL l y.co) y.co)).1
  have h2 : (finL l y).ls.length = n5 := h5.len.1
  have h3 : (withL l (nextD (oldL l y.co) y.co)).1.ls.length = n5 := h2
  have h4 := h.len.1
  omega
theorem fin_m {w w7 : World} {A A5 : Option Addr} {nn n5 : Nat} {B B5 : Option Addr} {m m5 : Nat} {l : Lg} {y : Ey} (h : LgIn w A nn B m l) (hm : m ≤ 900) (h5 : LgIn w7 A5 n5 B5 m5 (finL l y)) : m5 ≤ 1000 := by
  have h1 := (withL_lens l (nextD (oldL l y.co) y.co)).2
  have h2 : (finL l y).os.length = m5 := h5.len.2
  have h3 : (withL l (nextD (oldL l y.co) y.co)).1.os.length = m5 := h2
  have h4 := h.len.2
  omega
theorem Tryz.build_do (W : World) (a0 a1 a2 a4 a5 a7 n i j : Int) (a3 a6 : ByteArray) (A : Option Addr) (nn c : Nat) (B : Option Addr) (m d : Nat) : (Instr.build 61 #[(0, .agg #[.int .i64 a0, .int .i64 a1, .int .i64 a2, .string a3, .int .i64 a4, .int .i64 a5, .string a6, .int .u32 a7]), (1, .int .i64 n), (2, .agg #[.int .i64 i, .int .i64 j, .slice A nn c, .slice B m d])]).run Tryz.prog W =
    .ok (.agg #[.int .i64 a0, .int .i64 a1, .int .i64 a2, .string a3, .int .i64 a4, .int .i64 a5, .string a6, .int .u32 a7, .int .i64 n, .int .i64 i, .int .i64 j, .slice A nn c, .slice B m d, .string ⟨#[]⟩, .int .i64 0, .int .i64 0, .int .i64 0, .string ⟨#[]⟩, .string ⟨#[]⟩, .int .i64 0, .int .i64 0, .slice none 0 0]) W := by kernel_rfl

theorem PD_base {w : World} {g gs : Nat} {y : Ey} {n : Int} {l : Lg} {A : Option Addr} {nn c : Nat} {B : Option Addr} {m d : Nat} {W : World} : ∀ i : Nat, i < 6 → PD w g gs y n l A nn c B m d i W → DBase w W g gs y l A nn c B m d
  | 0, _, h => h.1
  | 1, _, h => h.1
  | 2, _, h => h.1
  | 3, _, h => h.1
  | 4, _, h => h.1
  | 5, _, h => h.1
  | _ + 6, h, _ => absurd h (by omega)
theorem DBase.row {w : World} {g gs : Nat} {y : Ey} {l : Lg} {A : Option Addr} {nn c : Nat} {B : Option Addr} {m d : Nat} {W : World} (h : DBase w W g gs y l A nn c B m d) : ∀ i : Nat, i < 6 → W.cell? ⟨gs, i, none⟩ = some (.func (.func (fkL i)) #[.pointer (some ⟨g, 0, none⟩)] #[])
  | 0, _ => h.hf.cellAt (i := 0) rfl
  | 1, _ => h.hf.cellAt (i := 1) rfl
  | 2, _ => h.hf.cellAt (i := 2) rfl
  | 3, _ => h.hf.cellAt (i := 3) rfl
  | 4, _ => h.hf.cellAt (i := 4) rfl
  | 5, _ => h.hf.cellAt (i := 5) rfl
  | _ + 6, h => absurd h (by omega)
theorem PD_row {w : World} {g gs : Nat} {y : Ey} {n : Int} {l : Lg} {A : Option Addr} {nn c : Nat} {B : Option Addr} {m d : Nat} {W : World} (i : Nat) (hi : i < 6) (h : PD w g gs y n l A nn c B m d i W) : W.cell? ⟨gs, i, none⟩ = some (.func (.func (fkL i)) #[.pointer (some ⟨g, 0, none⟩)] #[]) := (PD_base i hi h).row i hi
theorem Tryz.build_fn6 (W : World) (g : Nat) : (Instr.buildSlice 78 6 #[(0, .func (.func 19) #[.pointer (some ⟨g, 0, none⟩)] #[]), (1, .func (.func 20) #[.pointer (some ⟨g, 0, none⟩)] #[]), (2, .func (.func 21) #[.pointer (some ⟨g, 0, none⟩)] #[]), (3, .func (.func 22) #[.pointer (some ⟨g, 0, none⟩)] #[]), (4, .func (.func 23) #[.pointer (some ⟨g, 0, none⟩)] #[]), (5, .func (.func 24) #[.pointer (some ⟨g, 0, none⟩)] #[])]).run Tryz.prog W = .ok (.slice (some ⟨W.heap.size, 0, none⟩) 6 6) (W.alloc (.cells #[.func (.func 19) #[.pointer (some ⟨g, 0, none⟩)] #[], .func (.func 20) #[.pointer (some ⟨g, 0, none⟩)] #[], .func (.func 21) #[.pointer (some ⟨g, 0, none⟩)] #[], .func (.func 22) #[.pointer (some ⟨g, 0, none⟩)] #[], .func (.func 23) #[.pointer (some ⟨g, 0, none⟩)] #[], .func (.func 24) #[.pointer (some ⟨g, 0, none⟩)] #[]] 63)) := by kernel_rfl
theorem wpList_build_six {P : Program} {ops : Array Oper} {rest : List Oper} {o : Oper} {a : Act} {w : World} {Q : Exit → Act → World → Prop} (hgd : o.guard = none) (s e : TypeId) (x0 x1 x2 x3 x4 x5 : Operand) (ho : o.op = .buildSlice s 6 #[(0, x0), (1, x1), (2, x2), (3, x3), (4, x4), (5, x5)])
    (p0 p1 p2 p3 p4 p5 : Value) (h0 : a.eval x0 = p0) (h1 : a.eval x1 = p1) (h2 : a.eval x2 = p2) (h3 : a.eval x3 = p3) (h4 : a.eval x4 = p4) (h5 : a.eval x5 = p5)
    (hrun : (Instr.buildSlice s 6 #[(0, p0), (1, p1), (2, p2), (3, p3), (4, p4), (5, p5)]).run P w = .ok (.slice (some ⟨w.heap.size, 0, none⟩) 6 6) (w.alloc (.cells #[p0, p1, p2, p3, p4, p5] e)))
    (h : ∀ g w', g = w.heap.size → Blk w' g e [p0, p1, p2, p3, p4, p5] → Below w.heap.size w w' → wpList P ops Q rest (a.put o.dst (.slice (some ⟨g, 0, none⟩) 6 6)) w') : wpList P ops Q (o :: rest) a w :=
  wpList_plain hgd fun K hK => by
    unfold Oper.wp execOp
    simp only [ho, Sem.run_bind, List.map_toArray, List.map_cons, List.map_nil, h0, h1, h2, h3, h4, h5, hrun, Result.andThen_ok]
    exact hK _ _ (h _ _ rfl (Blk.fresh rfl rfl) ((Below.refl _ w).alloc (Nat.le_refl _) _))
theorem Tryz.alloc_do (w : World) : (Instr.alloc 61 true (.tuple #[])).run Tryz.prog w = .ok (.pointer (some ⟨w.heap.size, 0, none⟩)) (w.alloc (.cells ([.int .i64 0, .int .i64 0, .int .i64 0, .string (ba []), .int .i64 0, .int .i64 0, .string (ba []), .int .u32 0, .int .i64 0, .int .i64 0, .int .i64 0, .slice none 0 0, .slice none 0 0, .string (ba []), .int .i64 0, .int .i64 0, .int .i64 0, .string (ba []), .string (ba []), .int .i64 0, .int .i64 0, .slice none 0 0] : List Value).toArray 61)) := by kernel_rfl
theorem wpList_alloc_new {P : Program} {T : TypeId} {cs : List Value} {ops : Array Oper} {rest : List Oper} {o : Oper} {a : Act} {w : World} {Q : Exit → Act → World → Prop} (hgd : o.guard = none) (ho : o.op = .alloc T)
    (hrun : (Instr.alloc T true (.tuple #[])).run P w = .ok (.pointer (some ⟨w.heap.size, 0, none⟩)) (w.alloc (.cells cs.toArray T)))
    (h : ∀ g w', g = w.heap.size → Blk w' g T cs → Below w.heap.size w w' → wpList P ops Q rest (a.put o.dst (.pointer (some ⟨g, 0, none⟩))) w') : wpList P ops Q (o :: rest) a w :=
  wpList_plain hgd fun K hK => by
    unfold Oper.wp execOp
    simp only [ho, Sem.run_bind, hrun, Result.andThen_ok]
    exact hK _ _ (h _ _ rfl (Blk.fresh rfl rfl) ((Below.refl _ w).alloc (Nat.le_refl _) _))
theorem one22 (a0 a1 a2 a4 a5 a7 n i j s m u o a : Int) (a3 a6 b0 b4 b5 : ByteArray) (A : Option Addr) (nn c : Nat) (B : Option Addr) (mm d : Nat) (F : Option Addr) (k kc : Nat) : ([.int .i64 a0, .int .i64 a1, .int .i64 a2, .string a3, .int .i64 a4, .int .i64 a5, .string a6, .int .u32 a7, .int .i64 n, .int .i64 i, .int .i64 j, .slice A nn c, .slice B mm d, .string b0, .int .i64 s, .int .i64 m, .int .i64 u, .string b4, .string b5, .int .i64 o, .int .i64 a, .slice F k kc] : List Value).toArray.all (·.oneCell') = true := by kernel_rfl

theorem dfirst_any (y : Ey) (n : Int) (l : Lg) (A : Option Addr) (nn c : Nat) (B : Option Addr) (m d : Nat) (w : World) (g gs : Nat) (H : DHyp w g gs y l A nn c B m) (W : World) (hP : PD w g gs y n l A nn c B m d 0 W) :
    Calls Tryz.prog 18 #[.slice (some ⟨gs, 0, none⟩) 6 6] W fun e w' => e = .returned (.int .i64 (resD l y n).2) ∧ ((resD l y n).2 = 0 → PD w g gs y n l A nn c B m d 6 w') ∧ ((resD l y n).2 ≠ 0 → DBase w w' g gs y l A nn c B m d) := by
  rw [← resD_err]
  refine first_any g gs (erD l y n) (PD w g gs y n l A nn c B m d) (fun W => DBase w W g gs y l A nn c B m d) W hP (fun i W hi hPi => ?_) (dsteps w g gs y n l A nn c B m d H)
  exact PD_row i hi hPi

set_option maxHeartbeats 8000000 in
set_option maxRecDepth 100000 in
theorem do_stale (y : Ey) (n : Int) (l : Lg) (A : Option Addr) (nn c : Nat) (B : Option Addr) (m d : Nat) (w : World) (hL : LgIn w A nn B m l) (hn : nn ≤ 900) (hm : m ≤ 900) (hlt : y.co.lt.length ≤ 140737488355328) (hq : staleL l y.co = true) :
    Calls Tryz.prog 8 #[.agg #[.int .i64 l.sq, .int .i64 l.tt, .slice A nn c, .slice B m d], .agg #[.int .i64 y.co.cl, .int .i64 y.co.sp, .int .i64 y.co.op, .string (ba y.co.lt), .int .i64 y.co.a, .int .i64 y.co.b, .string (ba y.co.tx), .int .u32 (y.ms : Int)], .int .i64 n] w (LgOutCE w l 10) := by
  have X0 : Hid (Below w.heap.size w (((w.alloc (.cells #[.int .i64 l.sq, .int .i64 l.tt, .slice A nn c, .slice B m d] 25)).alloc (.cells #[.int .i64 y.co.cl, .int .i64 y.co.sp, .int .i64 y.co.op, .string (ba y.co.lt), .int .i64 y.co.a, .int .i64 y.co.b, .string (ba y.co.tx), .int .u32 (y.ms : Int)] 30)).alloc (.cells #[.int .i64 0, .int .i64 0, .slice none 0 0, .slice none 0 0] 25))) := Lib.hid (below3 w _ _ _)
  have L0 : Hid (Blk (((w.alloc (.cells #[.int .i64 l.sq, .int .i64 l.tt, .slice A nn c, .slice B m d] 25)).alloc (.cells #[.int .i64 y.co.cl, .int .i64 y.co.sp, .int .i64 y.co.op, .string (ba y.co.lt), .int .i64 y.co.a, .int .i64 y.co.b, .string (ba y.co.tx), .int .u32 (y.ms : Int)] 30)).alloc (.cells #[.int .i64 0, .int .i64 0, .slice none 0 0, .slice none 0 0] 25)) w.heap.size 25 [.int .i64 l.sq, .int .i64 l.tt, .slice A nn c, .slice B m d]) := Lib.hid (((Blk.fresh rfl rfl).alloc _).alloc _)
  have E0 : Hid (Blk (((w.alloc (.cells #[.int .i64 l.sq, .int .i64 l.tt, .slice A nn c, .slice B m d] 25)).alloc (.cells #[.int .i64 y.co.cl, .int .i64 y.co.sp, .int .i64 y.co.op, .string (ba y.co.lt), .int .i64 y.co.a, .int .i64 y.co.b, .string (ba y.co.tx), .int .u32 (y.ms : Int)] 30)).alloc (.cells #[.int .i64 0, .int .i64 0, .slice none 0 0, .slice none 0 0] 25)) (w.heap.size + 1) 30 [.int .i64 y.co.cl, .int .i64 y.co.sp, .int .i64 y.co.op, .string (ba y.co.lt), .int .i64 y.co.a, .int .i64 y.co.b, .string (ba y.co.tx), .int .u32 (y.ms : Int)]) := Lib.hid ((Blk.fresh (by simp) rfl).alloc _)
  have Z0 : Hid (Blk (((w.alloc (.cells #[.int .i64 l.sq, .int .i64 l.tt, .slice A nn c, .slice B m d] 25)).alloc (.cells #[.int .i64 y.co.cl, .int .i64 y.co.sp, .int .i64 y.co.op, .string (ba y.co.lt), .int .i64 y.co.a, .int .i64 y.co.b, .string (ba y.co.tx), .int .u32 (y.ms : Int)] 30)).alloc (.cells #[.int .i64 0, .int .i64 0, .slice none 0 0, .slice none 0 0] 25)) (w.heap.size + 2) 25 [.int .i64 0, .int .i64 0, .slice none 0 0, .slice none 0 0]) := Lib.hid (Blk.fresh (by simp) rfl)
  have S0 : Hid (w.heap.size + 3 ≤ (((w.alloc (.cells #[.int .i64 l.sq, .int .i64 l.tt, .slice A nn c, .slice B m d] 25)).alloc (.cells #[.int .i64 y.co.cl, .int .i64 y.co.sp, .int .i64 y.co.op, .string (ba y.co.lt), .int .i64 y.co.a, .int .i64 y.co.b, .string (ba y.co.tx), .int .u32 (y.ms : Int)] 30)).alloc (.cells #[.int .i64 0, .int .i64 0, .slice none 0 0, .slice none 0 0] 25)).heap.size) := Lib.hid (by simp)
  have hz := Tryz.zero_lg
  have hst : ∀ W, Below w.heap.size w W → Calls Tryz.prog 15 #[.agg #[.int .i64 l.sq, .int .i64 l.tt, .slice A nn c, .slice B m d], .agg #[.int .i64 y.co.cl, .int .i64 y.co.sp, .int .i64 y.co.op, .string (ba y.co.lt), .int .i64 y.co.a, .int .i64 y.co.b, .string (ba y.co.tx)]] W fun e w' => e = .returned (.bool (staleL l y.co)) ∧ Below W.heap.size W w' := fun W hW => stale_any y l A nn c B m d W (hL.through hW) (by omega)
  have hck : ∀ W, Calls Tryz.prog 17 #[.agg #[.int .i64 y.co.cl, .int .i64 y.co.sp, .int .i64 y.co.op, .string (ba y.co.lt), .int .i64 y.co.a, .int .i64 y.co.b, .string (ba y.co.tx)], .int .i64 n] W fun e w' => e = .returned (.int .i64 (chkC y.co n)) ∧ Below W.heap.size W w' := fun W => chkC_any y.co n W hlt
  have hcp : ∀ W, Below w.heap.size w W → Calls Tryz.prog 16 #[.agg #[.int .i64 l.sq, .int .i64 l.tt, .slice A nn c, .slice B m d]] W fun e w' => ∃ A5 n5 c5 B5 m5 d5, e = .returned (.agg #[.int .i64 l.sq, .int .i64 l.tt, .slice A5 n5 c5, .slice B5 m5 d5]) ∧ LgIn w' A5 n5 B5 m5 l ∧ n5 ≤ c5 ∧ m5 ≤ d5 ∧ Below W.heap.size W w' ∧ (∀ a, A5 = some a → W.heap.size ≤ a.block) ∧ ∀ a, B5 = some a → W.heap.size ≤ a.block := fun W hW => copy_any l A nn c B m d W (hL.through hW) (by omega) (by omega)
  have HCp := Lib.hid hcp
  rw [hq] at hst
  have HSt := Lib.hid hst
  clear hst hck hcp hL hn hm hlt hq
  go_enter Tryz.func8, Tryz.ntmps8
  go_wp2_with (first
      | (refine wpList_load_blk rfl 25 (.tmp 3) rfl w.heap.size rfl 25 [.int .i64 l.sq, .int .i64 l.tt, .slice A nn c, .slice B m d] _ L0.out Tryz.underlying25 rfl (by kernel_rfl) ?_)
      | (refine wpList_load_mid rfl 27 (.tmp 12) rfl (w.heap.size + 1) 0 rfl [.int .i64 y.co.cl, .int .i64 y.co.sp, .int .i64 y.co.op, .string (ba y.co.lt), .int .i64 y.co.a, .int .i64 y.co.b, .string (ba y.co.tx)] _ (E0.out.mid [] _ [.int .u32 (y.ms : Int)] 0 rfl rfl) Tryz.underlying27 rfl (by kernel_rfl) ?_)
      | (go_at_call 15; (with_reducible refine (HSt.out _ X0.out).mono ?_); rintro e w1 ⟨rfl, hb1⟩; have L1 := Lib.hid (L0.out.through hb1); have E1 := Lib.hid (E0.out.through hb1); have Z1 := Lib.hid (Z0.out.through hb1); have X1 : Hid (Below w.heap.size w w1) := Lib.hid (below_step X0.out hb1); have S1 : Hid (w.heap.size + 3 ≤ w1.heap.size) := Lib.hid (Nat.le_trans S0.out hb1.size); clear hb1)
      | (refine wpList_load_blk rfl 25 (.tmp 3) rfl w.heap.size rfl 25 [.int .i64 l.sq, .int .i64 l.tt, .slice A nn c, .slice B m d] _ L1.out Tryz.underlying25 rfl (by kernel_rfl) ?_)
      | (go_at_call 16; (with_reducible refine (HCp.out _ X1.out).mono ?_); rintro e w5 ⟨A5, n5, c5, B5, m5, d5, rfl, hl5, hc5, hd5, hb5, hf5, hg5⟩; have L5 := Lib.hid (L1.out.through hb5); have E5 := Lib.hid (E1.out.through hb5); have Z5 := Lib.hid (Z1.out.through hb5); have X5 : Hid (Below w.heap.size w w5) := Lib.hid (below_step X1.out hb5); have S5 : Hid (w.heap.size + 3 ≤ w5.heap.size) := Lib.hid (Nat.le_trans S1.out hb5.size); have HL5 := Lib.hid hl5; have HC5 := Lib.hid hc5; have HD5 := Lib.hid hd5; have HF5 := Lib.hid (fun a ha => Nat.le_trans S1.out (hf5 a ha)); have HG5 := Lib.hid (fun a ha => Nat.le_trans S1.out (hg5 a ha)); clear hb5 hl5 hc5 hd5 hf5 hg5)
      | (refine wpList_store_blk rfl 25 (.tmp 6) (.tmp 16) rfl (w.heap.size + 2) [.int .i64 l.sq, .int .i64 l.tt, .slice A5 n5 c5, .slice B5 m5 d5] rfl rfl 25 [.int .i64 0, .int .i64 0, .slice none 0 0, .slice none 0 0] Z5.out (by kernel_rfl) rfl (one4l _ _ _ _ _ _ _ _) ?_; intro w9 hb9 hg9; have HB9 := Lib.hid hb9; have X9 : Hid (Below w.heap.size w w9) := Lib.hid (X5.out.grown hg9 X5.out.size (fun k hk => by have := Option.some.inj hk; omega)); have HG9 := Lib.hid hg9; clear hb9 hg9))
  (try simp only [Exit.inBlock, Exit.then]); refine bodyPost_ret (results_cell_row_tmp1 rfl _ _ (w.heap.size + 2) 25 _ (0, 0) _ rfl HB9.out Tryz.underlying25 rfl (by kernel_rfl)) rfl ⟨A5, n5, c5, B5, m5, d5, rfl, ⟨HL5.out.1.far HG9.out (fun a ha => by have := HF5.out a ha; omega), HL5.out.2.far HG9.out (fun a ha => by have := HG5.out a ha; omega)⟩, HC5.out, HD5.out, X9.out, (fun a ha => by have := HF5.out a ha; omega), fun a ha => by have := HG5.out a ha; omega⟩

set_option maxHeartbeats 8000000 in
set_option maxRecDepth 100000 in
theorem do_bad (y : Ey) (n : Int) (l : Lg) (A : Option Addr) (nn c : Nat) (B : Option Addr) (m d : Nat) (w : World) (hL : LgIn w A nn B m l) (hn : nn ≤ 900) (hm : m ≤ 900) (hlt : y.co.lt.length ≤ 140737488355328) (hq : staleL l y.co = false) (hk : chkC y.co n ≠ 0) :
    Calls Tryz.prog 8 #[.agg #[.int .i64 l.sq, .int .i64 l.tt, .slice A nn c, .slice B m d], .agg #[.int .i64 y.co.cl, .int .i64 y.co.sp, .int .i64 y.co.op, .string (ba y.co.lt), .int .i64 y.co.a, .int .i64 y.co.b, .string (ba y.co.tx), .int .u32 (y.ms : Int)], .int .i64 n] w (LgOutCE w l (chkC y.co n)) := by
  have X0 : Hid (Below w.heap.size w (((w.alloc (.cells #[.int .i64 l.sq, .int .i64 l.tt, .slice A nn c, .slice B m d] 25)).alloc (.cells #[.int .i64 y.co.cl, .int .i64 y.co.sp, .int .i64 y.co.op, .string (ba y.co.lt), .int .i64 y.co.a, .int .i64 y.co.b, .string (ba y.co.tx), .int .u32 (y.ms : Int)] 30)).alloc (.cells #[.int .i64 0, .int .i64 0, .slice none 0 0, .slice none 0 0] 25))) := Lib.hid (below3 w _ _ _)
  have L0 : Hid (Blk (((w.alloc (.cells #[.int .i64 l.sq, .int .i64 l.tt, .slice A nn c, .slice B m d] 25)).alloc (.cells #[.int .i64 y.co.cl, .int .i64 y.co.sp, .int .i64 y.co.op, .string (ba y.co.lt), .int .i64 y.co.a, .int .i64 y.co.b, .string (ba y.co.tx), .int .u32 (y.ms : Int)] 30)).alloc (.cells #[.int .i64 0, .int .i64 0, .slice none 0 0, .slice none 0 0] 25)) w.heap.size 25 [.int .i64 l.sq, .int .i64 l.tt, .slice A nn c, .slice B m d]) := Lib.hid (((Blk.fresh rfl rfl).alloc _).alloc _)
  have E0 : Hid (Blk (((w.alloc (.cells #[.int .i64 l.sq, .int .i64 l.tt, .slice A nn c, .slice B m d] 25)).alloc (.cells #[.int .i64 y.co.cl, .int .i64 y.co.sp, .int .i64 y.co.op, .string (ba y.co.lt), .int .i64 y.co.a, .int .i64 y.co.b, .string (ba y.co.tx), .int .u32 (y.ms : Int)] 30)).alloc (.cells #[.int .i64 0, .int .i64 0, .slice none 0 0, .slice none 0 0] 25)) (w.heap.size + 1) 30 [.int .i64 y.co.cl, .int .i64 y.co.sp, .int .i64 y.co.op, .string (ba y.co.lt), .int .i64 y.co.a, .int .i64 y.co.b, .string (ba y.co.tx), .int .u32 (y.ms : Int)]) := Lib.hid ((Blk.fresh (by simp) rfl).alloc _)
  have Z0 : Hid (Blk (((w.alloc (.cells #[.int .i64 l.sq, .int .i64 l.tt, .slice A nn c, .slice B m d] 25)).alloc (.cells #[.int .i64 y.co.cl, .int .i64 y.co.sp, .int .i64 y.co.op, .string (ba y.co.lt), .int .i64 y.co.a, .int .i64 y.co.b, .string (ba y.co.tx), .int .u32 (y.ms : Int)] 30)).alloc (.cells #[.int .i64 0, .int .i64 0, .slice none 0 0, .slice none 0 0] 25)) (w.heap.size + 2) 25 [.int .i64 0, .int .i64 0, .slice none 0 0, .slice none 0 0]) := Lib.hid (Blk.fresh (by simp) rfl)
  have S0 : Hid (w.heap.size + 3 ≤ (((w.alloc (.cells #[.int .i64 l.sq, .int .i64 l.tt, .slice A nn c, .slice B m d] 25)).alloc (.cells #[.int .i64 y.co.cl, .int .i64 y.co.sp, .int .i64 y.co.op, .string (ba y.co.lt), .int .i64 y.co.a, .int .i64 y.co.b, .string (ba y.co.tx), .int .u32 (y.ms : Int)] 30)).alloc (.cells #[.int .i64 0, .int .i64 0, .slice none 0 0, .slice none 0 0] 25)).heap.size) := Lib.hid (by simp)
  have hz := Tryz.zero_lg
  have hst : ∀ W, Below w.heap.size w W → Calls Tryz.prog 15 #[.agg #[.int .i64 l.sq, .int .i64 l.tt, .slice A nn c, .slice B m d], .agg #[.int .i64 y.co.cl, .int .i64 y.co.sp, .int .i64 y.co.op, .string (ba y.co.lt), .int .i64 y.co.a, .int .i64 y.co.b, .string (ba y.co.tx)]] W fun e w' => e = .returned (.bool (staleL l y.co)) ∧ Below W.heap.size W w' := fun W hW => stale_any y l A nn c B m d W (hL.through hW) (by omega)
  have hck : ∀ W, Calls Tryz.prog 17 #[.agg #[.int .i64 y.co.cl, .int .i64 y.co.sp, .int .i64 y.co.op, .string (ba y.co.lt), .int .i64 y.co.a, .int .i64 y.co.b, .string (ba y.co.tx)], .int .i64 n] W fun e w' => e = .returned (.int .i64 (chkC y.co n)) ∧ Below W.heap.size W w' := fun W => chkC_any y.co n W hlt
  have hcp : ∀ W, Below w.heap.size w W → Calls Tryz.prog 16 #[.agg #[.int .i64 l.sq, .int .i64 l.tt, .slice A nn c, .slice B m d]] W fun e w' => ∃ A5 n5 c5 B5 m5 d5, e = .returned (.agg #[.int .i64 l.sq, .int .i64 l.tt, .slice A5 n5 c5, .slice B5 m5 d5]) ∧ LgIn w' A5 n5 B5 m5 l ∧ n5 ≤ c5 ∧ m5 ≤ d5 ∧ Below W.heap.size W w' ∧ (∀ a, A5 = some a → W.heap.size ≤ a.block) ∧ ∀ a, B5 = some a → W.heap.size ≤ a.block := fun W hW => copy_any l A nn c B m d W (hL.through hW) (by omega) (by omega)
  have HCp := Lib.hid hcp
  rw [hq] at hst
  obtain ⟨r, hr⟩ : ∃ r, chkC y.co n = r := ⟨_, rfl⟩
  rw [hr] at hck hk ⊢
  have hr0 : (r != 0) = true := by simp [hk]
  have HSt := Lib.hid hst
  have HCk := Lib.hid hck
  clear hst hck hcp hL hn hm hlt hq hk hr
  go_enter Tryz.func8, Tryz.ntmps8
  go_wp2_with (first
        | (refine wpList_load_blk rfl 25 (.tmp 3) rfl w.heap.size rfl 25 [.int .i64 l.sq, .int .i64 l.tt, .slice A nn c, .slice B m d] _ L0.out Tryz.underlying25 rfl (by kernel_rfl) ?_)
        | (refine wpList_load_mid rfl 27 (.tmp 12) rfl (w.heap.size + 1) 0 rfl [.int .i64 y.co.cl, .int .i64 y.co.sp, .int .i64 y.co.op, .string (ba y.co.lt), .int .i64 y.co.a, .int .i64 y.co.b, .string (ba y.co.tx)] _ (E0.out.mid [] _ [.int .u32 (y.ms : Int)] 0 rfl rfl) Tryz.underlying27 rfl (by kernel_rfl) ?_)
        | (go_at_call 15; (with_reducible refine (HSt.out _ X0.out).mono ?_); rintro e w1 ⟨rfl, hb1⟩; have L1 := Lib.hid (L0.out.through hb1); have E1 := Lib.hid (E0.out.through hb1); have Z1 := Lib.hid (Z0.out.through hb1); have X1 : Hid (Below w.heap.size w w1) := Lib.hid (below_step X0.out hb1); have S1 : Hid (w.heap.size + 3 ≤ w1.heap.size) := Lib.hid (Nat.le_trans S0.out hb1.size); clear hb1)
        | (refine wpList_load_mid rfl 27 (.tmp 17) rfl (w.heap.size + 1) 0 rfl [.int .i64 y.co.cl, .int .i64 y.co.sp, .int .i64 y.co.op, .string (ba y.co.lt), .int .i64 y.co.a, .int .i64 y.co.b, .string (ba y.co.tx)] _ (E1.out.mid [] _ [.int .u32 (y.ms : Int)] 0 rfl rfl) Tryz.underlying27 rfl (by kernel_rfl) ?_)
        | (go_at_call 17; (with_reducible refine (HCk.out _).mono ?_); rintro e w2 ⟨rfl, hb2⟩; have L2 := Lib.hid (L1.out.through hb2); have E2 := Lib.hid (E1.out.through hb2); have Z2 := Lib.hid (Z1.out.through hb2); have X2 : Hid (Below w.heap.size w w2) := Lib.hid (below_step X1.out hb2); have S2 : Hid (w.heap.size + 3 ≤ w2.heap.size) := Lib.hid (Nat.le_trans S1.out hb2.size); clear hb2)
        | (refine wpList_load_blk rfl 25 (.tmp 3) rfl w.heap.size rfl 25 [.int .i64 l.sq, .int .i64 l.tt, .slice A nn c, .slice B m d] _ L2.out Tryz.underlying25 rfl (by kernel_rfl) ?_)
        | (go_at_call 16; (with_reducible refine (HCp.out _ X2.out).mono ?_); rintro e w5 ⟨A5, n5, c5, B5, m5, d5, rfl, hl5, hc5, hd5, hb5, hf5, hg5⟩; have L5 := Lib.hid (L2.out.through hb5); have E5 := Lib.hid (E2.out.through hb5); have Z5 := Lib.hid (Z2.out.through hb5); have X5 : Hid (Below w.heap.size w w5) := Lib.hid (below_step X2.out hb5); have S5 : Hid (w.heap.size + 3 ≤ w5.heap.size) := Lib.hid (Nat.le_trans S2.out hb5.size); have HL5 := Lib.hid hl5; have HC5 := Lib.hid hc5; have HD5 := Lib.hid hd5; have HF5 := Lib.hid (fun a ha => Nat.le_trans S2.out (hf5 a ha)); have HG5 := Lib.hid (fun a ha => Nat.le_trans S2.out (hg5 a ha)); clear hb5 hl5 hc5 hd5 hf5 hg5)
        | (refine wpList_store_blk rfl 25 (.tmp 6) (.tmp 24) rfl (w.heap.size + 2) [.int .i64 l.sq, .int .i64 l.tt, .slice A5 n5 c5, .slice B5 m5 d5] rfl rfl 25 [.int .i64 0, .int .i64 0, .slice none 0 0, .slice none 0 0] Z5.out (by kernel_rfl) rfl (one4l _ _ _ _ _ _ _ _) ?_; intro w9 hb9 hg9; have HB9 := Lib.hid hb9; have X9 : Hid (Below w.heap.size w w9) := Lib.hid (X5.out.grown hg9 X5.out.size (fun k hk => by have := Option.some.inj hk; omega)); have HG9 := Lib.hid hg9; clear hb9 hg9))
  (try simp only [Exit.inBlock, Exit.then]); refine bodyPost_ret (results_cell_row_tmp1 rfl _ _ (w.heap.size + 2) 25 _ (0, 0) _ rfl HB9.out Tryz.underlying25 rfl (by kernel_rfl)) rfl ⟨A5, n5, c5, B5, m5, d5, rfl, ⟨HL5.out.1.far HG9.out (fun a ha => by have := HF5.out a ha; omega), HL5.out.2.far HG9.out (fun a ha => by have := HG5.out a ha; omega)⟩, HC5.out, HD5.out, X9.out, (fun a ha => by have := HF5.out a ha; omega), fun a ha => by have := HG5.out a ha; omega⟩


end Go.Proofs.YtfflkodgojiklaaGreatDoor
