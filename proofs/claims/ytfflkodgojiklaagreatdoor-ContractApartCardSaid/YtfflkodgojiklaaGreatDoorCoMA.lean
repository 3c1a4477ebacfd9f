/-
  The law ContractMet.
-/
import Derived.Test.YtfflkodgojiklaaGreatDoorCoLW
import Derived.Test.YtfflkodgojiklaaGreatDoorCoLF
namespace Go.Proofs.YtfflkodgojiklaaGreatDoor
open Go.RowKit

theorem wpList_build_el_w {P : Program} {s e : TypeId} {k bytes : Nat} {z : Value} {ops : Array Oper} {rest : List Oper} {o : Oper} {a : Act} {w : World} {Q : Exit → Act → World → Prop} (hgd : o.guard = none) (E : El P s e k bytes z) (x : Operand) (ho : o.op = .buildSlice s 1 #[(0, x)])
    (q : List Value) (hx : a.eval x = .agg q.toArray) (hq : q.length = k)
    (h : ∀ g w', Blk w' g e q → Below w.heap.size w w' → wpList P ops Q rest (a.put o.dst (.slice (some ⟨g, 0, none⟩) 1 1)) w') : wpList P ops Q (o :: rest) a w :=
  wpList_build_el hgd E x ho q hx hq (h _ _ (Blk.fresh rfl rfl) (below1 w _))
theorem EysIn.one {w : World} {g : Nat} {y : Ey} (h : Blk w g 30 [.int .i64 y.co.cl, .int .i64 y.co.sp, .int .i64 y.co.op, .string (ba y.co.lt), .int .i64 y.co.a, .int .i64 y.co.b, .string (ba y.co.tx), .int .u32 (y.ms : Int)]) (hs : y.ms < 4294967296) : EysIn w (some ⟨g, 0, none⟩) 1 [y] := by
  refine ⟨⟨rfl, fun _ => ⟨g, 0, rfl, fun i cs hi => ?_⟩⟩, fun z hz => by simp at hz; subst hz; exact hs⟩
  match i, hi with
  | 0, hi =>
    injection hi with hi
    subst hi
    exact h.mid [] _ [] 0 (by simp [Ey.cells]) rfl
theorem do_lens (l : Lg) (y : Ey) (n : Int) : (doL l y n).1.ls.length ≤ l.ls.length + 1 ∧ (doL l y n).1.os.length ≤ l.os.length + 1 := by
  unfold doL
  by_cases h1 : staleL l y.co = true
  · rw [if_pos h1]; simp only; omega
  rw [if_neg h1]
  by_cases h2 : chkC y.co n ≠ 0
  · rw [if_pos h2]; simp only; omega
  rw [if_neg h2]
  simp only
  have ht := toldL_lens (resD l y n).1 ⟨y.co.cl, y.co.sp, (resD l y n).2⟩
  have hr := resD_led l y n
  by_cases h0 : (resD l y n).2 = 0
  · rw [hr.1 h0] at ht ⊢
    have hw := withL_lens l (nextD (oldL l y.co) y.co)
    have e1 : (finL l y).ls = (withL l (nextD (oldL l y.co) y.co)).1.ls := rfl
    have e2 : (finL l y).os = (withL l (nextD (oldL l y.co) y.co)).1.os := rfl
    rw [e1, e2] at ht
    omega
  · rw [hr.2 h0] at ht ⊢
    omega
theorem few_one {w : World} {A B : Option Addr} {n m : Nat} {l : Lg} {y : Ey} (h : LgIn w A n B m l) (hq : fewC l [y] = true) : n ≤ 64 ∧ m ≤ 64 ∧ y.co.lt.length ≤ 100 ∧ y.co.tx.length ≤ 300 ∧ ∀ x ∈ l.ls, x.nm.length ≤ 100 ∧ x.po.length ≤ 300 ∧ x.pa.length ≤ 300 := by
  have h1 := h.len.1
  have h2 := h.len.2
  simp [fewC, fewE, fewX] at hq
  refine ⟨by omega, by omega, hq.2.1.1, hq.2.1.2, fun x hx => ?_⟩
  have := hq.1 x hx
  exact ⟨this.1.1, this.1.2, this.2⟩
theorem old_po {l : Lg} {c : Cr} {b : Nat} (h : ∀ x ∈ l.ls, x.po.length ≤ b) : (oldL l c).po.length ≤ b := by
  unfold oldL
  cases hf : findL c.lt l.ls with
  | none => simp [findR, Lt.no]
  | some x =>
    rw [findL_G] at hf
    exact h x (findG_mem hf).1
theorem stale_again (l : Lg) (y : Ey) (n : Int) (h : (doL l y n).2 = 0) : staleL (doL l y n).1 y.co = true := by
  rw [(do_steps l y n h).2.2.2]
  unfold staleL
  have h2 : lastL y.co.cl (toldL (finL l y) ⟨y.co.cl, y.co.sp, 0⟩).os = some ⟨y.co.cl, y.co.sp, 0⟩ := told_last (finL l y) ⟨y.co.cl, y.co.sp, 0⟩
  rw [h2]
  simp
theorem rng_of_check {f : Fm} (h : f.check 4 = 0) : f.rng 7 = true := by
  unfold Fm.check at h
  rw [if_neg (by omega)] at h
  split at h
  · cases h
  split at h
  · cases h
  split at h
  · cases h
  rename_i h1
  exact Fm.rng_grow (a := 4) (b := 7) (by omega) f (by simpa using h1)
theorem few_text {l : Lg} {y : Ey} (htx : y.co.tx.length ≤ 300) (hpo : ∀ x ∈ l.ls, x.nm.length ≤ 100 ∧ x.po.length ≤ 300 ∧ x.pa.length ≤ 300) : (textL l y.co).length ≤ 1000 := by
  have := old_po (c := y.co) (b := 300) (fun x hx => (hpo x hx).2.1)
  unfold textL
  split <;> omega
theorem Tryz.build_lg_2 (A : Option Addr) (n c : Nat) (w : World) : (Instr.build 25 #[(2, .slice A n c)]).run Tryz.prog w = .ok (.agg #[.int .i64 0, .int .i64 0, .slice A n c, .slice none 0 0]) w := by kernel_rfl

set_option maxHeartbeats 8000000 in
set_option maxRecDepth 100000 in
theorem met_few (l : Lg) (y : Ey) (A : Option Addr) (n c : Nat) (B : Option Addr) (m d : Nat) (w : World) (hI : LgIn w A n B m l) (hn : n ≤ maxLen) (hLe : Led w) (hEv : EV w) (hs : y.ms < 4294967296) (hq : fewC l [y] = false) : Calls Tryz.prog 3 #[.agg #[.int .i64 l.sq, .int .i64 l.tt, .slice A n c, .slice B m d], .agg #[.int .i64 y.co.cl, .int .i64 y.co.sp, .int .i64 y.co.op, .string (ba y.co.lt), .int .i64 y.co.a, .int .i64 y.co.b, .string (ba y.co.tx), .int .u32 (y.ms : Int)]] w fun e w' => e = .returned (.bool true) ∧ Below w.heap.size w w' := by
  have X0 : Hid (Below w.heap.size w ((w.alloc (.cells #[.int .i64 l.sq, .int .i64 l.tt, .slice A n c, .slice B m d] 25)).alloc (.cells #[.int .i64 y.co.cl, .int .i64 y.co.sp, .int .i64 y.co.op, .string (ba y.co.lt), .int .i64 y.co.a, .int .i64 y.co.b, .string (ba y.co.tx), .int .u32 (y.ms : Int)] 30))) := Lib.hid (below2 w _ _)
  have L0 : Hid (Blk ((w.alloc (.cells #[.int .i64 l.sq, .int .i64 l.tt, .slice A n c, .slice B m d] 25)).alloc (.cells #[.int .i64 y.co.cl, .int .i64 y.co.sp, .int .i64 y.co.op, .string (ba y.co.lt), .int .i64 y.co.a, .int .i64 y.co.b, .string (ba y.co.tx), .int .u32 (y.ms : Int)] 30)) w.heap.size 25 [.int .i64 l.sq, .int .i64 l.tt, .slice A n c, .slice B m d]) := Lib.hid ((Blk.fresh rfl rfl).alloc _)
  have E0 : Hid (Blk ((w.alloc (.cells #[.int .i64 l.sq, .int .i64 l.tt, .slice A n c, .slice B m d] 25)).alloc (.cells #[.int .i64 y.co.cl, .int .i64 y.co.sp, .int .i64 y.co.op, .string (ba y.co.lt), .int .i64 y.co.a, .int .i64 y.co.b, .string (ba y.co.tx), .int .u32 (y.ms : Int)] 30)) (w.heap.size + 1) 30 [.int .i64 y.co.cl, .int .i64 y.co.sp, .int .i64 y.co.op, .string (ba y.co.lt), .int .i64 y.co.a, .int .i64 y.co.b, .string (ba y.co.tx), .int .u32 (y.ms : Int)]) := Lib.hid (Blk.fresh (by simp) rfl)
  have hfx : ∀ W, Below w.heap.size w W → Calls Tryz.prog 6 #[] W fun e w' => e = .returned (.bool true) ∧ Below W.heap.size W w' := fun W hW => fixed_any W (hLe.through hW) (hEv.through hW)
  have hfw : ∀ (W : World) (g : Nat), Below w.heap.size w W → EysIn W (some ⟨g, 0, none⟩) 1 [y] → Calls Tryz.prog 7 #[.agg #[.int .i64 l.sq, .int .i64 l.tt, .slice A n c, .slice B m d], .slice (some ⟨g, 0, none⟩) 1 1] W fun e w' => e = .returned (.bool (fewC l [y])) ∧ Below W.heap.size W w' := fun W g hW hE => few_any l [y] A n c B m d (some ⟨g, 0, none⟩) 1 1 W (hI.through hW) hE hn (by decide)
  rw [hq] at hfw
  have HFx := Lib.hid hfx
  have HFw := Lib.hid hfw
  have HS := Lib.hid hs
  clear hfx hfw hI hn hLe hEv hs hq
  go_enter Tryz.func3, Tryz.ntmps3
  go_wp2_with (first
    | (go_at_call 6; (with_reducible refine (HFx.out _ X0.out).mono ?_); rintro e w1 ⟨rfl, hb⟩; have L1 := Lib.hid ((L0.out.through hb)); have E1 := Lib.hid ((E0.out.through hb)); have X1 : Hid (Below w.heap.size w w1) := Lib.hid (below_step X0.out hb); clear hb)
    | (refine wpList_load_blk rfl 25 (.tmp 2) rfl w.heap.size rfl 25 [.int .i64 l.sq, .int .i64 l.tt, .slice A n c, .slice B m d] _ L1.out Tryz.underlying25 rfl (by kernel_rfl) ?_)
    | (refine wpList_load_blk rfl 30 (.tmp 3) rfl (w.heap.size + 1) rfl 30 [.int .i64 y.co.cl, .int .i64 y.co.sp, .int .i64 y.co.op, .string (ba y.co.lt), .int .i64 y.co.a, .int .i64 y.co.b, .string (ba y.co.tx), .int .u32 (y.ms : Int)] _ E1.out Tryz.underlying30 rfl (by kernel_rfl) ?_)
    | (refine wpList_build_el_w rfl Tryz.el_ey (.tmp 18) rfl [.int .i64 y.co.cl, .int .i64 y.co.sp, .int .i64 y.co.op, .string (ba y.co.lt), .int .i64 y.co.a, .int .i64 y.co.b, .string (ba y.co.tx), .int .u32 (y.ms : Int)] rfl rfl ?_; intro gb wb hbb hwb; have HEb := Lib.hid (EysIn.one hbb HS.out); have Lb := Lib.hid ((L1.out.through hwb)); have Eb := Lib.hid ((E1.out.through hwb)); have Xb : Hid (Below w.heap.size w wb) := Lib.hid (below_step X1.out hwb); clear hbb hwb)
    | (go_at_call 7; (with_reducible refine (HFw.out _ _ Xb.out HEb.out).mono ?_); rintro e w2 ⟨rfl, hb⟩; have L2 := Lib.hid ((Lb.out.through hb)); have E2 := Lib.hid ((Eb.out.through hb)); have X2 : Hid (Below w.heap.size w w2) := Lib.hid (below_step Xb.out hb); clear hb))
  go_ret
  exact ⟨(by first | trivial | exact ret_b rfl), X2.out⟩

set_option maxHeartbeats 8000000 in
set_option maxRecDepth 100000 in
theorem met_bad (l : Lg) (y : Ey) (A : Option Addr) (n c : Nat) (B : Option Addr) (m d : Nat) (w : World) (hI : LgIn w A n B m l) (hnc : n ≤ c) (hmd : m ≤ d) (hn : n ≤ maxLen) (hLe : Led w) (hEv : EV w) (hs : y.ms < 4294967296) (hq : fewC l [y] = true) (hr : (doL l y 4).2 ≠ 0) : Calls Tryz.prog 3 #[.agg #[.int .i64 l.sq, .int .i64 l.tt, .slice A n c, .slice B m d], .agg #[.int .i64 y.co.cl, .int .i64 y.co.sp, .int .i64 y.co.op, .string (ba y.co.lt), .int .i64 y.co.a, .int .i64 y.co.b, .string (ba y.co.tx), .int .u32 (y.ms : Int)]] w fun e w' => e = .returned (.bool true) ∧ Below w.heap.size w w' := by
  have X0 : Hid (Below w.heap.size w ((w.alloc (.cells #[.int .i64 l.sq, .int .i64 l.tt, .slice A n c, .slice B m d] 25)).alloc (.cells #[.int .i64 y.co.cl, .int .i64 y.co.sp, .int .i64 y.co.op, .string (ba y.co.lt), .int .i64 y.co.a, .int .i64 y.co.b, .string (ba y.co.tx), .int .u32 (y.ms : Int)] 30))) := Lib.hid (below2 w _ _)
  have L0 : Hid (Blk ((w.alloc (.cells #[.int .i64 l.sq, .int .i64 l.tt, .slice A n c, .slice B m d] 25)).alloc (.cells #[.int .i64 y.co.cl, .int .i64 y.co.sp, .int .i64 y.co.op, .string (ba y.co.lt), .int .i64 y.co.a, .int .i64 y.co.b, .string (ba y.co.tx), .int .u32 (y.ms : Int)] 30)) w.heap.size 25 [.int .i64 l.sq, .int .i64 l.tt, .slice A n c, .slice B m d]) := Lib.hid ((Blk.fresh rfl rfl).alloc _)
  have E0 : Hid (Blk ((w.alloc (.cells #[.int .i64 l.sq, .int .i64 l.tt, .slice A n c, .slice B m d] 25)).alloc (.cells #[.int .i64 y.co.cl, .int .i64 y.co.sp, .int .i64 y.co.op, .string (ba y.co.lt), .int .i64 y.co.a, .int .i64 y.co.b, .string (ba y.co.tx), .int .u32 (y.ms : Int)] 30)) (w.heap.size + 1) 30 [.int .i64 y.co.cl, .int .i64 y.co.sp, .int .i64 y.co.op, .string (ba y.co.lt), .int .i64 y.co.a, .int .i64 y.co.b, .string (ba y.co.tx), .int .u32 (y.ms : Int)]) := Lib.hid (Blk.fresh (by simp) rfl)
  have hfx : ∀ W, Below w.heap.size w W → Calls Tryz.prog 6 #[] W fun e w' => e = .returned (.bool true) ∧ Below W.heap.size W w' := fun W hW => fixed_any W (hLe.through hW) (hEv.through hW)
  have hfw : ∀ (W : World) (g : Nat), Below w.heap.size w W → EysIn W (some ⟨g, 0, none⟩) 1 [y] → Calls Tryz.prog 7 #[.agg #[.int .i64 l.sq, .int .i64 l.tt, .slice A n c, .slice B m d], .slice (some ⟨g, 0, none⟩) 1 1] W fun e w' => e = .returned (.bool (fewC l [y])) ∧ Below W.heap.size W w' := fun W g hW hE => few_any l [y] A n c B m d (some ⟨g, 0, none⟩) 1 1 W (hI.through hW) hE hn (by decide)
  rw [hq] at hfw
  have HFx := Lib.hid hfx
  have HFw := Lib.hid hfw
  have HS := Lib.hid hs
  obtain ⟨hn64, hm64, hlt, htx, hpo⟩ := few_one hI hq
  have hdo : ∀ W, Below w.heap.size w W → Calls Tryz.prog 8 #[.agg #[.int .i64 l.sq, .int .i64 l.tt, .slice A n c, .slice B m d], .agg #[.int .i64 y.co.cl, .int .i64 y.co.sp, .int .i64 y.co.op, .string (ba y.co.lt), .int .i64 y.co.a, .int .i64 y.co.b, .string (ba y.co.tx), .int .u32 (y.ms : Int)], .int .i64 4] W (LgOutCE W (doL l y 4).1 (doL l y 4).2) := fun W hW => do_any y 4 l A n c B m d W (hI.through hW) hnc hmd (by omega) (by omega) (hLe.through hW) (hEv.through hW) hs (by omega) (few_text htx hpo)
  have hs1 : ∀ (W : World) (A5 : Option Addr) (n5 c5 : Nat) (B5 : Option Addr) (m5 : Nat), Below w.heap.size w W → LgIn W A5 n5 B5 m5 (doL l y 4).1 → Calls Tryz.prog 9 #[.agg #[.int .i64 0, .int .i64 0, .slice A5 n5 c5, .slice none 0 0], .agg #[.int .i64 0, .int .i64 0, .slice A n c, .slice none 0 0]] W fun e w' => e = .returned (.bool ((⟨0, 0, (doL l y 4).1.ls, []⟩ : Lg).same ⟨0, 0, l.ls, []⟩)) ∧ Below W.heap.size W w' := fun W A5 n5 c5 B5 m5 hW h5 => by
    have hlen := (do_lens l y 4).1
    have h6 := h5.len.1
    have h7 := hI.len.1
    exact rsame_any ⟨0, 0, (doL l y 4).1.ls, []⟩ ⟨0, 0, l.ls, []⟩ A5 n5 c5 none 0 0 A n c none 0 0 W ⟨h5.1, Sl.none_⟩ ⟨(hI.through hW).1, Sl.none_⟩ (by omega) (by omega) (by omega) (by omega)
  obtain ⟨hk1, hk2⟩ := do_kept l y 4 hr
  rw [hk2] at hs1
  have hsm := Lg.same_self ⟨0, 0, l.ls, []⟩
  rw [hsm] at hs1
  obtain ⟨⟨q, r⟩, hqr⟩ : ∃ q, doL l y 4 = q := ⟨_, rfl⟩
  rw [hqr] at hdo hs1 hr hk1
  simp only at hdo hs1 hr hk1
  have hdo2 : ∀ W, Below w.heap.size w W → Calls Tryz.prog 8 #[.agg #[.int .i64 l.sq, .int .i64 l.tt, .slice A n c, .slice B m d], .agg #[.int .i64 y.co.cl, .int .i64 y.co.sp, .int .i64 y.co.op, .string (ba y.co.lt), .int .i64 y.co.a, .int .i64 y.co.b, .string (ba y.co.tx), .int .u32 (y.ms : Int)], .int .i64 4] W fun e w' => ∃ A5 n5 c5 B5 m5 d5, e = .returned (.tuple #[.agg #[.int .i64 q.sq, .int .i64 q.tt, .slice A5 n5 c5, .slice B5 m5 d5], .int .i64 r]) ∧ LgIn w' A5 n5 B5 m5 q ∧ n5 ≤ c5 ∧ m5 ≤ d5 ∧ Below W.heap.size W w' ∧ (∀ a, A5 = some a → W.heap.size ≤ a.block) ∧ ∀ a, B5 = some a → W.heap.size ≤ a.block := hdo
  have HDo := Lib.hid hdo2
  have HS1 := Lib.hid hs1
  have ht : (q.tt == l.tt) = true := by simp [hk1]
  have hr0 : (r != 0) = true := by simp [hr]
  have hb2 := Tryz.build_lg_2
  clear hfx hfw hI hnc hmd hn hLe hEv hs hq hdo hdo2 hs1 hr hk1 hk2 hqr hsm hn64 hm64 hlt htx hpo
  go_enter Tryz.func3, Tryz.ntmps3
  go_wp2_with (first
    | (go_at_call 6; (with_reducible refine (HFx.out _ X0.out).mono ?_); rintro e w1 ⟨rfl, hb⟩; have L1 := Lib.hid ((L0.out.through hb)); have E1 := Lib.hid ((E0.out.through hb)); have X1 : Hid (Below w.heap.size w w1) := Lib.hid (below_step X0.out hb); clear hb)
    | (refine wpList_load_blk rfl 25 (.tmp 2) rfl w.heap.size rfl 25 [.int .i64 l.sq, .int .i64 l.tt, .slice A n c, .slice B m d] _ L1.out Tryz.underlying25 rfl (by kernel_rfl) ?_)
    | (refine wpList_load_blk rfl 30 (.tmp 3) rfl (w.heap.size + 1) rfl 30 [.int .i64 y.co.cl, .int .i64 y.co.sp, .int .i64 y.co.op, .string (ba y.co.lt), .int .i64 y.co.a, .int .i64 y.co.b, .string (ba y.co.tx), .int .u32 (y.ms : Int)] _ E1.out Tryz.underlying30 rfl (by kernel_rfl) ?_)
    | (refine wpList_build_el_w rfl Tryz.el_ey (.tmp 18) rfl [.int .i64 y.co.cl, .int .i64 y.co.sp, .int .i64 y.co.op, .string (ba y.co.lt), .int .i64 y.co.a, .int .i64 y.co.b, .string (ba y.co.tx), .int .u32 (y.ms : Int)] rfl rfl ?_; intro gb wb hbb hwb; have HEb := Lib.hid (EysIn.one hbb HS.out); have Lb := Lib.hid ((L1.out.through hwb)); have Eb := Lib.hid ((E1.out.through hwb)); have Xb : Hid (Below w.heap.size w wb) := Lib.hid (below_step X1.out hwb); clear hbb hwb)
    | (go_at_call 7; (with_reducible refine (HFw.out _ _ Xb.out HEb.out).mono ?_); rintro e w2 ⟨rfl, hb⟩; have L2 := Lib.hid ((Lb.out.through hb)); have E2 := Lib.hid ((Eb.out.through hb)); have X2 : Hid (Below w.heap.size w w2) := Lib.hid (below_step Xb.out hb); clear hb)
    | (refine wpList_load_blk rfl 25 (.tmp 2) rfl w.heap.size rfl 25 [.int .i64 l.sq, .int .i64 l.tt, .slice A n c, .slice B m d] _ L2.out Tryz.underlying25 rfl (by kernel_rfl) ?_)
    | (refine wpList_load_blk rfl 30 (.tmp 3) rfl (w.heap.size + 1) rfl 30 [.int .i64 y.co.cl, .int .i64 y.co.sp, .int .i64 y.co.op, .string (ba y.co.lt), .int .i64 y.co.a, .int .i64 y.co.b, .string (ba y.co.tx), .int .u32 (y.ms : Int)] _ E2.out Tryz.underlying30 rfl (by kernel_rfl) ?_)
    | (go_at_call 8; (with_reducible refine (HDo.out _ X2.out).mono ?_); rintro e w3 ⟨A5, n5, c5, B5, m5, d5, rfl, hi, hc, hd, hb, hf, hg⟩; have L3 := Lib.hid ((L2.out.through hb).alloc (.cells #[.int .i64 q.sq, .int .i64 q.tt, .slice A5 n5 c5, .slice B5 m5 d5] 25)); have E3 := Lib.hid ((E2.out.through hb).alloc (.cells #[.int .i64 q.sq, .int .i64 q.tt, .slice A5 n5 c5, .slice B5 m5 d5] 25)); have X3 : Hid (Below w.heap.size w (w3.alloc (.cells #[.int .i64 q.sq, .int .i64 q.tt, .slice A5 n5 c5, .slice B5 m5 d5] 25))) := Lib.hid ((below_step X2.out hb).alloc (Nat.le_trans X2.out.size hb.size) _); have K3 : Hid (Blk (w3.alloc (.cells #[.int .i64 q.sq, .int .i64 q.tt, .slice A5 n5 c5, .slice B5 m5 d5] 25)) w3.heap.size 25 [.int .i64 q.sq, .int .i64 q.tt, .slice A5 n5 c5, .slice B5 m5 d5]) := Lib.hid (Blk.fresh rfl rfl); have I3 := Lib.hid (hi.alloc (.cells #[.int .i64 q.sq, .int .i64 q.tt, .slice A5 n5 c5, .slice B5 m5 d5] 25)); have k1 := K3.out.cellAt (i := 1) rfl; have k2 := K3.out.cellAt (i := 2) rfl; have l1 := L3.out.cellAt (i := 1) rfl; have l2 := L3.out.cellAt (i := 2) rfl;  clear hi hc hd hb hf hg)
    | (go_at_call 9; (with_reducible refine (HS1.out _ _ _ _ _ _ X3.out I3.out).mono ?_); rintro e w4 ⟨rfl, hb⟩; have L4 := Lib.hid ((L3.out.through hb)); have E4 := Lib.hid ((E3.out.through hb)); have K4 := Lib.hid ((K3.out.through hb)); have I4 := Lib.hid ((I3.out.through hb)); have X4 : Hid (Below w.heap.size w w4) := Lib.hid (below_step X3.out hb);  clear hb k1 k2 l1 l2))
  go_ret
  exact ⟨(by first | trivial | exact ret_b rfl), X4.out⟩


end Go.Proofs.YtfflkodgojiklaaGreatDoor
