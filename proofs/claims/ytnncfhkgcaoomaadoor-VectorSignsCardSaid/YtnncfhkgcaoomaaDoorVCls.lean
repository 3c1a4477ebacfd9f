/-
  The two deferred closures of vector, where nothing panics; nil Cryptos; what a Crypto's calls must say.
-/
import Derived.Test.YtnncfhkgcaoomaaDoorVAll
import Derived.RegionTactic
import Derived.ChangeAlike
import Derived.StillTailTactics
import Derived.Deep.QuietTactic
import Derived.Outline
import Derived.Recover
namespace Go.Proofs.YtnncfhkgcaoomaaDoor
open Go.RowKit

/-- What is known of a Crypto of block g between its calls: it stands behind calls of others, and where other blocks of cells are written. -/
structure Crypt (St : Nat → World → Prop) (g : Nat) : Prop where
  lt : ∀ i w, St i w → g < w.heap.size
  below : ∀ i w w', St i w → Below w.heap.size w w' → St i w'
  cell : ∀ i w w' b, St i w → (∃ cs t fr, w.heap[b]? = some (.cells cs t fr)) → w.grownBy w' (some b) → g < b → St i w'
theorem Crypt.grown {St : Nat → World → Prop} {g i : Nat} (C : Crypt St g) {w w' : World} {v : Value} {base n s : Nat} {e : TypeId} {ys : List Value} (h : St i w) (hown : w.ownsRow base e s v n ys) (hb : g < base) (ho : w.grownBy w' v.ownBlock) : St i w' := by
  rcases hown.2 with ⟨rfl, _⟩ | ⟨b, cap, cur, rfl, hbg, hg, _⟩
  · exact C.below i w w' h ⟨ho.os, ho.tape, ho.output, ho.size, fun k hk => ho.block k hk (fun e => by cases e)⟩
  · exact C.cell i w w' b h ⟨_, _, _, hg⟩ ho (by omega)
theorem KF.grownOwn {g : Nat} {w W W' : World} {v : Value} {base n s : Nat} {e : TypeId} {ys : List Value} (h : KF g w W) (hown : W.ownsRow base e s v n ys) (ho : W.grownBy W' v.ownBlock) (hb : w.heap.size ≤ base) (hg : g < w.heap.size) : KF g w W' := by
  rcases hown.2 with ⟨rfl, _⟩ | ⟨b, cap, cur, rfl, hbg, _⟩
  · exact h.below hg ⟨ho.os, ho.tape, ho.output, ho.size, fun k hk => ho.block k hk (fun e => by cases e)⟩
  · exact h.grownB ho (Nat.le_trans hb hbg) hg
theorem step_store_cell {P : Program} {w : World} {ops : Array Oper} {o : Oper} {a : Act} {K : Act → World → Prop} {Q : Exit → Act → World → Prop} {E : Prop} (hw : Region.wanted o (yielded ops a.tmps) = true) (ty : TypeId) (x y : Operand) (ho : o.op = .store ty x y)
    (g i : Nat) (hx : a.eval x = .pointer (some ⟨g, i, none⟩)) (v : Value) (hy : a.eval y = v) (hv : v.cells = #[v]) (hv1 : v.oneCell' = true) (hsz : ∀ w, (sizeOf ty).run P w = .ok 1 w) (t : TypeId) (cs : List Value) (hb : Blk w g t cs) (hi : i < cs.length)
    (h : ∀ w', Blk w' g t (cs.set i v) → w.grownBy w' (some g) → K (a.put o.dst undef) w') : if Region.wanted o (yielded ops a.tmps) = true then Oper.wp P o a w K Q else E := by
  rw [if_pos hw]
  have hc := hb.cellAt (List.getElem?_eq_getElem hi)
  have hf := hb.frozen i
  have hrun : (Instr.storeAt ty (.pointer (some ⟨g, i, none⟩)) v).run P w = .ok () (w.setCell ⟨g, i, none⟩ v) := by
    simp only [Instr.storeAt, Instr.sureAddr, storeVar, Sem.run_bind, Sem.run_pure, Result.andThen_ok]
    have ha : (⟨g, i, none⟩ : Addr).add 0 = ⟨g, i, none⟩ := by simp [Addr.add]
    have hst := run_store P w ⟨g, i, none⟩ v .plain hv1
    simp only [hc, hf, Bool.false_eq_true, if_false] at hst
    simp [hv, storeCells, ha, hsz, hst]
  unfold Oper.wp execOp
  simp only [ho, hx, hy, Sem.run_bind, hrun, Result.andThen_ok]
  exact h _ (hb.set_ i v) (only_set w g i v)
theorem leaves_congr {P : Program} {fn : Func} {tmps tmps' : Array Value} {R : Ending → World → Prop} (he : ∀ w, (results fn tmps).run P w = (results fn tmps').run P w) : ∀ (ds : List Deferred) (u : FrameMode) (w : World), Leaves P fn tmps R ds u w → Leaves P fn tmps' R ds u w
  | [], .returning, w, ⟨v, h1, h2⟩ => ⟨v, (he w).symm.trans h1, h2⟩
  | [], .panicking _, _, h => h
  | [], .run, _, h => h
  | _ :: ds, _, _, ⟨hu, fv, cap, f, args, h1, h2, h3⟩ => ⟨hu, fv, cap, f, args, h1, h2, h3.mono (fun e u' w' h => by
      cases e with
      | returned v => exact leaves_congr he ds _ _ h
      | panicked c => exact leaves_congr he ds _ _ h
      | outgrown => exact h)⟩
/-- A panic of tags: which slot was written last is all one. -/
theorem tags_panic {R : Ending → World → Prop} {c : List PanicEntry} {d : Tmp} (hd : d ≠ 8) {v : Value} {a : Act} {w : World} (h : bodyPostD Tryd.prog Tryd.f14 R (.panic c) (a.put (some d) v) w) : bodyPostD Tryd.prog Tryd.f14 R (.panic c) a w :=
  leaves_congr (fun w => by
    have e : (a.put (some d) v).tmps[8]? = a.tmps[8]? := by
      simp only [Act.put]
      rw [Array.getElem?_setIfInBounds_ne hd]
    simp [results, Tryd.results14, e]) _ _ _ h
theorem step_build_one {P : Program} {ops : Array Oper} {o : Oper} {a : Act} {w : World} {K : Act → World → Prop} {Q : Exit → Act → World → Prop} {E : Prop} (hw : Region.wanted o (yielded ops a.tmps) = true) (t : TypeId) (x : Operand) (ho : o.op = .buildSlice t 1 #[(0, x)])
    (v : Value) (hx : a.eval x = v) (r : Value) (w' : World) (hrun : (Instr.buildSlice t 1 #[(0, v)]).run P w = .ok r w') (h : K (a.put o.dst r) w') : if Region.wanted o (yielded ops a.tmps) = true then Oper.wp P o a w K Q else E := by
  rw [if_pos hw]
  unfold Oper.wp execOp
  simp only [ho, Sem.run_bind, List.map_toArray, List.map_cons, List.map_nil, hx, hrun, Result.andThen_ok]
  exact h
theorem row_cell {w : World} {g : Nat} {t : TypeId} {cs : List Value} (h : Blk w g t cs) (j : Nat) (v : Value) (hv : cs[j]? = some v) : w.cell? ((⟨g, 0, none⟩ : Addr).add j) = some v := by
  have ea : (⟨g, 0, none⟩ : Addr).add j = ⟨g, j, none⟩ := by unfold Addr.add; split <;> simp_all
  rw [ea, h.cell, hv]
theorem Tryd.agg_tags (w : World) : (isAgg 24).run Tryd.prog w = .ok false w := by kernel_rfl
theorem Tryd.agg_bool (w : World) : (isAgg 4).run Tryd.prog w = .ok false w := by kernel_rfl
theorem Tryd.agg_int (w : World) : (isAgg 3).run Tryd.prog w = .ok false w := by kernel_rfl
theorem Tryd.agg_sl (w : World) : (isAgg 22).run Tryd.prog w = .ok false w := by kernel_rfl
theorem Tryd.size_tags (w : World) : (sizeOf 24).run Tryd.prog w = .ok 1 w := by kernel_rfl
theorem Tryd.size_bool (w : World) : (sizeOf 4).run Tryd.prog w = .ok 1 w := by kernel_rfl
theorem Tg.kfNe {w w' : World} {A : Option Addr} {n b : Nat} {tgs : List (List UInt8)} (h : Tg w A n tgs) (hf : KF b w w') (hne : ∀ o, A = some o → o.block ≠ b) : Tg w' A n tgs := h.keep fun g _ hb e => hf.cells g (hne _ e.choose_spec) hb

theorem tags1_idle (p : Value) (w : World) :
    CallsD Tryd.prog 19 #[p] .returning w fun e u' w' => e = .returned (.tuple #[]) ∧ u' = .returning ∧ w' = w := by
  refine callsD_of_wpS Tryd.func19 rfl fun c₀ cs hu => ?_
  apply wpS_seq
  apply wpS_region
  simp [wpOpsS, go_sem, recoverD, hu, Tryd.ntmps19, Exit.thenS]
  refine wpS_cond (t := false) (by simp [Act.eval, Array.replicate]) ?_
  simp only [Bool.false_eq_true, if_false]
  refine wpS_of_wp (wp_skip ?_)
  cases c₀
  simp_all [bodyPostS, results, Tryd.results19]

theorem holds1_idle (p : Value) (w : World) :
    CallsD Tryd.prog 20 #[p] .returning w fun e u' w' => e = .returned (.tuple #[]) ∧ u' = .returning ∧ w' = w := by
  refine callsD_of_wpS Tryd.func20 rfl fun c₀ cs hu => ?_
  apply wpS_seq
  apply wpS_region
  simp [wpOpsS, go_sem, recoverD, hu, Tryd.ntmps20, Exit.thenS]
  refine wpS_cond (t := false) (by simp [Act.eval, Array.replicate]) ?_
  simp only [Bool.false_eq_true, if_false]
  refine wpS_of_wp (wp_skip ?_)
  cases c₀
  simp_all [bodyPostS, results, Tryd.results20]

set_option maxHeartbeats 4000000 in
set_option maxRecDepth 100000 in
theorem tags_nil (f : Int) (T : Option Addr) (tn tc : Nat) (A : Option Addr) (n c : Nat) (w : World) :
    Calls Tryd.prog 14 #[.nilIface, .int .i64 f, .slice T tn tc, .slice A n c] w fun e w' => e = .returned (.slice none 0 0) ∧ Below w.heap.size w w' := by
  have hmf : ∀ (fn : Fn) (first cap : Array Value) (w : World), (Instr.makeFunc fn first cap).run Tryd.prog w = .ok (.func fn first cap) w := fun _ _ _ _ => rfl
  go_enter_defers Tryd.func14, Tryd.ntmps14
  go_wp2_with (refine wpList_store_cell rfl 24 (.tmp 8) (.const (.slice none 0 0)) rfl w.heap.size 0 rfl (.slice none 0 0) rfl rfl rfl Tryd.size_tags 24 [.slice none 0 0] (Blk.fresh rfl (by kernel_rfl)) (by simp) ?_; intro w1 hb1 hg1; have HB1 : Hid (Blk w1 w.heap.size 24 [.slice none 0 0]) := Lib.hid hb1; have HX1 := Lib.hid (below_new hg1); clear hb1 hg1)
  refine leaves_cons (f := 19) (args := #[.pointer (some ⟨w.heap.size, 0, none⟩)]) (by simp) (by simp [go_sem]) ?_
  refine (tags1_idle _ _).mono ?_
  rintro e u' w'' ⟨rfl, rfl, rfl⟩
  exact ⟨_, results_cell_one rfl _ _ ⟨w.heap.size, 0, none⟩ (.slice none 0 0) (Tryd.agg_tags _) rfl (HB1.out.cellAt rfl), rfl, HX1.out⟩

set_option maxHeartbeats 4000000 in
set_option maxRecDepth 100000 in
theorem holds_nil (f to_ : Int) (T : Option Addr) (tn tc : Nat) (tg : List UInt8) (w : World) :
    Calls Tryd.prog 15 #[.nilIface, .int .i64 f, .int .i64 to_, .slice T tn tc, .agg (vs tg).toArray] w fun e w' => e = .returned (.bool false) ∧ Below w.heap.size w w' := by
  have hmf : ∀ (fn : Fn) (first cap : Array Value) (w : World), (Instr.makeFunc fn first cap).run Tryd.prog w = .ok (.func fn first cap) w := fun _ _ _ _ => rfl
  generalize vs tg = q
  go_enter_defers Tryd.func15, Tryd.ntmps15
  go_wp2_with (refine wpList_store_cell rfl 4 (.tmp 10) (.tmp 21) rfl (w.heap.size + 1) 0 rfl (.bool false) rfl rfl rfl Tryd.size_bool 4 [.bool false] (Blk.fresh (by simp) (by kernel_rfl)) (by simp) ?_; intro w1 hb1 hg1; have HB1 : Hid (Blk w1 (w.heap.size + 1) 4 [.bool false]) := Lib.hid hb1; have HX1 : Hid (Below w.heap.size w w1) := Lib.hid ((((Below.refl _ w).alloc (Nat.le_refl _) _).alloc (by simp) _).grown hg1 (by simp only [World.size_alloc]; omega) (fun k hk => Option.some.inj hk ▸ Nat.le_succ _)); clear hb1 hg1)
  refine leaves_cons (f := 20) (args := #[.pointer (some ⟨w.heap.size + 1, 0, none⟩)]) (by simp) (by simp [go_sem]) ?_
  refine (holds1_idle _ _).mono ?_
  rintro e u' w'' ⟨rfl, rfl, rfl⟩
  exact ⟨_, results_cell_one rfl _ _ ⟨w.heap.size + 1, 0, none⟩ (.bool false) (Tryd.agg_bool _) rfl (HB1.out.cellAt rfl), rfl, HX1.out⟩

end Go.Proofs.YtnncfhkgcaoomaaDoor
