/-
  Joined: TwSD.
-/
import Derived.Defers
import Derived.Outline
import Derived.Recover
import Derived.Test.YtponmfkddglopaaWV21
namespace Go.Proofs.Ytponmfkddglopaa
open Go.RowKit

theorem Try.sz_bool20 (w : World) : (sizeOf 4).run Try.prog w = .ok 1 w := by kernel_rfl
theorem results_cell_one {P : Program} {fn : Func} {p : Tmp} {ty : TypeId} (h : fn.results = #[.cell p ty]) (tmps : Array Value) (w : World) (a : Addr) (v : Value) (hag : (isAgg ty).run P w = .ok false w)
  (hp : tmps.getD p undef = .pointer (some a)) (hc : w.cell? a = some v) : (results fn tmps).run P w = .ok v w := by
 have hp' : tmps[p]?.getD undef = .pointer (some a) := by simpa using hp
 simp [results, h, hp', asAddr, loadVar, hag, hc]
theorem Try.agg_bool20 (w : World) : (isAgg 4).run Try.prog w = .ok false w := by kernel_rfl

theorem same1_D (p : Value) (w : World) :
  CallsD Try.prog 51 #[p] .returning w fun e u' w' => e = .returned (.tuple #[]) ∧ u' = .returning ∧ w' = w := by
 refine callsD_of_wpS Try.func51 rfl fun c₀ cs hu => ?_
 apply wpS_seq
 apply wpS_region
 simp [wpOpsS, go_sem, recoverD, hu, Try.ntmps51, Exit.thenS]
 refine wpS_cond (t := false) (by simp [Act.eval, Array.replicate]) ?_
 simp only [Bool.false_eq_true, if_false]
 refine wpS_of_wp (wp_skip ?_)
 cases c₀
 simp_all [bodyPostS, results, Try.results51]

set_option maxHeartbeats 16000000 in
set_option maxRecDepth 100000 in
theorem same_D (x y : (List UInt8)) (hx : okD x) (hy : okD y) (w : World) :
  Calls Try.prog 43 #[encD x, encD y] w fun e w' => e = .returned (.bool (decide (x = y))) ∧ Below w.heap.size w w' := by
 have hmf : ∀ (fn : Fn) (first cap : Array Value) (w : World), (Instr.makeFunc fn first cap).run Try.prog w = .ok (.func fn first cap) w := fun _ _ _ _ => rfl
 obtain ⟨cs, hcs⟩ : ∃ cs, cs = vs x := ⟨_, rfl⟩
 obtain ⟨ds, hds⟩ : ∃ ds, ds = vs y := ⟨_, rfl⟩
 have hq : ∀ W, (Op.equalIn 10000 40 (.agg cs.toArray) (.agg ds.toArray)).run Try.prog W = .ok (decide (x = y)) W := (fun W => by rw [hcs, hds, eq_dgy x y hx hy W]; congr 1; rw [Bool.eq_iff_iff]; simp)
 rw [show encD x = .agg cs.toArray from by rw [hcs], show encD y = .agg ds.toArray from by rw [hds]]
 generalize decide (x = y) = bb at *
 have H2l : Hid (cs.length = 32) := Lib.hid (by rw [hcs]; exact D_len x hx)
 have H3l : Hid (ds.length = 32) := Lib.hid (by rw [hds]; exact D_len y hy)
 have H2 : Hid (Blk (((w.alloc (.cells cs.toArray 40)).alloc (.cells ds.toArray 40)).alloc (.cells #[.bool false] 4)) w.heap.size 40 cs) := Lib.hid (((Blk.fresh rfl rfl).alloc _).alloc _)
 have H3 : Hid (Blk (((w.alloc (.cells cs.toArray 40)).alloc (.cells ds.toArray 40)).alloc (.cells #[.bool false] 4)) (w.heap.size + 1) 40 ds) := Lib.hid ((Blk.fresh (by simp) rfl).alloc _)
 have H4 : Hid (Blk (((w.alloc (.cells cs.toArray 40)).alloc (.cells ds.toArray 40)).alloc (.cells #[.bool false] 4)) (w.heap.size + 1 + 1) 4 [.bool false]) := Lib.hid (Blk.fresh (by simp) rfl)
 have HX : Hid (Below w.heap.size w (((w.alloc (.cells cs.toArray 40)).alloc (.cells ds.toArray 40)).alloc (.cells #[.bool false] 4))) := Lib.hid ((((Below.refl _ w).alloc (Nat.le_refl _) _).alloc (by simp) _).alloc (by simp; omega) _)
 clear hcs hds
 go_enter_defers Try.func43, Try.ntmps43
 go_wp2_with (first
  | (refine wpList_load_blk rfl 40 (.tmp 2) rfl w.heap.size rfl 40 cs _ H2.out Try.underlying40 rfl (by rw [H2l.out]; kernel_rfl) ?_)
  | (refine wpList_load_blk rfl 40 (.tmp 3) rfl (w.heap.size + 1) rfl 40 ds _ H3.out Try.underlying40 rfl (by rw [H3l.out]; kernel_rfl) ?_)
  | (refine wpList_store_cell rfl 4 (.tmp 4) (.tmp 8) rfl (w.heap.size + 1 + 1) 0 rfl (.bool bb) rfl rfl rfl Try.sz_bool20 4 [.bool false] H4.out (by simp) ?_; intro w4 hb4 hg4; have HB4 : Hid (Blk w4 (w.heap.size + 1 + 1) 4 [.bool bb]) := Lib.hid hb4; have HX4 : Hid (Below w.heap.size w w4) := Lib.hid (HX.out.grown hg4 HX.out.size (fun k hk => Option.some.inj hk ▸ by omega)); clear hb4 hg4))
 refine leaves_cons (f := 51) (args := #[.pointer (some ⟨w.heap.size + 1 + 1, 0, none⟩)]) (by simp) (by simp [go_sem]) ?_
 refine (same1_D _ _).mono ?_
 rintro e u' w'' ⟨rfl, rfl, rfl⟩
 exact ⟨_, results_cell_one rfl _ _ ⟨w.heap.size + 1 + 1, 0, none⟩ (.bool bb) (Try.agg_bool20 _) rfl (HB4.out.cellAt rfl), rfl, HX4.out⟩

end Go.Proofs.Ytponmfkddglopaa
