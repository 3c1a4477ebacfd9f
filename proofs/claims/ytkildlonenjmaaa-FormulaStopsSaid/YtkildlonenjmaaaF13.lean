/-
  The program's Same.
-/
import Derived.Test.YtkildlonenjmaaaF12
namespace Go.Proofs.Ytkildlonenjmaaa
open Go.RowKit

theorem Try.size_ft (w : World) : (sizeOf 46).run Try.prog w = .ok 1 w := by kernel_rfl

set_option maxHeartbeats 4000000 in
set_option maxRecDepth 100000 in
theorem same_any (f g : Fm) (A B : Option Addr) (n c m e' : Nat) (w : World) (hz : f.size ≤ 200) (h : f.In w (fun _ => True) A n) (h' : g.In w (fun _ => True) B m) :
    Calls Try.prog 34 #[f.val A n c, g.val B m e'] w fun e w' => e = .returned (.bool (f.same g)) ∧ Below w.heap.size w w' := by
  have hmf : ∀ (fn : Fn) (first cap : Array Value) (w : World), (Instr.makeFunc fn first cap).run Try.prog w = .ok (.func fn first cap) w := fun _ _ _ _ => rfl
  have hcall : ∀ W p q, p ≠ q → f.In W (· ≠ p) A n → g.In W (· ≠ p) B m → Blk W p 3 [.int .i64 65536] → Blk W q 46 [.func (.func 49) #[] #[.pointer (some ⟨p, 0, none⟩), .pointer (some ⟨q, 0, none⟩)]] → Calls Try.prog 49 #[f.val A n c, g.val B m e', .pointer (some ⟨p, 0, none⟩), .pointer (some ⟨q, 0, none⟩)] W fun e w' => e = .returned (.bool (f.same g)) ∧ W.grownBy w' (some p) := fun W p q h0 h1 h2 h3 h4 => by
    refine (same1_any f g 65536 p q A B n c m e' W (by omega) (by omega) h0 h1 h2 h3 h4).mono ?_
    rintro e w' ⟨x', h5, _, _, _, h6⟩
    exact ⟨h5, h6⟩
  generalize f.same g = v at *
  have HF := Lib.hid (h.apart (g := w.heap.size + 1 + 1) (by omega))
  have HG := Lib.hid (h'.apart (g := w.heap.size + 1 + 1) (by omega))
  unfold Fm.val at hcall ⊢
  generalize f.org = o at *
  generalize f.nd = a at *
  generalize g.org = o' at *
  generalize g.nd = a' at *
  have HC := Lib.hid hcall
  clear h h' hcall hz
  go_enter Try.func34, Try.ntmps34
  go_wp2_with (first
    | (refine wpList_store_cell rfl 46 (.tmp 6) (.tmp 7) rfl (w.heap.size + 1 + 1 + 1) 0 rfl (.func (.func 49) #[] #[.pointer (some ⟨w.heap.size + 1 + 1, 0, none⟩), .pointer (some ⟨w.heap.size + 1 + 1 + 1, 0, none⟩)]) rfl rfl rfl Try.size_ft 46 [.nilFunc] (Blk.fresh (by simp) rfl) (by simp) ?_; intro w1 hb1 hg1; have HQ1 : Hid (Blk w1 (w.heap.size + 1 + 1 + 1) 46 [.func (.func 49) #[] #[.pointer (some ⟨w.heap.size + 1 + 1, 0, none⟩), .pointer (some ⟨w.heap.size + 1 + 1 + 1, 0, none⟩)]]) := Lib.hid hb1; have hP : Blk ((((w.alloc (.cells #[.int .i64 o, .int .i64 a, .slice A n c] 33)).alloc (.cells #[.int .i64 o', .int .i64 a', .slice B m e'] 33)).alloc (.cells #[.int .i64 65536] 3)).alloc (.cells #[.nilFunc] 46)) (w.heap.size + 1 + 1) 3 [.int .i64 65536] := (Blk.fresh (by simp) rfl).alloc _; have HP1 := Lib.hid (hP.grown hg1 (by simp)); have hF : Blk ((((w.alloc (.cells #[.int .i64 o, .int .i64 a, .slice A n c] 33)).alloc (.cells #[.int .i64 o', .int .i64 a', .slice B m e'] 33)).alloc (.cells #[.int .i64 65536] 3)).alloc (.cells #[.nilFunc] 46)) w.heap.size 33 [.int .i64 o, .int .i64 a, .slice A n c] := (((Blk.fresh rfl rfl).alloc _).alloc _).alloc _; have HF1 := Lib.hid (hF.grown hg1 (by simp; omega)); have hG : Blk ((((w.alloc (.cells #[.int .i64 o, .int .i64 a, .slice A n c] 33)).alloc (.cells #[.int .i64 o', .int .i64 a', .slice B m e'] 33)).alloc (.cells #[.int .i64 65536] 3)).alloc (.cells #[.nilFunc] 46)) (w.heap.size + 1) 33 [.int .i64 o', .int .i64 a', .slice B m e'] := ((Blk.fresh (by simp) rfl).alloc _).alloc _; have HG1 := Lib.hid (hG.grown hg1 (by simp)); have hx1 : Below w.heap.size w w1 := (((((Below.refl _ w).alloc (Nat.le_refl _) _).alloc (by simp) _).alloc (by simp; omega) _).alloc (by simp; omega) _).grown hg1 (by simp; omega) (fun k hk => by have := Option.some.inj hk; omega); have HX1 := Lib.hid hx1; have q0 := HQ1.out.cellAt (i := 0) rfl; clear hb1 hg1 hP hF hG hx1)
    | (refine wpList_load_blk rfl 33 (.tmp 2) rfl w.heap.size rfl 33 [.int .i64 o, .int .i64 a, .slice A n c] _ HF1.out Try.underlying33 rfl (by kernel_rfl) ?_)
    | (refine wpList_load_blk rfl 33 (.tmp 3) rfl (w.heap.size + 1) rfl 33 [.int .i64 o', .int .i64 a', .slice B m e'] _ HG1.out Try.underlying33 rfl (by kernel_rfl) ?_)
    | (go_at_call 49; (with_reducible refine (HC.out _ (w.heap.size + 1 + 1) (w.heap.size + 1 + 1 + 1) (by omega) (HF.out.through HX1.out) (HG.out.through HX1.out) HP1.out HQ1.out).mono ?_); rintro ee w2 ⟨rfl, hg2⟩; have hx2 : Below w.heap.size w w2 := HX1.out.grown hg2 HX1.out.size (fun k hk => by have := Option.some.inj hk; omega); have HX2 := Lib.hid hx2; clear hg2 hx2))
  go_ret
  exact ⟨rfl, HX2.out⟩

end Go.Proofs.Ytkildlonenjmaaa
