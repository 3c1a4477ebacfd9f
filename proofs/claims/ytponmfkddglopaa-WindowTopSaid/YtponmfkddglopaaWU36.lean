/-
  Joined: WpM.
-/
import Derived.Test.YtponmfkddglopaaWU33
import Derived.Test.YtponmfkddglopaaWU34
import Derived.Test.YtponmfkddglopaaWU35
namespace Go.Proofs.Ytponmfkddglopaa
open Go.RowKit

def lpC (n low : Int) (gm : Nat) : List Value := [.int .i64 n, .int .i64 low, .map (some gm)]
def entF (f : List Fr) : List (Int × Value) := f.map (fun x => (x.q, x.v))
theorem Try.key_i64 : KeyT Try.prog 2 encI (fun _ => True) :=
 KeyT.now Try.underlying2 (fun x y => by simp only [Instr.sameNow, encI, if_true]; rfl)
  (fun em x w _ => by unfold Instr.checkKey; simp [encI, run_underlying Try.underlying2]) (fun x _ => by simp [encI, Instr.sameBits])
theorem Try.zero_ps (w : World) : (zeroValue 26).run Try.prog w = .ok (.pointer none) w := by kernel_rfl
/-- the program's log: its box, its map, its slots -/
structure PLg (W : World) (B gm : Nat) (n low : Int) (f : List Fr) : Prop where
 box : Blk W B 51 (lpC n low gm)
 mp : MpIs W gm (encK encI (entF f))
 fam : Fam TS W f
 nb : ¬ FD f B
 nm : ¬ FD f gm
 nd : (f.map Fr.q).Nodup
def DP (B gm : Nat) (f : List Fr) : Nat → Prop := fun q => q = B ∨ q = gm ∨ FD f q
section
variable {W W' : World} {B gm : Nat} {n low : Int} {f : List Fr}
theorem PLg.ne (h : PLg W B gm n low f) : B ≠ gm := mp_kept h.mp h.box
theorem PLg.lt (h : PLg W B gm n low f) : ∀ q, DP B gm f q → q < W.heap.size := by
 rintro q (rfl | rfl | hq)
 ·exact h.box.lt
 ·exact h.mp.lt
 ·exact h.fam.lt ts_kv q hq
theorem PLg.keep (h : PLg W B gm n low f) (hs : W.heap.size ≤ W'.heap.size) (hb : ∀ q, DP B gm f q → W'.heap[q]? = W.heap[q]?) : PLg W' B gm n low f :=
 ⟨(hb B (.inl rfl)).trans h.box, h.mp.keep (hb gm (.inr (.inl rfl))), ⟨fun x hx => ts_kv.keep (h.fam.has x hx) hs (fun q hq => hb q (.inr (.inr ⟨x, hx, hq⟩))), h.fam.apart⟩, h.nb, h.nm, h.nd⟩
theorem PLg.through (h : PLg W B gm n low f) (hb : Below W.heap.size W W') : PLg W' B gm n low f := h.keep hb.size (fun q hq => hb.block q (h.lt q hq))
theorem PLg.ft {D : Nat → Prop} (h : PLg W B gm n low f) (hf : Ft D W W') (hd : ∀ q, DP B gm f q → ¬ D q) : PLg W' B gm n low f := h.keep hf.size (fun q hq => hf.block q (h.lt q hq) (hd q hq))
end
theorem Try.mk_m64 (w : World) : (Instr.makeMap 49 none).run Try.prog w = .ok (.map (some w.heap.size)) (w.alloc (.map #[] 0)) := by kernel_rfl
set_option maxHeartbeats 16000000 in
set_option maxRecDepth 100000 in
theorem isnone_lp {B gm : Nat} {n low : Int} (w : World) (h : Blk w B 51 (lpC n low gm)) (hn : 1 ≤ n) : Calls Try.prog 20 #[(.pointer (some ⟨B, 0, none⟩))] w fun e w' => e = .returned (.bool false) ∧ w' = w := by
 have k0 : w.cell? ⟨B, 0, none⟩ = some (.int .i64 n) := h.cellAt rfl
 have hb : (n == 0) = false := by simp; omega
 have hb2 : ¬ n = 0 := by omega
 clear h
 go_enter Try.func20, Try.ntmps20
 go_wp2
 go_ret
 exact ⟨by first | rfl | simp [hb2], rfl⟩
set_option maxHeartbeats 16000000 in
set_option maxRecDepth 100000 in
theorem new_lp (n : Int) (w : World) (h1 : 1 ≤ n) (h7 : n ≤ 7) : Calls Try.prog 6 #[.int .i64 n] w fun e w' => ∃ B gm, e = .returned (.pointer (some ⟨B, 0, none⟩)) ∧ PLg w' B gm n 0 [] ∧ Below w.heap.size w w' ∧ w.heap.size ≤ B ∧ w.heap.size ≤ gm := by
 have hmk := Try.mk_m64
 have a1 : decide (n < 1) = false := by simp; omega
 have a2 : decide (7 < n) = false := by simp; omega
 go_enter Try.func6, Try.ntmps6
 go_wp2
 go_ret
 have x1 : Below w.heap.size w (w.alloc (.map #[] 0)) := below1_ w _
 have x2 := below1_ (w.alloc (.map #[] 0)) (.cells #[.int .i64 n, .int .i64 0, .map (some w.heap.size)] 51)
 refine ⟨w.heap.size + 1, w.heap.size, rfl, ⟨Blk.fresh (by simp) rfl, (MpIs.made w).through x2, Fam.nil, FD.nil _, FD.nil _, List.nodup_nil⟩, below_step x1 x2, by omega, Nat.le_refl _⟩
set_option maxHeartbeats 16000000 in
set_option maxRecDepth 100000 in
theorem low_lp {B gm : Nat} {n low : Int} (w : World) (h : Blk w B 51 (lpC n low gm)) (hn : 1 ≤ n) : Calls Try.prog 11 #[(.pointer (some ⟨B, 0, none⟩))] w fun e w' => e = .returned (.int .i64 low) ∧ w' = w := by
 have k1 : w.cell? ⟨B, 1, none⟩ = some (.int .i64 low) := h.cellAt rfl
 have HB := Lib.hid h
 have HN1 := Lib.hid hn
 clear h hn
 go_enter Try.func11, Try.ntmps11
 go_wp2_with (first
  | (go_at_call 20; (with_reducible refine (isnone_lp _ HB.out HN1.out).mono ?_); rintro e w9 ⟨rfl, hw9⟩; have hw8 := hw9.symm; clear hw9; subst hw8))
 go_ret
 exact ⟨rfl, rfl⟩
abbrev inB (low q : Int) : Bool := decide (low < q) && decide (q ≤ low + 8) && decide (q ≤ 1048576)
set_option maxHeartbeats 16000000 in
set_option maxRecDepth 100000 in
theorem in_lp {B gm : Nat} {n low : Int} (q : Int) (w : World) (h : Blk w B 51 (lpC n low gm)) (hn : 1 ≤ n) (h0 : 0 ≤ low) (h1 : low ≤ 1048576) : Calls Try.prog 10 #[(.pointer (some ⟨B, 0, none⟩)), .int .i64 q] w fun e w' => e = .returned (.bool (inB low q)) ∧ w' = w := by
 have k1 : w.cell? ⟨B, 1, none⟩ = some (.int .i64 low) := h.cellAt rfl
 have hw64 : IntKind.i64.wrap (low + 8) = low + 8 := IntWalk.i64_in _ (by omega)
 have hw65 : wrap64 (low + 8) = low + 8 := IntWalk.wrap64_in _ (by omega)
 have HB := Lib.hid h
 have HN1 := Lib.hid hn
 unfold inB
 clear h hn
 by_cases a1 : low < q
 ·by_cases a4 : low + 8 ≤ 1048576
  ·by_cases a2 : q ≤ low + 8
   ·have a3 : q ≤ 1048576 := by omega
    go_enter Try.func10, Try.ntmps10
    go_wp2_with (first
     | (go_at_call 20; (with_reducible refine (isnone_lp _ HB.out HN1.out).mono ?_); rintro e w9 ⟨rfl, hw9⟩; have hw8 := hw9.symm; clear hw9; subst hw8))
    go_ret
    exact ⟨by first | (simp [a1, a2, a3, a4]; done) | (simp [hw65, a1, a2, a3, a4]; done) | (simp [a1, a2, a3, a4]; omega) | (simp; omega), rfl⟩
   ·by_cases a3 : q ≤ 1048576
    ·go_enter Try.func10, Try.ntmps10
     go_wp2_with (first
      | (go_at_call 20; (with_reducible refine (isnone_lp _ HB.out HN1.out).mono ?_); rintro e w9 ⟨rfl, hw9⟩; have hw8 := hw9.symm; clear hw9; subst hw8))
     go_ret
     exact ⟨by first | (simp [a1, a2, a3, a4]; done) | (simp [hw65, a1, a2, a3, a4]; done) | (simp [a1, a2, a3, a4]; omega) | (simp; omega), rfl⟩
    ·skip
     go_enter Try.func10, Try.ntmps10
     go_wp2_with (first
      | (go_at_call 20; (with_reducible refine (isnone_lp _ HB.out HN1.out).mono ?_); rintro e w9 ⟨rfl, hw9⟩; have hw8 := hw9.symm; clear hw9; subst hw8))
     go_ret
     exact ⟨by first | (simp [a1, a2, a3, a4]; done) | (simp [hw65, a1, a2, a3, a4]; done) | (simp [a1, a2, a3, a4]; omega) | (simp; omega), rfl⟩
  ·by_cases a3 : q ≤ 1048576
   ·have a2 : q ≤ low + 8 := by omega
    go_enter Try.func10, Try.ntmps10
    go_wp2_with (first
     | (go_at_call 20; (with_reducible refine (isnone_lp _ HB.out HN1.out).mono ?_); rintro e w9 ⟨rfl, hw9⟩; have hw8 := hw9.symm; clear hw9; subst hw8))
    go_ret
    exact ⟨by first | (simp [a1, a2, a3, a4]; done) | (simp [hw65, a1, a2, a3, a4]; done) | (simp [a1, a2, a3, a4]; omega) | (simp; omega), rfl⟩
   ·skip
    go_enter Try.func10, Try.ntmps10
    go_wp2_with (first
     | (go_at_call 20; (with_reducible refine (isnone_lp _ HB.out HN1.out).mono ?_); rintro e w9 ⟨rfl, hw9⟩; have hw8 := hw9.symm; clear hw9; subst hw8))
    go_ret
    exact ⟨by first | (simp [a1, a3, a4]; done) | (simp [hw65, a1, a3, a4]; done) | (simp [a1, a3, a4]; omega) | (simp; omega), rfl⟩
 ·skip
  go_enter Try.func10, Try.ntmps10
  go_wp2_with (first
   | (go_at_call 20; (with_reducible refine (isnone_lp _ HB.out HN1.out).mono ?_); rintro e w9 ⟨rfl, hw9⟩; have hw8 := hw9.symm; clear hw9; subst hw8))
  go_ret
  exact ⟨by first | (simp [a1]; done) | (simp [hw65, a1]; done) | (simp [a1]; omega) | (simp; omega), rfl⟩

end Go.Proofs.Ytponmfkddglopaa
