/-
  The document's policy at every depth; its Parse.
-/
import Derived.Test.YtnpobhgecfjfgaaDoorRPol
import Derived.Test.YtnpobhgecfjfgaaDoorTD
namespace Go.Proofs.YtnpobhgecfjfgaaDoor
open Go.RowKit

set_option maxHeartbeats 2000000 in
theorem pol_zero (t : List UInt8) (w : World) :
    Calls Tryd.prog 17 #[.string (ba t), .int .i64 11] w fun e w' => PolOut w.heap.size (polP 0 t) e w' ∧ Below w.heap.size w w' := by
  have HX : Hid (Below w.heap.size w (w.alloc (.cells #[.int .i64 0, .int .i64 0, .slice none 0 0] 25))) := Lib.hid ((Below.refl _ w).alloc (Nat.le_refl _) _)
  have HB : Hid (Blk (w.alloc (.cells #[.int .i64 0, .int .i64 0, .slice none 0 0] 25)) w.heap.size 25 [.int .i64 0, .int .i64 0, .slice none 0 0]) := Lib.hid (Blk.fresh rfl rfl)
  go_enter Tryd.func17, Tryd.ntmps17
  go_wp2_with (first
    | (go_at_call 18; (with_reducible refine (bare_any _ _).mono ?_); rintro e w5 ⟨rfl, rfl⟩)
    | (refine wpList_store_blk rfl 25 (.tmp 4) (.tmp 20) rfl w.heap.size [.int .i64 0, .int .i64 0, .slice none 0 0] rfl rfl 25 [.int .i64 0, .int .i64 0, .slice none 0 0] HB.out (by kernel_rfl) rfl (one3 _ _ _ _ _) ?_; intro wr hbr hgr; have HBr := Lib.hid hbr; have HGr := Lib.hid hgr; clear hbr hgr))
  (try simp only [Exit.inBlock, Exit.then]); refine bodyPost_ret (results_cell_row_tmp2 rfl _ _ w.heap.size 25 _ (0, 0) _ rfl HBr.out Tryd.underlying25 rfl (by kernel_rfl)) rfl ?_
  exact ⟨PolOut.mk_bad rfl, below_block HX.out HGr.out (Nat.le_refl _) (Nat.le_refl _)⟩

theorem pol_all : ∀ (k : Nat) (d : Int), d = 11 - (k : Int) → k ≤ 10 → ∀ (t : List UInt8) (w : World), t.length ≤ 1000 →
    Calls Tryd.prog 17 #[.string (ba t), .int .i64 d] w fun e w' => PolOut w.heap.size (polP k t) e w' ∧ Below w.heap.size w w'
  | 0, d, hd, _, t, w, _ => by
    have e : d = 11 := by omega
    rw [e]
    exact pol_zero t w
  | k + 1, d, hd, hk, t, w, ht => pol_step k d (by omega) (fun t w ht => pol_all k (d + 1) (by omega) (by omega) t w ht) t w ht

/-- What a Parse answers. -/
def ParseOut (B : Nat) (p : Fm × Int) (e : Ending) (w' : World) : Prop :=
  ∃ A m c, e = .returned (.tuple #[p.1.val A m c, .int .i64 p.2]) ∧ p.1.In w' (B ≤ ·) A m
theorem ParseOut.err {B : Nat} {p : Fm × Int} {w' : World} {x : Int} (h : p = (.mk 0 0 [], x)) : ParseOut B p (.returned (.tuple #[.agg #[.int .i64 0, .int .i64 0, .slice none 0 0], .int .i64 x])) w' := by
  subst h
  exact ⟨none, 0, 0, rfl, rfl, by omega, fun h0 => absurd h0 (by omega)⟩
theorem ParseOut.mk_good {B : Nat} {p : Fm × Int} {w' : World} {f : Fm} {A : Option Addr} {n c : Nat} (hp : p = (f, 0)) (h : f.In w' (B ≤ ·) A n) : ParseOut B p (.returned (.tuple #[.agg #[.int .i64 f.org, .int .i64 f.nd, .slice A n c], .int .i64 0])) w' := by
  subst hp
  exact ⟨A, n, c, rfl, h⟩

theorem parse_long {t : List UInt8} {n : Int} (h : 200 < t.length) : parseP t n = (.mk 0 0 [], 3) := by unfold parseP; rw [if_pos h]
theorem parse_none {t : List UInt8} {n : Int} (h : ¬ 200 < t.length) (hp : polP 10 t = none) : parseP t n = (.mk 0 0 [], 2) := by unfold parseP; rw [if_neg h, hp]
theorem parse_rest {t r : List UInt8} {n : Int} {f : Fm} (h : ¬ 200 < t.length) (hp : polP 10 t = some (f, r)) (hr : bareP r ≠ []) : parseP t n = (.mk 0 0 [], 2) := by unfold parseP; rw [if_neg h, hp]; simp only; rw [if_pos hr]
theorem parse_check {t r : List UInt8} {n : Int} {f : Fm} (h : ¬ 200 < t.length) (hp : polP 10 t = some (f, r)) (hr : bareP r = []) (hc : f.check n ≠ 0) : parseP t n = (.mk 0 0 [], f.check n) := by unfold parseP; rw [if_neg h, hp]; simp only; rw [if_neg (by simp [hr]), if_pos hc]
theorem parse_ok {t r : List UInt8} {n : Int} {f : Fm} (h : ¬ 200 < t.length) (hp : polP 10 t = some (f, r)) (hr : bareP r = []) (hc : f.check n = 0) : parseP t n = (f, 0) := by unfold parseP; rw [if_neg h, hp]; simp only; rw [if_neg (by simp [hr]), if_neg (by simp [hc])]
theorem ba_nil : (⟨#[]⟩ : ByteArray).toList = [] := ba_list []

set_option maxHeartbeats 8000000 in
set_option maxRecDepth 100000 in
theorem rparse_any (t : List UInt8) (n : Int) (w : World) (ht : t.length ≤ 1000) :
    Calls Tryd.prog 8 #[.string (ba t), .int .i64 n] w fun e w' => ParseOut w.heap.size (parseP t n) e w' ∧ Below w.heap.size w w' := by
  have HX : Hid (Below w.heap.size w (w.alloc (.cells #[.int .i64 0, .int .i64 0, .slice none 0 0] 25))) := Lib.hid ((Below.refl _ w).alloc (Nat.le_refl _) _)
  have HB : Hid (Blk (w.alloc (.cells #[.int .i64 0, .int .i64 0, .slice none 0 0] 25)) w.heap.size 25 [.int .i64 0, .int .i64 0, .slice none 0 0]) := Lib.hid (Blk.fresh rfl rfl)
  have hsz := ba_size
  have hli := ba_list
  have hnil := ba_nil
  have hpl : ∀ W, Calls Tryd.prog 17 #[.string (ba t), .int .i64 1] W fun e w' => PolOut W.heap.size (polP 10 t) e w' ∧ Below W.heap.size W w' := fun W => pol_all 10 1 (by omega) (by omega) t W ht
  have HPl := Lib.hid hpl
  clear hpl
  go_enter Tryd.func8, Tryd.ntmps8
  by_cases hlong : 200 < t.length
  · have HFin := Lib.hid (parse_long (n := n) hlong)
    go_wp2_with (first
      | (refine wpList_store_blk rfl 25 (.tmp 4) (.tmp 13) rfl w.heap.size [.int .i64 0, .int .i64 0, .slice none 0 0] rfl rfl 25 [.int .i64 0, .int .i64 0, .slice none 0 0] HB.out (by kernel_rfl) rfl (one3 _ _ _ _ _) ?_; intro wr hbr hgr; have HBr := Lib.hid hbr; have HGr := Lib.hid hgr; clear hbr hgr))
    (try simp only [Exit.inBlock, Exit.then]); refine bodyPost_ret (results_cell_row_tmp1 rfl _ _ w.heap.size 25 _ (0, 0) _ rfl HBr.out Tryd.underlying25 rfl (by kernel_rfl)) rfl ?_
    exact ⟨ParseOut.err HFin.out, below_block HX.out HGr.out (Nat.le_refl _) (Nat.le_refl _)⟩
  · have hl9 : t.length ≤ 200 := by omega
    cases hp : polP 10 t with
    | none =>
      have HFin := Lib.hid (parse_none (n := n) hlong hp)
      have HPp := Lib.hid hp
      clear hp
      go_wp2_with (first
        | (go_at_call 17; (with_reducible refine (HPl.out _).mono ?_); rintro e w1 ⟨ho, hb⟩; obtain ⟨o, a, A, m, c, s, rfl⟩ := PolOut.bad ho HPp.out; have HX1 := Lib.hid ((below_step HX.out hb).alloc (by have := hb.size; simp at this; omega) (.cells #[.int .i64 o, .int .i64 a, .slice A m c] 25)); have HB := Lib.hid ((HB.out.through hb).alloc (.cells #[.int .i64 o, .int .i64 a, .slice A m c] 25)); clear hb ho)
        | (refine wpList_store_blk rfl 25 (.tmp 4) (.tmp 27) rfl w.heap.size [.int .i64 0, .int .i64 0, .slice none 0 0] rfl rfl 25 [.int .i64 0, .int .i64 0, .slice none 0 0] HB.out (by kernel_rfl) rfl (one3 _ _ _ _ _) ?_; intro wr hbr hgr; have HBr := Lib.hid hbr; have HGr := Lib.hid hgr; clear hbr hgr))
      (try simp only [Exit.inBlock, Exit.then]); refine bodyPost_ret (results_cell_row_tmp1 rfl _ _ w.heap.size 25 _ (0, 0) _ rfl HBr.out Tryd.underlying25 rfl (by kernel_rfl)) rfl ?_
      exact ⟨ParseOut.err HFin.out, below_block HX1.out HGr.out (Nat.le_refl _) (Nat.le_refl _)⟩
    | some q =>
      obtain ⟨f, r⟩ := q
      have hbare := bare_any r
      obtain ⟨b, hb⟩ : ∃ b, bareP r = b := ⟨_, rfl⟩
      rw [hb] at hbare
      have HBare := Lib.hid hbare
      have HPp := Lib.hid hp
      clear hbare
      have htk := polP_takes 10 t f r hp
      cases b with
      | cons x b =>
        have HFin := Lib.hid (parse_rest (n := n) hlong hp (by rw [hb]; simp))
        clear hp hb htk
        go_wp2_with (first
          | (go_at_call 17; (with_reducible refine (HPl.out _).mono ?_); rintro e w1 ⟨ho, hb⟩; obtain ⟨A, m, c, rfl, hf⟩ := PolOut.good ho HPp.out; have HX1 := Lib.hid ((below_step HX.out hb).alloc (by have := hb.size; simp at this; omega) (.cells #[.int .i64 f.org, .int .i64 f.nd, .slice A m c] 25)); have HLt := Lib.hid HB.out.lt; have HB := Lib.hid ((HB.out.through hb).alloc (.cells #[.int .i64 f.org, .int .i64 f.nd, .slice A m c] 25)); have HI := Lib.hid (hf.alloc (.cells #[.int .i64 f.org, .int .i64 f.nd, .slice A m c] 25)); have HB6 : Hid (Blk (w1.alloc (.cells #[.int .i64 f.org, .int .i64 f.nd, .slice A m c] 25)) w1.heap.size 25 [.int .i64 f.org, .int .i64 f.nd, .slice A m c]) := Lib.hid (Blk.fresh rfl rfl); clear hb ho hf)
          | (go_at_call 18; (with_reducible refine (HBare.out _).mono ?_); rintro e w5 ⟨rfl, rfl⟩)
          | (refine wpList_store_blk rfl 25 (.tmp 4) (.tmp 27) rfl w.heap.size [.int .i64 0, .int .i64 0, .slice none 0 0] rfl rfl 25 [.int .i64 0, .int .i64 0, .slice none 0 0] HB.out (by kernel_rfl) rfl (one3 _ _ _ _ _) ?_; intro wr hbr hgr; have HBr := Lib.hid hbr; have HGr := Lib.hid hgr; clear hbr hgr))
        (try simp only [Exit.inBlock, Exit.then]); refine bodyPost_ret (results_cell_row_tmp1 rfl _ _ w.heap.size 25 _ (0, 0) _ rfl HBr.out Tryd.underlying25 rfl (by kernel_rfl)) rfl ?_
        exact ⟨ParseOut.err HFin.out, below_block HX1.out HGr.out (Nat.le_refl _) (Nat.le_refl _)⟩
      | nil =>
        have hcall : ∀ (A : Option Addr) (m c : Nat) (W : World), f.In W (fun _ => True) A m → Calls Tryd.prog 13 #[.agg #[.int .i64 f.org, .int .i64 f.nd, .slice A m c], .int .i64 n] W fun e w' => e = .returned (.int .i64 (f.check n)) ∧ Below W.heap.size W w' := fun A m c W hin => rcheck_any f n A m c W ⟨by omega, by omega⟩ hin
        have HC := Lib.hid hcall
        clear hcall
        by_cases hc : f.check n = 0
        · have HFin := Lib.hid (parse_ok (n := n) hlong hp hb hc)
          rw [hc] at HC
          clear hp hb htk hc
          go_wp2_with (first
            | (go_at_call 17; (with_reducible refine (HPl.out _).mono ?_); rintro e w1 ⟨ho, hb⟩; obtain ⟨A, m, c, rfl, hf⟩ := PolOut.good ho HPp.out; have HX1 := Lib.hid ((below_step HX.out hb).alloc (by have := hb.size; simp at this; omega) (.cells #[.int .i64 f.org, .int .i64 f.nd, .slice A m c] 25)); have HLt := Lib.hid HB.out.lt; have HB := Lib.hid ((HB.out.through hb).alloc (.cells #[.int .i64 f.org, .int .i64 f.nd, .slice A m c] 25)); have HI := Lib.hid (hf.alloc (.cells #[.int .i64 f.org, .int .i64 f.nd, .slice A m c] 25)); have HB6 : Hid (Blk (w1.alloc (.cells #[.int .i64 f.org, .int .i64 f.nd, .slice A m c] 25)) w1.heap.size 25 [.int .i64 f.org, .int .i64 f.nd, .slice A m c]) := Lib.hid (Blk.fresh rfl rfl); clear hb ho hf)
            | (go_at_call 18; (with_reducible refine (HBare.out _).mono ?_); rintro e w5 ⟨rfl, rfl⟩)
            | (refine wpList_load_blk rfl 25 (.tmp 6) rfl w1.heap.size rfl 25 [.int .i64 f.org, .int .i64 f.nd, .slice A m c] _ HB6.out Tryd.underlying25 rfl (by kernel_rfl) ?_)
            | (go_at_call 13; (with_reducible refine (HC.out _ _ _ _ (Fm.In.any HI.out)).mono ?_); rintro e w2 ⟨rfl, hb⟩; have HX1 := Lib.hid (below_step HX1.out hb); have HB := Lib.hid (HB.out.through hb); have HI := Lib.hid (HI.out.through hb); have HB6 := Lib.hid (HB6.out.through hb); clear hb)
            | (refine wpList_store_blk rfl 25 (.tmp 4) (.tmp 35) rfl w.heap.size [.int .i64 f.org, .int .i64 f.nd, .slice A m c] rfl rfl 25 [.int .i64 0, .int .i64 0, .slice none 0 0] HB.out (by kernel_rfl) rfl (one3 _ _ _ _ _) ?_; intro wr hbr hgr; have HBr := Lib.hid hbr; have HGr := Lib.hid hgr; clear hbr hgr))
          (try simp only [Exit.inBlock, Exit.then]); refine bodyPost_ret (results_cell_row_tmp1 rfl _ _ w.heap.size 25 _ (0, 0) _ rfl HBr.out Tryd.underlying25 rfl (by kernel_rfl)) rfl ?_
          exact ⟨ParseOut.mk_good HFin.out ((HI.out.past HGr.out HLt.out).from_ (Nat.le_of_lt HLt.out)), below_block HX1.out HGr.out (Nat.le_refl _) (Nat.le_refl _)⟩
        · have HFin := Lib.hid (parse_check (n := n) hlong hp hb hc)
          obtain ⟨x, hx⟩ : ∃ x, f.check n = x := ⟨_, rfl⟩
          rw [hx] at HC HFin hc
          have hxb : (x == 0) = false := by simp; omega
          clear hp hb htk hx
          go_wp2_with (first
            | (go_at_call 17; (with_reducible refine (HPl.out _).mono ?_); rintro e w1 ⟨ho, hb⟩; obtain ⟨A, m, c, rfl, hf⟩ := PolOut.good ho HPp.out; have HX1 := Lib.hid ((below_step HX.out hb).alloc (by have := hb.size; simp at this; omega) (.cells #[.int .i64 f.org, .int .i64 f.nd, .slice A m c] 25)); have HLt := Lib.hid HB.out.lt; have HB := Lib.hid ((HB.out.through hb).alloc (.cells #[.int .i64 f.org, .int .i64 f.nd, .slice A m c] 25)); have HI := Lib.hid (hf.alloc (.cells #[.int .i64 f.org, .int .i64 f.nd, .slice A m c] 25)); have HB6 : Hid (Blk (w1.alloc (.cells #[.int .i64 f.org, .int .i64 f.nd, .slice A m c] 25)) w1.heap.size 25 [.int .i64 f.org, .int .i64 f.nd, .slice A m c]) := Lib.hid (Blk.fresh rfl rfl); clear hb ho hf)
            | (go_at_call 18; (with_reducible refine (HBare.out _).mono ?_); rintro e w5 ⟨rfl, rfl⟩)
            | (refine wpList_load_blk rfl 25 (.tmp 6) rfl w1.heap.size rfl 25 [.int .i64 f.org, .int .i64 f.nd, .slice A m c] _ HB6.out Tryd.underlying25 rfl (by kernel_rfl) ?_)
            | (go_at_call 13; (with_reducible refine (HC.out _ _ _ _ (Fm.In.any HI.out)).mono ?_); rintro e w2 ⟨rfl, hb⟩; have HX1 := Lib.hid (below_step HX1.out hb); have HB := Lib.hid (HB.out.through hb); have HI := Lib.hid (HI.out.through hb); have HB6 := Lib.hid (HB6.out.through hb); clear hb)
            | (refine wpList_store_blk rfl 25 (.tmp 4) (.tmp 33) rfl w.heap.size [.int .i64 0, .int .i64 0, .slice none 0 0] rfl rfl 25 [.int .i64 0, .int .i64 0, .slice none 0 0] HB.out (by kernel_rfl) rfl (one3 _ _ _ _ _) ?_; intro wr hbr hgr; have HBr := Lib.hid hbr; have HGr := Lib.hid hgr; clear hbr hgr))
          (try simp only [Exit.inBlock, Exit.then]); refine bodyPost_ret (results_cell_row_tmp1 rfl _ _ w.heap.size 25 _ (0, 0) _ rfl HBr.out Tryd.underlying25 rfl (by kernel_rfl)) rfl ?_
          exact ⟨ParseOut.err HFin.out, below_block HX1.out HGr.out (Nat.le_refl _) (Nat.le_refl _)⟩

end Go.Proofs.YtnpobhgecfjfgaaDoor
