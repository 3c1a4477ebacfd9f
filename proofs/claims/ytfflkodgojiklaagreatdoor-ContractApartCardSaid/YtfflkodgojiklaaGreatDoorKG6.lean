/-
  Joined: PgD1.
-/
import Derived.Test.YtfflkodgojiklaaGreatDoorKG5
namespace Go.Proofs.YtfflkodgojiklaaGreatDoor

section
open Go.RowKit
/-- What a call of the program's hands back: a ledger, in memory, with room for what it has; beside an error. -/
def LgOutC (w : World) (l : Lg) (e : Ending) (w' : World) : Prop := ∃ A n c B m d, e = .returned (l.val A n c B m d) ∧ LgIn w' A n B m l ∧ n ≤ c ∧ m ≤ d ∧ Below w.heap.size w w' ∧ (∀ a, A = some a → w.heap.size ≤ a.block) ∧ ∀ a, B = some a → w.heap.size ≤ a.block
def LgOutCE (w : World) (l : Lg) (er : Int) (e : Ending) (w' : World) : Prop := ∃ A n c B m d, e = .returned (.tuple #[l.val A n c B m d, .int .i64 er]) ∧ LgIn w' A n B m l ∧ n ≤ c ∧ m ≤ d ∧ Below w.heap.size w w' ∧ (∀ a, A = some a → w.heap.size ≤ a.block) ∧ ∀ a, B = some a → w.heap.size ≤ a.block
theorem Tryz.agg_sl (w : World) : (isAgg 22).run Tryz.prog w = .ok false w := by kernel_rfl

set_option maxHeartbeats 8000000 in
set_option maxRecDepth 100000 in
theorem find_any (l : Lg) (k : List UInt8) (A : Option Addr) (n c : Nat) (B : Option Addr) (m d : Nat) (w : World) (h : LgIn w A n B m l) (hn : n ≤ 1000000) :
    Calls Tryz.prog 37 #[l.val A n c B m d, .string (ba k)] w fun e w' => e = .returned (.tuple #[.agg (findR (findL k l.ls)).1.cells.toArray, .bool (findR (findL k l.ls)).2]) ∧ Below w.heap.size w w' := by
  have hz := Tryz.zero_lt
  have hg : ∀ W, Below w.heap.size w W → Calls Tryz.prog 54 #[.slice A n c, .string (ba k), .func (.func 55) #[] #[]] W fun e w' => e = .returned (.tuple #[.agg (findR (findL k l.ls)).1.cells.toArray, .bool (findR (findL k l.ls)).2]) ∧ Below W.heap.size W w' := fun W hW => by
    rw [← getP_find]
    exact getL_any l.ls A n c k W (h.1.through hW) hn
  obtain ⟨⟨y, bo⟩, hr⟩ : ∃ r, findR (findL k l.ls) = r := ⟨_, rfl⟩
  rw [hr] at hg ⊢
  simp only at hg ⊢
  have hg2 : ∀ W, Below w.heap.size w W → Calls Tryz.prog 54 #[.slice A n c, .string (ba k), .func (.func 55) #[] #[]] W fun e w' => e = .returned (.tuple #[.agg #[.string (ba y.nm), .int .i64 y.st, .int .i64 y.am, .int .i64 y.du, .string (ba y.po), .string (ba y.pa)], .bool bo]) ∧ Below W.heap.size W w' := hg
  have HG := Lib.hid hg2
  have HX0 : Hid (Below w.heap.size w ((w.alloc (.cells #[.int .i64 l.sq, .int .i64 l.tt, .slice A n c, .slice B m d] 25)).alloc (.cells #[.string (ba []), .int .i64 0, .int .i64 0, .int .i64 0, .string (ba []), .string (ba [])] 39))) := Lib.hid (below2 w _ _)
  have H0 : Hid (Blk ((w.alloc (.cells #[.int .i64 l.sq, .int .i64 l.tt, .slice A n c, .slice B m d] 25)).alloc (.cells #[.string (ba []), .int .i64 0, .int .i64 0, .int .i64 0, .string (ba []), .string (ba [])] 39)) (w.heap.size + 1) 39 [.string (ba []), .int .i64 0, .int .i64 0, .int .i64 0, .string (ba []), .string (ba [])]) := Lib.hid (Blk.fresh (by simp) rfl)
  clear h hr hg hg2
  unfold Lg.val
  go_enter Tryz.func37, Tryz.ntmps37
  go_wp2_with (first
    | (go_at_call 54; (with_reducible refine (HG.out _ HX0.out).mono ?_); rintro e w1 ⟨rfl, hb1⟩; have HX1 : Hid (Below w.heap.size w w1) := Lib.hid (below_step HX0.out hb1); have H4 := Lib.hid (H0.out.through hb1); clear hb1)
    | (refine wpList_store_blk rfl 39 (.tmp 4) (.tmp 10) rfl (w.heap.size + 1) [.string (ba y.nm), .int .i64 y.st, .int .i64 y.am, .int .i64 y.du, .string (ba y.po), .string (ba y.pa)] rfl rfl 39 [.string (ba []), .int .i64 0, .int .i64 0, .int .i64 0, .string (ba []), .string (ba [])] H4.out (by kernel_rfl) rfl (one6 _ _ _ _ _ _) ?_; intro wb hbb hgb; have HBb := Lib.hid hbb; have HXb : Hid (Below w.heap.size w wb) := Lib.hid (HX1.out.grown hgb HX1.out.size (fun k hk => by have := Option.some.inj hk; omega)); have HGb := Lib.hid hgb; clear hbb hgb))
  (try simp only [Exit.inBlock, Exit.then]); refine bodyPost_ret (results_cell_row_tmp1 rfl _ _ (w.heap.size + 1) 39 _ (0, 0) _ rfl HBb.out Tryz.underlying39 rfl (by kernel_rfl)) rfl ⟨rfl, HXb.out⟩

set_option maxHeartbeats 8000000 in
set_option maxRecDepth 100000 in
theorem last_any (l : Lg) (k : Int) (A : Option Addr) (n c : Nat) (B : Option Addr) (m d : Nat) (w : World) (h : LgIn w A n B m l) (hn : m ≤ 1000000) :
    Calls Tryz.prog 32 #[l.val A n c B m d, .int .i64 k] w fun e w' => e = .returned (.tuple #[.agg (lastR (lastL k l.os)).1.cells.toArray, .bool (lastR (lastL k l.os)).2]) ∧ Below w.heap.size w w' := by
  have hz := Tryz.zero_oc
  have hg : ∀ W, Below w.heap.size w W → Calls Tryz.prog 52 #[.slice B m d, .int .i64 k, .func (.func 44) #[] #[]] W fun e w' => e = .returned (.tuple #[.agg (lastR (lastL k l.os)).1.cells.toArray, .bool (lastR (lastL k l.os)).2]) ∧ Below W.heap.size W w' := fun W hW => by
    rw [← getP_last]
    exact getO_any l.os B m d k W (h.2.through hW) hn
  obtain ⟨⟨y, bo⟩, hr⟩ : ∃ r, lastR (lastL k l.os) = r := ⟨_, rfl⟩
  rw [hr] at hg ⊢
  simp only at hg ⊢
  have hg2 : ∀ W, Below w.heap.size w W → Calls Tryz.prog 52 #[.slice B m d, .int .i64 k, .func (.func 44) #[] #[]] W fun e w' => e = .returned (.tuple #[.agg #[.int .i64 y.cl, .int .i64 y.sp, .int .i64 y.rs], .bool bo]) ∧ Below W.heap.size W w' := hg
  have HG := Lib.hid hg2
  have HX0 : Hid (Below w.heap.size w ((w.alloc (.cells #[.int .i64 l.sq, .int .i64 l.tt, .slice A n c, .slice B m d] 25)).alloc (.cells #[.int .i64 0, .int .i64 0, .int .i64 0] 56))) := Lib.hid (below2 w _ _)
  have H0 : Hid (Blk ((w.alloc (.cells #[.int .i64 l.sq, .int .i64 l.tt, .slice A n c, .slice B m d] 25)).alloc (.cells #[.int .i64 0, .int .i64 0, .int .i64 0] 56)) (w.heap.size + 1) 56 [.int .i64 0, .int .i64 0, .int .i64 0]) := Lib.hid (Blk.fresh (by simp) rfl)
  clear h hr hg hg2
  unfold Lg.val
  go_enter Tryz.func32, Tryz.ntmps32
  go_wp2_with (first
    | (go_at_call 52; (with_reducible refine (HG.out _ HX0.out).mono ?_); rintro e w1 ⟨rfl, hb1⟩; have HX1 : Hid (Below w.heap.size w w1) := Lib.hid (below_step HX0.out hb1); have H4 := Lib.hid (H0.out.through hb1); clear hb1)
    | (refine wpList_store_blk rfl 56 (.tmp 4) (.tmp 10) rfl (w.heap.size + 1) [.int .i64 y.cl, .int .i64 y.sp, .int .i64 y.rs] rfl rfl 56 [.int .i64 0, .int .i64 0, .int .i64 0] H4.out (by kernel_rfl) rfl (one3i _ _ _) ?_; intro wb hbb hgb; have HBb := Lib.hid hbb; have HXb : Hid (Below w.heap.size w wb) := Lib.hid (HX1.out.grown hgb HX1.out.size (fun k hk => by have := Option.some.inj hk; omega)); have HGb := Lib.hid hgb; clear hbb hgb))
  (try simp only [Exit.inBlock, Exit.then]); refine bodyPost_ret (results_cell_row_tmp1 rfl _ _ (w.heap.size + 1) 56 _ (0, 0) _ rfl HBb.out Tryz.underlying56 rfl (by kernel_rfl)) rfl ⟨rfl, HXb.out⟩

theorem len_map_eq {α β : Type} {f : α → β} {l : List α} {a b : Nat} (h : (l.map f).length = a) (h2 : l.length = b) : b = a := by rw [← h, ← h2, List.length_map]

set_option maxHeartbeats 8000000 in
set_option maxRecDepth 100000 in
theorem with_any (l : Lg) (x : Lt) (A : Option Addr) (n c : Nat) (B : Option Addr) (m d : Nat) (w : World) (h : LgIn w A n B m l) (hn : n ≤ 1000) (hm : m ≤ 1000000) (hnc : n ≤ c) (hx : x.nm.length ≤ 140737488355328) :
    Calls Tryz.prog 41 #[l.val A n c B m d, .agg #[.string (ba x.nm), .int .i64 x.st, .int .i64 x.am, .int .i64 x.du, .string (ba x.po), .string (ba x.pa)]] w (LgOutCE w (withL l x).1 (withL l x).2) := by
  have hz := Tryz.zero_lg
  have hbn := Tryz.build_lg
  have hname : ∀ W, Calls Tryz.prog 36 #[.string (ba x.nm)] W fun e w' => e = .returned (.bool (isNm x.nm)) ∧ Below W.heap.size W w' := fun W => isname_any x.nm W hx
  have hput : ∀ W, Below w.heap.size w W → Calls Tryz.prog 64 #[.slice A n c, .agg #[.string (ba x.nm), .int .i64 x.st, .int .i64 x.am, .int .i64 x.du, .string (ba x.po), .string (ba x.pa)], .func (.func 55) #[] #[]] W (SlOut W 6 ((putL (findL x.nm l.ls).isSome x l.ls).map Lt.cells)) := fun W hW => by
    rw [← putP_lt]
    exact putL_any l.ls A n c x W (h.1.through hW) hn hnc
  have hcl : ∀ W, Below w.heap.size w W → Calls Tryz.prog 34 #[.slice B m d] W (SlOut W 3 (l.os.map Oc.cells)) := fun W hW => cloneO_any l.os B m d W (h.2.through hW) hm
  have HX0 : Hid (Below w.heap.size w (((w.alloc (.cells #[.int .i64 l.sq, .int .i64 l.tt, .slice A n c, .slice B m d] 25)).alloc (.cells #[.string (ba x.nm), .int .i64 x.st, .int .i64 x.am, .int .i64 x.du, .string (ba x.po), .string (ba x.pa)] 39)).alloc (.cells #[.int .i64 0, .int .i64 0, .slice none 0 0, .slice none 0 0] 25))) := Lib.hid (below3 w _ _ _)
  have K2 : Hid (Blk (((w.alloc (.cells #[.int .i64 l.sq, .int .i64 l.tt, .slice A n c, .slice B m d] 25)).alloc (.cells #[.string (ba x.nm), .int .i64 x.st, .int .i64 x.am, .int .i64 x.du, .string (ba x.po), .string (ba x.pa)] 39)).alloc (.cells #[.int .i64 0, .int .i64 0, .slice none 0 0, .slice none 0 0] 25)) w.heap.size 25 [.int .i64 l.sq, .int .i64 l.tt, .slice A n c, .slice B m d]) := Lib.hid (((Blk.fresh rfl rfl).alloc _).alloc _)
  have K3 : Hid (Blk (((w.alloc (.cells #[.int .i64 l.sq, .int .i64 l.tt, .slice A n c, .slice B m d] 25)).alloc (.cells #[.string (ba x.nm), .int .i64 x.st, .int .i64 x.am, .int .i64 x.du, .string (ba x.po), .string (ba x.pa)] 39)).alloc (.cells #[.int .i64 0, .int .i64 0, .slice none 0 0, .slice none 0 0] 25)) (w.heap.size + 1) 39 [.string (ba x.nm), .int .i64 x.st, .int .i64 x.am, .int .i64 x.du, .string (ba x.po), .string (ba x.pa)]) := Lib.hid ((Blk.fresh (by simp) rfl).alloc _)
  have K4 : Hid (Blk (((w.alloc (.cells #[.int .i64 l.sq, .int .i64 l.tt, .slice A n c, .slice B m d] 25)).alloc (.cells #[.string (ba x.nm), .int .i64 x.st, .int .i64 x.am, .int .i64 x.du, .string (ba x.po), .string (ba x.pa)] 39)).alloc (.cells #[.int .i64 0, .int .i64 0, .slice none 0 0, .slice none 0 0] 25)) (w.heap.size + 2) 25 [.int .i64 0, .int .i64 0, .slice none 0 0, .slice none 0 0]) := Lib.hid (Blk.fresh (by simp) rfl)
  unfold Lg.val withL
  generalize putL (findL x.nm l.ls).isSome x l.ls = r at *
  cases hi : isNm x.nm with
  | false =>
    rw [hi] at hname
    have HN := Lib.hid hname
    clear h hput hcl hname hi
    rw [if_pos rfl]
    go_enter Tryz.func41, Tryz.ntmps41
    go_wp2_with (first
      | (go_at_call 36; (with_reducible refine (HN.out _).mono ?_); rintro e w1 ⟨rfl, hb1⟩; have HX1 : Hid (Below w.heap.size w w1) := Lib.hid (below_step HX0.out hb1); have H2 := Lib.hid (K2.out.through hb1); have H3 := Lib.hid (K3.out.through hb1); have H4 := Lib.hid (K4.out.through hb1); have c22 := H2.out.cellAt (i := 2) rfl; have HZ1 : Hid (w.heap.size + 3 ≤ w1.heap.size) := Lib.hid (by have := hb1.size; simp at this; omega); clear hb1)
      | (refine wpList_store_blk rfl 25 (.tmp 4) (.tmp 11) rfl (w.heap.size + 2) [.int .i64 0, .int .i64 0, .slice none 0 0, .slice none 0 0] rfl rfl 25 [.int .i64 0, .int .i64 0, .slice none 0 0, .slice none 0 0] H4.out (by kernel_rfl) rfl (one4 _ _ _ _ _ _ _ _) ?_; intro wb hbb hgb; have HBb := Lib.hid hbb; have HXb : Hid (Below w.heap.size w wb) := Lib.hid (HX1.out.grown hgb HX1.out.size (fun k hk => by have := Option.some.inj hk; omega)); have HGb := Lib.hid hgb; clear hbb hgb))
    (try simp only [Exit.inBlock, Exit.then]); refine bodyPost_ret (results_cell_row_tmp1 rfl _ _ (w.heap.size + 2) 25 _ (0, 0) _ rfl HBb.out Tryz.underlying25 rfl (by kernel_rfl)) rfl ⟨none, 0, 0, none, 0, 0, rfl, ⟨Sl.none_, Sl.none_⟩, Nat.le_refl _, Nat.le_refl _, HXb.out, (fun _ h => nomatch h), fun _ h => nomatch h⟩
  | true =>
    rw [hi] at hname
    have HN := Lib.hid hname
    have HP := Lib.hid hput
    have HCl := Lib.hid hcl
    obtain ⟨rl, hrl⟩ : ∃ rl, r.length = rl := ⟨_, rfl⟩
    have HRl := Lib.hid hrl
    clear h hput hcl hname hi
    rw [if_neg (by simp)]
    by_cases hf : 16 < r.length
    · rw [if_pos hf]
      have hd : decide ((16 : Int) < (rl : Int)) = true := by simp; omega
      clear hf hrl
      go_enter Tryz.func41, Tryz.ntmps41
      go_wp2_with (first
        | (go_at_call 36; (with_reducible refine (HN.out _).mono ?_); rintro e w1 ⟨rfl, hb1⟩; have HX1 : Hid (Below w.heap.size w w1) := Lib.hid (below_step HX0.out hb1); have H2 := Lib.hid (K2.out.through hb1); have H3 := Lib.hid (K3.out.through hb1); have H4 := Lib.hid (K4.out.through hb1); have c22 := H2.out.cellAt (i := 2) rfl; have HZ1 : Hid (w.heap.size + 3 ≤ w1.heap.size) := Lib.hid (by have := hb1.size; simp at this; omega); clear hb1)
        | (refine wpList_load_blk rfl 39 (.tmp 3) rfl (w.heap.size + 1) rfl 39 [.string (ba x.nm), .int .i64 x.st, .int .i64 x.am, .int .i64 x.du, .string (ba x.po), .string (ba x.pa)] _ H3.out Tryz.underlying39 rfl (by kernel_rfl) ?_)
        | (go_at_call 64; (with_reducible refine (HP.out _ HX1.out).mono ?_); rintro e w5 ⟨A5, n5, c5, rfl, hs5, hc5, hb5, hf5⟩; have HZ5 := Lib.hid (fun a ha => Nat.le_trans HZ1.out (hf5 a ha)); clear hf5; have HX5 : Hid (Below w.heap.size w w5) := Lib.hid (below_step HX1.out hb5); have HZ5s : Hid (w.heap.size + 3 ≤ w5.heap.size) := Lib.hid (Nat.le_trans HZ1.out hb5.size); have I2 := Lib.hid (H2.out.through hb5); have I4 := Lib.hid (H4.out.through hb5); have i23 := I2.out.cellAt (i := 3) rfl; have hnl : rl = n5 := len_map_eq hs5.len HRl.out; subst hnl; have HS5 := Lib.hid hs5; have HC5 := Lib.hid hc5; clear hs5 hb5 hc5 c22)
        | (refine wpList_store_blk rfl 25 (.tmp 4) (.tmp 19) rfl (w.heap.size + 2) [.int .i64 0, .int .i64 0, .slice none 0 0, .slice none 0 0] rfl rfl 25 [.int .i64 0, .int .i64 0, .slice none 0 0, .slice none 0 0] I4.out (by kernel_rfl) rfl (one4 _ _ _ _ _ _ _ _) ?_; intro wb hbb hgb; have HBb := Lib.hid hbb; have HXb : Hid (Below w.heap.size w wb) := Lib.hid (HX5.out.grown hgb HX5.out.size (fun k hk => by have := Option.some.inj hk; omega)); have HGb := Lib.hid hgb; clear hbb hgb))
      (try simp only [Exit.inBlock, Exit.then]); refine bodyPost_ret (results_cell_row_tmp1 rfl _ _ (w.heap.size + 2) 25 _ (0, 0) _ rfl HBb.out Tryz.underlying25 rfl (by kernel_rfl)) rfl ⟨none, 0, 0, none, 0, 0, rfl, ⟨Sl.none_, Sl.none_⟩, Nat.le_refl _, Nat.le_refl _, HXb.out, (fun _ h => nomatch h), fun _ h => nomatch h⟩
    · rw [if_neg hf]
      have hd : decide ((16 : Int) < (rl : Int)) = false := by simp; omega
      clear hf hrl
      go_enter Tryz.func41, Tryz.ntmps41
      go_wp2_with (first
        | (go_at_call 36; (with_reducible refine (HN.out _).mono ?_); rintro e w1 ⟨rfl, hb1⟩; have HX1 : Hid (Below w.heap.size w w1) := Lib.hid (below_step HX0.out hb1); have H2 := Lib.hid (K2.out.through hb1); have H3 := Lib.hid (K3.out.through hb1); have H4 := Lib.hid (K4.out.through hb1); have c22 := H2.out.cellAt (i := 2) rfl; have HZ1 : Hid (w.heap.size + 3 ≤ w1.heap.size) := Lib.hid (by have := hb1.size; simp at this; omega); clear hb1)
        | (refine wpList_load_blk rfl 39 (.tmp 3) rfl (w.heap.size + 1) rfl 39 [.string (ba x.nm), .int .i64 x.st, .int .i64 x.am, .int .i64 x.du, .string (ba x.po), .string (ba x.pa)] _ H3.out Tryz.underlying39 rfl (by kernel_rfl) ?_)
        | (go_at_call 64; (with_reducible refine (HP.out _ HX1.out).mono ?_); rintro e w5 ⟨A5, n5, c5, rfl, hs5, hc5, hb5, hf5⟩; have HZ5 := Lib.hid (fun a ha => Nat.le_trans HZ1.out (hf5 a ha)); clear hf5; have HX5 : Hid (Below w.heap.size w w5) := Lib.hid (below_step HX1.out hb5); have HZ5s : Hid (w.heap.size + 3 ≤ w5.heap.size) := Lib.hid (Nat.le_trans HZ1.out hb5.size); have I2 := Lib.hid (H2.out.through hb5); have I4 := Lib.hid (H4.out.through hb5); have i23 := I2.out.cellAt (i := 3) rfl; have hnl : rl = n5 := len_map_eq hs5.len HRl.out; subst hnl; have HS5 := Lib.hid hs5; have HC5 := Lib.hid hc5; clear hs5 hb5 hc5 c22)
        | (go_at_call 34; (with_reducible refine (HCl.out _ HX5.out).mono ?_); rintro e w6 ⟨B6, m6, d6, rfl, hs6, hd6, hb6, hf6⟩; have HZ6 := Lib.hid (fun a ha => Nat.le_trans HZ5s.out (hf6 a ha)); clear hf6; have HX6 : Hid (Below w.heap.size w w6) := Lib.hid (below_step HX5.out hb6); have J2 := Lib.hid (I2.out.through hb6); have J4 := Lib.hid (I4.out.through hb6); have HS5b := Lib.hid (HS5.out.through hb6); have HS6 := Lib.hid hs6; have HD6 := Lib.hid hd6; clear hs6 hb6 hd6 i23)
        | (refine wpList_store_cell rfl 22 (.tmp 24) (.tmp 20) rfl w.heap.size 2 rfl (.slice A5 rl c5) rfl rfl rfl (fun w => by kernel_rfl) 25 [.int .i64 l.sq, .int .i64 l.tt, .slice A n c, .slice B m d] J2.out (by simp) ?_; intro w7 hb7 hg7; have HL7 : Hid (Blk w7 w.heap.size 25 [.int .i64 l.sq, .int .i64 l.tt, .slice A5 rl c5, .slice B m d]) := Lib.hid hb7; have HX7 : Hid (Below w.heap.size w w7) := Lib.hid (HX6.out.grown hg7 HX6.out.size (fun k hk => by have := Option.some.inj hk; omega)); have HG7 := Lib.hid hg7; clear hb7 hg7)
        | (refine wpList_store_cell rfl 23 (.tmp 25) (.tmp 23) rfl w.heap.size 3 rfl (.slice B6 m6 d6) rfl rfl rfl (fun w => by kernel_rfl) 25 [.int .i64 l.sq, .int .i64 l.tt, .slice A5 rl c5, .slice B m d] HL7.out (by simp) ?_; intro w8 hb8 hg8; have HL8 : Hid (Blk w8 w.heap.size 25 [.int .i64 l.sq, .int .i64 l.tt, .slice A5 rl c5, .slice B6 m6 d6]) := Lib.hid hb8; have J48 := Lib.hid ((J4.out.grown HG7.out (by simp)).grown hg8 (by simp)); have HX8 : Hid (Below w.heap.size w w8) := Lib.hid (HX7.out.grown hg8 HX7.out.size (fun k hk => by have := Option.some.inj hk; omega)); have HG8 := Lib.hid hg8; clear hb8 hg8)
        | (refine wpList_load_blk rfl 25 (.tmp 2) rfl w.heap.size rfl 25 [.int .i64 l.sq, .int .i64 l.tt, .slice A5 rl c5, .slice B6 m6 d6] _ HL8.out Tryz.underlying25 rfl (by kernel_rfl) ?_)
        | (refine wpList_store_blk rfl 25 (.tmp 4) (.tmp 26) rfl (w.heap.size + 2) [.int .i64 l.sq, .int .i64 l.tt, .slice A5 rl c5, .slice B6 m6 d6] rfl rfl 25 [.int .i64 0, .int .i64 0, .slice none 0 0, .slice none 0 0] J48.out (by kernel_rfl) rfl (one4 _ _ _ _ _ _ _ _) ?_; intro w9 hb9 hg9; have HB9 := Lib.hid hb9; have HX9 : Hid (Below w.heap.size w w9) := Lib.hid (HX8.out.grown hg9 HX8.out.size (fun k hk => by have := Option.some.inj hk; omega)); have HG9 := Lib.hid hg9; clear hb9 hg9))
      (try simp only [Exit.inBlock, Exit.then]); refine bodyPost_ret (results_cell_row_tmp1 rfl _ _ (w.heap.size + 2) 25 _ (0, 0) _ rfl HB9.out Tryz.underlying25 rfl (by kernel_rfl)) rfl ?_
      have f5 := HZ5.out
      have f6 := HZ6.out
      refine ⟨A5, rl, c5, B6, m6, d6, rfl, ⟨((HS5b.out.far HG7.out fun a ha => by have := f5 a ha; omega).far HG8.out fun a ha => by have := f5 a ha; omega).far HG9.out fun a ha => by have := f5 a ha; omega, ((HS6.out.far HG7.out fun a ha => by have := f6 a ha; omega).far HG8.out fun a ha => by have := f6 a ha; omega).far HG9.out fun a ha => by have := f6 a ha; omega⟩, HC5.out, HD6.out, HX9.out, (fun a ha => by have := f5 a ha; omega), fun a ha => by have := f6 a ha; omega⟩
end

end Go.Proofs.YtfflkodgojiklaaGreatDoor
